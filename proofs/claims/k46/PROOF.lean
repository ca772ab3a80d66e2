import PyProof.Rows.All
import Wide.All
import OpenK.AllK
import Wide.FinOn
import Lean
import PyProof.EqAt
import PyProof.EqKinds
import PyProof.TupleCall
import PyProof.NeData
import PyProof.SumAny
import PyProof.ReprRoads
import PyProof.CallStr
import PyProof.ReprLen
import PyProof.Rows.StrDigitsNeg
import PyProof.Rows.StrJoinMade
import PyProof.Rows.ZipGen
import PyProof.ListRange
import PyProof.TupleOfSeq
import PyProof.SetScanFacts
import PyProof.SetKind
import PyProof.Rows.SetFrom
import PyProof.SetRoads
import PyProof.Rows.SortShell
import PyProof.ListMulRoad
import PyProof.ListMulAny
import PyProof.FactsAll.tuple
import PyProof.RulesAssignMore
import PyProof.ZipIter
import PyProof.TupleIter
import PyProof.EnumFor
import PyProof.EnumMake
import PyProof.FitsBits
import KE.KDictList
import PyProof.Rows.SortShellK
import PyProof.TupleKey
import KE.KItemsList
import KE.KSortTup
import PyProof.Rows.ListMulR
import PyProof.FactsAll.list_2
import PyProof.FactsAll.list_4
import PyProof.Rows.BitMore
import PyProof.WalkInts
import PyProof.ListIndex
import PyProof.ExcArgsOwn
import PyProof.ExcAttrAll.ValueError
import PyProof.ExcBaseAll.ValueError
import PyProof.P3Eq
import PyProof.DictIter
import PyProof.MeetsDict
import PySem.Challenge.RW_farcords_k46_faces
set_option Elab.async false
set_option linter.all false
set_option maxRecDepth 100000
namespace L2
open PySem PySem.Spec PyProof.Rows
abbrev Key := Sum Int Str
def keyIs : Key → Value → Bool
  | .inl k, v => Value.isInt k v
  | .inr x, v => Value.isStrOf x v
def keyH (w : World) : Key → Int
  | .inl k => hashInt k
  | .inr x => hashStr w x
theorem keyIs_shape : ∀ {k : Key} {v : Value}, keyIs k v = true → (∃ i t, k = Sum.inl i ∧ v = Value.int i t) ∨ (∃ x t, k = Sum.inr x ∧ v = Value.str x t)
  | .inl i, v, h => by
    obtain ⟨t, e⟩ := Value.isInt_shape (k := i) (v := v) h
    exact .inl ⟨i, t, rfl, e⟩
  | .inr x, v, h => by
    obtain ⟨t, e⟩ := Value.isStrOf_shape (x := x) (v := v) h
    exact .inr ⟨x, t, rfl, e⟩
theorem keyIs_int (i : Int) (t : Tok) : keyIs (.inl i) (.int i t) = true := by simp [keyIs, Value.isInt]
theorem keyIs_str (x : Str) (t : Tok) : keyIs (.inr x) (.str x t) = true := by simp [keyIs, Value.isStrOf]
theorem key_ll (a b : Int) : decide ((Sum.inl a : Key) = Sum.inl b) = (a == b) := by
  by_cases e : a = b
  · subst e; simp
  · have h : ¬ (Sum.inl a : Key) = Sum.inl b := fun q => e (Sum.inl.inj q)
    rw [decide_eq_false h]
    exact (beq_eq_false_iff_ne.mpr e).symm
theorem key_rr (a b : Str) : decide ((Sum.inr a : Key) = Sum.inr b) = decide (a = b) := by
  by_cases e : a = b
  · subst e; simp
  · have h : ¬ (Sum.inr a : Key) = Sum.inr b := fun q => e (Sum.inr.inj q)
    rw [decide_eq_false h, decide_eq_false e]
theorem key_lr (a : Int) (b : Str) : decide ((Sum.inl a : Key) = Sum.inr b) = false := decide_eq_false (fun q => nomatch q)
theorem key_rl (a : Str) (b : Int) : decide ((Sum.inr a : Key) = Sum.inl b) = false := decide_eq_false (fun q => nomatch q)
def mixKind (prog : Program) (w : World) : PySem.KeyKind prog w Key where
  is := keyIs
  hash := keyH w
  inj := fun v a b ha hb => by
    rcases keyIs_shape ha with ⟨i, t, rfl, rfl⟩ | ⟨x, t, rfl, rfl⟩
    · rcases keyIs_shape hb with ⟨j, u, rfl, e⟩ | ⟨y, u, rfl, e⟩
      · injection e with e1 _; rw [e1]
      · exact nomatch e
    · rcases keyIs_shape hb with ⟨j, u, rfl, e⟩ | ⟨y, u, rfl, e⟩
      · exact nomatch e
      · injection e with e1 _; rw [e1]
  byValue := fun k v h => by
    rcases keyIs_shape h with ⟨i, t, rfl, rfl⟩ | ⟨x, t, rfl, rfl⟩ <;> rfl
  pyHash := fun hv h => by
    rcases keyIs_shape hv with ⟨i, t, rfl, rfl⟩ | ⟨x, t, rfl, rfl⟩
    · exact wpAny_pyHash_int h
    · exact wpAny_pyHash_str h
  eqBool := fun hu hv h => by
    rcases keyIs_shape hu with ⟨i, t, rfl, rfl⟩ | ⟨x, t, rfl, rfl⟩
    · rcases keyIs_shape hv with ⟨j, u, rfl, rfl⟩ | ⟨y, u, rfl, rfl⟩
      · rw [key_ll] at h; exact wpAny_eqBool_int h
      · rw [key_lr] at h; exact SeqAt.EqAt.int_str i t y u _ _ _ _ h
    · rcases keyIs_shape hv with ⟨j, u, rfl, rfl⟩ | ⟨y, u, rfl, rfl⟩
      · rw [key_rl] at h; exact SeqAt.EqAt.str_int x t j u _ _ _ _ h
      · rw [key_rr] at h; exact wpAny_eqBool_str h
  «strs» := fun k x t v h => by
    rcases keyIs_shape h with ⟨i, u, rfl, e⟩ | ⟨y, u, rfl, e⟩
    · exact nomatch e
    · injection e with e1 _
      subst e1
      cases v <;> rfl
theorem mixKind_int (prog : Program) (w : World) (i : Int) (t : Tok) : (mixKind prog w).is (.inl i) (.int i t) = true := keyIs_int i t
theorem mixKind_str (prog : Program) (w : World) (x : Str) (t : Tok) : (mixKind prog w).is (.inr x) (.str x t) = true := keyIs_str x t
end L2
namespace L2
open PySem PySem.Spec PyProof.Rows
inductive V where
  | non | bl (b : Bool) | int (i : Int) | str (x : Str) | byt (b : Array UInt8) | flt (b : UInt64) | ref (a : Addr) | ty (n : String)
  deriving DecidableEq
def RelV : V → Value → Prop
  | .non, u => u = Value.none
  | .bl b, u => u = Value.bool b
  | .int i, u => ∃ t, u = Value.int i t
  | .str x, u => ∃ t, u = Value.str x t
  | .byt b, u => ∃ t, u = Value.bytes b t
  | .flt b, u => ∃ t, u = Value.float b t
  | .ref a, u => u = Value.ref a
  | .ty n, u => u = Value.type n
abbrev Vals : List V → List Value → Prop := Paired RelV
theorem Vals.length {xs : List V} {us : List Value} (r : Vals xs us) : xs.length = us.length := Paired.length r
theorem Vals.get : ∀ {xs : List V} {us : List Value} {i : Nat} {x : V}, Vals xs us → xs[i]? = some x → ∃ u, us[i]? = some u ∧ RelV x u
  | _, _, _, _, .nil, e => by simp at e
  | _, _, 0, _, .cons r _, e => by simp at e; subst e; exact ⟨_, rfl, r⟩
  | _, _, i + 1, x, .cons _ t, e => by
    obtain ⟨u, h1, h2⟩ := Vals.get (i := i) (x := x) t (by simpa using e)
    exact ⟨u, by simpa using h1, h2⟩
theorem Vals.set {x : V} {u : Value} (r : RelV x u) : ∀ {xs : List V} {us : List Value} (i : Nat), Vals xs us → Vals (xs.set i x) (us.set i u)
  | _, _, _, .nil => .nil
  | _, _, 0, .cons _ t => .cons r t
  | _, _, i + 1, .cons q t => .cons q (Vals.set r i t)
theorem Vals.append : ∀ {xs ys : List V} {us ws : List Value}, Vals xs us → Vals ys ws → Vals (xs ++ ys) (us ++ ws)
  | _, _, _, _, .nil, s => s
  | _, _, _, _, .cons r t, s => .cons r (Vals.append t s)
theorem Vals.take : ∀ {xs : List V} {us : List Value} (n : Nat), Vals xs us → Vals (xs.take n) (us.take n)
  | _, _, 0, _ => .nil
  | _, _, _ + 1, .nil => .nil
  | _, _, n + 1, .cons r t => .cons r (Vals.take n t)
theorem Vals.drop : ∀ {xs : List V} {us : List Value} (n : Nat), Vals xs us → Vals (xs.drop n) (us.drop n)
  | _, _, 0, r => r
  | _, _, _ + 1, .nil => .nil
  | _, _, n + 1, .cons _ t => Vals.drop n t
def RelO : Option V → Option Value → Prop
  | some v, some u => RelV v u
  | none, none => True
  | _, _ => False
def KV {κ : Type} : List (κ × V) → List (κ × Value) → Prop := Paired fun (p : κ × V) (q : κ × Value) => p.1 = q.1 ∧ RelV p.2 q.2
def kV : Key → V
  | .inl i => .int i
  | .inr x => .str x
inductive HO where
  | lst (xs : List V)
  | tup (xs : List V)
  | dK (kvs : List (Key × V)) | dT (kvs : List (List Key × V))
  | set (S : Int → Bool) (n : Nat)
  | ins (C dx : Addr) (fs : List (Str × V))
  | own (x : Addr)
  | xd (fs : List (Str × V))
  | met (f x : Addr)
  | rng (lo hi : Int)
  | frz (o : Obj) (u : HO)
  | tbl (ps : Array Value)
  | ext (φ : Heap → Prop)
abbrev Hp := Addr → Option HO
def upd (H : Hp) (a : Addr) (o : HO) : Hp := fun b => if b = a then some o else H b
theorem upd_same {H : Hp} {a : Addr} {o : HO} : upd H a o a = some o := by unfold upd; rw [if_pos rfl]
theorem upd_ne {H : Hp} {a b : Addr} {o : HO} (h : b ≠ a) : upd H a o b = H b := by unfold upd; rw [if_neg h]
theorem ne_of {H : Hp} {a b : Addr} {o u : HO} (h : H a = some o) (h' : H b = some u) (d : o ≠ u) : a ≠ b := by
  intro e; subst e; rw [h] at h'; exact d (Option.some.inj h')
theorem ne_of_none {H : Hp} {a b : Addr} {o : HO} (h : H a = some o) (h' : H b = none) : a ≠ b := by
  intro e; subst e; rw [h] at h'; cases h'
section
variable (P : Program) (w : World)
def ObjOk (H : Hp) (h : Heap) (a : Addr) : HO → Prop
  | .lst xs => xs.length ≤ sizeLine ∧ ∃ (its : List Value) (n : Nat), Vals xs its ∧ h.get? a = some { cls := .type "list", data := .seq its.toArray n }
  | .tup xs => xs.length ≤ sizeLine ∧ ∃ its : List Value, Vals xs its ∧ IsTup h a its.toArray
  | .dK kvs => kvs.length ≤ sizeLine ∧ (a == sysModules) = false ∧ ∃ vs, KV kvs vs ∧ h.DictOf (mixKind P w) a vs
  | .dT kvs => kvs.length ≤ sizeLine ∧ (a == sysModules) = false ∧ ∃ xs : List (List Key × Addr × Value),
      Paired (fun (p : List Key × V) (q : List Key × Addr × Value) => p.1 = q.1 ∧ H q.2.1 = some (.tup (p.1.map kV)) ∧ RelV p.2 q.2.2) kvs xs ∧
      ∃ o es ep, h.get? a = some o ∧ o.ExactDict ∧ o.data = .dict es ep ∧ es.toList = xs.map (entryOfKey (tupleKind (mixKind P w))) ∧ (xs.map (·.1)).Nodup
  | .set S n => h.SetOf (intKind P w) a S n
  | .ins C dx fs => H dx = some (.own a) ∧ fs.length ≤ 1000 ∧ dx ≠ a ∧ h.get? a = some (PySem.W.instObj C dx) ∧
      ∃ mA, h.Ns1 dx mA ∧ (∀ f, RelO (fs.lookup f) (mA f)) ∧ PySem.Within mA (fs.map (·.1))
  | .own _ => ∃ o, h.get? a = some o
  | .xd fs => ∃ mA, h.Ns1 a mA ∧ ∀ f, RelO (fs.lookup f) (mA f)
  | .rng lo hi => ∃ t u v, h.get? a = some { cls := .type "range", data := .fields #[.int lo t, .int hi u, .int 1 v] }
  | .frz o u => h.get? a = some o ∧ ObjOk H h a u
  | .tbl ps => h.get? a = some { cls := .none, data := .fields ps }
  | .met f x => h.get? a = some (PySem.W.methodObj (.ref f) (.ref x))
  | .ext φ => φ h ∧ (∃ o, h.get? a = some o) ∧ ∀ h1 h2 : Heap, φ h1 → (∀ o, h1.get? a = some o → h2.get? a = some o) → φ h2
def HOk (H : Hp) (h : Heap) : Prop := ∀ a o, H a = some o → ObjOk P w H h a o
end
section
variable {P : Program} {w : World} {H H' : Hp} {h h' : Heap} {a : Addr} {o : HO}
theorem ObjOk.lt (x : ObjOk P w H h a o) : a < h.objs.size := by
  cases o with
  | lst xs => obtain ⟨_, _, _, _, e⟩ := x; exact Heap.lt_size e
  | tup xs => obtain ⟨_, _, _, p⟩ := x; exact p.lt
  | dK kvs => obtain ⟨_, _, _, _, o, _, _, e, _⟩ := x; exact Heap.lt_size e
  | dT kvs => obtain ⟨_, _, _, _, o, _, _, e, _⟩ := x; exact Heap.lt_size e
  | set S n => obtain ⟨o, _, _, _, e, _⟩ := x; exact Heap.lt_size e
  | ins C dx fs => obtain ⟨_, _, _, e, _⟩ := x; exact Heap.lt_size e
  | own y => obtain ⟨_, e⟩ := x; exact Heap.lt_size e
  | xd fs => obtain ⟨_, ⟨_, _, _, e, _⟩, _⟩ := x; exact Heap.lt_size e
  | rng lo hi => obtain ⟨_, _, _, e⟩ := x; exact Heap.lt_size e
  | frz ob u => obtain ⟨e, _⟩ := x; exact Heap.lt_size e
  | tbl ps => exact Heap.lt_size (show h.get? a = some _ from x)
  | met f y => exact Heap.lt_size (show h.get? a = some _ from x)
  | ext φ => obtain ⟨_, ⟨_, e⟩, _⟩ := x; exact Heap.lt_size e
theorem Paired.mapP {α β : Type} {F G : α → β → Prop} : ∀ {l₁ : List α} {l₂ : List β}, Paired F l₁ l₂ → (∀ a b, F a b → G a b) → Paired G l₁ l₂
  | _, _, .nil, _ => .nil
  | _, _, .cons r t, f => .cons (f _ _ r) (Paired.mapP t f)
theorem ObjOk.stay (x : ObjOk P w H h a o) (k : ∀ b u, (b = a ∨ H b = some (.own a)) → h.get? b = some u → h'.get? b = some u)
    (ho : ∀ b, H b = some (.own a) → H' b = some (.own a)) (ht : ∀ b xs, H b = some (.tup xs) → H' b = some (.tup xs)) : ObjOk P w H' h' a o := by
  induction o with
  | lst xs => obtain ⟨z, its, n, r, e⟩ := x; exact ⟨z, its, n, r, k _ _ (.inl rfl) e⟩
  | tup xs => obtain ⟨z, its, r, ob, e, c⟩ := x; exact ⟨z, its, r, ob, k _ _ (.inl rfl) e, c⟩
  | dK kvs => obtain ⟨z, y, vs, r, ob, es, ep, e, c⟩ := x; exact ⟨z, y, vs, r, ob, es, ep, k _ _ (.inl rfl) e, c⟩
  | dT kvs =>
    obtain ⟨z, y, xs, r, ob, es, ep, e, c⟩ := x
    exact ⟨z, y, xs, Paired.mapP r fun p q z => ⟨z.1, ht _ _ z.2.1, z.2.2⟩, ob, es, ep, k _ _ (.inl rfl) e, c⟩
  | set S n => obtain ⟨ob, es, ep, t, e, c⟩ := x; exact ⟨ob, es, ep, t, k _ _ (.inl rfl) e, c⟩
  | ins C dx fs =>
    obtain ⟨d, z, ne, e, mA, ⟨od, es, ep, e2, c⟩, r⟩ := x
    exact ⟨ho _ d, z, ne, k _ _ (.inl rfl) e, mA, ⟨od, es, ep, k _ _ (.inr d) e2, c⟩, r⟩
  | own y => obtain ⟨ob, e⟩ := x; exact ⟨ob, k _ _ (.inl rfl) e⟩
  | xd fs => obtain ⟨mA, ⟨od, es, ep, e, c⟩, r⟩ := x; exact ⟨mA, ⟨od, es, ep, k _ _ (.inl rfl) e, c⟩, r⟩
  | rng lo hi => obtain ⟨t, u, v, e⟩ := x; exact ⟨t, u, v, k _ _ (.inl rfl) e⟩
  | frz ob u ih => obtain ⟨e, q⟩ := x; exact ⟨k _ _ (.inl rfl) e, ih q⟩
  | tbl ps =>
    have e : h.get? a = some { cls := .none, data := .fields ps } := x
    show h'.get? a = some { cls := .none, data := .fields ps }
    exact k a _ (.inl rfl) e
  | met f y =>
    have e : h.get? a = some (PySem.W.methodObj (.ref f) (.ref y)) := x
    show h'.get? a = some (PySem.W.methodObj (.ref f) (.ref y))
    exact k a _ (.inl rfl) e
  | ext φ => obtain ⟨p, ⟨o, e⟩, st⟩ := x; exact ⟨st _ _ p fun o q => k _ _ (.inl rfl) q, ⟨o, k _ _ (.inl rfl) e⟩, st⟩
theorem HOk.lt (x : HOk P w H h) (e : H a = some o) : a < h.objs.size := (x a o e).lt
theorem HOk.fresh (x : HOk P w H h) (e : h.objs.size ≤ a) : H a = none := by
  cases q : H a with
  | none => rfl
  | some u => exact absurd (Nat.lt_of_lt_of_le (x.lt q) e) (Nat.lt_irrefl _)
theorem HOk.kept (x : HOk P w H h) (k : ∀ b u, h.get? b = some u → h'.get? b = some u) : HOk P w H h' := fun a o e =>
  (x a o e).stay (fun b u _ q => k b u q) (fun _ q => q) fun _ _ q => q
theorem HOk.laid (x : HOk P w H h) (k : ∀ b u, h.get? b = some u → h'.get? b = some u) (hp : h.objs.size ≤ a) (new : ObjOk P w (upd H a o) h' a o) : HOk P w (upd H a o) h' := fun b u e => by
  have hn := x.fresh hp
  by_cases hb : b = a
  · subst hb; rw [upd_same] at e; cases e; exact new
  · rw [upd_ne hb] at e
    exact (x b u e).stay (fun c v _ q => k c v q) (fun c q => by rw [upd_ne (ne_of_none q hn)]; exact q) fun c xs q => by rw [upd_ne (ne_of_none q hn)]; exact q
end
def Rd (H : Hp) (a : Addr) (u : HO) : Prop := H a = some u ∨ ∃ o, H a = some (.frz o u)
theorem Rd.ok {P : Program} {w : World} {H : Hp} {h : Heap} {a : Addr} {u : HO} (r : Rd H a u) (x : HOk P w H h) : ObjOk P w H h a u := by
  rcases r with r | ⟨o, r⟩
  · exact x a u r
  · obtain ⟨_, q⟩ := x a _ r
    exact q
def Mut : Option HO → Prop
  | some (.lst _) => True
  | some (.dK _) => True
  | some (.dT _) => True
  | some (.set _ _) => True
  | some (.ins _ _ _) => True
  | some (.ext _) => True
  | _ => False
section
variable {P : Program} {w : World} {H : Hp} {h h' : Heap} {x e : Addr} {o' : HO}
theorem HOk.write (ok : HOk P w H h) (mu : Mut (H x)) (he : e = x ∨ H e = some (.own x)) (k : ∀ b u, b ≠ e → h.get? b = some u → h'.get? b = some u) (heo : ∃ u, h'.get? e = some u)
    (new : ObjOk P w (upd H x o') h' x o') : HOk P w (upd H x o') h' := fun b u q => by
  have nown : ∀ c y, H c = some (.own y) → c ≠ x := fun c y r z => by subst z; rw [r] at mu; exact mu
  have ntup : ∀ c xs, H c = some (.tup xs) → c ≠ x := fun c xs r z => by subst z; rw [r] at mu; exact mu
  by_cases hb : b = x
  · subst hb; rw [upd_same] at q; cases q; exact new
  · rw [upd_ne hb] at q
    by_cases hbe : b = e
    · have q' : H b = some (.own x) := by
        rcases he with z | z
        · exact absurd (hbe.trans z) hb
        · rw [hbe]; exact z
      rw [q] at q'; cases q'
      obtain ⟨v, hv⟩ := heo
      exact ⟨v, by rw [hbe]; exact hv⟩
    · refine (ok b u q).stay (fun c v hc r => k c v ?_ r) (fun c r => by rw [upd_ne (nown c b r)]; exact r) fun c xs r => by rw [upd_ne (ntup c xs r)]; exact r
      rcases hc with rfl | hc
      · exact hbe
      · rintro rfl
        rcases he with z | z
        · exact nown c b hc z
        · rw [hc] at z; cases z; exact hb rfl
end
structure Un (fs ex : List Addr) (H H' : Hp) (h h' : Heap) : Prop where
  keep : ∀ b o, h.get? b = some o → H b = none → b ∉ fs → b ∉ ex → h'.get? b = some o
  slot : ∀ b o, h.get? b = some o → H b = none → b ∈ fs → b ∉ ex → ∃ sl, h'.get? b = some { o with slots := sl }
  free : ∀ b o, h.get? b = some o → H b = none → b ∉ ex → H' b = none
  there : ∀ b o, h.get? b = some o → b ∉ ex → ∃ o', h'.get? b = some o'
  tups : ∀ b xs, H b = some (.tup xs) → H' b = some (.tup xs)
  frzs : ∀ b o u, H b = some (.frz o u) → H' b = some (.frz o u)
  tbls : ∀ b ps, H b = some (.tbl ps) → ∃ more, H' b = some (.tbl (ps ++ more))
section
variable {fs fs' ex ex' : List Addr} {H H1 H2 : Hp} {h h1 h2 h' : Heap} {a x e : Addr} {o : HO}
theorem Un.any (u : Un fs ex H H1 h h1) {b : Addr} {ob : Obj} (q : h.get? b = some ob) (n : H b = none) (hx : b ∉ ex) : ∃ sl, h1.get? b = some { ob with slots := sl } := by
  by_cases hb : b ∈ fs
  · exact u.slot b ob q n hb hx
  · exact ⟨ob.slots, u.keep b ob q n hb hx⟩
theorem Un.kept (k : ∀ b u, h.get? b = some u → h'.get? b = some u) : Un fs ex H H h h' :=
  ⟨fun b ob q _ _ _ => k b ob q, fun b ob q _ _ _ => ⟨ob.slots, k b ob q⟩, fun _ _ _ n _ => n, fun b ob q _ => ⟨ob, k b ob q⟩, fun _ _ q => q, fun _ _ _ q => q, fun _ ps q => ⟨#[], by rw [q]; simp⟩⟩
theorem Un.refl : Un fs ex H H h h := Un.kept fun _ _ q => q
theorem Un.laid (k : ∀ b u, h.get? b = some u → h'.get? b = some u) (hp : h.objs.size ≤ a) (hn : H a = none) : Un fs ex H (upd H a o) h h' where
  keep := fun b u q _ _ _ => k b u q
  slot := fun b u q _ _ _ => ⟨u.slots, k b u q⟩
  free := fun b u q n _ => by rw [upd_ne (Nat.ne_of_lt (Nat.lt_of_lt_of_le (Heap.lt_size q) hp))]; exact n
  there := fun b u q _ => ⟨u, k b u q⟩
  tups := fun b xs q => by rw [upd_ne (ne_of_none q hn)]; exact q
  frzs := fun b u xs q => by rw [upd_ne (ne_of_none q hn)]; exact q
  tbls := fun b ps q => ⟨#[], by rw [upd_ne (ne_of_none q hn), q]; simp⟩
theorem Un.write (mu : Mut (H x)) (he : e = x ∨ H e = some (.own x)) (k : ∀ b u, b ≠ e → h.get? b = some u → h'.get? b = some u) (heo : ∃ u, h'.get? e = some u) : Un fs ex H (upd H x o) h h' := by
  have hx : ∀ b, H b = none → b ≠ x := fun b n z => by subst z; rw [n] at mu; exact mu
  have hb : ∀ b, H b = none → b ≠ e := fun b n z => by
    subst z
    rcases he with r | r
    · exact hx b n r
    · rw [n] at r; cases r
  have hm : ∀ b u, H b = some u → ¬ Mut (some u) → b ≠ x := fun b u q nm z => by subst z; rw [q] at mu; exact nm mu
  refine ⟨fun b u q n _ _ => k b u (hb b n) q, fun b u q n _ _ => ⟨u.slots, k b u (hb b n) q⟩, fun b u q n _ => by rw [upd_ne (hx b n)]; exact n, fun b u q _ => ?_,
    fun b xs q => by rw [upd_ne (hm b _ q fun z => z)]; exact q, fun b u xs q => by rw [upd_ne (hm b _ q fun z => z)]; exact q, fun b ps q => ⟨#[], by rw [upd_ne (hm b _ q fun z => z), q]; simp⟩⟩
  by_cases hbe : b = e
  · subst hbe; exact heo
  · exact ⟨u, k b u hbe q⟩
end
def trk (h : Heap) (H : Hp) : List Addr := (List.range h.objs.size).filter fun a => (H a).isSome
def hidT (h : Heap) (H : Hp) : Heap := PySem.W.hideAll h (trk h H)
theorem hidT_size (h : Heap) (H : Hp) : (hidT h H).objs.size = h.objs.size := PySem.W.hideAll_size _ _
theorem hidT_get {h : Heap} {H : Hp} {b : Addr} {o : Obj} (e : h.get? b = some o) (n : H b = none) : (hidT h H).get? b = some o :=
  PySem.W.hideAll_get _ e fun hm => by
    have q : (H b).isSome = true := (List.mem_filter.mp hm).2
    rw [n] at q; simp at q
theorem of_hidT {h : Heap} {H : Hp} {b : Addr} {o : Obj} (e : (hidT h H).get? b = some o) : h.get? b = some o ∧ H b = none := by
  have e' : h.get? b = some o := PySem.W.of_hideAll (trk h H) e
  refine ⟨e', ?_⟩
  cases q : H b with
  | none => rfl
  | some x =>
    have hm : b ∈ trk h H := List.mem_filter.mpr ⟨List.mem_range.mpr (Heap.lt_size e'), by simp [q]⟩
    have z : (hidT h H).get? b = none := PySem.W.hideAll_none (trk h H) hm
    rw [z] at e; cases e
def allNews (g h : Heap) (L : Addr) : List (Addr × Obj) := (List.range h.objs.size).filterMap fun a => if a = L ∨ (g.get? a).isSome = true then none else (h.get? a).map fun o => (a, o)
def rest (g h : Heap) (L d : Addr) : List (Addr × Obj) := (allNews g h L).filter fun p => decide (p.1 ≠ d)
end L2
namespace L2
open PySem PySem.Spec PyProof.Rows
structure Mod (K : PySem.W.Frag) (mg : Str → Option Value) (base : Heap) : Prop where
  kin : K.In base
  glob : base.Ns mainGlobals mg
  blt : ∃ mb, base.Ns builtinsNs mb ∧ ∀ x : Str, x ≠ "__name__" → mb x = bootBuiltins x
  nolimit : base.NoLimit
structure Cx where
  prog : Program
  w : World
  K : PySem.W.Frag
  mg : Str → Option Value
  base : Heap
  A : Around
  N : List Str
  s₀ : Shared
  H₀ : Hp
  env : Env
  outer : List Env
  stack : List Env
  ex : List Addr
  fn : Str → Bool
  calm : Bool
  pn : List (Addr × Obj)
  xe : Value → Shared → Prop
def frs (l : List Env) : List Addr := l.filterMap (·.frame)
abbrev Cx.fs (X : Cx) : List Addr := frs X.outer
def Vis (sc : Scope) (x : Str) : Prop := sc.names.lookup x = some .local ∨ sc.names.lookup x = some .cell ∨ sc.names.lookup x = some .free
def Loc (sc : Scope) (x : Str) : Prop := sc.names.lookup x = some .local ∨ sc.names.lookup x = some .cell
def Look (env : Env) (h : Heap) (m : Str → Option Value) (x : Str) (u : Value) : Prop :=
  (env.kindOf x = some .local ∧ m x = some u) ∨ ((env.kindOf x = some .cell ∨ env.kindOf x = some .free) ∧ ∃ c, env.cells.lookup x = some c ∧ h.IsCell c (some u))
structure Cx.Ok (X : Cx) : Prop where
  mod : Mod X.K X.mg X.base
  kind : X.env.scope.kind = .function
  glob : X.env.globals = mainGlobals
  blt : X.env.builtins = builtinsNs
  above : X.s₀.heap.objs.size ≤ X.env.locals
  inj : ∀ x y c, X.env.cells.lookup x = some c → X.env.cells.lookup y = some c → x = y
  has : ∀ x, (X.env.kindOf x = some .cell ∨ X.env.kindOf x = some .free) → ∃ c, X.env.cells.lookup x = some c
  cab : ∀ x c, X.fn x = true → X.env.cells.lookup x = some c → X.s₀.heap.objs.size ≤ c
  hd : X.calm = true → X.A.handled = none
  frames : X.A.frames = some X.stack
  stk : X.stack = X.outer ∨ (X.stack = X.env :: X.outer ∧ X.env.frame = some X.env.locals)
  exf : ∀ b ∈ X.ex, b ≠ X.env.locals ∧ ∀ x c, X.env.cells.lookup x = some c → c ≠ b
  bs : ∀ b o, X.base.get? b = some o → X.s₀.heap.get? b = some o ∧ X.H₀ b = none
  bsz : X.base.objs.size ≤ X.s₀.heap.objs.size
  noex : ∀ b o, X.base.get? b = some o → b ∉ X.ex
  exfs : ∀ b ∈ X.ex, b ∉ X.fs
  funs : X.s₀.heap.FunFrames X.base X.outer
  frf : ∀ b ∈ X.fs, X.H₀ b = none
structure Inv (X : Cx) (pins : List (Addr × Obj)) (σ : List (Option V)) (H : Hp) (s : Shared) : Prop where
  ok : X.Ok
  os : s.os = X.s₀.os
  bare : AllBare s.gens
  base : Un X.fs X.ex X.H₀ H X.s₀.heap s.heap
  loc : ∃ m, s.heap.Ns X.env.locals m ∧ ∀ (i : Nat) (x : Str) (v : V), X.N[i]? = some x → σ[i]? = some (some v) → Vis X.env.scope x → ∃ u, RelV v u ∧ Look X.env s.heap m x u
  cell : ∀ x c, X.env.cells.lookup x = some c → ∃ v, s.heap.IsCell c v
  free : H X.env.locals = none
  freeC : ∀ x c, X.env.cells.lookup x = some c → H c = none
  pin : ∀ p ∈ X.pn ++ pins, s.heap.get? p.1 = some p.2 ∧ H p.1 = none ∧ p.1 ≠ X.env.locals ∧ p.1 ∉ X.fs ∧ ∀ v, p.2.data ≠ .cell v
  hok : HOk X.prog X.w H s.heap
  len : σ.length = X.N.length
section
variable {X : Cx} {pins : List (Addr × Obj)} {σ : List (Option V)} {H H' : Hp} {s : Shared} {h' : Heap}
theorem Cx.Ok.nofr (ok : X.Ok) {b : Addr} {o : Obj} (e : X.base.get? b = some o) : b ∉ X.fs := fun hb => by
  have := (ok.funs.mem hb).1
  rw [e] at this; cases this
theorem Inv.bs (I : Inv X pins σ H s) : ∀ b o, X.base.get? b = some o → s.heap.get? b = some o ∧ H b = none := fun b o e =>
  ⟨I.base.keep b o (I.ok.bs b o e).1 (I.ok.bs b o e).2 (I.ok.nofr e) (I.ok.noex b o e), I.base.free b o (I.ok.bs b o e).1 (I.ok.bs b o e).2 (I.ok.noex b o e)⟩
theorem Inv.bk (I : Inv X pins σ H s) : ∀ b o, X.base.get? b = some o → s.heap.get? b = some o := fun b o e => (I.bs b o e).1
theorem Inv.mod (I : Inv X pins σ H s) : Mod X.K X.mg X.base := I.ok.mod
theorem Inv.kIn (I : Inv X pins σ H s) : X.K.In s.heap := I.ok.mod.kin.keeps I.bk
theorem Inv.lt (I : Inv X pins σ H s) : X.env.locals < s.heap.objs.size := let ⟨_, hn, _⟩ := I.loc; hn.lt
theorem Inv.sz (I : Inv X pins σ H s) : X.s₀.heap.objs.size ≤ s.heap.objs.size := Nat.le_trans I.ok.above (Nat.le_of_lt I.lt)
theorem Inv.nofs (I : Inv X pins σ H s) {a : Addr} (h : s.heap.objs.size ≤ a) : a ∉ X.fs := fun hb => by
  obtain ⟨_, o, ho, _⟩ := I.ok.funs.mem hb
  exact absurd (Nat.lt_of_lt_of_le (Heap.lt_size ho) (Nat.le_trans I.sz h)) (Nat.lt_irrefl _)
theorem Inv.cne (I : Inv X pins σ H s) : ∀ x c, X.env.cells.lookup x = some c → c ≠ X.env.locals := fun x c e z => by
  obtain ⟨v, o, ho, hd⟩ := I.cell x c e
  obtain ⟨m, ⟨o', es, ep, ho', hd', _⟩, _⟩ := I.loc
  rw [z, ho'] at ho; cases ho; rw [hd'] at hd; cases hd
theorem Inv.funs (I : Inv X pins σ H s) : s.heap.FunFrames X.base X.outer := by
  have all : ∀ (l : List Env), (∀ b ∈ frs l, b ∈ X.fs) → X.s₀.heap.FunFrames X.base l → s.heap.FunFrames X.base l := by
    intro l
    induction l with
    | nil => intro _ _; trivial
    | cons env r ih =>
      intro hs hl
      obtain ⟨hk, ⟨L, o, hf, hn, ho, hd⟩, hr⟩ := hl
      have hL : L ∈ X.fs := hs L (by unfold frs; rw [List.filterMap_cons, hf]; exact List.mem_cons_self)
      obtain ⟨sl, e⟩ := I.base.slot L o ho (I.ok.frf L hL) hL fun z => I.ok.exfs L z hL
      exact ⟨hk, ⟨L, _, hf, hn, e, hd⟩, ih (fun b hb => hs b (by unfold frs; rw [List.filterMap_cons, hf]; exact List.mem_cons_of_mem _ hb)) hr⟩
  exact all X.outer (fun _ hb => hb) I.ok.funs
theorem Inv.stack (I : Inv X pins σ H s) : s.heap.FunFrames X.base X.stack := by
  rcases I.ok.stk with e | ⟨e, hf⟩
  · rw [e]; exact I.funs
  · rw [e]
    obtain ⟨m, hn, _⟩ := I.loc
    refine .cons (by rw [I.ok.kind]; decide) hf hn ?_ I.funs
    exact Heap.get?_none_of_le (Nat.le_trans I.ok.bsz I.ok.above)
theorem Inv.stkSub (I : Inv X pins σ H s) : ∀ b ∈ frs X.stack, b ∈ X.env.locals :: X.fs := fun b hb => by
  rcases I.ok.stk with e | ⟨e, hf⟩
  · rw [e] at hb; exact List.mem_cons_of_mem _ hb
  · rw [e] at hb
    unfold frs at hb
    rw [List.filterMap_cons, hf] at hb
    exact hb
theorem Inv.stkFree (I : Inv X pins σ H s) : ∀ b ∈ frs X.stack, H b = none := fun b hb => by
  rcases List.mem_cons.mp (I.stkSub b hb) with e | hb
  · rw [e]; exact I.free
  · obtain ⟨_, o, ho, _⟩ := I.ok.funs.mem hb
    exact I.base.free b o ho (I.ok.frf b hb) fun z => I.ok.exfs b z hb
theorem Inv.step {g' : Array GenState} {t' : Nat} {d' : Drawn} {ch : List Addr} (I : Inv X pins σ H s)
    (hch : ∀ b ∈ ch, (b ∈ X.ex ∨ X.s₀.heap.objs.size ≤ b) ∧ b ≠ X.env.locals ∧ (∀ x c, X.env.cells.lookup x = some c → c ≠ b) ∧ ∀ p ∈ X.pn ++ pins, p.1 ≠ b)
    (keep : ∀ b o, b ≠ X.env.locals → b ∉ X.fs → b ∉ ch → s.heap.get? b = some o → H b = none → h'.get? b = some o)
    (slot : ∀ b o, b ≠ X.env.locals → b ∈ X.fs → b ∉ ch → s.heap.get? b = some o → H b = none → ∃ sl, h'.get? b = some { o with slots := sl }) (free : ∀ b o, b ∉ ch → s.heap.get? b = some o → H b = none → H' b = none)
    (there : ∀ b o, b ∉ ch → s.heap.get? b = some o → ∃ o', h'.get? b = some o')
    (tups : ∀ b xs, H b = some (.tup xs) → H' b = some (.tup xs)) (frzs : ∀ b o u, H b = some (.frz o u) → H' b = some (.frz o u)) (tbls : ∀ b ps, H b = some (.tbl ps) → ∃ more, H' b = some (.tbl (ps ++ more)))
    (ns : ∀ m, s.heap.Ns X.env.locals m → h'.Ns X.env.locals m) (hok : HOk X.prog X.w H' h') (hg : AllBare g') :
    Inv X pins σ H' { s with heap := h', gens := g', drawn := d', toks := t' } := by
  have neL : ∀ b o, X.s₀.heap.get? b = some o → b ≠ X.env.locals := fun b o e => Nat.ne_of_lt (Nat.lt_of_lt_of_le (Heap.lt_size e) I.ok.above)
  have neC : ∀ b o, X.s₀.heap.get? b = some o → b ∉ X.ex → b ∉ ch := fun b o e hx hb => by
    rcases (hch b hb).1 with z | z
    · exact hx z
    · exact absurd (Nat.lt_of_lt_of_le (Heap.lt_size e) z) (Nat.lt_irrefl _)
  have cellK : ∀ x c, X.env.cells.lookup x = some c → ∀ v, s.heap.IsCell c v → h'.IsCell c v := fun x c e v ⟨o, ho, hd⟩ => by
    have nch : c ∉ ch := fun z => (hch c z).2.2.1 x c e rfl
    by_cases hc : c ∈ X.fs
    · obtain ⟨sl, q⟩ := slot c o (I.cne x c e) hc nch ho (I.freeC x c e)
      exact ⟨_, q, hd⟩
    · exact ⟨o, keep c o (I.cne x c e) hc nch ho (I.freeC x c e), hd⟩
  refine ⟨I.ok, I.os, hg, ⟨fun b o e n hb hx => ?_, fun b o e n hb hx => ?_, fun b o e n hx => ?_, fun b o e hx => ?_, fun b xs e => tups b xs (I.base.tups b xs e), fun b o xs e => frzs b o xs (I.base.frzs b o xs e), fun b ps e => ?_⟩, ?_, fun x c e => ?_, ?_, fun x c e => ?_, fun p hp => ?_, hok, I.len⟩
  · exact keep b o (neL b o e) hb (neC b o e hx) (I.base.keep b o e n hb hx) (I.base.free b o e n hx)
  · obtain ⟨sl, e1⟩ := I.base.slot b o e n hb hx
    obtain ⟨sl', e2⟩ := slot b _ (neL b o e) hb (neC b o e hx) e1 (I.base.free b o e n hx)
    exact ⟨sl', e2⟩
  · obtain ⟨o', e1⟩ := I.base.there b o e hx
    exact free b o' (neC b o e hx) e1 (I.base.free b o e n hx)
  · obtain ⟨o', e1⟩ := I.base.there b o e hx
    exact there b o' (neC b o e hx) e1
  · obtain ⟨m1, e1⟩ := I.base.tbls b ps e
    obtain ⟨m2, e2⟩ := tbls b _ e1
    exact ⟨m1 ++ m2, by rw [e2, Array.append_assoc]⟩
  · obtain ⟨m, hn, hl⟩ := I.loc
    refine ⟨m, ns m hn, fun i x v e1 e2 e3 => ?_⟩
    obtain ⟨u, r, l⟩ := hl i x v e1 e2 e3
    refine ⟨u, r, ?_⟩
    rcases l with l | ⟨k, c, e, z⟩
    · exact .inl l
    · exact .inr ⟨k, c, e, cellK x c e _ z⟩
  · obtain ⟨v, z⟩ := I.cell x c e
    exact ⟨v, cellK x c e v z⟩
  · obtain ⟨m, ⟨o, _, _, ho, _⟩, _⟩ := I.loc
    exact free _ o (fun z => (hch _ z).2.1 rfl) ho I.free
  · obtain ⟨v, o, ho, hd⟩ := I.cell x c e
    exact free c o (fun z => (hch c z).2.2.1 x c e rfl) ho (I.freeC x c e)
  · obtain ⟨e, n, ne, nf, d⟩ := I.pin p hp
    have nch : p.1 ∉ ch := fun z => (hch p.1 z).2.2.2 p hp rfl
    exact ⟨keep p.1 p.2 ne nf nch e n, free p.1 p.2 nch e n, ne, nf, d⟩
theorem Inv.un {t' : Nat} (I : Inv X pins σ H s) (u : Un X.fs [] H H' s.heap h') (hok : HOk X.prog X.w H' h') : Inv X pins σ H' { s with heap := h', toks := t' } := by
  obtain ⟨m, ⟨o, es, ep, ho, r⟩, _⟩ := id I.loc
  obtain ⟨sl, hL⟩ := u.any ho I.free (by simp)
  exact I.step (g' := s.gens) (d' := s.drawn) (ch := []) (fun _ z => nomatch z) (fun b o _ hb _ e n => u.keep b o e n hb (by simp)) (fun b o _ hb _ e n => u.slot b o e n hb (by simp)) (fun b o _ e n => u.free b o e n (by simp)) (fun b o _ e => u.there b o e (by simp)) u.tups u.frzs u.tbls (fun m' hm => by
    obtain ⟨o', es', ep', ho', r'⟩ := hm
    rw [ho] at ho'; cases ho'
    exact ⟨_, es', ep', hL, r'⟩) hok I.bare
theorem Inv.call {g' : Array GenState} {t' : Nat} {d' : Drawn} {ch : List Addr} (I : Inv X pins σ H s) (u : Un (frs X.stack) ch H H' s.heap h') (hok : HOk X.prog X.w H' h') (hg : AllBare g')
    (hch : ∀ b ∈ ch, (b ∈ X.ex ∨ X.s₀.heap.objs.size ≤ b) ∧ b ≠ X.env.locals ∧ (∀ x c, X.env.cells.lookup x = some c → c ≠ b) ∧ ∀ p ∈ X.pn ++ pins, p.1 ≠ b) :
    Inv X pins σ H' { s with heap := h', gens := g', drawn := d', toks := t' } := by
  obtain ⟨m, ⟨o, es, ep, ho, r⟩, _⟩ := id I.loc
  obtain ⟨sl, hL⟩ := u.any ho I.free fun z => (hch _ z).2.1 rfl
  exact I.step (ch := ch) hch (fun b o hL hb hc e n => u.keep b o e n (fun z => (List.mem_cons.mp (I.stkSub b z)).elim hL hb) hc) (fun b o _ _ hc e n => u.any e n hc) (fun b o hc e n => u.free b o e n hc) (fun b o hc e => u.there b o e hc) u.tups u.frzs u.tbls (fun m' hm => by
    obtain ⟨o', es', ep', ho', r'⟩ := hm
    rw [ho] at ho'; cases ho'
    exact ⟨_, es', ep', hL, r'⟩) hok hg
theorem Inv.turned {t' : Nat} {it : Addr} (I : Inv X pins σ H s) (k : ∀ b o, b ≠ it → s.heap.get? b = some o → h'.get? b = some o) (hn : H it = none) (hL : it ≠ X.env.locals)
    (h1 : it ∈ X.ex ∨ X.s₀.heap.objs.size ≤ it) (h2 : ∀ x c, X.env.cells.lookup x = some c → c ≠ it) (h3 : ∀ p ∈ X.pn ++ pins, p.1 ≠ it) : Inv X pins σ H { s with heap := h', toks := t' } := by
  have nit : ∀ b u, H b = some u → b ≠ it := fun b u e z => by rw [z, hn] at e; cases e
  refine I.step (g' := s.gens) (d' := s.drawn) (ch := [it]) (fun b hb => ?_) (fun b o _ _ hc e _ => k b o (fun z => hc (by simp [z])) e) (fun b o _ _ hc e _ => ⟨o.slots, k b o (fun z => hc (by simp [z])) e⟩) (fun _ _ _ _ n => n)
    (fun b o hc e => ⟨o, k b o (fun z => hc (by simp [z])) e⟩) (fun _ _ e => e) (fun _ _ _ e => e) (fun b ps e => ⟨#[], by rw [e]; simp⟩) (fun m hm => ?_) (fun b u e => ?_) I.bare
  · have e : b = it := by simpa using hb
    subst e
    exact ⟨h1, hL, h2, h3⟩
  · obtain ⟨o, es, ep, ho, r⟩ := hm
    exact ⟨o, es, ep, k _ o (Ne.symm hL) ho, r⟩
  · refine (I.hok b u e).stay (fun c v hc q => k c v ?_ q) (fun _ q => q) fun _ _ q => q
    rcases hc with z | z
    · rw [z]; exact nit b u e
    · exact nit c _ z
theorem Inv.tok (I : Inv X pins σ H s) (t : Nat) : Inv X pins σ H { s with toks := t } := I.un (h' := s.heap) (t' := t) Un.refl I.hok
theorem Inv.kept {t' : Nat} (I : Inv X pins σ H s) (k : ∀ b u, s.heap.get? b = some u → h'.get? b = some u) : Inv X pins σ H { s with heap := h', toks := t' } := I.un (Un.kept k) (I.hok.kept k)
theorem Inv.laid {a : Addr} {o : HO} {t' : Nat} (I : Inv X pins σ H s) (k : ∀ b u, s.heap.get? b = some u → h'.get? b = some u) (hp : s.heap.objs.size ≤ a) (new : ObjOk X.prog X.w (upd H a o) h' a o) :
    Inv X pins σ (upd H a o) { s with heap := h', toks := t' } := I.un (Un.laid k hp (I.hok.fresh hp)) (I.hok.laid k hp new)
theorem Inv.write {x e : Addr} {o : HO} {t' : Nat} (I : Inv X pins σ H s) (mu : Mut (H x)) (he : e = x ∨ H e = some (.own x)) (k : ∀ b u, b ≠ e → s.heap.get? b = some u → h'.get? b = some u) (heo : ∃ u, h'.get? e = some u)
    (new : ObjOk X.prog X.w (upd H x o) h' x o) : Inv X pins σ (upd H x o) { s with heap := h', toks := t' } := I.un (Un.write mu he k heo) (I.hok.write mu he k heo new)
theorem Inv.pins_of {pins' : List (Addr × Obj)} (I : Inv X pins σ H s) (h : ∀ p ∈ pins', s.heap.get? p.1 = some p.2 ∧ H p.1 = none ∧ p.1 ≠ X.env.locals ∧ p.1 ∉ X.fs ∧ ∀ v, p.2.data ≠ .cell v) : Inv X pins' σ H s :=
  ⟨I.ok, I.os, I.bare, I.base, I.loc, I.cell, I.free, I.freeC, fun p hp => (List.mem_append.mp hp).elim (fun z => I.pin p (List.mem_append_left _ z)) (h p), I.hok, I.len⟩
theorem nodup_ix {N : List Str} (hN : N.Nodup) {i j : Nat} {x : Str} (a : N[i]? = some x) (b : N[j]? = some x) : i = j := by
  obtain ⟨h1, e1⟩ := List.getElem?_eq_some_iff.mp a
  obtain ⟨h2, e2⟩ := List.getElem?_eq_some_iff.mp b
  exact (List.getElem_inj hN).mp (e1.trans e2.symm)
theorem store_ok2 {M : Model} {A : Around} {E : Value → Shared → Prop} {i : Nat} {x : Str} {v : V} {u : Value} {Q : Unit → Shared → Prop} (I : Inv X pins σ H s) (hN : X.N.Nodup) (hi : X.N[i]? = some x) (hx : Loc X.env.scope x) (r : RelV v u)
    (h : ∀ s', Inv X pins (σ.set i (some v)) H s' → (∃ a, Heap.SameBut a s.heap s'.heap ∧ (a = X.env.locals ∨ X.env.cells.lookup x = some a)) → Q () s') (hf : X.fn x = true ∨ X.env.scope.names.lookup x = some .local := by first | exact .inl rfl | exact .inr rfl | assumption) : wpAny M A (storeName X.env x u) Q E s := by
  obtain ⟨m, hn, hl⟩ := id I.loc
  have hcls : (X.env.scope.kind == .class || (X.env.scope.kind == .module && X.env.locals != X.env.globals)) = false := by rw [I.ok.kind]; rfl
  have hiσ : i < σ.length := by rw [I.len]; exact (List.getElem?_eq_some_iff.mp hi).1
  have cne := I.cne
  have tracked : ∀ {a : Addr} {h' : Heap}, (∃ o, s.heap.get? a = some o ∧ H a = none) → Heap.SameBut a s.heap h' → HOk X.prog X.w H h' := fun {a h'} ha hs b ob e => by
    obtain ⟨_, _, hfree⟩ := ha
    refine (I.hok b ob e).stay (fun c w' hc q => (hs.2 c ?_).trans q) (fun _ q => q) fun _ _ q => q
    rintro rfl
    rcases hc with rfl | hc
    · rw [hfree] at e; cases e
    · rw [hfree] at hc; cases hc
  rcases hx with hk | hk
  · refine wpAny_storeName_local hk hn (fun h' hn' hs => ?_) hcls
    obtain ⟨oL, _, _, hoL, _⟩ := id hn
    refine h _ ⟨I.ok, I.os, I.bare, ⟨fun b o e n hb hx => ?_, fun b o e n hb hx => ?_, I.base.free, fun b o e hx => ?_, I.base.tups, I.base.frzs, I.base.tbls⟩, ⟨_, hn', fun j y v' e1 e2 e3 => ?_⟩, fun y c e => ?_, I.free, I.freeC, fun p hp => ?_, tracked ⟨oL, hoL, I.free⟩ hs, by simpa using I.len⟩ ⟨_, hs, .inl rfl⟩
    · exact (hs.2 b (Nat.ne_of_lt (Nat.lt_of_lt_of_le (Heap.lt_size e) I.ok.above))).trans (I.base.keep b o e n hb hx)
    · obtain ⟨sl, e1⟩ := I.base.slot b o e n hb hx
      exact ⟨sl, (hs.2 b (Nat.ne_of_lt (Nat.lt_of_lt_of_le (Heap.lt_size e) I.ok.above))).trans e1⟩
    · obtain ⟨o', e1⟩ := I.base.there b o e hx
      exact ⟨o', (hs.2 b (Nat.ne_of_lt (Nat.lt_of_lt_of_le (Heap.lt_size e) I.ok.above))).trans e1⟩
    · by_cases hj : j = i
      · subst hj
        rw [hi] at e1; cases e1
        rw [List.getElem?_set_self hiσ] at e2
        cases e2
        exact ⟨u, r, .inl ⟨hk, by simp⟩⟩
      · rw [List.getElem?_set_ne (Ne.symm hj)] at e2
        obtain ⟨u', r', q⟩ := hl j y v' e1 e2 e3
        refine ⟨u', r', ?_⟩
        rcases q with ⟨k, e⟩ | ⟨k, c, e, z⟩
        · refine .inl ⟨k, ?_⟩
          have : y ≠ x := fun e => hj (nodup_ix hN e1 (e ▸ hi))
          simp [this, e]
        · exact .inr ⟨k, c, e, z.sameBut hs (cne y c e)⟩
    · obtain ⟨w', z⟩ := I.cell y c e
      exact ⟨w', z.sameBut hs (cne y c e)⟩
    · obtain ⟨e, n, ne, nf, d⟩ := I.pin p hp
      exact ⟨(hs.2 p.1 ne).trans e, n, ne, nf, d⟩
  · have hfn : X.fn x = true := by
      rcases hf with z | z
      · exact z
      · rw [z] at hk; cases hk
    obtain ⟨c, hc⟩ := I.ok.has x (.inl hk)
    obtain ⟨w', z⟩ := I.cell x c hc
    refine wpAny_storeName_cell I.ok.kind hk hc z (fun h' hc' hs => ?_)
    obtain ⟨oc, hoc, hocd⟩ := id z
    refine h { s with heap := h' } ⟨I.ok, I.os, I.bare, ⟨fun b o e n hb hx => ?_, fun b o e n hb hx => ?_, I.base.free, fun b o e hx => ?_, I.base.tups, I.base.frzs, I.base.tbls⟩, ⟨m, hn.sameBut hs (Ne.symm (cne x c hc)), fun j y v' e1 e2 e3 => ?_⟩, fun y c' e => ?_, I.free, I.freeC, fun p hp => ?_, tracked ⟨oc, hoc, I.freeC x c hc⟩ hs, by simpa using I.len⟩ ⟨c, hs, .inr hc⟩
    · exact (hs.2 b (Nat.ne_of_lt (Nat.lt_of_lt_of_le (Heap.lt_size e) (I.ok.cab x c hfn hc)))).trans (I.base.keep b o e n hb hx)
    · obtain ⟨sl, e1⟩ := I.base.slot b o e n hb hx
      exact ⟨sl, (hs.2 b (Nat.ne_of_lt (Nat.lt_of_lt_of_le (Heap.lt_size e) (I.ok.cab x c hfn hc)))).trans e1⟩
    · obtain ⟨o', e1⟩ := I.base.there b o e hx
      exact ⟨o', (hs.2 b (Nat.ne_of_lt (Nat.lt_of_lt_of_le (Heap.lt_size e) (I.ok.cab x c hfn hc)))).trans e1⟩
    · by_cases hj : j = i
      · subst hj
        rw [hi] at e1; cases e1
        rw [List.getElem?_set_self hiσ] at e2
        cases e2
        exact ⟨u, r, .inr ⟨.inl hk, c, hc, hc'⟩⟩
      · rw [List.getElem?_set_ne (Ne.symm hj)] at e2
        obtain ⟨u', r', q⟩ := hl j y v' e1 e2 e3
        refine ⟨u', r', ?_⟩
        rcases q with q | ⟨k, c', e, z'⟩
        · exact .inl q
        · refine .inr ⟨k, c', e, z'.sameBut hs ?_⟩
          rintro rfl
          exact hj (nodup_ix hN e1 (I.ok.inj _ _ _ e hc ▸ hi))
    · by_cases hcc : c' = c
      · subst hcc; exact ⟨_, hc'⟩
      · obtain ⟨w2, z2⟩ := I.cell y c' e
        exact ⟨w2, z2.sameBut hs hcc⟩
    · obtain ⟨e, n, ne, nf, d⟩ := I.pin p hp
      refine ⟨(hs.2 p.1 ?_).trans e, n, ne, nf, d⟩
      intro q
      rw [q, hoc] at e
      have q' : oc = p.2 := Option.some.inj e
      exact d w' (by rw [← q']; exact hocd)
theorem store_ok {M : Model} {A : Around} {E : Value → Shared → Prop} {i : Nat} {x : Str} {v : V} {u : Value} {Q : Unit → Shared → Prop} (I : Inv X pins σ H s) (hN : X.N.Nodup) (hi : X.N[i]? = some x) (hx : Loc X.env.scope x) (r : RelV v u)
    (h : ∀ s', Inv X pins (σ.set i (some v)) H s' → Q () s') (hf : X.fn x = true ∨ X.env.scope.names.lookup x = some .local := by first | exact .inl rfl | exact .inr rfl | assumption) : wpAny M A (storeName X.env x u) Q E s :=
  store_ok2 I hN hi hx r (fun s' I' _ => h s' I') hf
theorem Inv.call' {s' : Shared} {ch : List Addr} (I : Inv X pins σ H s) (ho : s'.os = s.os) (u : Un (frs X.stack) ch H H' s.heap s'.heap) (hok : HOk X.prog X.w H' s'.heap) (hg : AllBare s'.gens)
    (hch : ∀ b ∈ ch, (b ∈ X.ex ∨ X.s₀.heap.objs.size ≤ b) ∧ b ≠ X.env.locals ∧ (∀ x c, X.env.cells.lookup x = some c → c ≠ b) ∧ ∀ p ∈ X.pn ++ pins, p.1 ≠ b) : Inv X pins σ H' s' := by
  obtain ⟨h', g', d', t', o'⟩ := s'
  have e : o' = s.os := ho
  subst e
  exact I.call (g' := g') (t' := t') (d' := d') u hok hg hch
end
abbrev XK := Value → Option Addr → Hp → Prop
abbrev St := List (Option V)
abbrev VK := V → Hp → Prop
abbrev TE := St → Hp → VK → Prop
abbrev TT := St → Hp → (Bool → Hp → Prop) → Prop
abbrev TA := St → Hp → (List V → Hp → Prop) → Prop
structure Ends where
  nx : St → Hp → Prop
  rt : VK
  bk : St → Hp → Prop := fun _ _ => False
  ct : St → Hp → Prop := fun _ _ => False
abbrev TS := Ends → St → Hp → Prop
def EP (X : Cx) (pins : List (Addr × Obj)) (σ : St) (Q : VK) (u : Value) (s' : Shared) : Prop := ∃ v H', Inv X pins σ H' s' ∧ RelV v u ∧ Q v H'
def TP (X : Cx) (pins : List (Addr × Obj)) (σ : St) (Q : Bool → Hp → Prop) (b : Bool) (s' : Shared) : Prop := ∃ H', Inv X pins σ H' s' ∧ Q b H'
def AP (X : Cx) (pins : List (Addr × Obj)) (σ : St) (Q : List V → Hp → Prop) (us : List Value) (s' : Shared) : Prop := ∃ vs H', Inv X pins σ H' s' ∧ Vals vs us ∧ Q vs H'
def SP (X : Cx) (pins : List (Addr × Obj)) (D : Ends) (f : Flow) (s' : Shared) : Prop :=
  match f with
  | .next => ∃ σ' H', Inv X pins σ' H' s' ∧ D.nx σ' H'
  | .brk => ∃ σ' H', Inv X pins σ' H' s' ∧ D.bk σ' H'
  | .cont => ∃ σ' H', Inv X pins σ' H' s' ∧ D.ct σ' H'
  | .ret u => ∃ v σ' H', Inv X pins σ' H' s' ∧ RelV v u ∧ D.rt v H'
def PE (X : Cx) (e : Expr) (t : TE) : Prop :=
  ∀ (pins : List (Addr × Obj)) (s : Shared) (σ : St) (H : Hp) (Q : VK), Inv X pins σ H s → t σ H Q → wpAny (model X.prog X.w) X.A (eval e X.env) (EP X pins σ Q) X.xe s
def PT (X : Cx) (e : Expr) (t : TT) : Prop :=
  ∀ (pins : List (Addr × Obj)) (s : Shared) (σ : St) (H : Hp) (Q : Bool → Hp → Prop), Inv X pins σ H s → t σ H Q → wpAny (model X.prog X.w) X.A (isTrue e X.env (eval e X.env)) (TP X pins σ Q) X.xe s
def PW (X : Cx) (e : Expr) (t : TT) : Prop :=
  ∀ (whole : Sem Value) (pins : List (Addr × Obj)) (s : Shared) (σ : St) (H : Hp) (Q : Bool → Hp → Prop), Inv X pins σ H s → t σ H Q → wpAny (model X.prog X.w) X.A (isTrue e X.env whole) (TP X pins σ Q) X.xe s
theorem PW.pt {X : Cx} {e : Expr} {t : TT} (h : PW X e t) : PT X e t := h _
def PA (X : Cx) (es : List Expr) (t : TA) : Prop :=
  ∀ (pos : PySem.Pos) (pins : List (Addr × Obj)) (s : Shared) (σ : St) (H : Hp) (Q : List V → Hp → Prop), Inv X pins σ H s → t σ H Q → wpAny (model X.prog X.w) X.A (spliced (backTo pos (starEach es X.env))) (AP X pins σ Q) X.xe s
def PS (X : Cx) (st : Stmt) (t : TS) : Prop :=
  ∀ (pins : List (Addr × Obj)) (s : Shared) (σ : St) (H : Hp) (D : Ends), Inv X pins σ H s → t D σ H → wpAny (model X.prog X.w) X.A (exec st X.env) (SP X pins D) X.xe s
def PSs (X : Cx) (st : List Stmt) (t : TS) : Prop :=
  ∀ (pins : List (Addr × Obj)) (s : Shared) (σ : St) (H : Hp) (D : Ends), Inv X pins σ H s → t D σ H → wpAny (model X.prog X.w) X.A (execs st X.env) (SP X pins D) X.xe s
theorem thn {α : Type} {t : Sem α} {Q Q' : α → Shared → Prop} {M : Model} {A : Around} {E : Value → Shared → Prop} {s : Shared} (h : wpAny M A t Q E s) (hQ : ∀ a s, Q a s → Q' a s) : wpAny M A t Q' E s := wpAny_mono h hQ fun _ _ x => x
end L2
namespace L2
open PySem PySem.Spec PyProof.Rows
section
variable {X : Cx}
def tVar (i : Nat) : TE := fun σ H Q => ∃ v, σ[i]? = some (some v) ∧ Q v H
def tC (v : V) : TE := fun _ H Q => Q v H
theorem pe_var {i : Nat} {x : Str} {pos : PySem.Pos} (hN : X.N[i]? = some x) (hv : Vis X.env.scope x) (hd : (x == ("__debug__" : Str)) = false := by decide) (hcd : (x == ("__classdict__" : Str)) = false := by decide) : PE X (.Name x pos) (tVar i) := by
  intro pins s σ H Q I h
  obtain ⟨v, e, h⟩ := h
  obtain ⟨m, hn, hl⟩ := I.loc
  obtain ⟨u, r, l⟩ := hl i x v hN e hv
  have fin : EP X pins σ Q u s := ⟨v, H, I, r, h⟩
  rcases l with ⟨hk, hm⟩ | ⟨hk, c, hc, hcell⟩
  · exact wpAny_Name (wpAny_loadName_local I.ok.kind hk hn hm fin) hd
  · rcases hk with hk | hk
    · exact wpAny_Name (wpAny_loadName_cell I.ok.kind hk hc hcell fin) hd
    · exact wpAny_Name (wpAny_loadName_free I.ok.kind hk hc hcell fin hcd) hd
theorem pe_int {i j pos} : PE X (.Constant (.int i) j pos) (tC (.int i)) := fun _ _ _ H _ I h => wpAny_Constant_int ⟨.int i, H, I.tok _, ⟨_, rfl⟩, h⟩
theorem pe_bl {b j pos} : PE X (.Constant (.bool b) j pos) (tC (.bl b)) := fun _ _ _ H _ I h => Constant_bool ⟨.bl b, H, I, rfl, h⟩
theorem pe_non {j pos} : PE X (.Constant .none j pos) (tC .non) := fun _ _ _ H _ I h => Constant_none ⟨.non, H, I, rfl, h⟩
def Gl (X : Cx) (x : Str) : Prop := X.env.kindOf x = some .globalImplicit
theorem ld_glob {E : Value → Shared → Prop} {pins : List (Addr × Obj)} {s : Shared} {σ : St} {H : Hp} {x : Str} {u : Value} {pos : PySem.Pos} {Q : Value → Shared → Prop} (I : Inv X pins σ H s) (hg : Gl X x) (hm : X.mg x = some u) (h : Q u s)
    (hd : (x == ("__debug__" : Str)) = false := by decide) : wpAny (model X.prog X.w) X.A (eval (.Name x pos) X.env) Q E s :=
  Calls.Name_function_global I.ok.kind hg (Calls.loadGlobal_global (by rw [I.ok.glob]; exact I.mod.glob.keeps I.bk) hm h) hd
theorem ld_blt {E : Value → Shared → Prop} {pins : List (Addr × Obj)} {s : Shared} {σ : St} {H : Hp} {x : Str} {u : Value} {pos : PySem.Pos} {Q : Value → Shared → Prop} (I : Inv X pins σ H s) (hg : Gl X x) (hm : X.mg x = none) (hv : bootBuiltins x = some u) (h : Q u s)
    (hn : x ≠ "__name__" := by decide) (hd : (x == ("__debug__" : Str)) = false := by decide) : wpAny (model X.prog X.w) X.A (eval (.Name x pos) X.env) Q E s := by
  obtain ⟨mb, h1, h2⟩ := I.mod.blt
  exact Calls.Name_function_global I.ok.kind hg (Calls.loadGlobal_builtin (by rw [I.ok.glob]; exact I.mod.glob.keeps I.bk) hm (by rw [I.ok.blt]; exact h1.keeps I.bk) ((h2 x hn).trans hv) h) hd
theorem pe_bltn {x : Str} {v : V} {u : Value} {pos : PySem.Pos} (hg : Gl X x) (hm : X.mg x = none) (hv : bootBuiltins x = some u) (r : RelV v u) (hn : x ≠ "__name__" := by decide) (hd : (x == ("__debug__" : Str)) = false := by decide) : PE X (.Name x pos) (tC v) :=
  fun _ _ _ H _ I h => ld_blt I hg hm hv ⟨v, H, I, r, h⟩ hn hd
variable {a b : Expr} {ta tb : TE} {pos : PySem.Pos}
def PC (X : Cx) (op : CmpOp) (a b : Expr) (t : TE) : Prop :=
  ∀ (pins : List (Addr × Obj)) (s : Shared) (σ : St) (H : Hp) (Q : VK), Inv X pins σ H s → t σ H Q →
    wpAny (model X.prog X.w) X.A (eval a X.env) (fun v s₁ => wpAny (model X.prog X.w) X.A (eval b X.env) (fun u s₂ => wpAny (model X.prog X.w) X.A (compareOp op v u) (EP X pins σ Q) X.xe s₂) X.xe s₁) X.xe s
theorem nobehind (b : Expr) {op : CmpOp} (h : op ≠ .In) (h2 : op ≠ .NotIn) : behindInMarks op b = false := by
  have e1 : (op == CmpOp.In) = false := by cases op <;> first | rfl | exact absurd rfl h
  have e2 : (op == CmpOp.NotIn) = false := by cases op <;> first | rfl | exact absurd rfl h2
  cases b <;> simp [behindInMarks, e1, e2]
def tNotN (ta : TE) : TE := fun σ H Q => ta σ H fun x H1 => Q (.bl (!decide (x = .non))) H1
theorem RelV.none_iff {x : V} {v : Value} (r : RelV x v) : (v == Value.none) = decide (x = .non) := by
  cases x with
  | non => cases r; rfl
  | bl _ => cases r; rfl
  | int _ => obtain ⟨t, rfl⟩ := r; rfl
  | str _ => obtain ⟨t, rfl⟩ := r; rfl
  | byt _ => obtain ⟨t, rfl⟩ := r; rfl
  | flt _ => obtain ⟨t, rfl⟩ := r; rfl
  | ref _ => cases r; rfl
  | ty _ => cases r; rfl
theorem pc_notN {j pos'} (ha : PE X a ta) : PC X .IsNot a (.Constant .none j pos') (tNotN ta) := by
  intro pins s σ H Q I h
  refine thn (ha pins s σ H _ I h) fun v s1 ⟨x, H1, I1, r1, q1⟩ => ?_
  exact Constant_none (isnot_none_gen ⟨.bl _, H1, I1, by rw [r1.none_iff]; rfl, q1⟩)
def tB (t : TE) : TT := fun σ H Q => t σ H fun x H1 => ∃ c, x = .bl c ∧ Q c H1
theorem pe_cmp {op : CmpOp} {t : TE} (h : PC X op a b t) (h1 : behindInMarks op b = false := by first | exact nobehind _ (by decide) (by decide) | rfl) : PE X (.Compare a [op] [b] pos) t := fun pins s σ H Q I hw => wpAny_Compare1 (h pins s σ H Q I hw) h1
theorem pt_cmp {op : CmpOp} {t : TE} (h : PC X op a b t) (h1 : behindInMarks op b = false := by first | exact nobehind _ (by decide) (by decide) | rfl) : PT X (.Compare a [op] [b] pos) (tB t) := by
  intro pins s σ H Q I hw
  refine wpAny_isTrue_Compare1 (thn (h pins s σ H _ I hw) fun v s1 h1 => thn h1 fun u s2 h2 => thn h2 fun c s3 ⟨x, H1, I1, r1, q1⟩ => ?_) h1
  obtain ⟨d, rfl, q⟩ := q1
  cases r1
  exact wpAny_truthy_bool ⟨H1, I1, q⟩
theorem pt_val {e : Expr} {t : TE} (h : PE X e t) (he : ∀ whole, isTrue e X.env whole = (do let v ← whole; standAt e.pos; holding [v] (truthy v)) := by intro _; rfl) : PT X e (tB t) := by
  intro pins s σ H Q I hw
  refine isTrue_plain (thn (h pins s σ H _ I hw) fun v s1 ⟨x, H1, I1, r1, q1⟩ => ?_) (he _)
  obtain ⟨d, rfl, q⟩ := q1
  cases r1
  exact wpAny_truthy_bool ⟨H1, I1, q⟩
variable {tA tB' : TT} {rest : List Expr}
def tAnd (t u : TT) : TT := fun σ H Q => t σ H fun c H1 => if c = true then u σ H1 Q else Q false H1
def tOr (t u : TT) : TT := fun σ H Q => t σ H fun c H1 => if c = true then Q true H1 else u σ H1 Q
def tNot (t : TT) : TT := fun σ H Q => t σ H fun c H1 => Q (!c) H1
theorem pw_and1 (ha : PT X a tA) : PW X (.BoolOp .And [a] pos) tA := by
  intro wh pins s σ H Q I h
  refine isTrue_and (thn (ha pins s σ H Q I h) fun c s1 e => ?_)
  cases c with
  | true => exact isTrue_and_nil e
  | false => exact e
theorem pw_or1 (ha : PT X a tA) : PW X (.BoolOp .Or [a] pos) tA := by
  intro wh pins s σ H Q I h
  refine isTrue_or (thn (ha pins s σ H Q I h) fun c s1 e => ?_)
  cases c with
  | false => exact isTrue_or_nil e
  | true => exact e
theorem pw_and (ha : PT X a tA) (hb : PW X (.BoolOp .And (b :: rest) pos) tB') : PW X (.BoolOp .And (a :: b :: rest) pos) (tAnd tA tB') := by
  intro wh pins s σ H Q I h
  refine isTrue_and (thn (ha pins s σ H _ I h) fun c s1 ⟨H1, I1, q1⟩ => ?_)
  cases c with
  | true => exact hb wh pins s1 σ H1 Q I1 q1
  | false => exact ⟨H1, I1, q1⟩
theorem pw_or (ha : PT X a tA) (hb : PW X (.BoolOp .Or (b :: rest) pos) tB') : PW X (.BoolOp .Or (a :: b :: rest) pos) (tOr tA tB') := by
  intro wh pins s σ H Q I h
  refine isTrue_or (thn (ha pins s σ H _ I h) fun c s1 ⟨H1, I1, q1⟩ => ?_)
  cases c with
  | true => exact ⟨H1, I1, q1⟩
  | false => exact hb wh pins s1 σ H1 Q I1 q1
theorem pt_not (ha : PT X a tA) : PT X (.UnaryOp .Not a pos) (tNot tA) := by
  intro pins s σ H Q I h
  exact isTrue_not (ha pins s σ H (fun c H1 => Q (!c) H1) I h)
def tIf (t : TT) (ta tb : TE) : TE := fun σ H Q => t σ H fun c H1 => if c = true then ta σ H1 Q else tb σ H1 Q
theorem pe_ifExp {c : Expr} (hc : PT X c tA) (ha : PE X a ta) (hb : PE X b tb) : PE X (.IfExp c a b pos) (tIf tA ta tb) := by
  intro pins s σ H Q I h
  refine wpAny_IfExp (thn (hc pins s σ H _ I h) fun d s1 ⟨H1, I1, q1⟩ => ?_)
  cases d with
  | true => exact ha pins s1 σ H1 Q I1 q1
  | false => exact hb pins s1 σ H1 Q I1 q1
end
end L2
namespace L2
open PySem PySem.Spec PyProof.Rows
def SqL (K : PySem.W.Frag) (H : Hp) (a : Addr) (xs : List V) : Prop :=
  Rd H a (.lst xs) ∨
    ∃ (o : Obj) (its : Array Value) (n : Nat), K.lookup a = some o ∧ o.cls = .type "list" ∧ o.dict = none ∧ o.data = .seq its n ∧ its.size ≤ sizeLine ∧ Vals xs its.toList
def SqT (K : PySem.W.Frag) (H : Hp) (a : Addr) (xs : List V) : Prop :=
  Rd H a (.tup xs) ∨
    ∃ (o : Obj) (its : Array Value) (n : Nat), K.lookup a = some o ∧ o.cls = .type "tuple" ∧ o.data = .seq its n ∧ its.size ≤ sizeLine ∧ Vals xs its.toList
def absV : Value → Option V
  | .none => some .non
  | .bool b => some (.bl b)
  | .int i _ => some (.int i)
  | .str x _ => some (.str x)
  | .bytes b _ => some (.byt b)
  | .float b _ => some (.flt b)
  | .ref a => some (.ref a)
  | .type n => some (.ty n)
  | _ => none
theorem RelV.abs {x : V} {u : Value} (r : RelV x u) : absV u = some x := by
  cases x with
  | non => cases r; rfl
  | bl _ => cases r; rfl
  | int _ => obtain ⟨t, rfl⟩ := r; rfl
  | str _ => obtain ⟨t, rfl⟩ := r; rfl
  | byt _ => obtain ⟨t, rfl⟩ := r; rfl
  | flt _ => obtain ⟨t, rfl⟩ := r; rfl
  | ref _ => cases r; rfl
  | ty _ => cases r; rfl
theorem RelV.inj {x y : V} {u : Value} (r : RelV x u) (q : RelV y u) : x = y := Option.some.inj (r.abs.symm.trans q.abs)
theorem Vals.inj : ∀ {xs ys : List V} {us : List Value}, Vals xs us → Vals ys us → xs = ys
  | _, _, _, .nil, .nil => rfl
  | _, _, _, .cons r t, .cons r' t' => by rw [r.inj r', Vals.inj t t']
section
variable {X : Cx} {pins : List (Addr × Obj)} {σ : St} {H : Hp} {s : Shared} {a : Addr} {xs ys : List V}
theorem SqL.of {K : PySem.W.Frag} (h : H a = some (.lst xs)) : SqL K H a xs := .inl (.inl h)
theorem SqT.of {K : PySem.W.Frag} (h : H a = some (.tup xs)) : SqT K H a xs := .inl (.inl h)
theorem Inv.list (I : Inv X pins σ H s) (h : SqL X.K H a xs) : ∃ its : List Value, Vals xs its ∧ PlainL s.heap a its.toArray ∧ xs.length ≤ sizeLine := by
  rcases h with h | ⟨o, its, n, hk, hc, hd, hs, hz, r⟩
  · obtain ⟨z, its, n, r, e⟩ := h.ok I.hok
    exact ⟨its, r, ⟨_, n, e, rfl, rfl, rfl⟩, z⟩
  · refine ⟨its.toList, r, ⟨o, n, I.kIn a o hk, hc, hd, by simpa using hs⟩, ?_⟩
    have e := r.length
    simp only [Array.length_toList] at e
    omega
theorem Inv.tuple (I : Inv X pins σ H s) (h : SqT X.K H a xs) : ∃ its : List Value, Vals xs its ∧ IsTup s.heap a its.toArray ∧ xs.length ≤ sizeLine := by
  rcases h with h | ⟨o, its, n, hk, hc, hs, hz, r⟩
  · obtain ⟨z, its, r, p⟩ := h.ok I.hok
    exact ⟨its, r, p, z⟩
  · refine ⟨its.toList, r, ⟨o, I.kIn a o hk, hc, n, by simpa using hs⟩, ?_⟩
    have e := r.length
    simp only [Array.length_toList] at e
    omega
theorem Inv.list_inj (I : Inv X pins σ H s) (h : SqL X.K H a xs) (h' : SqL X.K H a ys) : xs = ys := by
  obtain ⟨its, r, ⟨o, n, e, _, _, d⟩, _⟩ := I.list h
  obtain ⟨its', r', ⟨o', n', e', _, _, d'⟩, _⟩ := I.list h'
  rw [e] at e'; cases e'
  rw [d] at d'
  injection d' with d1 _
  have : its = its' := by simpa using congrArg Array.toList d1
  subst this
  exact r.inj r'
theorem Inv.tuple_inj (I : Inv X pins σ H s) (h : SqT X.K H a xs) (h' : SqT X.K H a ys) : xs = ys := by
  obtain ⟨its, r, ⟨o, e, _, n, d⟩, _⟩ := I.tuple h
  obtain ⟨its', r', ⟨o', e', _, n', d'⟩, _⟩ := I.tuple h'
  rw [e] at e'; cases e'
  rw [d] at d'
  injection d' with d1 _
  have : its = its' := by simpa using congrArg Array.toList d1
  subst this
  exact r.inj r'
end
abbrev Cx.wish (X : Cx) (E : Value → Shared → Prop) : Cx := { X with xe := E }
abbrev Cx.nox (X : Cx) : Cx := X.wish fun _ _ => False
theorem Cx.Ok.wish {X : Cx} (ok : X.Ok) (E : Value → Shared → Prop) : (X.wish E).Ok :=
  ⟨ok.mod, ok.kind, ok.glob, ok.blt, ok.above, ok.inj, ok.has, ok.cab, ok.hd, ok.frames, ok.stk, ok.exf, ok.bs, ok.bsz, ok.noex, ok.exfs, ok.funs, ok.frf⟩
theorem Cx.Ok.unwish {X : Cx} {E : Value → Shared → Prop} (ok : (X.wish E).Ok) : X.Ok :=
  ⟨ok.mod, ok.kind, ok.glob, ok.blt, ok.above, ok.inj, ok.has, ok.cab, ok.hd, ok.frames, ok.stk, ok.exf, ok.bs, ok.bsz, ok.noex, ok.exfs, ok.funs, ok.frf⟩
section
variable {X : Cx} {pins : List (Addr × Obj)} {σ : St} {H : Hp} {s : Shared} {E : Value → Shared → Prop}
theorem Inv.wish (I : Inv X pins σ H s) (E : Value → Shared → Prop) : Inv (X.wish E) pins σ H s := ⟨I.ok.wish E, I.os, I.bare, I.base, I.loc, I.cell, I.free, I.freeC, I.pin, I.hok, I.len⟩
theorem Inv.unwish (I : Inv (X.wish E) pins σ H s) : Inv X pins σ H s := ⟨I.ok.unwish, I.os, I.bare, I.base, I.loc, I.cell, I.free, I.freeC, I.pin, I.hok, I.len⟩
theorem SP.unwish {D : Ends} {f : Flow} {s' : Shared} (h : SP (X.wish E) pins D f s') : SP X pins D f s' := by
  cases f with
  | next => obtain ⟨σ', H', I, q⟩ := h; exact ⟨σ', H', I.unwish, q⟩
  | brk => obtain ⟨σ', H', I, q⟩ := h; exact ⟨σ', H', I.unwish, q⟩
  | cont => obtain ⟨σ', H', I, q⟩ := h; exact ⟨σ', H', I.unwish, q⟩
  | ret u => obtain ⟨v, σ', H', I, r, q⟩ := h; exact ⟨v, σ', H', I.unwish, r, q⟩
theorem PSs.nox {st : List Stmt} {t : TS} (h : PSs X.nox st t) : PSs X st t := fun pins s σ H D I hw =>
  wpAny_mono (h pins s σ H D (I.wish _) hw) (fun _ _ q => q.unwish) fun _ _ z => False.elim z
end
section
variable {X : Cx} {st : Stmt} {rest : List Stmt} {t u : TS} {e : Expr} {te : TE} {pos : PySem.Pos}
def tNext : TS := fun D σ H => D.nx σ H
def tSeq (t u : TS) : TS := fun D σ H => t { D with nx := u D } σ H
theorem pss_nil : PSs X [] tNext := fun _ _ σ H _ I h => wpAny_execs_nil ⟨σ, H, I, h⟩
theorem pss_cons (h1 : PS X st t) (h2 : PSs X rest u) : PSs X (st :: rest) (tSeq t u) := by
  intro pins s σ H D I h
  refine wpAny_execs_cons (thn (h1 pins s σ H { D with nx := u D } I h) fun f s1 q => ?_)
  cases f with
  | next =>
    obtain ⟨σ', H', I', q⟩ := q
    exact h2 pins s1 σ' H' D I' q
  | ret v => exact q
  | brk => exact q
  | cont => exact q
theorem pss_one (h1 : PS X st t) : PSs X [st] t := by
  intro pins s σ H D I h
  refine wpAny_execs_cons (thn (h1 pins s σ H D I h) fun f s1 q => ?_)
  cases f with
  | next => exact wpAny_execs_nil q
  | ret v => exact q
  | brk => exact q
  | cont => exact q
theorem Inv.quiet {pins : List (Addr × Obj)} {σ : St} {H : Hp} {s : Shared} (I : Inv X pins σ H s) : interactive X.env = false := by simp [interactive, I.ok.kind]
def tDrop (te : TE) : TS := fun D σ H => te σ H fun _ H1 => D.nx σ H1
theorem ps_expr (he : PE X e te) (hs : swapsWith e none pos.line X.env = pure false := by rfl) : PS X (.Expr e pos) (tDrop te) := by
  intro pins s σ H D I h
  exact wpAny_Expr_any (thn (he pins s σ H _ I h) fun v s1 ⟨x, H1, I1, r1, q1⟩ => ⟨σ, H1, I1, q1⟩) I.quiet hs
def tRet (te : TE) : TS := fun D σ H => te σ H D.rt
theorem ps_ret (he : PE X e te) : PS X (.Return (some e) pos) (tRet te) := by
  intro pins s σ H D I h
  exact wpAny_Return_some (thn (he pins s σ H _ I h) fun v s1 ⟨x, H1, I1, r1, q1⟩ => ⟨x, σ, H1, I1, r1, q1⟩)
def tIfS (c : TT) (t u : TS) : TS := fun D σ H => c σ H fun b H1 => if b = true then t D σ H1 else u D σ H1
theorem ps_if {c : Expr} {a b : List Stmt} {tc : TT} (hc : PT X c tc) (ha : PSs X a t) (hb : PSs X b u) : PS X (.If c a b pos) (tIfS tc t u) := by
  intro pins s σ H D I h
  refine wpAny_If (thn (hc pins s σ H _ I h) fun d s1 ⟨H1, I1, q1⟩ => ?_)
  cases d with
  | true => exact ha pins s1 σ H1 D I1 q1
  | false => exact hb pins s1 σ H1 D I1 q1
end
abbrev TG := V → St → Hp → (St → Hp → Prop) → Prop
abbrev TGs := List V → St → Hp → (St → Hp → Prop) → Prop
def PG (X : Cx) (target : Expr) (t : TG) : Prop :=
  ∀ (pins : List (Addr × Obj)) (s : Shared) (σ : St) (H : Hp) (v : V) (u : Value) (Q : St → Hp → Prop), Inv X pins σ H s → RelV v u → t v σ H Q →
    wpAny (model X.prog X.w) X.A (assign target X.env u) (fun _ s' => ∃ σ' H', Inv X pins σ' H' s' ∧ Q σ' H') X.xe s
def PGs (X : Cx) (ts : List Expr) (t : TGs) : Prop :=
  ∀ (pins : List (Addr × Obj)) (s : Shared) (σ : St) (H : Hp) (vs : List V) (us : List Value) (Q : St → Hp → Prop), Inv X pins σ H s → Vals vs us → t vs σ H Q →
    wpAny (model X.prog X.w) X.A (assignInOrder ((assignEach ts X.env).map (·.2)) us) (fun _ s' => ∃ σ' H', Inv X pins σ' H' s' ∧ Q σ' H') X.xe s
abbrev TSet := V → V → V → Hp → (Hp → Prop) → Prop
def PSet (X : Cx) (t : TSet) : Prop :=
  ∀ (pins : List (Addr × Obj)) (s : Shared) (σ : St) (H : Hp) (o i v : V) (ov iv u : Value) (Q : Hp → Prop), Inv X pins σ H s → RelV o ov → RelV i iv → RelV v u → t o i v H Q →
    wpAny (model X.prog X.w) X.A (setItem ov iv u) (fun _ s' => ∃ H', Inv X pins σ H' s' ∧ Q H') X.xe s
section
variable {X : Cx} {pos : PySem.Pos}
def gName (i : Nat) : TG := fun v σ H Q => Q (σ.set i (some v)) H
theorem pg_name {i : Nat} {x : Str} (hN : X.N.Nodup) (hi : X.N[i]? = some x) (hx : Loc X.env.scope x) (hf : X.fn x = true ∨ X.env.scope.names.lookup x = some .local := by first | exact .inl rfl | exact .inr rfl | assumption) : PG X (.Name x pos) (gName i) := by
  intro pins s σ H v u Q I r h
  exact wpAny_assign_Name (store_ok I hN hi hx r (fun s' I' => ⟨_, H, I', h⟩) hf)
def gNil : TGs := fun vs σ H Q => vs = [] ∧ Q σ H
def gCons (t : TG) (u : TGs) : TGs := fun vs σ H Q => ∃ v r, vs = v :: r ∧ t v σ H fun σ' H' => u r σ' H' Q
theorem pgs_nil : PGs X [] gNil := by
  intro pins s σ H vs us Q I r h
  obtain ⟨e, h⟩ := h
  subst e
  cases r
  exact assignInOrder_nil ⟨σ, H, I, h⟩
theorem pgs_cons {e : Expr} {es : List Expr} {t : TG} {u : TGs} (h1 : PG X e t) (h2 : PGs X es u)
    (hs : (assignEach (e :: es) X.env).map (·.2) = assign e X.env :: (assignEach es X.env).map (·.2) := by rfl) : PGs X (e :: es) (gCons t u) := by
  intro pins s σ H vs us Q I r h
  obtain ⟨v, vr, e1, h⟩ := h
  subst e1
  cases r with
  | cons r rr =>
    rw [hs]
    refine assignInOrder_cons (thn (h1 pins s σ H _ _ _ I r h) fun _ s1 ⟨σ1, H1, I1, q1⟩ => ?_)
    exact h2 pins s1 σ1 H1 _ _ Q I1 rr q1
def gTup (K : PySem.W.Frag) (n : Nat) (t : TGs) : TG := fun v σ H Q => ∃ a xs, v = .ref a ∧ SqT K H a xs ∧ xs.length = n ∧ t xs σ H Q
theorem pg_tup {es : List Expr} {k : Nat} {t : TGs} {n : Nat} (hc : X.calm = true) (h : PGs X es t)
    (hn : (assignEach es X.env).length = n := by rfl) (hst : (assignEach es X.env).findIdx? (·.1) = none := by rfl) : PG X (.Tuple es k pos) (gTup X.K n t) := by
  intro pins s σ H v u Q I r hw
  obtain ⟨a, xs, e1, hq, hl, hw⟩ := hw
  subst e1
  cases r
  obtain ⟨its, rv, ht, hz⟩ := I.tuple hq
  refine assign_Tuple_tuple (I.ok.hd hc) ht (by simp [hn, ← hl, rv.length]) hst fun h' hx => ?_
  have I1 : Inv X pins σ H { s with heap := h' } := I.kept (t' := s.toks) fun b o e => hx b o (Nat.ne_of_lt (Heap.lt_size e)) e
  exact h pins _ σ H xs _ Q I1 (by simpa using rv) hw
def gSub (to ti : TE) (t : TSet) : TG := fun v σ H Q => to σ H fun o H1 => ti σ H1 fun i H2 => t o i v H2 fun H3 => Q σ H3
theorem pg_sub {o i : Expr} {to ti : TE} {t : TSet} (ho : PE X o to) (hi : PE X i ti) (hs : PSet X t)
    (ha : ∀ v, assign (.Subscript o i pos) X.env v = (do
      let ov ← holding [v] (eval o X.env)
      let iv ← holding [v, ov] (eval i X.env)
      standAt pos
      holding [v, ov, iv] (setItem ov iv v)
      release [v, ov, iv] []) := by intro _; rfl) : PG X (.Subscript o i pos) (gSub to ti t) := by
  intro pins s σ H v u Q I r h
  rw [ha]
  refine wpAny_bind (wpAny_holding (thn (ho pins s σ H _ I h) fun ov s1 ⟨x, H1, I1, r1, q1⟩ => ?_))
  refine wpAny_bind (wpAny_holding (thn (hi pins s1 σ H1 _ I1 q1) fun iv s2 ⟨y, H2, I2, r2, q2⟩ => ?_))
  refine wpAny_bind (wpAny_standAt (wpAny_bind (wpAny_holding (thn (hs pins s2 σ H2 x y v ov iv u _ I2 r1 r2 r q2) fun _ s3 ⟨H3, I3, q3⟩ => ?_))))
  exact wpAny_release ⟨σ, H3, I3, q3⟩
def tAsg (te : TE) (g : TG) : TS := fun D σ H => te σ H fun x H1 => g x σ H1 D.nx
theorem ps_asg {tg e : Expr} {te : TE} {g : TG} (he : PE X e te) (hg : PG X tg g) (hs : swapsWithSole [tg] e pos.line X.env = pure false := by rfl) (hw : swappedStores [tg] e X.env = pure none := by rfl)
    (h1 : (assignEach [tg] X.env).map (·.2) = [assign tg X.env] := by rfl) : PS X (.Assign [tg] e pos) (tAsg te g) := by
  intro pins s σ H D I h
  refine wpAny_Assign_stores (thn (he pins s σ H _ I h) fun v s1 ⟨x, H1, I1, r1, q1⟩ => ?_) hs hw
  rw [h1]
  exact thn (hg pins s1 σ H1 x v _ I1 r1 q1) fun _ s2 q => q
theorem ps_set {i : Nat} {x : Str} {e : Expr} {te : TE} {pos' : PySem.Pos} (hN : X.N.Nodup) (hi : X.N[i]? = some x) (hx : Loc X.env.scope x) (he : PE X e te) (hs : swapsWith e (some (.Name x pos')) pos.line X.env = pure false := by rfl) (hf : X.fn x = true ∨ X.env.scope.names.lookup x = some .local := by first | exact .inl rfl | exact .inr rfl | assumption) :
    PS X (.Assign [.Name x pos'] e pos) (tAsg te (gName i)) := by
  intro pins s σ H D I h
  refine wpAny_Assign_Name (thn (he pins s σ H _ I h) fun v s1 ⟨y, H1, I1, r1, q1⟩ => ?_) hs
  exact store_ok I1 hN hi hx r1 (fun s2 I2 => ⟨_, H1, I2, q1⟩) hf
end
section
variable {X : Cx} {pos : PySem.Pos}
def tWhile (c : TT) (tb : TS) : TS := fun D σ H => ∃ W : Nat → St → Hp → Prop, (∃ m, W m σ H) ∧ ∀ m σ H, W m σ H →
  c σ H fun b H1 => if b = true then ∃ N : St → Hp → Prop, (∀ σ' H', N σ' H' → ∃ m', m' < m ∧ W m' σ' H') ∧ tb { D with nx := N, ct := N, bk := D.nx } σ H1 else D.nx σ H1
theorem ps_while {c : Expr} {body : List Stmt} {tc : TT} {tb : TS} (hp : PassesOwn (model X.prog X.w) X.A X.env X.xe) (hc : PT X c tc) (hb : PSs X body tb) : PS X (.While c body [] pos) (tWhile tc tb) := by
  intro pins s σ H D I h
  obtain ⟨W, ⟨m0, w0⟩, turn⟩ := h
  refine wpAny_While (codeAny_whileLoop (fun n s' => ∃ σ' H', Inv X pins σ' H' s' ∧ W n σ' H') ?_ m0 ⟨σ, H, I, w0⟩)
  rintro n s1 ⟨σ1, H1, I1, w1⟩
  refine wpAny_passesOwn hp (thn (hc pins s1 σ1 H1 _ I1 (turn n σ1 H1 w1)) fun b s2 ⟨H2, I2, q2⟩ => ?_)
  cases b with
  | true =>
    obtain ⟨N, hN, q2⟩ := q2
    rw [if_pos rfl]
    refine wpAny_passesOwn hp (thn (hb pins s2 σ1 H2 _ I2 q2) fun f s3 q3 => ?_)
    cases f with
    | next =>
      obtain ⟨σ3, H3, I3, n3⟩ := q3
      obtain ⟨m', hm, w3⟩ := hN σ3 H3 n3
      exact ⟨m', hm, σ3, H3, I3, w3⟩
    | cont =>
      obtain ⟨σ3, H3, I3, n3⟩ := q3
      obtain ⟨m', hm, w3⟩ := hN σ3 H3 n3
      exact ⟨m', hm, σ3, H3, I3, w3⟩
    | brk => exact q3
    | ret v => exact q3
  | false =>
    rw [if_neg Bool.false_ne_true]
    exact wpAny_execs_nil ⟨σ1, H2, I2, q2⟩
end
structure It where
  go : Nat → Hp → Prop
  yld : Nat → Hp → V → Hp → Prop
  stop : Nat → Hp → Prop
def FpOk (X : Cx) (pins : List (Addr × Obj)) (H : Hp) (b : Addr) : Prop :=
  H b = none ∧ b ≠ X.env.locals ∧ b ∉ X.fs ∧ (b ∈ X.ex ∨ X.s₀.heap.objs.size ≤ b) ∧ (∀ x c, X.env.cells.lookup x = some c → c ≠ b) ∧ ∀ p ∈ X.pn ++ pins, p.1 ≠ b
theorem Inv.fpOk {X : Cx} {pins : List (Addr × Obj)} {σ : St} {H H' : Hp} {s : Shared} {b : Addr} (I : Inv X pins σ H s) (hb : s.heap.objs.size ≤ b) (hn : H' b = none) : FpOk X pins H' b := by
  refine ⟨hn, Nat.ne_of_gt (Nat.lt_of_lt_of_le I.lt hb), I.nofs hb, .inr (Nat.le_trans I.sz hb), fun x c e z => ?_, fun p hp z => ?_⟩
  · obtain ⟨v, q⟩ := I.cell x c e
    exact absurd (Nat.lt_of_lt_of_le q.lt (by rw [z]; exact hb)) (Nat.lt_irrefl _)
  · exact absurd (Nat.lt_of_lt_of_le (Heap.lt_size (I.pin p hp).1) (by rw [z]; exact hb)) (Nat.lt_irrefl _)
structure Turn (P : Program) (w : World) (K : PySem.W.Frag) (tg : Expr) (J : It) (fp : List Addr) (it : Addr) (tn : Nat → Heap → Prop) : Prop where
  mem : it ∈ fp
  obj : ∀ i h, tn i h → ∀ b ∈ fp, ∃ o, h.get? b = some o ∧ ∀ v, o.data ≠ .cell v
  keep : ∀ i h h', tn i h → (∀ b ∈ fp, ∀ o, h.get? b = some o → h'.get? b = some o) → tn i h'
  item : ∀ (X : Cx), X.prog = P → X.w = w → X.K = K → X.calm = true → ∀ (i : Nat) (pins : List (Addr × Obj)) (s : Shared) (σ : St) (H : Hp) (E : Value → Shared → Prop), Inv X pins σ H s → (∀ b ∈ fp, FpOk X pins H b) → tn i s.heap → J.go i H →
    wpAny (model P w) X.A (pyNext (.ref it)) (fun r s1 => ∃ u, r = some u ∧
      wpAny (model P w) X.A (letOwnedTupleGo tg (.ref it) u) (fun _ s2 => ∃ x H', Inv X pins σ H' s2 ∧ RelV x u ∧ J.yld i H x H' ∧ tn (i + 1) s2.heap ∧ ∀ b ∈ fp, H' b = none) E s1) E s
  done : ∀ (X : Cx), X.prog = P → X.w = w → X.K = K → X.calm = true → ∀ (i : Nat) (pins : List (Addr × Obj)) (s : Shared) (σ : St) (H : Hp) (E : Value → Shared → Prop), Inv X pins σ H s → (∀ b ∈ fp, FpOk X pins H b) → tn i s.heap → J.stop i H →
    wpAny (model P w) X.A (pyNext (.ref it)) (fun r s1 => r = none ∧ Inv X pins σ H s1) E s
  self : ∀ (A : Around) (i : Nat) (s : Shared) (Q : Value → Shared → Prop) (E : Value → Shared → Prop), tn i s.heap → Q (.ref it) s → wpAny (model P w) A (pyIter (.ref it)) Q E s
abbrev TI := St → Hp → (It → Hp → Prop) → Prop
def PIE (X : Cx) (pins : List (Addr × Obj)) (σ : St) (tg : Expr) (R : It → Hp → Prop) (itv : Value) (s2 : Shared) : Prop :=
  ∃ (it : Addr) (fp : List Addr) (tn : Nat → Heap → Prop) (J : It) (H' : Hp), itv = .ref it ∧ Inv X pins σ H' s2 ∧ Turn X.prog X.w X.K tg J fp it tn ∧ tn 0 s2.heap ∧ (∀ b ∈ fp, FpOk X pins H' b) ∧ R J H'
def PI (X : Cx) (tg iter : Expr) (wi : TI) : Prop :=
  ∀ (pins : List (Addr × Obj)) (s : Shared) (σ : St) (H : Hp) (R : It → Hp → Prop), Inv X pins σ H s → wi σ H R →
    wpAny (model X.prog X.w) X.A (eval iter X.env) (fun v s1 => wpAny (model X.prog X.w) X.A (pyIter v) (PIE X pins σ tg R) X.xe s1) X.xe s
theorem go_of {M : Model} {A : Around} {E : Value → Shared → Prop} {s : Shared} {tg : Expr} {it : Addr} {u : Value} {o : Obj} {n : String} {vs : Array Value} {Q : Unit → Shared → Prop} (ho : s.heap.get? it = some o) (hc : o.cls = .type n) (hd : o.data = .fields vs)
    (hn : ["enumerate", "zip", "dict_itemiterator", "dict_reverseitemiterator", "odict_iterator", "itertools.zip_longest", "itertools.pairwise"].contains n = false) (hQ : Q () s) : wpAny M A (letOwnedTupleGo tg (.ref it) u) Q E s := by
  unfold letOwnedTupleGo
  cases tg <;> first
    | exact wpAny_pure hQ
    | (cases u <;> first
        | exact wpAny_pure hQ
        | (refine wpAny_bind (wpAny_load ho ?_)
           rw [hc, hd]
           show wpAny M A (if (["enumerate", "zip", "dict_itemiterator", "dict_reverseitemiterator", "odict_iterator", "itertools.zip_longest", "itertools.pairwise"].contains n && vs[0]? == some (rawInt _)) = true then _ else _) Q E s
           rw [if_neg (by intro h; rw [hn, Bool.false_and] at h; cases h)]
           exact wpAny_pure hQ))
def Itl (K : PySem.W.Frag) (a : Addr) : It :=
  ⟨fun i H => ∃ xs x, SqL K H a xs ∧ xs[i]? = some x, fun i H x H' => H' = H ∧ ∀ xs, SqL K H a xs → xs[i]? = some x, fun i H => ∃ xs, SqL K H a xs ∧ xs.length ≤ i⟩
def Itt (K : PySem.W.Frag) (a : Addr) : It :=
  ⟨fun i H => ∃ xs x, SqT K H a xs ∧ xs[i]? = some x, fun i H x H' => H' = H ∧ ∀ xs, SqT K H a xs → xs[i]? = some x, fun i H => ∃ xs, SqT K H a xs ∧ xs.length ≤ i⟩
def Itr (lo : Int) (n : Nat) : It := ⟨fun i _ => i < n, fun i H x H' => H' = H ∧ x = .int (lo + i), fun i _ => n ≤ i⟩
theorem turn_list {P : Program} {w : World} {K : PySem.W.Frag} {tg : Expr} (a it : Addr) : Turn P w K tg (Itl K a) [it] it (fun i h => h.IsListIter it a i) where
  mem := by simp
  obj := fun i h st b hb => by
    have e : b = it := by simpa using hb
    subst e
    obtain ⟨o, e, c, d⟩ := st
    exact ⟨o, e, fun v z => by rw [d] at z; cases z⟩
  keep := fun i h h' st k => st.at fun o e => k it (by simp) o e
  item := by
    intro X hP hw hK hc i pins s σ H E I hf st hg
    subst hP hw hK
    obtain ⟨xs, x, hq, hx⟩ := hg
    obtain ⟨its, rv, p, hz⟩ := I.list hq
    obtain ⟨u, hu, ru⟩ := rv.get hx
    obtain ⟨f0, f1, f2, f3, f4, f5⟩ := hf it (by simp)
    refine wpAny_pyNext_list_item st p.isList (x := u) (by simpa using hu) fun h' st' sb => ?_
    have I1 : Inv X pins σ H { s with heap := h' } := I.turned (t' := s.toks) (fun b o hb e => (sb.2 b hb).trans e) f0 f1 f3 f4 f5
    obtain ⟨o, e, c, d⟩ := id st'
    exact ⟨u, rfl, go_of (s := { s with heap := h' }) e c d (by decide) ⟨x, H, I1, ru, ⟨rfl, fun ys hy => by rw [I.list_inj hy hq]; exact hx⟩, st', fun b hb => (hf b hb).1⟩⟩
  done := by
    intro X hP hw hK hc i pins s σ H E I hf st hg
    subst hP hw hK
    obtain ⟨xs, hq, hx⟩ := hg
    obtain ⟨its, rv, p, hz⟩ := I.list hq
    obtain ⟨f0, f1, f2, f3, f4, f5⟩ := hf it (by simp)
    have hl := rv.length
    exact wpAny_pyNext_list_end (I.ok.hd hc) st p.isList (by simp; omega) fun h' eb => ⟨rfl, I.turned (t' := s.toks) (fun b o hb e => eb b o hb e) f0 f1 f3 f4 f5⟩
  self := fun _ _ _ _ _ st h => wpAny_pyIter_listiter st h
theorem turn_tuple {P : Program} {w : World} {K : PySem.W.Frag} {tg : Expr} (a it : Addr) : Turn P w K tg (Itt K a) [it] it (fun i h => h.IsTupleIter it a i) where
  mem := by simp
  obj := fun i h st b hb => by
    have e : b = it := by simpa using hb
    subst e
    obtain ⟨o, e, c, d⟩ := st
    exact ⟨o, e, fun v z => by rw [d] at z; cases z⟩
  keep := fun i h h' st k => st.at fun o e => k it (by simp) o e
  item := by
    intro X hP hw hK hc i pins s σ H E I hf st hg
    subst hP hw hK
    obtain ⟨xs, x, hq, hx⟩ := hg
    obtain ⟨its, rv, p, hz⟩ := I.tuple hq
    obtain ⟨u, hu, ru⟩ := rv.get hx
    obtain ⟨f0, f1, f2, f3, f4, f5⟩ := hf it (by simp)
    refine wpAny_pyNext_tuple_item st (show s.heap.IsTuple a its.toArray from p) (x := u) (by simpa using hu) fun h' st' sb => ?_
    have I1 : Inv X pins σ H { s with heap := h' } := I.turned (t' := s.toks) (fun b o hb e => (sb.2 b hb).trans e) f0 f1 f3 f4 f5
    obtain ⟨o, e, c, d⟩ := id st'
    exact ⟨u, rfl, go_of (s := { s with heap := h' }) e c d (by decide) ⟨x, H, I1, ru, ⟨rfl, fun ys hy => by rw [I.tuple_inj hy hq]; exact hx⟩, st', fun b hb => (hf b hb).1⟩⟩
  done := by
    intro X hP hw hK hc i pins s σ H E I hf st hg
    subst hP hw hK
    obtain ⟨xs, hq, hx⟩ := hg
    obtain ⟨its, rv, p, hz⟩ := I.tuple hq
    obtain ⟨f0, f1, f2, f3, f4, f5⟩ := hf it (by simp)
    have hl := rv.length
    exact wpAny_pyNext_tuple_end (I.ok.hd hc) st (show s.heap.IsTuple a its.toArray from p) (by simp; omega) fun h' eb => ⟨rfl, I.turned (t' := s.toks) (fun b o hb e => eb b o hb e) f0 f1 f3 f4 f5⟩
  self := fun _ _ _ _ _ st h => wpAny_pyIter_tupleiter st h
theorem turn_range {P : Program} {w : World} {K : PySem.W.Frag} {tg : Expr} (it : Addr) (lo : Int) (n : Nat) : Turn P w K tg (Itr lo n) [it] it (fun i h => IsRangeIter h it (lo + (i : Nat) * 1) ((n : Int) - (i : Nat)) 1) where
  mem := by simp
  obj := fun i h st b hb => by
    have e : b = it := by simpa using hb
    subst e
    exact ⟨_, st, fun v z => by
      have z' : Data.fields _ = Data.cell v := z
      cases z'⟩
  keep := fun i h h' st k => k it (by simp) _ st
  item := by
    intro X hP hw hK hc i pins s σ H E I hf st hg
    subst hP hw hK
    obtain ⟨f0, f1, f2, f3, f4, f5⟩ := hf it (by simp)
    have W := Walks.range (prog := X.prog) (w := X.w) (I.ok.hd hc) it lo 1 n
    refine W.item i s _ _ hg st fun v h' tk hv st' kk => ?_
    obtain ⟨t, rfl⟩ := hv
    have I1 : Inv X pins σ H { s with heap := h', toks := tk } := I.turned (fun b o hb e => kk b o (by simpa using hb) e) f0 f1 f3 f4 f5
    refine ⟨_, rfl, go_of (s := { s with heap := h', toks := tk }) (n := "range_iterator") st' rfl rfl (by decide) ⟨.int (lo + i), H, I1, ⟨t, ?_⟩, ⟨rfl, rfl⟩, st', fun b hb => (hf b hb).1⟩⟩
    rw [Int.mul_one]
  done := by
    intro X hP hw hK hc i pins s σ H E I hf st hg
    subst hP hw hK
    obtain ⟨f0, f1, f2, f3, f4, f5⟩ := hf it (by simp)
    exact wpAny_pyNext_range_end (I.ok.hd hc) st (by have : n ≤ i := hg; omega) fun h' eb => ⟨rfl, I.turned (t' := s.toks) (fun b o hb e => eb b o hb e) f0 f1 f3 f4 f5⟩
  self := fun _ _ _ _ _ st h => wpAny_pyIter_rangeiter st h
end L2
namespace L2
open PySem PySem.Spec PyProof.Rows
section
variable {X : Cx} {tg : Expr}
def iList (K : PySem.W.Frag) (tl : TE) : TI := fun σ H R => tl σ H fun x H1 => ∃ a, x = .ref a ∧ (∃ xs, SqL K H1 a xs) ∧ R (Itl K a) H1
def iTup (K : PySem.W.Frag) (tl : TE) : TI := fun σ H R => tl σ H fun x H1 => ∃ a, x = .ref a ∧ (∃ xs, SqT K H1 a xs) ∧ R (Itt K a) H1
theorem pi_list {l : Expr} {tl : TE} (hl : PE X l tl) : PI X tg l (iList X.K tl) := by
  intro pins s σ H R I h
  refine thn (hl pins s σ H _ I h) fun v s1 ⟨x, H1, I1, r1, q1⟩ => ?_
  obtain ⟨a, e, ⟨xs, hq⟩, q⟩ := q1
  subst e
  cases r1
  obtain ⟨its, rv, p, hz⟩ := I1.list hq
  refine wpAny_pyIter_list p.isList ?_
  refine ⟨s1.heap.objs.size, [s1.heap.objs.size], _, _, H1, rfl, I1.kept (t' := s1.toks) fun b o e => Heap.get?_push_of_some _ e, turn_list a _, ⟨_, Heap.get?_push_size _ rfl, rfl, rfl⟩, fun b hb => ?_, q⟩
  have e : b = s1.heap.objs.size := by simpa using hb
  subst e
  exact I1.fpOk (Nat.le_refl _) (I1.hok.fresh (Nat.le_refl _))
theorem pi_tup {l : Expr} {tl : TE} (hl : PE X l tl) : PI X tg l (iTup X.K tl) := by
  intro pins s σ H R I h
  refine thn (hl pins s σ H _ I h) fun v s1 ⟨x, H1, I1, r1, q1⟩ => ?_
  obtain ⟨a, e, ⟨xs, hq⟩, q⟩ := q1
  subst e
  cases r1
  obtain ⟨its, rv, p, hz⟩ := I1.tuple hq
  refine wpAny_pyIter_tuple (show s1.heap.IsTuple a its.toArray from p) ?_
  refine ⟨s1.heap.objs.size, [s1.heap.objs.size], _, _, H1, rfl, I1.kept (t' := s1.toks) fun b o e => Heap.get?_push_of_some _ e, turn_tuple a _, ⟨_, Heap.get?_push_size _ rfl, rfl, rfl⟩, fun b hb => ?_, q⟩
  have e : b = s1.heap.objs.size := by simpa using hb
  subst e
  exact I1.fpOk (Nat.le_refl _) (I1.hok.fresh (Nat.le_refl _))
theorem range_it {pins : List (Addr × Obj)} {σ : St} {H : Hp} {s : Shared} {R : It → Hp → Prop} {E : Value → Shared → Prop} {lo hi : Int} {t u v : Tok} {tk : Nat} (I : Inv X pins σ H s) (h1 : -(2 ^ 62) ≤ lo) (h2 : lo < 2 ^ 62) (h3 : -(2 ^ 62) ≤ hi) (h4 : hi < 2 ^ 62)
    (q : R (Itr lo (hi - lo).toNat) H) : wpAny (model X.prog X.w) X.A (pyIter (.ref s.heap.objs.size)) (PIE X pins σ tg R) E { s with heap := s.heap.push { cls := .type "range", data := .fields #[.int lo t, .int hi u, .int 1 v] }, toks := tk } := by
  refine wpAny_pyIter_range (IsRange.new ..) (small_one h1 h2 h3 h4) ?_
  have I1 : Inv X pins σ H { s with heap := s.heap.push { cls := .type "range", data := .fields #[.int lo t, .int hi u, .int 1 v] }, toks := tk } := I.kept fun b o e => Heap.get?_push_of_some _ e
  refine ⟨(s.heap.push { cls := .type "range", data := .fields #[.int lo t, .int hi u, .int 1 v] }).objs.size, [(s.heap.push { cls := .type "range", data := .fields #[.int lo t, .int hi u, .int 1 v] }).objs.size], _, _, H, rfl,
    I1.kept (t' := tk) fun b o e => Heap.get?_push_of_some _ e, turn_range _ lo (hi - lo).toNat, ?_, fun b hb => ?_, q⟩
  · have e1 : lo + ((0 : Nat) : Int) * 1 = lo := by simp
    have e2 : (((hi - lo).toNat : Nat) : Int) - ((0 : Nat) : Int) = Builtin.Range.rangeSize lo hi 1 := by rw [rangeSize_one]; split <;> omega
    show IsRangeIter _ _ (lo + ((0 : Nat) : Int) * 1) ((((hi - lo).toNat : Nat) : Int) - ((0 : Nat) : Int)) 1
    rw [e1, e2]
    exact Heap.get?_push_size _ rfl
  · have e : b = (s.heap.push { cls := .type "range", data := .fields #[.int lo t, .int hi u, .int 1 v] }).objs.size := by simpa using hb
    subst e
    exact I1.fpOk (Nat.le_refl _) (I1.hok.fresh (Nat.le_refl _))
def iRng1 (ta : TA) : TI := fun σ H R => ta σ H fun vs H1 => ∃ j : Int, vs = [.int j] ∧ -(2 ^ 62) ≤ j ∧ j < 2 ^ 62 ∧ R (Itr 0 j.toNat) H1
def iRng2 (ta : TA) : TI := fun σ H R => ta σ H fun vs H1 => ∃ i j : Int, vs = [.int i, .int j] ∧ (-(2 ^ 62) ≤ i ∧ i < 2 ^ 62 ∧ -(2 ^ 62) ≤ j ∧ j < 2 ^ 62) ∧ R (Itr i (j - i).toNat) H1
theorem pi_range1 {a : Expr} {ta : TA} {p pos : PySem.Pos} (hg : Gl X "range") (hm : X.mg "range" = none) (ha : PA X [a] ta) (hs : starEach [a] X.env = [(false, eval a X.env)] := by rfl) : PI X tg (.Call (.Name "range" p) [a] [] pos) (iRng1 ta) := by
  intro pins s σ H R I h
  refine Call_ (ld_blt I hg hm boot_range (PyProof.Rows.callWith_type1 (thn (ha pos pins s σ H _ I h) fun us s1 ⟨vs, H1, I1, r1, q1⟩ => ?_) hs rfl))
  obtain ⟨j, e, q1, q2, q⟩ := q1
  subst e
  cases r1 with
  | cons r rr =>
    cases rr
    obtain ⟨t, rfl⟩ := r
    exact call_range_1 (range_it I1 (by omega) (by omega) q1 q2 (by simpa using q))
theorem pi_range2 {a b : Expr} {ta : TA} {p pos : PySem.Pos} (hg : Gl X "range") (hm : X.mg "range" = none) (ha : PA X [a, b] ta) (hs : starEach [a, b] X.env = [(false, eval a X.env), (false, eval b X.env)] := by rfl) (hs2 : starEach [b] X.env = [(false, eval b X.env)] := by rfl) :
    PI X tg (.Call (.Name "range" p) [a, b] [] pos) (iRng2 ta) := by
  intro pins s σ H R I h
  refine Call_ (ld_blt I hg hm boot_range (PyProof.Rows.callWith_type1 (thn (ha pos pins s σ H _ I h) fun us s1 ⟨vs, H1, I1, r1, q1⟩ => ?_) (by rw [hs, hs2]) (by rw [hs2]; rfl)))
  obtain ⟨i, j, e, ⟨q1, q2, q3, q4⟩, q⟩ := q1
  subst e
  cases r1 with
  | cons r rr =>
    cases rr with
    | cons r' rr =>
      cases rr
      obtain ⟨t, rfl⟩ := r
      obtain ⟨t', rfl⟩ := r'
      exact call_range_2 (range_it I1 q1 q2 q3 q4 q)
def tFor (wi : TI) (g : TG) (tb : TS) : TS := fun D σ H => wi σ H fun J H1 => ∃ W : Nat → Nat → St → Hp → Prop, (∃ m, W 0 m σ H1) ∧ ∀ i m σ H, W i m σ H →
  (J.stop i H ∧ D.nx σ H) ∨ (J.go i H ∧ ∃ N : St → Hp → Prop, (∀ σ' H', N σ' H' → ∃ m', m' < m ∧ W (i + 1) m' σ' H') ∧ ∀ x H', J.yld i H x H' → g x σ H' fun σ2 H2 => tb { D with nx := N, ct := N, bk := D.nx } σ2 H2)
def pinsAt (fp : List Addr) (h : Heap) : List (Addr × Obj) := fp.filterMap fun b => (h.get? b).map fun o => (b, o)
theorem mem_pinsAt {fp : List Addr} {h : Heap} {b : Addr} {o : Obj} (hb : b ∈ fp) (e : h.get? b = some o) : (b, o) ∈ pinsAt fp h := List.mem_filterMap.mpr ⟨b, hb, by rw [e]; rfl⟩
theorem of_pinsAt {fp : List Addr} {h : Heap} {p : Addr × Obj} (hp : p ∈ pinsAt fp h) : p.1 ∈ fp ∧ h.get? p.1 = some p.2 := by
  obtain ⟨b, hb, e⟩ := List.mem_filterMap.mp hp
  cases q : h.get? b with
  | none => rw [q] at e; cases e
  | some o =>
    rw [q] at e
    have e' : (b, o) = p := Option.some.inj e
    subst e'
    exact ⟨hb, q⟩
theorem Inv.pinned {pins : List (Addr × Obj)} {σ : St} {H : Hp} {s : Shared} {fp : List Addr} (I : Inv X pins σ H s) (hf : ∀ b ∈ fp, FpOk X pins H b) (ho : ∀ b ∈ fp, ∃ o, s.heap.get? b = some o ∧ ∀ v, o.data ≠ .cell v) : Inv X (pins ++ pinsAt fp s.heap) σ H s :=
  I.pins_of fun p hp => (List.mem_append.mp hp).elim (fun z => I.pin p (List.mem_append_right _ z)) fun z => by
    obtain ⟨hb, e⟩ := of_pinsAt z
    obtain ⟨f0, f1, f2, _⟩ := hf p.1 hb
    obtain ⟨o, e', d⟩ := ho p.1 hb
    rw [e] at e'; cases e'
    exact ⟨e, f0, f1, f2, d⟩
theorem Inv.unpinned {pins pl : List (Addr × Obj)} {σ : St} {H : Hp} {s : Shared} (I : Inv X (pins ++ pl) σ H s) : Inv X pins σ H s := I.pins_of fun p hp => I.pin p (List.mem_append_right _ (List.mem_append_left _ hp))
theorem ps_for {iter : Expr} {body : List Stmt} {wi : TI} {g : TG} {tb : TS} {pos : PySem.Pos} (hp : PassesOwn (model X.prog X.w) X.A X.env X.xe) (hc : X.calm = true) (hi : PI X tg iter wi) (hg : PG X tg g) (hb : PSs X body tb)
    (hs : ∀ x, foldedSetIterable iter X.env x = pure x := by intro _; rfl) : PS X (.For tg iter body [] pos) (tFor wi g tb) := by
  intro pins s σ H D I h
  refine wpAny_For (thn (hi pins s σ H _ I h) fun v s1 h1 => thn h1 fun itv s2 h2 => ?_) hs
  obtain ⟨it, fp, tn, J, H2, e, I2, T, st2, f2, W, ⟨m0, w0⟩, turn⟩ := h2
  subst e
  have stat : ∀ {H' : Hp}, (∀ b ∈ fp, H' b = none) → ∀ b ∈ fp, FpOk X pins H' b := fun hn b hb => ⟨hn b hb, (f2 b hb).2⟩
  refine codeAny_forLoop_any (fun n s' => ∃ i σ' H', Inv X pins σ' H' s' ∧ tn i s'.heap ∧ (∀ b ∈ fp, H' b = none) ∧ W i n σ' H') ?_ m0 ⟨0, σ, H2, I2, st2, fun b hb => (f2 b hb).1, w0⟩
  rintro n s3 ⟨i, σ3, H3, I3, st3, fr3, w3⟩
  rcases turn i n σ3 H3 w3 with ⟨stop, qn⟩ | ⟨go, N, hN, step⟩
  · refine wpAny_passesOwn hp (thn (T.done X rfl rfl rfl hc i pins s3 σ3 H3 X.xe I3 (stat fr3) st3 stop) fun r s4 ⟨hr, I4⟩ => ?_)
    subst hr
    exact wpAny_execs_nil ⟨σ3, H3, I4, qn⟩
  · refine wpAny_passesOwn hp (thn (T.item X rfl rfl rfl hc i pins s3 σ3 H3 X.xe I3 (stat fr3) st3 go) fun r s4 ⟨u, hr, h4⟩ => ?_)
    subst hr
    refine wpAny_passesOwn hp (thn h4 fun _ s5 ⟨x, H5, I5, r5, y5, st5, fr5⟩ => ?_)
    have I5' := I5.pinned (stat fr5) (T.obj _ _ st5)
    refine wpAny_passesOwn hp (thn (hg _ s5 σ3 H5 x u _ I5' r5 (step x H5 y5)) fun _ s6 ⟨σ6, H6, I6, q6⟩ => ?_)
    refine wpAny_passesOwn hp (thn (hb _ s6 σ6 H6 _ I6 q6) fun f s7 q7 => ?_)
    have again : ∀ {σ7 : St} {H7 : Hp}, Inv X (pins ++ pinsAt fp s5.heap) σ7 H7 s7 → N σ7 H7 → ∃ m, m < n ∧ ∃ i σ' H', Inv X pins σ' H' s7 ∧ tn i s7.heap ∧ (∀ b ∈ fp, H' b = none) ∧ W i m σ' H' := fun {σ7 H7} I7 n7 => by
      obtain ⟨m', hm, w7⟩ := hN σ7 H7 n7
      refine ⟨m', hm, i + 1, σ7, H7, I7.unpinned, T.keep _ _ _ st5 fun b hb o e => (I7.pin (b, o) (List.mem_append_right _ (List.mem_append_right _ (mem_pinsAt hb e)))).1, fun b hb => ?_, w7⟩
      obtain ⟨o, e, d⟩ := T.obj _ _ st5 b hb
      exact (I7.pin (b, o) (List.mem_append_right _ (List.mem_append_right _ (mem_pinsAt hb e)))).2.1
    cases f with
    | next => obtain ⟨σ7, H7, I7, n7⟩ := q7; exact again I7 n7
    | cont => obtain ⟨σ7, H7, I7, n7⟩ := q7; exact again I7 n7
    | brk => obtain ⟨σ7, H7, I7, q7⟩ := q7; exact ⟨σ7, H7, I7.unpinned, q7⟩
    | ret v => obtain ⟨x7, σ7, H7, I7, r7, q7⟩ := q7; exact ⟨x7, σ7, H7, I7.unpinned, r7, q7⟩
end
theorem for_list {K : PySem.W.Frag} {a : Addr} {xs : List V} {g : TG} {tb : TS} {D : Ends} {σ : St} {H : Hp} (Pv : Nat → St → Hp → Prop) (h0 : Pv 0 σ H) (hl : ∀ i σ H, i ≤ xs.length → Pv i σ H → SqL K H a xs)
    (hs : ∀ i x σ H, xs[i]? = some x → Pv i σ H → g x σ H fun σ2 H2 => tb { D with nx := Pv (i + 1), ct := Pv (i + 1), bk := D.nx } σ2 H2) (hd : ∀ σ H, Pv xs.length σ H → D.nx σ H) :
    ∃ W : Nat → Nat → St → Hp → Prop, (∃ m, W 0 m σ H) ∧ ∀ i m σ H, W i m σ H →
      ((Itl K a).stop i H ∧ D.nx σ H) ∨ ((Itl K a).go i H ∧ ∃ N : St → Hp → Prop, (∀ σ' H', N σ' H' → ∃ m', m' < m ∧ W (i + 1) m' σ' H') ∧ ∀ x H', (Itl K a).yld i H x H' → g x σ H' fun σ2 H2 => tb { D with nx := N, ct := N, bk := D.nx } σ2 H2) := by
  refine ⟨fun i m σ H => m = xs.length - i ∧ i ≤ xs.length ∧ Pv i σ H, ⟨xs.length, by simp, Nat.zero_le _, h0⟩, ?_⟩
  rintro i m σ H ⟨rfl, hi, p⟩
  have q := hl i σ H hi p
  by_cases hlt : i < xs.length
  · refine .inr ⟨⟨xs, xs[i], q, by simp [hlt]⟩, Pv (i + 1), fun σ' H' p' => ⟨xs.length - (i + 1), by omega, rfl, hlt, p'⟩, fun x H' y => ?_⟩
    obtain ⟨e, y⟩ := y
    subst e
    exact hs i x σ _ (y xs q) p
  · have e : i = xs.length := by omega
    subst e
    exact .inl ⟨⟨xs, q, Nat.le_refl _⟩, hd σ H p⟩
theorem for_tup {K : PySem.W.Frag} {a : Addr} {xs : List V} {g : TG} {tb : TS} {D : Ends} {σ : St} {H : Hp} (Pv : Nat → St → Hp → Prop) (h0 : Pv 0 σ H) (hl : ∀ i σ H, i ≤ xs.length → Pv i σ H → SqT K H a xs)
    (hs : ∀ i x σ H, xs[i]? = some x → Pv i σ H → g x σ H fun σ2 H2 => tb { D with nx := Pv (i + 1), ct := Pv (i + 1), bk := D.nx } σ2 H2) (hd : ∀ σ H, Pv xs.length σ H → D.nx σ H) :
    ∃ W : Nat → Nat → St → Hp → Prop, (∃ m, W 0 m σ H) ∧ ∀ i m σ H, W i m σ H →
      ((Itt K a).stop i H ∧ D.nx σ H) ∨ ((Itt K a).go i H ∧ ∃ N : St → Hp → Prop, (∀ σ' H', N σ' H' → ∃ m', m' < m ∧ W (i + 1) m' σ' H') ∧ ∀ x H', (Itt K a).yld i H x H' → g x σ H' fun σ2 H2 => tb { D with nx := N, ct := N, bk := D.nx } σ2 H2) := by
  refine ⟨fun i m σ H => m = xs.length - i ∧ i ≤ xs.length ∧ Pv i σ H, ⟨xs.length, by simp, Nat.zero_le _, h0⟩, ?_⟩
  rintro i m σ H ⟨rfl, hi, p⟩
  have q := hl i σ H hi p
  by_cases hlt : i < xs.length
  · refine .inr ⟨⟨xs, xs[i], q, by simp [hlt]⟩, Pv (i + 1), fun σ' H' p' => ⟨xs.length - (i + 1), by omega, rfl, hlt, p'⟩, fun x H' y => ?_⟩
    obtain ⟨e, y⟩ := y
    subst e
    exact hs i x σ _ (y xs q) p
  · have e : i = xs.length := by omega
    subst e
    exact .inl ⟨⟨xs, q, Nat.le_refl _⟩, hd σ H p⟩
theorem for_range {lo : Int} {n : Nat} {g : TG} {tb : TS} {D : Ends} {σ : St} {H : Hp} (Pv : Nat → St → Hp → Prop) (h0 : Pv 0 σ H)
    (hs : ∀ i σ H, i < n → Pv i σ H → g (.int (lo + i)) σ H fun σ2 H2 => tb { D with nx := Pv (i + 1), ct := Pv (i + 1), bk := D.nx } σ2 H2) (hd : ∀ σ H, Pv n σ H → D.nx σ H) :
    ∃ W : Nat → Nat → St → Hp → Prop, (∃ m, W 0 m σ H) ∧ ∀ i m σ H, W i m σ H →
      ((Itr lo n).stop i H ∧ D.nx σ H) ∨ ((Itr lo n).go i H ∧ ∃ N : St → Hp → Prop, (∀ σ' H', N σ' H' → ∃ m', m' < m ∧ W (i + 1) m' σ' H') ∧ ∀ x H', (Itr lo n).yld i H x H' → g x σ H' fun σ2 H2 => tb { D with nx := N, ct := N, bk := D.nx } σ2 H2) := by
  refine ⟨fun i m σ H => m = n - i ∧ i ≤ n ∧ Pv i σ H, ⟨n, by simp, Nat.zero_le _, h0⟩, ?_⟩
  rintro i m σ H ⟨rfl, hi, p⟩
  by_cases hlt : i < n
  · refine .inr ⟨hlt, Pv (i + 1), fun σ' H' p' => ⟨n - (i + 1), by omega, rfl, hlt, p'⟩, fun x H' y => ?_⟩
    obtain ⟨e, y⟩ := y
    subst e y
    exact hs i σ _ hlt p
  · have e : i = n := by omega
    subst e
    exact .inl ⟨Nat.le_refl _, hd σ H p⟩
theorem while_by {c : TT} {tb : TS} {D : Ends} {σ : St} {H : Hp} (Pv : St → Hp → Prop) (μ : St → Hp → Nat) (h0 : Pv σ H)
    (hs : ∀ σ H, Pv σ H → c σ H fun b H1 => if b = true then tb { D with nx := fun σ' H' => Pv σ' H' ∧ μ σ' H' < μ σ H, ct := fun σ' H' => Pv σ' H' ∧ μ σ' H' < μ σ H, bk := D.nx } σ H1 else D.nx σ H1)
    (mono : ∀ σ H Q Q', (∀ b H1, Q b H1 → Q' b H1) → c σ H Q → c σ H Q') : tWhile c tb D σ H := by
  refine ⟨fun m σ H => m = μ σ H ∧ Pv σ H, ⟨_, rfl, h0⟩, ?_⟩
  rintro m σ H ⟨rfl, p⟩
  refine mono σ H _ _ (fun b H1 q => ?_) (hs σ H p)
  cases b with
  | true => exact ⟨_, fun σ' H' ⟨p', l⟩ => ⟨_, l, rfl, p'⟩, q⟩
  | false => exact q
end L2
namespace L2
open PySem PySem.Spec PyProof.Rows
abbrev R2 := V → V → Hp → VK → Prop
def OpR (X : Cx) (f : Value → Value → Sem Value) (r : R2) : Prop :=
  ∀ (pins : List (Addr × Obj)) (s : Shared) (σ : St) (H : Hp) (x y : V) (v u : Value) (Q : VK), Inv X pins σ H s → RelV x v → RelV y u → r x y H Q →
    wpAny (model X.prog X.w) X.A (f v u) (EP X pins σ Q) X.xe s
def CallR (X : Cx) (f : Value) (r : List V → Hp → VK → Prop) : Prop :=
  ∀ (pins : List (Addr × Obj)) (s : Shared) (σ : St) (H : Hp) (xs : List V) (us : List Value) (Q : VK), Inv X pins σ H s → Vals xs us → r xs H Q →
    wpAny (model X.prog X.w) X.A (call f us) (EP X pins σ Q) X.xe s
def TruR (X : Cx) (r : V → Hp → (Bool → Hp → Prop) → Prop) : Prop :=
  ∀ (pins : List (Addr × Obj)) (s : Shared) (σ : St) (H : Hp) (x : V) (v : Value) (Q : Bool → Hp → Prop), Inv X pins σ H s → RelV x v → r x H Q →
    wpAny (model X.prog X.w) X.A (truthy v) (TP X pins σ Q) X.xe s
def tOp (r : R2) (ta tb : TE) : TE := fun σ H Q => ta σ H fun x H1 => tb σ H1 fun y H2 => r x y H2 Q
def rI (C : Int → Int → Prop) (g : Int → Int → V) : R2 := fun x y H Q => ∃ i j, x = .int i ∧ y = .int j ∧ C i j ∧ Q (g i j) H
def rI0 (g : Int → Int → V) : R2 := fun x y H Q => ∃ i j, x = .int i ∧ y = .int j ∧ Q (g i j) H
section
variable {X : Cx} {a b c : Expr} {ta tb tc : TE} {pos : PySem.Pos}
theorem binT (ha : PE X a ta) (hb : PE X b tb) {pins : List (Addr × Obj)} {s : Shared} {σ : St} {H : Hp} {R : V → V → Hp → Prop} (I : Inv X pins σ H s)
    (h : ta σ H fun x H1 => tb σ H1 fun y H2 => R x y H2) {Q : Value → Shared → Prop} {f : Value → Value → Sem Value}
    (hf : ∀ v u s2 x y H2, Inv X pins σ H2 s2 → RelV x v → RelV y u → R x y H2 → wpAny (model X.prog X.w) X.A (f v u) Q X.xe s2) :
    wpAny (model X.prog X.w) X.A (eval a X.env) (fun v s₁ => wpAny (model X.prog X.w) X.A (eval b X.env) (fun u s₂ => wpAny (model X.prog X.w) X.A (f v u) Q X.xe s₂) X.xe s₁) X.xe s := by
  refine thn (ha pins s σ H _ I h) fun v s1 ⟨x, H1, I1, r1, q1⟩ => ?_
  refine thn (hb pins s1 σ H1 _ I1 q1) fun u s2 ⟨y, H2, I2, r2, q2⟩ => ?_
  exact hf v u s2 x y H2 I2 r1 r2 q2
theorem pe_op {op : Operator} {r : R2} (ho : OpR X (binaryOp op) r) (ha : PE X a ta) (hb : PE X b tb) : PE X (.BinOp a op b pos) (tOp r ta tb) := by
  intro pins s σ H Q I h
  exact wpAny_BinOp (binT ha hb I h fun v u s2 x y H2 I2 rx ry q => ho pins s2 σ H2 x y v u Q I2 rx ry q)
theorem opI {f : Value → Value → Sem Value} {C : Int → Int → Prop} {g : Int → Int → Int}
    (rule : ∀ (i j : Int) (t u : Tok) (s : Shared) (Q : Value → Shared → Prop) (E : Value → Shared → Prop), C i j → Q (.int (g i j) s.toks) { s with toks := s.toks + 1 } → wpAny (model X.prog X.w) X.A (f (.int i t) (.int j u)) Q E s) :
    OpR X f (rI C fun i j => .int (g i j)) := by
  intro pins s σ H x y v u Q I rx ry h
  obtain ⟨i, j, rfl, rfl, hc, q⟩ := h
  obtain ⟨t, rfl⟩ := rx
  obtain ⟨t', rfl⟩ := ry
  exact rule i j t t' s _ _ hc ⟨.int (g i j), H, I.tok _, ⟨_, rfl⟩, q⟩
theorem opI0 {f : Value → Value → Sem Value} {g : Int → Int → Int}
    (rule : ∀ (i j : Int) (t u : Tok) (s : Shared) (Q : Value → Shared → Prop) (E : Value → Shared → Prop), Q (.int (g i j) s.toks) { s with toks := s.toks + 1 } → wpAny (model X.prog X.w) X.A (f (.int i t) (.int j u)) Q E s) :
    OpR X f (rI0 fun i j => .int (g i j)) := by
  intro pins s σ H x y v u Q I rx ry h
  obtain ⟨i, j, rfl, rfl, q⟩ := h
  obtain ⟨t, rfl⟩ := rx
  obtain ⟨t', rfl⟩ := ry
  exact rule i j t t' s _ _ ⟨.int (g i j), H, I.tok _, ⟨_, rfl⟩, q⟩
theorem opB0 {f : Value → Value → Sem Value} {g : Int → Int → Bool}
    (rule : ∀ (i j : Int) (t u : Tok) (s : Shared) (Q : Value → Shared → Prop) (E : Value → Shared → Prop), Q (.bool (g i j)) s → wpAny (model X.prog X.w) X.A (f (.int i t) (.int j u)) Q E s) :
    OpR X f (rI0 fun i j => .bl (g i j)) := by
  intro pins s σ H x y v u Q I rx ry h
  obtain ⟨i, j, rfl, rfl, q⟩ := h
  obtain ⟨t, rfl⟩ := rx
  obtain ⟨t', rfl⟩ := ry
  exact rule i j t t' s _ _ ⟨.bl (g i j), H, I, rfl, q⟩
def CPow (i j : Int) : Prop := 0 ≤ j ∧ j ≤ 1000000 ∧ i.natAbs < 2 ^ 64
def CMul (i j : Int) : Prop := (-(2 ^ 64) < i ∧ i < 2 ^ 64) ∨ (-(2 ^ 64) < j ∧ j < 2 ^ 64)
theorem CMul.ok {i j : Int} (h : CMul i j) : IntMulOk i j := by
  rcases h with ⟨h1, h2⟩ | ⟨h1, h2⟩
  · exact .of_left (intBits_le_64 h1 h2)
  · exact .of_right (intBits_le_64 h1 h2)
theorem op_add : OpR X (binaryOp .Add) (rI0 fun i j => .int (i + j)) := opI0 fun _ _ _ _ _ _ _ q => add_int q
theorem op_sub : OpR X (binaryOp .Sub) (rI0 fun i j => .int (i - j)) := opI0 fun _ _ _ _ _ _ _ q => sub_int q
theorem op_mul : OpR X (binaryOp .Mult) (rI CMul fun i j => .int (i * j)) := opI fun _ _ _ _ _ _ _ hc q => mul_int q hc.ok
theorem op_mod : OpR X (binaryOp .Mod) (rI (fun _ j => 0 < j) fun i j => .int (i % j)) := opI fun i j _ _ _ _ _ hc q => by
  have h1 : (0 : Int) < j := hc
  exact mod_int' (by omega) (by rw [Int.fmod_eq_emod_of_nonneg i (by omega)]; exact q)
theorem op_pow : OpR X (binaryOp .Pow) (rI CPow fun i j => .int (i ^ j.toNat)) := opI fun _ _ _ _ _ _ _ hc q => pow_int_small hc.1 hc.2.1 hc.2.2 q
end
def scal : V → V → Bool
  | .non, .non => true | .non, .int _ => true | .int _, .non => true | .non, .bl _ => true | .bl _, .non => true | .non, .str _ => true | .str _, .non => true
  | .int _, .int _ => true | .bl _, .bl _ => true | .str _, .str _ => true | .byt _, .byt _ => true
  | .int _, .str _ => true | .str _, .int _ => true | .bl _, .str _ => true | .str _, .bl _ => true
  | _, _ => false
def rEq : R2 := fun x y H Q => scal x y = true ∧ Q (.bl (decide (x = y))) H
theorem dec_int {i j : Int} : decide (V.int i = V.int j) = (i == j) := by
  rw [Bool.eq_iff_iff]
  simp
theorem dec_bl {i j : Bool} : decide (V.bl i = V.bl j) = (i == j) := by
  rw [Bool.eq_iff_iff]
  simp
theorem dec_str {i j : Str} : decide (V.str i = V.str j) = (i == j) := by
  rw [Bool.eq_iff_iff]
  simp
theorem dec_byt {i j : Array UInt8} : decide (V.byt i = V.byt j) = (i.toList == j.toList) := by
  rw [Bool.eq_iff_iff]
  cases i
  cases j
  simp
section
variable {X : Cx} {a b c : Expr} {ta tb tc : TE} {pos : PySem.Pos}
theorem fin_bl {pins : List (Addr × Obj)} {σ : St} {H : Hp} {s : Shared} {Q : VK} {k k' : Bool} (I : Inv X pins σ H s) (q : Q (.bl k) H) (e : k = k') : EP X pins σ Q (.bool k') s := by
  subst e
  exact ⟨.bl k, H, I, rfl, q⟩
theorem op_eq : OpR X (compareOp .Eq) rEq := by
  intro pins s σ H x y v u Q I rx ry h
  obtain ⟨hs, q⟩ := h
  cases x with
  | non =>
    cases rx
    cases y with
    | non => cases ry; exact PySem.EqNone.eq_none_none (fin_bl I q (by simp))
    | bl j => cases ry; exact PySem.EqNone.eq_none_bool (fin_bl I q (by simp))
    | int j => obtain ⟨t', rfl⟩ := ry; exact PySem.EqNone.eq_none_int (fin_bl I q (by simp))
    | str j => obtain ⟨t', rfl⟩ := ry; exact PySem.EqNone.eq_none_str (fin_bl I q (by simp))
    | _ => exact absurd (show false = true from hs) Bool.false_ne_true
  | bl i =>
    cases rx
    cases y with
    | non => cases ry; exact PySem.EqNone.eq_bool_none (fin_bl I q (by simp))
    | bl j => cases ry; exact eq_bool (fin_bl I q dec_bl)
    | str j => obtain ⟨t', rfl⟩ := ry; exact PySem.EqMixed.eq_bool_str (fin_bl I q (by simp))
    | _ => exact absurd (show false = true from hs) Bool.false_ne_true
  | int i =>
    obtain ⟨t, rfl⟩ := rx
    cases y with
    | non => cases ry; exact PySem.EqNone.eq_int_none (fin_bl I q (by simp))
    | int j => obtain ⟨t', rfl⟩ := ry; exact eq_int (fin_bl I q dec_int)
    | str j => obtain ⟨t', rfl⟩ := ry; exact PySem.EqMixed.eq_int_str (fin_bl I q (by simp))
    | _ => exact absurd (show false = true from hs) Bool.false_ne_true
  | str i =>
    obtain ⟨t, rfl⟩ := rx
    cases y with
    | non => cases ry; exact PySem.EqNone.eq_str_none (fin_bl I q (by simp))
    | bl j => cases ry; exact PySem.EqMixed.eq_str_bool (fin_bl I q (by simp))
    | int j => obtain ⟨t', rfl⟩ := ry; exact PySem.EqMixed.eq_str_int (fin_bl I q (by simp))
    | str j => obtain ⟨t', rfl⟩ := ry; exact eq_str (fin_bl I q dec_str)
    | _ => exact absurd (show false = true from hs) Bool.false_ne_true
  | byt i =>
    obtain ⟨t, rfl⟩ := rx
    cases y with
    | byt j => obtain ⟨t', rfl⟩ := ry; exact PySem.W.eq_bytes (fin_bl I q dec_byt)
    | _ => exact absurd (show false = true from hs) Bool.false_ne_true
  | _ => cases y <;> exact absurd (show false = true from hs) Bool.false_ne_true
theorem op_lt : OpR X (compareOp .Lt) (rI0 fun i j => .bl (decide (i < j))) := opB0 fun _ _ _ _ _ _ _ q => lt_int q
theorem op_le : OpR X (compareOp .LtE) (rI0 fun i j => .bl (decide (i ≤ j))) := opB0 fun _ _ _ _ _ _ _ q => le_int q
theorem op_gt : OpR X (compareOp .Gt) (rI0 fun i j => .bl (decide (j < i))) := opB0 fun _ _ _ _ _ _ _ q => gt_int q
theorem op_ge : OpR X (compareOp .GtE) (rI0 fun i j => .bl (decide (j ≤ i))) := opB0 fun _ _ _ _ _ _ _ q => ge_int q
theorem nomark (b : Expr) {op : CmpOp} (h : op ≠ .In := by decide) (h2 : op ≠ .NotIn := by decide) : behindInMarks op b = false := by
  have e1 : (op == CmpOp.In) = false := by cases op <;> first | rfl | exact absurd rfl h
  have e2 : (op == CmpOp.NotIn) = false := by cases op <;> first | rfl | exact absurd rfl h2
  cases b <;> simp [behindInMarks, e1, e2]
theorem pe_cmpR {op : CmpOp} {r : R2} (ho : OpR X (compareOp op) r) (ha : PE X a ta) (hb : PE X b tb) (hm : behindInMarks op b = false) : PE X (.Compare a [op] [b] pos) (tOp r ta tb) := by
  intro pins s σ H Q I h
  exact wpAny_Compare1 (binT ha hb I h fun v u s2 x y H2 I2 rx ry q => ho pins s2 σ H2 x y v u Q I2 rx ry q) hm
def tTest (t : TE) : TT := fun σ H Q => t σ H fun x H' => ∃ k, x = .bl k ∧ Q k H'
theorem pt_cmpR {op : CmpOp} {r : R2} (ho : OpR X (compareOp op) r) (ha : PE X a ta) (hb : PE X b tb) (hm : behindInMarks op b = false) : PT X (.Compare a [op] [b] pos) (tTest (tOp r ta tb)) := by
  intro pins s σ H Q I h
  refine wpAny_isTrue_Compare1 (thn (ha pins s σ H _ I h) fun v s1 ⟨x, H1, I1, r1, q1⟩ => thn (hb pins s1 σ H1 _ I1 q1) fun u s2 ⟨y, H2, I2, r2, q2⟩ =>
    thn (ho pins s2 σ H2 x y v u _ I2 r1 r2 q2) fun c s3 ⟨z, H3, I3, r3, k, e, q3⟩ => ?_) hm
  subst e
  cases r3
  exact wpAny_truthy_bool ⟨H3, I3, q3⟩
def TruV (K : PySem.W.Frag) (x : V) (H : Hp) (k : Bool) : Prop :=
  match x with
  | .non => k = false
  | .bl b => k = b
  | .int i => k = (i != 0)
  | .str y => y.length ≤ sizeLine ∧ k = ((y.length : Int) != 0)
  | .byt y => y.size ≤ sizeLine ∧ k = ((y.size : Int) != 0)
  | .ref p => (∃ xs, SqL K H p xs ∧ k = !xs.isEmpty) ∨ (∃ xs, SqT K H p xs ∧ k = !xs.isEmpty) ∨ ∃ kvs, H p = some (.dK kvs) ∧ k = !kvs.isEmpty
  | _ => False
theorem isEmpty_kv {κ : Type} {kvs : List (κ × V)} {vs : List (κ × Value)} (r : KV kvs vs) : (!vs.isEmpty) = !kvs.isEmpty := by
  cases r <;> rfl
theorem isEmpty_of {xs : List V} {its : List Value} (r : Vals xs its) : (!its.toArray.isEmpty) = !xs.isEmpty := by
  cases r <;> simp
theorem line63 : (sizeLine : Nat) < 2 ^ 63 := by rw [sizeLine_eq]; decide
theorem tru_ok : TruR X (fun x H Q => ∃ k, TruV X.K x H k ∧ Q k H) := by
  intro pins s σ H x v Q I rx h
  obtain ⟨k, e, q⟩ := h
  have hl := line63
  have hs : sizeLine = 16777216 := sizeLine_eq
  cases x with
  | non =>
    cases rx
    have e' : k = false := e
    subst e'
    exact truthy_none ⟨H, I, q⟩
  | bl b =>
    cases rx
    have e' : k = b := e
    subst e'
    exact wpAny_truthy_bool ⟨H, I, q⟩
  | int i =>
    obtain ⟨t, rfl⟩ := rx
    have e' : k = (i != 0) := e
    subst e'
    exact PySem.P.truthy_int ⟨H, I, q⟩
  | str y =>
    obtain ⟨t, rfl⟩ := rx
    obtain ⟨hy, e'⟩ : y.length ≤ sizeLine ∧ k = ((y.length : Int) != 0) := e
    subst e'
    exact PySem.P.truthy_str (by omega) ⟨H, I.tok _, q⟩
  | byt y =>
    obtain ⟨t, rfl⟩ := rx
    obtain ⟨hy, e'⟩ : y.size ≤ sizeLine ∧ k = ((y.size : Int) != 0) := e
    subst e'
    exact PySem.W.truthy_bytes (by omega) ⟨H, I.tok _, q⟩
  | ref p =>
    cases rx
    have e' : (∃ xs, SqL X.K H p xs ∧ k = !xs.isEmpty) ∨ (∃ xs, SqT X.K H p xs ∧ k = !xs.isEmpty) ∨ ∃ kvs, H p = some (.dK kvs) ∧ k = !kvs.isEmpty := e
    rcases e' with ⟨xs, hx, e'⟩ | ⟨xs, hx, e'⟩ | ⟨kvs, hx, e'⟩
    · subst e'
      obtain ⟨its, r, pl, hz⟩ := I.list hx
      have hlen := r.length
      exact wpAny_truthy_list pl.isList (by simp only [List.size_toArray]; omega) ⟨H, I.tok _, by rw [isEmpty_of r]; exact q⟩
    · subst e'
      obtain ⟨its, r, pl, hz⟩ := I.tuple hx
      have hlen := r.length
      exact truthy_tuple pl (by simp only [List.size_toArray]; omega) ⟨H, I.tok _, by rw [isEmpty_of r]; exact q⟩
    · subst e'
      obtain ⟨hz, hS, vs, r, m⟩ : kvs.length ≤ sizeLine ∧ (p == sysModules) = false ∧ ∃ vs, KV kvs vs ∧ s.heap.DictOf (mixKind X.prog X.w) p vs := I.hok p _ hx
      have hlen : kvs.length = vs.length := Paired.length r
      exact wpAny_truthy_dict hS m (by omega) ⟨H, I.tok _, by rw [isEmpty_kv r]; exact q⟩
  | _ => exact (show False from e).elim
theorem pt_truth (ha : PE X a ta) (he : ∀ whole, isTrue a X.env whole = (do let v ← whole; standAt a.pos; holding [v] (truthy v))) :
    PT X a (fun σ H Q => ta σ H fun x H' => ∃ k, TruV X.K x H' k ∧ Q k H') := by
  intro pins s σ H Q I h
  exact isTrue_plain (thn (ha pins s σ H _ I h) fun v s1 ⟨x, H1, I1, r1, q1⟩ => tru_ok pins s1 σ H1 x v Q I1 r1 q1) (he _)
theorem vals1 {x : V} {us : List Value} (r : Vals [x] us) : ∃ u, us = [u] ∧ RelV x u := by
  cases r with
  | cons r1 r2 => cases r2; exact ⟨_, rfl, r1⟩
theorem vals2 {x y : V} {us : List Value} (r : Vals [x, y] us) : ∃ u w', us = [u, w'] ∧ RelV x u ∧ RelV y w' := by
  cases r with
  | cons r1 r2 =>
    cases r2 with
    | cons r3 r4 => cases r4; exact ⟨_, _, rfl, r1, r3⟩
theorem call_abs : CallR X (.builtin "abs") (fun xs H Q => ∃ i, xs = [.int i] ∧ Q (.int (if i < 0 then -i else i)) H) := by
  intro pins s σ H xs us Q I r h
  obtain ⟨i, rfl, q⟩ := h
  obtain ⟨u, rfl, t, rfl⟩ := vals1 r
  exact call_abs_int fun u tk => ⟨.int (if i < 0 then -i else i), H, I.tok _, ⟨_, rfl⟩, q⟩
theorem call_int1 : CallR X (.type "int") (fun xs H Q => (∃ i, xs = [.int i] ∧ Q (.int i) H) ∨ ∃ k, xs = [.bl k] ∧ Q (.int (if k then 1 else 0)) H) := by
  intro pins s σ H xs us Q I r h
  rcases h with ⟨i, rfl, q⟩ | ⟨k, rfl, q⟩
  · obtain ⟨u, rfl, t, rfl⟩ := vals1 r
    exact call_int_int ⟨.int i, H, I, ⟨_, rfl⟩, q⟩
  · obtain ⟨u, rfl, r1⟩ := vals1 r
    cases r1
    exact call_int_bool ⟨.int (if k then 1 else 0), H, I.tok _, ⟨_, rfl⟩, q⟩
end
end L2
namespace L2
open PySem PySem.Spec PyProof.Rows
structure ObjM (h : Heap) (x dx C : Addr) (mA : Str → Option Value) : Prop where
  obj : h.get? x = some (PySem.W.instObj C dx)
  ns : h.Ns1 dx mA
  ne : dx ≠ x
theorem lookIn_ns {h : Heap} {dx : Addr} {mA : Str → Option Value} (n : h.Ns1 dx mA) : ∃ od, h.get? dx = some od ∧ ∀ name, PySem.W.lookIn name od = some (mA name) := by
  obtain ⟨o, es, ep, ho, hd, hk, _, hm⟩ := n
  refine ⟨o, ho, fun name => ?_⟩
  have e := hm name
  unfold nsFind findBy at e
  rw [← Array.find?_toList] at e
  unfold PySem.W.lookIn
  rw [hd]
  dsimp only
  split
  · rename_i y q
    rw [q] at e
    exact congrArg some e
  · rename_i q
    rw [q] at e
    have a : es.toList.any (·.refKey) = false := by
      rw [List.any_eq_false]
      intro y hy
      obtain ⟨z, t, hkey⟩ := hk y (Array.mem_toList_iff.mp hy)
      simp [DictEntry.refKey, hkey]
    have a' : ¬ es.toList.any (·.refKey) = true := by rw [a]; exact Bool.false_ne_true
    rw [if_neg a']
    exact congrArg some e
theorem ObjM.look {h : Heap} {x dx C : Addr} {mA : Str → Option Value} (I : ObjM h x dx C mA) : ∃ od, PySem.W.InstAt h x (PySem.W.instObj C dx) C (some od) ∧ ∀ name, PySem.W.lookIn name od = some (mA name) :=
  let ⟨od, ho, hl⟩ := lookIn_ns I.ns
  ⟨od, ⟨I.obj, rfl, rfl, ho⟩, hl⟩
section
variable {P : Program} {w : World} {H H' : Hp} {h h' : Heap} {a C dx : Addr} {fs fs' : List (Str × V)}
theorem ins_get (hok : HOk P w H h) (e : H a = some (.ins C dx fs)) : ∃ mA, ObjM h a dx C mA ∧ (∀ f, RelO (fs.lookup f) (mA f)) ∧ PySem.Within mA (fs.map (·.1)) ∧ fs.length ≤ 1000 ∧ H dx = some (.own a) := by
  obtain ⟨d, z, ne, ob, mA, n, r, q⟩ := (show ObjOk P w H h a (.ins C dx fs) from hok a _ e)
  exact ⟨mA, ⟨ob, n, ne⟩, r, q, z, d⟩
end
structure Cls (K : PySem.W.Frag) (C : Addr) : Prop where
  pg : PySem.W.plainGet K C Str.empty = true
  hd : PySem.W.hasDictIn K C = true
  po : PySem.W.plainOver K C = true
  sa : PySem.W.findIn K (.ref C) "__setattr__" = some (some (.builtin "object.__setattr__"))
theorem Cls.get {K : PySem.W.Frag} {C : Addr} (c : Cls K C) (f : Str) : PySem.W.plainGet K C f = true := c.pg
section
variable {X : Cx} {pins : List (Addr × Obj)} {σ : St} {H : Hp} {s : Shared} {A : Around} {E : Value → Shared → Prop} {Q : Value → Shared → Prop} {c : Value} {b : Bool}
inductive TyOf (K : PySem.W.Frag) (H : Hp) : V → Value → Prop where
  | non : TyOf K H .non (.type "NoneType")
  | bl (x : Bool) : TyOf K H (.bl x) (.type "bool")
  | int (i : Int) : TyOf K H (.int i) (.type "int")
  | str (x : Str) : TyOf K H (.str x) (.type "str")
  | flt (x : UInt64) : TyOf K H (.flt x) (.type "float")
  | lst {a : Addr} {xs : List V} (e : H a = some (.lst xs)) : TyOf K H (.ref a) (.type "list")
  | frz {a : Addr} {o : Obj} {xs : List V} (e : H a = some (.frz o (.lst xs))) : TyOf K H (.ref a) (.type "list")
  | tup {a : Addr} {xs : List V} (e : H a = some (.tup xs)) : TyOf K H (.ref a) (.type "tuple")
  | dK {a : Addr} {kvs : List (Key × V)} (e : H a = some (.dK kvs)) : TyOf K H (.ref a) (.type "dict")
  | dT {a : Addr} {kvs : List (List Key × V)} (e : H a = some (.dT kvs)) : TyOf K H (.ref a) (.type "dict")
  | ins {a C dx : Addr} {fs : List (Str × V)} (e : H a = some (.ins C dx fs)) (cl : Cls K C) (ha : PySem.W.findIn K (.ref C) "__class__" = some (some (.builtin "object.__class__")))
      (hn : PySem.W.specialIn K (.builtin "object.__class__") "__get__" = some (some (.builtin "getset_descriptor.__get__"))) (htk : PySem.W.takesIn K (.builtin "object.__class__") = some true)
      (hm : PySem.W.mroIn K C (.type "object") = some true) : TyOf K H (.ref a) (.ref C)
theorem isinst_ok {x : V} {u t : Value} (I : Inv X pins σ H s) (rx : RelV x u) (ty : TyOf X.K H x t) (e : PySem.W.kitOne X.K t c = some b) (h : ∀ tk, Q (.bool b) { s with toks := tk }) :
    wpAny (model X.prog X.w) A (call (.builtin "isinstance") [u, c]) Q E s := by
  cases ty with
  | non => cases (show u = Value.none from rx); exact PySem.W.kia_one PySem.W.kitx_none I.kIn True.intro e (fun z => nomatch z) h
  | bl y => cases (show u = Value.bool y from rx); exact PySem.W.kia_one PySem.W.kitx_bool I.kIn True.intro e (fun z => nomatch z) h
  | int i => obtain ⟨t, q⟩ := (show ∃ t, u = Value.int i t from rx); cases q; exact PySem.W.kia_one PySem.W.kitx_int I.kIn True.intro e (fun z => nomatch z) h
  | str y => obtain ⟨t, q⟩ := (show ∃ t, u = Value.str y t from rx); cases q; exact PySem.W.kia_one PySem.W.kitx_str I.kIn True.intro e (fun z => nomatch z) h
  | flt y => obtain ⟨t, q⟩ := (show ∃ t, u = Value.float y t from rx); cases q; exact PySem.W.kia_one PySem.W.kitx_float I.kIn True.intro e (fun z => nomatch z) h
  | @lst a xs ea =>
    cases (show u = Value.ref a from rx)
    obtain ⟨_, _, n, _, h1⟩ := (show ObjOk X.prog X.w H s.heap a (.lst xs) from I.hok a _ ea)
    exact PySem.W.kia_one PySem.W.kitx_list I.kIn ⟨_, h1, rfl⟩ e (fun z => nomatch z) h
  | @frz a ob xs ea =>
    cases (show u = Value.ref a from rx)
    obtain ⟨_, _, _, n, _, h1⟩ := (show ObjOk X.prog X.w H s.heap a (.frz ob (.lst xs)) from I.hok a _ ea)
    exact PySem.W.kia_one PySem.W.kitx_list I.kIn ⟨_, h1, rfl⟩ e (fun z => nomatch z) h
  | @tup a xs ea =>
    cases (show u = Value.ref a from rx)
    obtain ⟨_, _, _, p⟩ := (show ObjOk X.prog X.w H s.heap a (.tup xs) from I.hok a _ ea)
    obtain ⟨o, h1, h2, _⟩ := p
    exact PySem.W.kia_one PySem.W.kitx_tuple I.kIn ⟨o, h1, h2⟩ e (fun z => nomatch z) h
  | @dK a kvs ea =>
    cases (show u = Value.ref a from rx)
    obtain ⟨_, _, vs, _, p⟩ := (show ObjOk X.prog X.w H s.heap a (.dK kvs) from I.hok a _ ea)
    obtain ⟨o, es, ep, h1, h2, _⟩ := p
    exact PySem.W.kia_one PySem.W.kitx_dict I.kIn ⟨o, h1, h2.1⟩ e (fun z => nomatch z) h
  | @dT a kvs ea =>
    cases (show u = Value.ref a from rx)
    obtain ⟨_, _, xs, _, o, es, ep, h1, h2, _⟩ := (show ObjOk X.prog X.w H s.heap a (.dT kvs) from I.hok a _ ea)
    exact PySem.W.kia_one PySem.W.kitx_dict I.kIn ⟨o, h1, h2.1⟩ e (fun z => nomatch z) h
  | @ins a C dx fs ea cl ha hn htk hm =>
    cases (show u = Value.ref a from rx)
    obtain ⟨mA, O, _⟩ := ins_get I.hok ea
    obtain ⟨od, J, _⟩ := O.look
    exact PySem.W.kia_one (PySem.W.kitx_own (cl.get _) cl.hd ha hn htk hm) I.kIn J e (fun z => nomatch z) h
end
end L2
namespace L2
open PySem PySem.Spec PyProof.Rows
structure Room (k : Nat) (A : Around) : Prop where
  hd : A.handled = none
  dp : A.depth + 3 * k + 5 < recursionLimit
  un : A.units + 16 * k + 200 < cLine
  gd : A.guards = some []
theorem Room.mono {j k : Nat} {A : Around} (r : Room k A) (h : j ≤ k) : Room j A := ⟨r.hd, by have := r.dp; omega, by have := r.un; omega, r.gd⟩
theorem Room.deeper {k : Nat} {A : Around} (r : Room (k + 1) A) (env : Env) : Room k (A.deeper env) :=
  ⟨r.hd, by have := r.dp; show A.depth + 1 + 3 * k + 5 < _; omega, by have := r.un; show A.units + 3 + 16 * k + 200 < _; omega, r.gd⟩
theorem Room.depth {k : Nat} {A : Around} (r : Room k A) : A.depth < recursionLimit := by have := r.dp; omega
theorem Room.units {k : Nat} {A : Around} (r : Room k A) : A.units + 64 < cLine := by have := r.un; omega
def tNil : TA := fun _ H Q => Q [] H
def tCons (ta : TE) (tr : TA) : TA := fun σ H Q => ta σ H fun x H1 => tr σ H1 fun xs H2 => Q (x :: xs) H2
section
variable {X : Cx} {e : Expr} {es : List Expr} {te : TE} {t : TA} {pos : PySem.Pos}
theorem pa_nil : PA X [] tNil := fun _ _ _ _ H Q I h => Calls.spliced_nil ⟨[], H, I, .nil, h⟩
theorem pa_cons (ha : PE X e te) (hr : PA X es t) (hs : starEach (e :: es) X.env = (false, eval e X.env) :: starEach es X.env := by rfl) : PA X (e :: es) (tCons te t) := by
  intro pos pins s σ H Q I h
  rw [hs]
  show wpAny _ _ (spliced ((false, eval e X.env) :: backTo pos (starEach es X.env))) _ _ s
  refine Calls.spliced_cons (thn (ha pins s σ H _ I h) fun u s1 ⟨x, H1, I1, r1, q1⟩ => ?_)
  exact thn (hr pos pins s1 σ H1 _ I1 q1) fun us s2 ⟨xs, H2, I2, r2, q2⟩ => ⟨x :: xs, H2, I2, .cons r1 r2, q2⟩
def tTup (t : TA) : TE := fun σ H Q => t σ H fun xs H1 => xs.length ≤ sizeLine ∧ ∀ p, H1 p = none → Q (.ref p) (upd H1 p (.tup xs))
def tLst (t : TA) : TE := fun σ H Q => t σ H fun xs H1 => xs.length ≤ sizeLine ∧ ∀ p, H1 p = none → Q (.ref p) (upd H1 p (.lst xs))
theorem pe_tup {x1} (h : PA X es t) : PE X (.Tuple es x1 pos) (tTup t) := by
  intro pins s σ H Q I hq
  refine wpAny_Tuple_spliced (thn (h pos pins s σ H _ I hq) fun us s1 ⟨xs, H1, I1, r, z, q⟩ => ⟨by rw [← r.length]; exact z, ?_⟩)
  have hf : H1 s1.heap.objs.size = none := I1.hok.fresh (Nat.le_refl _)
  refine ⟨.ref s1.heap.objs.size, upd H1 s1.heap.objs.size (.tup xs), I1.laid (t' := s1.toks) (fun b u e => Heap.get?_push_of_some _ e) (Nat.le_refl _) ?_, rfl, q _ hf⟩
  exact ⟨z, us, r, ⟨_, Heap.get?_push_size _ rfl, rfl, _, rfl⟩⟩
theorem pe_lst (h : PA X es t) : PE X (.List es pos) (tLst t) := by
  intro pins s σ H Q I hq
  refine wpAny_List_spliced (thn (h pos pins s σ H _ I hq) fun us s1 ⟨xs, H1, I1, r, z, q⟩ => ⟨by rw [← r.length]; exact z, ?_⟩)
  have hf : H1 s1.heap.objs.size = none := I1.hok.fresh (Nat.le_refl _)
  refine ⟨.ref s1.heap.objs.size, upd H1 s1.heap.objs.size (.lst xs), I1.laid (t' := s1.toks) (fun b u e => Heap.get?_push_of_some _ e) (Nat.le_refl _) ?_, rfl, q _ hf⟩
  exact ⟨z, us, 0, r, Heap.get?_push_size _ rfl⟩
end
abbrev Sp := List V → Hp → VK → XK → Prop
abbrev CXT := List Env → Hp → Shared → XK → Value → Shared → Prop
structure Env0 (P : Program) (w : World) (K : PySem.W.Frag) (mg : Str → Option Value) (base : Heap) (A : Around) (outer : List Env) (s : Shared) (H : Hp) : Prop where
  frames : A.frames = some outer
  mod : Mod K mg base
  bs : ∀ b o, base.get? b = some o → s.heap.get? b = some o ∧ H b = none
  bsz : base.objs.size ≤ s.heap.objs.size
  funs : s.heap.FunFrames base outer
  frf : ∀ b ∈ frs outer, H b = none
  hok : HOk P w H s.heap
  bare : AllBare s.gens
def CE (outer : List Env) (P : Program) (w : World) (H : Hp) (s : Shared) (Q : VK) (u : Value) (s' : Shared) : Prop :=
  ∃ v H', s'.os = s.os ∧ AllBare s'.gens ∧ Un (frs outer) [] H H' s.heap s'.heap ∧ HOk P w H' s'.heap ∧ RelV v u ∧ Q v H'
def CR (CX : CXT) (outer : List Env) (P : Program) (w : World) (H : Hp) (s : Shared) (Q : VK) (E : XK) (r : Result) (s' : Shared) : Prop :=
  match r with
  | .ok (.ret u) => CE outer P w H s Q u s'
  | .ok _ => False
  | .error e => CX outer H s E e s'
structure FnOk (P : Program) (w : World) (K : PySem.W.Frag) (mg : Str → Option Value) (base : Heap) (CX : CXT) (k : Nat) (f : Addr) (fd : FuncData) (ps : List Str) (sp : Sp) : Prop where
  len : ∀ vs H Q E, sp vs H Q E → vs.length = ps.length
  run : ∀ (A : Around) (outer : List Env) (s : Shared) (H : Hp) (args : Args) (us : List Value) (vs : List V) (Q : VK) (E : XK), Room k A → Env0 P w K mg base A outer s H → BindsTo s fd args (ps.zip us) → Vals vs us → sp vs H Q E →
    codeAny (model P w) A (.call (.ref f) args) (CR CX outer P w H s Q E) s
section
variable {X : Cx} {pins : List (Addr × Obj)} {σ : St} {H : Hp} {s s' : Shared}
theorem Inv.env0 (I : Inv X pins σ H s) : Env0 X.prog X.w X.K X.mg X.base X.A X.stack s H :=
  ⟨I.ok.frames, I.ok.mod, I.bs, Nat.le_trans I.ok.bsz I.sz, I.stack, I.stkFree, I.hok, I.bare⟩
theorem Inv.after {Q : VK} {u : Value} (I : Inv X pins σ H s) (h : CE X.stack X.prog X.w H s Q u s') : EP X pins σ Q u s' := by
  obtain ⟨v, H', os, bare, un, hok, r, q⟩ := h
  obtain ⟨hh, g, d, t, os'⟩ := s'
  obtain rfl : os' = s.os := os
  exact ⟨v, H', I.call (h' := hh) (g' := g) (d' := d) (t' := t) (ch := []) un hok bare (fun b z => absurd z (by simp)), r, q⟩
end
def tCall (sp : Sp) (dvs : List V) (E : XK) (t : TA) : TE := fun σ H Q => t σ H fun vs H1 => sp (vs ++ dvs) H1 Q E
def Binds (K : PySem.W.Frag) (fd : FuncData) (ps : List Str) (ds : List Value) : Prop :=
  ∀ (s : Shared) (us : List Value), K.In s.heap → (us ++ ds).length = ps.length → BindsTo s fd ⟨us, []⟩ (ps.zip (us ++ ds))
theorem Binds.all {K : PySem.W.Frag} {fd : FuncData} {ps : List Str} (h : ∀ us : List Value, us.length = ps.length → bindArgs fd ⟨us, []⟩ = pure (ps.zip us)) : Binds K fd ps [] := fun s us _ hl => by
  rw [List.append_nil] at hl ⊢
  exact .of_eq (h us hl)
def Passes (CX : CXT) (X : Cx) (E : XK) : Prop := ∀ (pins : List (Addr × Obj)) (σ : St) (H : Hp) (s : Shared) (e : Value) (s' : Shared), Inv X pins σ H s → CX X.stack H s E e s' → X.xe e s'
section
variable {X : Cx} {CX : CXT} {k : Nat} {f C : Addr} {fd : FuncData} {ps : List Str} {sp : Sp} {dvs : List V} {ds : List Value} {E : XK} {x m : Str} {p pos apos : PySem.Pos} {e o : Expr} {es : List Expr} {ta : TE} {t : TA}
theorem run_fn {pins : List (Addr × Obj)} {σ : St} {H : Hp} {s : Shared} {Q : VK} {us : List Value} {vs : List V} (F : FnOk X.prog X.w X.K X.mg X.base CX k f fd ps sp) (hr : Room k X.A) (hb : Binds X.K fd ps ds) (hd : Vals dvs ds) (hx : Passes CX X E)
    (I : Inv X pins σ H s) (r : Vals vs us) (h : sp (vs ++ dvs) H Q E) : wpAny (model X.prog X.w) X.A (call (.ref f) us) (EP X pins σ Q) X.xe s := by
  have r2 : Vals (vs ++ dvs) (us ++ ds) := r.append hd
  have hl : (us ++ ds).length = ps.length := by rw [← r2.length]; exact F.len _ _ _ _ h
  refine wpAny_call (codeAny_mono (F.run X.A X.stack s H ⟨us, []⟩ (us ++ ds) (vs ++ dvs) Q E hr I.env0 (hb s us I.kIn hl) r2 h) fun r s' hq => ?_)
  cases r with
  | error e => exact hx pins σ H s e s' I hq
  | ok fl =>
    cases fl with
    | ret u => exact I.after hq
    | next => exact False.elim hq
    | brk => exact False.elim hq
    | cont => exact False.elim hq
theorem pe_call (F : FnOk X.prog X.w X.K X.mg X.base CX k f fd ps sp) (hr : Room k X.A) (hg : Gl X x) (hm : X.mg x = some (.ref f)) (hk : PySem.W.keepIn X.K (.ref f) = true) (hb : Binds X.K fd ps ds) (hd : Vals dvs ds) (hx : Passes CX X E)
    (ha : PA X (e :: es) t) (hdb : (x == ("__debug__" : Str)) = false := by decide) (he : starEach (e :: es) X.env = (false, eval e X.env) :: starEach es X.env := by rfl) (hpl : (backTo pos (starEach es X.env)).any (·.1) = false := by rfl) :
    PE X (.Call (.Name x p) (e :: es) [] pos) (tCall sp dvs E t) := by
  intro pins s σ H Q I h
  refine wpAny_Call_Name_kw (ld_glob I hg hm ?_ hdb)
  refine PySem.W.callWith_K (h₀ := X.base) I.ok.mod.kin hk (thn (ha pos pins s σ H _ I h) fun us s1 ⟨vs, H1, I1, r, q⟩ => ⟨I1.kIn, ?_⟩) he hpl
  exact run_fn F hr hb hd hx I1 r q
end
structure FnScope (N P : List Str) (sc : Scope) : Prop where
  kind : sc.kind = .function
  co : sc.isCoroutine = false
  gen : sc.isGenerator = false
  nd : N.Nodup
  pre : N.take P.length = P
  par : ∀ x ∈ P, sc.names.lookup x = some .local ∨ sc.names.lookup x = some .cell
  nofree : ∀ y ∈ sc.names, y.2 ≠ .free
theorem bindL_out {kindOf : Str → Option NameKind} {x : Str} : ∀ {binds : List (Str × Value)} {m : Str → Option Value}, (∀ v, (x, v) ∉ binds) → bindL kindOf binds m x = m x
  | [], _, _ => rfl
  | (n, v) :: r, m, h => by
    unfold bindL
    rw [bindL_out fun w hw => h w (List.mem_cons_of_mem _ hw)]
    split
    · have : x ≠ n := by rintro rfl; exact h v List.mem_cons_self
      simp [this]
    · rfl
theorem bindC_out {kindOf : Str → Option NameKind} {x : Str} : ∀ {binds : List (Str × Value)} {m : Str → Option Value}, (∀ v, (x, v) ∉ binds) → bindC kindOf binds m x = m x
  | [], _, _ => rfl
  | (n, v) :: r, m, h => by
    unfold bindC
    rw [bindC_out fun w hw => h w (List.mem_cons_of_mem _ hw)]
    split
    · rfl
    · have : x ≠ n := by rintro rfl; exact h v List.mem_cons_self
      simp [this]
theorem bindL_get {kindOf : Str → Option NameKind} {x : Str} {v : Value} : ∀ {P : List Str} {vs : List Value} {i : Nat} {m : Str → Option Value}, P.Nodup → P[i]? = some x → vs[i]? = some v → kindOf x = some .local →
    bindL kindOf (P.zip vs) m x = some v
  | [], _, _, _, _, h, _, _ => by simp at h
  | _ :: _, [], _, _, _, _, h, _ => by simp at h
  | p :: P, w :: vs, 0, m, nd, h1, h2, hk => by
    simp at h1 h2; subst h1; subst h2
    show bindL kindOf ((p, w) :: P.zip vs) m p = _
    unfold bindL
    rw [bindL_out fun v hv => (List.nodup_cons.mp nd).1 (List.of_mem_zip hv).1, if_pos hk]
    simp
  | p :: P, w :: vs, i + 1, m, nd, h1, h2, hk => by
    show bindL kindOf ((p, w) :: P.zip vs) m x = _
    unfold bindL
    exact bindL_get (i := i) (List.nodup_cons.mp nd).2 (by simpa using h1) (by simpa using h2) hk
theorem bindC_get {kindOf : Str → Option NameKind} {x : Str} {v : Value} : ∀ {P : List Str} {vs : List Value} {i : Nat} {m : Str → Option Value}, P.Nodup → P[i]? = some x → vs[i]? = some v → kindOf x ≠ some .local →
    bindC kindOf (P.zip vs) m x = some v
  | [], _, _, _, _, h, _, _ => by simp at h
  | _ :: _, [], _, _, _, _, h, _ => by simp at h
  | p :: P, w :: vs, 0, m, nd, h1, h2, hk => by
    simp at h1 h2; subst h1; subst h2
    show bindC kindOf ((p, w) :: P.zip vs) m p = _
    unfold bindC
    rw [bindC_out fun v hv => (List.nodup_cons.mp nd).1 (List.of_mem_zip hv).1, if_neg hk]
    simp
  | p :: P, w :: vs, i + 1, m, nd, h1, h2, hk => by
    show bindC kindOf ((p, w) :: P.zip vs) m x = _
    unfold bindC
    exact bindC_get (i := i) (List.nodup_cons.mp nd).2 (by simpa using h1) (by simpa using h2) hk
def start (N : List Str) (vs : List V) : St := vs.map some ++ List.replicate (N.length - vs.length) none
def cxOf (CX : CXT) (P : Program) (w : World) (K : PySem.W.Frag) (mg : Str → Option Value) (base : Heap) (N : List Str) (qual : Str) (scope : Scope) (f : Addr) (cd : Value) (A : Around) (outer : List Env) (s : Shared) (H : Hp) (E : XK) : Cx where
  prog := P
  w := w
  K := K
  mg := mg
  base := base
  A := A.deeper (envOfC qual scope s.heap.objs.size f cd)
  N := N
  s₀ := s
  H₀ := H
  env := envOfC qual scope s.heap.objs.size f cd
  outer := outer
  stack := envOfC qual scope s.heap.objs.size f cd :: outer
  ex := []
  calm := true
  fn := fun _ => true
  pn := []
  xe := fun e s' => wpAny (model P w) (A.deeper (envOfC qual scope s.heap.objs.size f cd)) (leaving (envOfC qual scope s.heap.objs.size f cd) e) (fun _ s'' => CX outer H s E e s'') (fun e' s'' => CX outer H s E e' s'') s'
theorem cell_has {sc : Scope} {n : Nat} {x : Str} (h : sc.names.lookup x = some .cell) : ∃ c, (cellsFrom n sc.names []).lookup x = some c := by
  have q := PySem.W.cellsFrom_some sc.names n [] (.inl h)
  exact Option.isSome_iff_exists.mp q
theorem inv_start {CX : CXT} {P : Program} {w : World} {K : PySem.W.Frag} {mg : Str → Option Value} {base : Heap} {N ps : List Str} {qual : Str} {scope : Scope} {f : Addr} {cd : Value} {A : Around} {outer : List Env} {s s1 : Shared} {H : Hp} {E : XK} {us : List Value} {vs : List V}
    (S : FnScope N ps scope) (hd : A.handled = none) (e0 : Env0 P w K mg base A outer s H) (hl : vs.length = ps.length) (r : Vals vs us)
    (x : InCallC s s.heap.objs.size (bindL (envOfC qual scope s.heap.objs.size f cd).kindOf (ps.zip us) fun _ => none) (cellsFrom (s.heap.objs.size + 1) scope.names []) (bindC (envOfC qual scope s.heap.objs.size f cd).kindOf (ps.zip us) fun _ => none) s1) :
    Inv (cxOf CX P w K mg base N qual scope f cd A outer s H E) [] (start N vs) H s1 := by
  have hpl : ps.length ≤ N.length := by have := congrArg List.length S.pre; rw [List.length_take] at this; omega
  obtain ⟨h1, tk, rfl, hk⟩ := x.done
  have noA : ∀ b : Addr, b ∉ (cxOf CX P w K mg base N qual scope f cd A outer s H E).ex := fun b z => absurd (show b ∈ ([] : List Addr) from z) (by simp)
  refine ⟨⟨e0.mod, S.kind, rfl, rfl, Nat.le_refl _, fun y z c h1 h2 => ?_, fun y hy => ?_, fun y c _ h => ?_, fun _ => hd, Around.frames_deeper e0.frames, .inr ⟨rfl, rfl⟩, fun b z => absurd z (noA b), e0.bs, e0.bsz, fun b _ _ => noA b, fun b z => absurd z (noA b), e0.funs, e0.frf⟩,
    rfl, e0.bare, Un.kept hk, ⟨_, x.toInCall.ns, fun i y v h1 h2 h3 => ?_⟩, fun y c h => ⟨_, x.cell y c h⟩, e0.hok.fresh (Nat.le_refl _), fun y c h => ?_, fun p hp => absurd (show p ∈ ([] : List (Addr × Obj)) from hp) (by simp), e0.hok.kept hk, ?_⟩
  · exact name_of_addr x.apart (PySem.mem_of_lookup h1) (PySem.mem_of_lookup h2)
  · have hy : scope.names.lookup y = some .cell ∨ scope.names.lookup y = some .free := hy
    rcases hy with hy | hy
    · exact cell_has hy
    · exact absurd rfl (S.nofree _ (PySem.mem_of_lookup hy))
  · exact Nat.le_of_lt (x.above y c (PySem.mem_of_lookup h))
  · have hi : i < vs.length := by
      unfold start at h2
      by_cases hi : i < vs.length
      · exact hi
      · rw [List.getElem?_append_right (by simpa using hi)] at h2
        rw [List.getElem?_replicate] at h2
        split at h2 <;> cases h2
    have ha : vs[i]? = some v := by
      unfold start at h2
      rw [List.getElem?_append_left (by simpa using hi), List.getElem?_map] at h2
      cases e : vs[i]? with
      | none => rw [e] at h2; cases h2
      | some a => rw [e] at h2; cases h2; rfl
    obtain ⟨u, hu, rv⟩ := r.get ha
    have hp : ps[i]? = some y := by
      rw [← S.pre, List.getElem?_take_of_lt (by omega)]; exact h1
    have ndP : ps.Nodup := by rw [← S.pre]; exact S.nd.sublist (List.take_sublist _ _)
    refine ⟨u, rv, ?_⟩
    rcases S.par y (List.mem_of_getElem? hp) with k | k
    · exact .inl ⟨k, bindL_get ndP hp hu k⟩
    · obtain ⟨c, e⟩ := cell_has (n := s.heap.objs.size + 1) k
      refine .inr ⟨.inl k, c, e, ?_⟩
      have q := x.cell y c e
      rw [bindC_get ndP hp hu (by show scope.names.lookup y ≠ _; rw [k]; decide)] at q
      exact q
  · exact e0.hok.fresh (Nat.le_of_lt (x.above y c (PySem.mem_of_lookup h)))
  · unfold start
    show _ = N.length
    rw [List.length_append, List.length_map, List.length_replicate]
    omega
theorem fn_of {CX : CXT} {P : Program} {w : World} {K : PySem.W.Frag} {mg : Str → Option Value} {base : Heap} {k : Nat} {f : Addr} {name qual : Str} {params : Arguments} {body : List Stmt} {scope : Scope} {dV kV doc pm cdv ct oc : Value} {an od : Option Addr}
    {osl : Array (Option Value)} {N ps : List Str} {sp : Sp} (lk : K.lookup f = some ⟨oc, od, .func (PySem.W.fnOf name qual params body scope dV kV doc pm an cdv ct), osl⟩) (hcd : PySem.W.codeIn K cdv qual = true) (S : FnScope N ps scope)
    (len : ∀ vs H Q E, sp vs H Q E → vs.length = ps.length)
    (hbody : ∀ (A : Around) (outer : List Env) (s : Shared) (H : Hp) (vs : List V) (Q : VK) (E : XK), Room k (A.deeper (envOfC qual scope s.heap.objs.size f cdv)) → sp vs H Q E →
      ∃ t, PSs (cxOf CX P w K mg base N qual scope f cdv A outer s H E) body t ∧ t { nx := fun _ H' => Q .non H', rt := Q } (start N vs) H) :
    FnOk P w K mg base CX (k + 1) f (PySem.W.fnOf name qual params body scope dV kV doc pm an cdv ct) ps sp := by
  refine ⟨len, fun A outer s H args us vs Q E hr e0 hb r hsp => ?_⟩
  have hl := len _ _ _ _ hsp
  have KX : K.In s.heap := e0.mod.kin.keeps fun b o e => (e0.bs b o e).1
  have lim : s.heap.NoLimit := e0.mod.nolimit.keeps fun b o e => (e0.bs b o e).1
  have hkind : ∀ y ∈ ps.zip us, scope.names.lookup y.1 = some .local ∨ (scope.names.lookup y.1 = some .cell ∧ ((cellsFrom (s.heap.objs.size + 1) scope.names []).lookup y.1).isSome = true) := fun ⟨n, v⟩ hy => by
    rcases S.par n (List.of_mem_zip hy).1 with q | q
    · exact .inl q
    · exact .inr ⟨q, PySem.W.cellsFrom_some _ _ _ (.inl q)⟩
  refine codeAny_call_function hr.depth (KX _ _ lk) rfl S.co S.gen rfl (PySem.W.codeRec_of KX hcd) (hb _ _ _ _ ?_)
  refine wpAny_newFunctionEnv_cells S.kind hkind fun env he s1 x => ?_
  subst he
  refine ⟨lim.keeps x.toInCall.keep, codeAny_func ?_⟩
  obtain ⟨t, ht, hq⟩ := hbody A outer s H vs Q E (hr.deeper _) hsp
  have I : Inv (cxOf CX P w K mg base N qual scope f cdv A outer s H E) [] (start N vs) H s1 := inv_start S hr.hd e0 hl r x
  refine wpAny_mono (ht [] s1 (start N vs) H _ I hq) (fun fl s' hs => ?_) fun e s' hs => hs
  have fin : ∀ {σ' : St} {H' : Hp} {v : V} {u : Value}, Inv (cxOf CX P w K mg base N qual scope f cdv A outer s H E) [] σ' H' s' → RelV v u → Q v H' → CE outer P w H s Q u s' :=
    fun {σ' H' v u} J rv q => ⟨v, H', J.os, J.bare, J.base, J.hok, rv, q⟩
  cases fl with
  | ret u =>
    obtain ⟨v, σ', H', J, rv, q⟩ := hs
    exact fin J rv q
  | next =>
    obtain ⟨σ', H', J, q⟩ := hs
    exact fin (v := V.non) (u := Value.none) J rfl q
  | brk =>
    obtain ⟨_, _, _, q⟩ := hs
    exact False.elim q
  | cont =>
    obtain ⟨_, _, _, q⟩ := hs
    exact False.elim q
end L2
namespace L2
open PySem PySem.Spec PyProof.Rows
section
variable {X : Cx} {x : Str} {p pos : PySem.Pos} {e : Expr} {es : List Expr} {t : TA} {id T : String} {r : List V → Hp → VK → Prop}
def tCB (r : List V → Hp → VK → Prop) (t : TA) : TE := fun σ H Q => t σ H fun vs H1 => r vs H1 Q
theorem pe_callB (hc : CallR X (.builtin id) r) (hg : Gl X x) (hm : X.mg x = none) (hv : bootBuiltins x = some (.builtin id)) (ha : PA X (e :: es) t) (hn : x ≠ "__name__" := by decide) (hdb : (x == ("__debug__" : Str)) = false := by decide)
    (he : starEach (e :: es) X.env = (false, eval e X.env) :: starEach es X.env := by rfl) (hpl : (backTo pos (starEach es X.env)).any (·.1) = false := by rfl) : PE X (.Call (.Name x p) (e :: es) [] pos) (tCB r t) := by
  intro pins s σ H Q I h
  refine wpAny_Call_Name_kw (ld_blt I hg hm hv ?_ hn hdb)
  exact PyProof.Rows.callWith_builtin1 (thn (ha pos pins s σ H _ I h) fun us s1 ⟨vs, H1, I1, r1, q1⟩ => hc pins s1 σ H1 vs us Q I1 r1 q1) he hpl
theorem pe_callTy (hc : CallR X (.type T) r) (hg : Gl X x) (hm : X.mg x = none) (hv : bootBuiltins x = some (.type T)) (ha : PA X (e :: es) t) (hn : x ≠ "__name__" := by decide) (hdb : (x == ("__debug__" : Str)) = false := by decide)
    (he : starEach (e :: es) X.env = (false, eval e X.env) :: starEach es X.env := by rfl) (hpl : (backTo pos (starEach es X.env)).any (·.1) = false := by rfl) : PE X (.Call (.Name x p) (e :: es) [] pos) (tCB r t) := by
  intro pins s σ H Q I h
  refine wpAny_Call_Name_kw (ld_blt I hg hm hv ?_ hn hdb)
  exact PyProof.Rows.callWith_type1 (thn (ha pos pins s σ H _ I h) fun us s1 ⟨vs, H1, I1, r1, q1⟩ => hc pins s1 σ H1 vs us Q I1 r1 q1) he hpl
end
end L2
namespace HT
open PySem PyProof.Rows
section
variable {prog : Program} {w : World} {A : Around} {E : Value → Shared → Prop} {s : Shared}
def sIx (n d : Nat) : Option Int → Nat
  | none => d
  | some v => if v < 0 then (v + (n : Int)).toNat else min v.toNat n
end
end HT
namespace L2
open PySem PySem.Spec PyProof.Rows
abbrev TO := St → Hp → (Option Int → Hp → Prop) → Prop
def PO (X : Cx) (e : Option Expr) (t : TO) : Prop :=
  ∀ (pins : List (Addr × Obj)) (s : Shared) (σ : St) (H : Hp) (Q : Option Int → Hp → Prop), Inv X pins σ H s → t σ H Q →
    wpAny (model X.prog X.w) X.A (evalPart e X.env) (fun u s' => ∃ o H', Inv X pins σ H' s' ∧ IsPart u o ∧ Q o H') X.xe s
def tPart (t : TE) : TO := fun σ H Q => t σ H fun x H1 => ∃ i, x = .int i ∧ Q (some i) H1
theorem intsAre_of {ns : List Int} : ∀ {us : List Value}, Vals (ns.map V.int) us → IntsAre us ns := by
  induction ns with
  | nil => intro us r; rw [List.map_nil] at r; cases r; exact .nil
  | cons n ns ih =>
    intro us r
    rw [List.map_cons] at r
    cases r with
    | cons r1 r2 =>
      obtain ⟨t, e⟩ := r1
      subst e
      exact .cons n t (ih r2)
section
variable {X : Cx} {e : Expr} {te : TE} {lo hi : Option Expr} {tl th : TO} {pos p2 : PySem.Pos}
theorem po_some (h : PE X e te) : PO X (some e) (tPart te) := by
  intro pins s σ H Q I hw
  rw [evalPart_some]
  refine thn (h pins s σ H _ I hw) fun u s1 ⟨x, H1, I1, r1, q1⟩ => ?_
  obtain ⟨i, rfl, q⟩ := q1
  obtain ⟨t, rfl⟩ := r1
  exact ⟨some i, H1, I1, .int i t, q⟩
def SlR (X : Cx) (r : V → Option Int → Option Int → Hp → VK → Prop) : Prop :=
  ∀ (pins : List (Addr × Obj)) (s : Shared) (σ : St) (H : Hp) (x : V) (v vl vu : Value) (lo hi : Option Int) (sl : Addr) (Q : VK), Inv X pins σ H s → RelV x v → s.heap.IsSliceOf sl vl vu .none → IsPart vl lo → IsPart vu hi → r x lo hi H Q →
    ∃ T id, typeLookup (.type T) "__getitem__" = pure (some (.builtin id)) ∧ s.TypeIs v T ∧ wpAny (model X.prog X.w) X.A (getItem v (.ref sl)) (EP X pins σ Q) X.xe s
def tSl (r : V → Option Int → Option Int → Hp → VK → Prop) (te : TE) (tl th : TO) : TE := fun σ H Q => te σ H fun x H1 => tl σ H1 fun l H2 => th σ H2 fun u H3 => r x l u H3 Q
theorem pe_slice {r : V → Option Int → Option Int → Hp → VK → Prop} (hr : SlR X r) (he : PE X e te) (hl : PO X lo tl) (hu : PO X hi th) : PE X (.Subscript e (.Slice lo hi none p2) pos) (tSl r te tl th) := by
  intro pins s σ H Q I h
  refine Subscript_ (thn (he pins s σ H _ I h) fun v s1 ⟨x, H1, I1, r1, q1⟩ => ?_)
  refine wpAny_Slice (thn (hl pins s1 σ H1 _ I1 q1) fun vl s2 ⟨l, H2, I2, pl, q2⟩ => thn (hu pins s2 σ H2 _ I2 q2) fun vu s3 ⟨u, H3, I3, pu, q3⟩ => ?_)
  rw [evalPart_none]
  refine wpAny_pure ?_
  have I4 : Inv X pins σ H3 { s3 with heap := s3.heap.push { cls := .type "slice", data := .fields #[vl, vu, .none] } } := I3.kept (t' := s3.toks) fun b ob q => Heap.get?_push_of_some _ q
  obtain ⟨T, id, hT, ht, hg⟩ := hr pins { s3 with heap := s3.heap.push { cls := .type "slice", data := .fields #[vl, vu, .none] } } σ H3 x v vl vu l u s3.heap.objs.size Q I4 r1 (Heap.IsSliceOf.new ..) pl pu q3
  show wpAny (model X.prog X.w) X.A (subscriptTail e (.Slice lo hi none p2) v (.ref s3.heap.objs.size)) (EP X pins σ Q) X.xe { s3 with heap := s3.heap.push { cls := .type "slice", data := .fields #[vl, vu, .none] } }
  exact tail_any (ops := [.ref s3.heap.objs.size, v]) ht hT hg (by with_unfolding_all rfl)
def cutV (xs : List V) (lo hi : Option Int) : List V := (xs.drop (HT.sIx xs.length 0 lo)).take (HT.sIx xs.length xs.length hi - HT.sIx xs.length 0 lo)
theorem cutV_length (xs : List V) (lo hi : Option Int) : (cutV xs lo hi).length ≤ xs.length := by
  unfold cutV
  rw [List.length_take, List.length_drop]
  omega
end
end L2
namespace L2
open PySem PySem.Spec PyProof.Rows
def ixN (n : Nat) (i : Int) : Option Nat := if 0 ≤ i then (if i < n then some i.toNat else none) else if -(n : Int) ≤ i then some (i + n).toNat else none
def atI {α : Type} (xs : List α) (i : Int) : Option α := (ixN xs.length i).bind fun j => xs[j]?
theorem ixN_seq {n : Nat} {i : Int} {j : Nat} (h : ixN n i = some j) : seqIndex? i n = some j ∧ j < n ∧ -(n : Int) ≤ i ∧ i < n := by
  unfold ixN at h
  by_cases h0 : 0 ≤ i
  · rw [if_pos h0] at h
    by_cases h1 : i < n
    · rw [if_pos h1] at h
      have e : i.toNat = j := Option.some.inj h
      exact ⟨by rw [seqIndex_of h0 h1, e], by omega, by omega, h1⟩
    · rw [if_neg h1] at h; cases h
  · rw [if_neg h0] at h
    by_cases h1 : -(n : Int) ≤ i
    · rw [if_pos h1] at h
      have e : (i + n).toNat = j := Option.some.inj h
      exact ⟨by rw [seqIndex_neg (by omega) h1, e], by omega, h1, by omega⟩
    · rw [if_neg h1] at h; cases h
theorem atI_get {α : Type} {xs : List α} {i : Int} {v : α} (h : atI xs i = some v) : ∃ j, seqIndex? i xs.length = some j ∧ xs[j]? = some v ∧ j < xs.length ∧ -(xs.length : Int) ≤ i ∧ i < xs.length := by
  unfold atI at h
  cases e : ixN xs.length i with
  | none => rw [e] at h; cases h
  | some j =>
    rw [e] at h
    obtain ⟨h1, h2, h3, h4⟩ := ixN_seq e
    exact ⟨j, h1, h, h2, h3, h4⟩
theorem atI_nat {α : Type} {xs : List α} {j : Nat} {v : α} (h : xs[j]? = some v) : atI xs (j : Int) = some v := by
  have hj : j < xs.length := (List.getElem?_eq_some_iff.mp h).1
  have e : ixN xs.length (j : Int) = some j := by
    unfold ixN
    rw [if_pos (by omega), if_pos (by omega)]; simp
  unfold atI; rw [e]; exact h
def PlainIx (b : Expr) : Prop := ∀ o i, subscripted b false o i = operate [o, i] (getItem o i)
def IxR (X : Cx) (r : R2) : Prop :=
  ∀ (value slice : Expr) (pins : List (Addr × Obj)) (s : Shared) (σ : St) (H : Hp) (x y : V) (v u : Value) (Q : VK), Inv X pins σ H s → RelV x v → RelV y u → r x y H Q →
    subscripted slice false v u = operate [v, u] (getItem v u) → wpAny (model X.prog X.w) X.A (subscriptTail value slice v u) (EP X pins σ Q) X.xe s
def MtR (X : Cx) (id : String) (r : V → List V → Hp → VK → Prop) : Prop :=
  ∀ (pins : List (Addr × Obj)) (s : Shared) (σ : St) (H : Hp) (x : V) (xs : List V) (v : Value) (us : List Value) (Q : VK), Inv X pins σ H s → RelV x v → Vals xs us → r x xs H Q →
    wpAny (model X.prog X.w) X.A (call (.builtin id) (v :: us)) (EP X pins σ Q) X.xe s
section
variable {X : Cx} {a b : Expr} {ta tb : TE} {pos : PySem.Pos}
theorem pe_ix {r : R2} (hr : IxR X r) (ha : PE X a ta) (hb : PE X b tb) (hs : PlainIx b) : PE X (.Subscript a b pos) (tOp r ta tb) := by
  intro pins s σ H Q I h
  exact Subscript_ (binT ha hb I h fun v u s2 x y H2 I2 rx ry q => hr a b pins s2 σ H2 x y v u Q I2 rx ry q (hs _ _))
def rIxL (K : PySem.W.Frag) : R2 := fun x y H Q => ∃ p xs i v, x = .ref p ∧ y = .int i ∧ SqL K H p xs ∧ atI xs i = some v ∧ Q v H
def rIxT (K : PySem.W.Frag) : R2 := fun x y H Q => ∃ p xs i v, x = .ref p ∧ y = .int i ∧ SqT K H p xs ∧ atI xs i = some v ∧ Q v H
theorem ix_list : IxR X (rIxL X.K) := by
  intro value slice pins s σ H x y v u Q I rx ry h hs
  obtain ⟨p, xs, i, z, rfl, rfl, hq, he, q⟩ := h
  cases rx
  obtain ⟨t, rfl⟩ := ry
  obtain ⟨its, r, pl, hz⟩ := I.list hq
  obtain ⟨j, h1, h2, h3, h4, h5⟩ := atI_get he
  obtain ⟨w, ew, rw'⟩ := r.get h2
  have hl := r.length
  have hn := line63
  have fin : EP X pins σ Q w s := ⟨z, H, I, rw', q⟩
  by_cases h0 : 0 ≤ i
  · have hj : i.toNat = j := by
      rw [seqIndex_of h0 h5] at h1
      exact Option.some.inj h1
    exact item_listR pl.isList h0 (by omega) (by rw [hj]; simpa using ew) fin hs
  · have hj : (i + (its.toArray.size : Int)).toNat = j := by
      rw [seqIndex_neg (by omega) h4] at h1
      rw [List.size_toArray, ← hl]
      exact Option.some.inj h1
    exact subscriptTail_builtinR (x := w) pl.isList.typeIs slot_list_getitem.lookup
      (wpAny_getItem_list_neg (Q := fun r s' => r = w ∧ EP X pins σ Q r s') pl.isList (by omega) (by rw [List.size_toArray] <;> omega) (by omega) (by rw [hj]; simpa using ew) ⟨rfl, fin⟩) hs
theorem ix_tup : IxR X (rIxT X.K) := by
  intro value slice pins s σ H x y v u Q I rx ry h hs
  obtain ⟨p, xs, i, z, rfl, rfl, hq, he, q⟩ := h
  cases rx
  obtain ⟨t, rfl⟩ := ry
  obtain ⟨its, r, pl, hz⟩ := I.tuple hq
  obtain ⟨j, h1, h2, h3, h4, h5⟩ := atI_get he
  obtain ⟨w, ew, rw'⟩ := r.get h2
  have hl := r.length
  have hn := line63
  have fin : EP X pins σ Q w s := ⟨z, H, I, rw', q⟩
  exact subscriptTail_builtinR (x := w) pl.typeIs slot_tuple_getitem.lookup
    (getItem_tuple (j := j) (Q := fun r s' => r = w ∧ EP X pins σ Q r s') pl (by omega) (by omega) (by rw [List.size_toArray, ← hl]; exact h1) (by simpa using ew) ⟨rfl, fin⟩) hs
theorem mapSeq_set (its : List Value) (n j : Nat) (u : Value) : Obj.mapSeq (·.setIfInBounds j u) { cls := .type "list", data := .seq its.toArray n } = { cls := .type "list", data := .seq (its.set j u).toArray n } := by
  simp [Obj.mapSeq]
theorem Inv.lst {pins : List (Addr × Obj)} {σ : St} {H : Hp} {s : Shared} {p : Addr} {xs : List V} (I : Inv X pins σ H s) (h : H p = some (.lst xs)) :
    ∃ (its : List Value) (n : Nat), Vals xs its ∧ s.heap.get? p = some { cls := .type "list", data := .seq its.toArray n } ∧ xs.length ≤ sizeLine := by
  obtain ⟨z, its, n, r, e⟩ := I.hok p _ h
  exact ⟨its, n, r, e, z⟩
theorem Inv.lstUpd {pins : List (Addr × Obj)} {σ : St} {H : Hp} {s : Shared} {p : Addr} {xs ys : List V} {its its' : List Value} {n n' : Nat} {f : Obj → Obj} (I : Inv X pins σ H s) (h : H p = some (.lst xs))
    (ho : s.heap.get? p = some { cls := .type "list", data := .seq its.toArray n }) (hf : f { cls := .type "list", data := .seq its.toArray n } = { cls := .type "list", data := .seq its'.toArray n' }) (r : Vals ys its') (hz : ys.length ≤ sizeLine) (t : Nat) :
    Inv X pins σ (upd H p (.lst ys)) { s with heap := s.heap.update p f, toks := t } := by
  have e : (s.heap.update p f).get? p = some { cls := .type "list", data := .seq its'.toArray n' } := by
    rw [Heap.get?_update_self f ho (by rw [hf] <;> rfl), hf]
  refine I.write (x := p) (e := p) (by rw [h]; trivial) (.inl rfl) (fun b u hb q => (Heap.get?_update_other _ _ (Ne.symm hb)).trans q) ⟨_, e⟩ ?_
  exact ⟨hz, its', n', r, e⟩
def rSetL : V → V → V → Hp → (Hp → Prop) → Prop := fun o i v H Q => ∃ p xs k j, o = .ref p ∧ i = .int k ∧ H p = some (.lst xs) ∧ ixN xs.length k = some j ∧ Q (upd H p (.lst (xs.set j v)))
theorem set_list : PSet X rSetL := by
  intro pins s σ H o i v ov iv u Q I ro ri rv h
  obtain ⟨p, xs, k, j, rfl, rfl, hp, hj, q⟩ := h
  cases ro
  obtain ⟨t, rfl⟩ := ri
  obtain ⟨its, n, r, ho, hz⟩ := I.lst hp
  obtain ⟨h1, h2, h3, h4⟩ := ixN_seq hj
  have hl := r.length
  have hn := line63
  have I' : Inv X pins σ (upd H p (.lst (xs.set j v))) { s with heap := s.heap.update p (Obj.mapSeq (·.setIfInBounds j u)) } :=
    I.lstUpd hp ho (mapSeq_set its n j u) (r.set rv j) (by rw [List.length_set]; exact hz) s.toks
  by_cases h0 : 0 ≤ k
  · have hk : k.toNat = j := by
      rw [seqIndex_of h0 h4] at h1
      exact Option.some.inj h1
    exact PySem.W.ki_setAt ho h0 (by omega) (by rw [List.size_toArray, ← hl]; exact h4) (by rw [hk]; exact ⟨_, I', q⟩)
  · have hk : (k + (its.toArray.size : Int)).toNat = j := by
      rw [seqIndex_neg (by omega) h3] at h1
      rw [List.size_toArray, ← hl]
      exact Option.some.inj h1
    exact PySem.W.ki_setBack ho (by omega) (by rw [List.size_toArray, ← hl]; exact h3) (by omega) (by rw [hk]; exact ⟨_, I', q⟩)
theorem slice_bounds (lo hi : Option Int) (n : Nat) : (sliceBounds lo hi none n).1 = ((HT.sIx n 0 lo : Nat) : Int) ∧ (sliceBounds lo hi none n).2.1 = ((HT.sIx n n hi : Nat) : Int) ∧ (sliceBounds lo hi none n).2.2 = 1 := by
  refine ⟨?_, ?_, rfl⟩
  · cases lo with
    | none => simp [sliceBounds, HT.sIx]
    | some i =>
      simp only [sliceBounds, HT.sIx, Option.getD_none, show (1 : Int) > 0 by decide, if_true]
      by_cases h : i < 0
      · simp only [h, if_true] <;> omega
      · simp only [h, if_false] <;> omega
  · cases hi with
    | none => simp [sliceBounds, HT.sIx]
    | some i =>
      simp only [sliceBounds, HT.sIx, Option.getD_none, show (1 : Int) > 0 by decide, if_true]
      by_cases h : i < 0
      · simp only [h, if_true] <;> omega
      · simp only [h, if_false] <;> omega
theorem slicePick_cut (its : List Value) (lo hi : Option Int) : slicePick its.toArray lo hi none = ((its.drop (HT.sIx its.length 0 lo)).take (HT.sIx its.length its.length hi - HT.sIx its.length 0 lo)).toArray := by
  obtain ⟨h1, h2, h3⟩ := slice_bounds lo hi its.toArray.size
  unfold slicePick
  rw [h1, h2, h3]
  simp only [sliceRange_one, pick_run, List.size_toArray] <;> rfl
def rSlL (K : PySem.W.Frag) : V → Option Int → Option Int → Hp → VK → Prop := fun x lo hi H Q => ∃ a xs, x = .ref a ∧ SqL K H a xs ∧ ∀ p, H p = none → Q (.ref p) (upd H p (.lst (cutV xs lo hi)))
theorem sl_list : SlR X (rSlL X.K) := by
  intro pins s σ H x v vl vu lo hi sl Q I rx hs pl pu h
  obtain ⟨a, xs, rfl, hx, q⟩ := h
  cases rx
  obtain ⟨its, r, ht, hz⟩ := I.list hx
  have hlen := r.length
  refine ⟨"list", _, slot_list_getitem.lookup, ht.isList.typeIs, ?_⟩
  refine wpAny_getItem_list_slice ht.isList hs pl pu .none (by simp) ?_ (by rw [List.size_toArray] <;> omega)
  rw [slicePick_cut, ← hlen]
  refine ⟨.ref s.heap.objs.size, _, I.laid (t' := s.toks) (o := .lst (cutV xs lo hi)) (fun b ob q => Heap.get?_push_of_some _ q) (Nat.le_refl _) ?_, rfl, q _ (I.hok.fresh (Nat.le_refl _))⟩
  exact ⟨Nat.le_trans (cutV_length xs lo hi) hz, _, 0, (r.drop (HT.sIx xs.length 0 lo)).take (HT.sIx xs.length xs.length hi - HT.sIx xs.length 0 lo), Heap.get?_push_size _ rfl⟩
theorem call_len_seq : CallR X (.builtin "len") (fun xs H Q => ∃ p ys, xs = [.ref p] ∧ (SqL X.K H p ys ∨ SqT X.K H p ys) ∧ Q (.int ys.length) H) := by
  intro pins s σ H xs us Q I r h
  obtain ⟨p, ys, rfl, hq, q⟩ := h
  obtain ⟨u, rfl, rx⟩ := vals1 r
  cases rx
  have hn := line63
  rcases hq with hq | hq
  · obtain ⟨its, r', pl, hz⟩ := I.list hq
    have hlen := r'.length
    exact Calls.call_len_list pl.isList (by simp only [List.size_toArray] <;> omega) ⟨.int ys.length, H, I.tok _, ⟨s.toks + 1, by rw [List.size_toArray, hlen]⟩, q⟩
  · obtain ⟨its, r', pl, hz⟩ := I.tuple hq
    have hlen := r'.length
    exact len_tuple pl (by simp only [List.size_toArray] <;> omega) ⟨.int ys.length, H, I.tok _, ⟨s.toks + 1, by rw [List.size_toArray, hlen]⟩, q⟩
theorem call_list_of : CallR X (.type "list") (fun xs H Q => ∃ p ys, xs = [.ref p] ∧ (SqL X.K H p ys ∨ SqT X.K H p ys) ∧ ∀ l, H l = none → Q (.ref l) (upd H l (.lst ys))) := by
  intro pins s σ H xs us Q I r h
  obtain ⟨p, ys, rfl, hq, q⟩ := h
  obtain ⟨u, rfl, rx⟩ := vals1 r
  cases rx
  have fin : ∀ (its : List Value), Vals ys its → ys.length ≤ sizeLine → ∀ (h' : Heap) (c' : Nat), (∀ b o', s.heap.get? b = some o' → h'.get? b = some o') →
      h'.get? s.heap.objs.size = some { cls := .type "list", dict := none, data := .seq its.toArray c', slots := #[] } → EP X pins σ Q (.ref s.heap.objs.size) { s with heap := h' } := fun its r' hz h' c' kp e =>
    ⟨.ref s.heap.objs.size, _, I.laid (t' := s.toks) kp (Nat.le_refl _) (show ObjOk X.prog X.w _ h' _ (.lst ys) from ⟨hz, its, c', r', e⟩), rfl, q _ (I.hok.fresh (Nat.le_refl _))⟩
  rcases hq with hq | hq
  · obtain ⟨its, r', pl, hz⟩ := I.list hq
    have hlen := r'.length
    obtain ⟨o, ho, hc, n, hd⟩ := pl.isList
    exact call_list_seq p (.inl rfl) ho hc hd (fun h' c' kp e => fin its r' hz h' c' kp e) (by simp only [List.size_toArray] <;> omega)
  · obtain ⟨its, r', pl, hz⟩ := I.tuple hq
    have hlen := r'.length
    obtain ⟨o, ho, hc, n, hd⟩ := pl
    exact call_list_seq p (.inr rfl) ho hc hd (fun h' c' kp e => fin its r' hz h' c' kp e) (by simp only [List.size_toArray] <;> omega)
theorem call_tuple_of : CallR X (.type "tuple") (fun xs H Q => ∃ p ys, xs = [.ref p] ∧ ((SqL X.K H p ys ∧ ∀ l, H l = none → Q (.ref l) (upd H l (.tup ys))) ∨ (SqT X.K H p ys ∧ Q (.ref p) H))) := by
  intro pins s σ H xs us Q I r h
  obtain ⟨p, ys, rfl, h⟩ := h
  obtain ⟨u, rfl, rx⟩ := vals1 r
  cases rx
  rcases h with ⟨hq, q⟩ | ⟨hq, q⟩
  · obtain ⟨its, r', pl, hz⟩ := I.list hq
    have hlen := r'.length
    refine call_tuple_list pl.isList (fun h' kp => ?_) (by simp only [List.size_toArray] <;> omega)
    have I1 : Inv X pins σ H { s with heap := h' } := I.kept (t' := s.toks) kp
    have I2 : Inv X pins σ (upd H h'.objs.size (.tup ys)) { s with heap := h'.push { cls := .type "tuple", data := .seq its.toArray } } :=
      I1.laid (t' := s.toks) (fun b o e => Heap.get?_push_of_some _ e) (Nat.le_refl _) (show ObjOk X.prog X.w _ _ _ (.tup ys) from ⟨hz, its, r', IsTup.new _ _⟩)
    exact ⟨.ref h'.objs.size, _, I2, rfl, q _ (I1.hok.fresh (Nat.le_refl _))⟩
  · obtain ⟨its, r', pl, hz⟩ := I.tuple hq
    exact call_tuple_same pl ⟨.ref p, H, I, rfl, q⟩
def tyV (K : PySem.W.Frag) (T : String) (x : V) (H : Hp) : Prop := match x with
  | .str _ => T = "str"
  | .int _ => T = "int"
  | .ref p => (T = "list" ∧ ∃ xs, SqL K H p xs) ∨ (T = "tuple" ∧ ∃ o, K.lookup p = some o ∧ o.cls = .type "tuple" ∧ o.dict = none) ∨
      (T = "dict" ∧ ((∃ kvs, H p = some (.dK kvs)) ∨ ∃ kvs, H p = some (.dT kvs))) ∨ (T = "set" ∧ ∃ S n, H p = some (.set S n))
  | _ => False
theorem tyV_is {pins : List (Addr × Obj)} {σ : St} {H : Hp} {s : Shared} {T : String} {x : V} {v : Value} (I : Inv X pins σ H s) (r : RelV x v) (ty : tyV X.K T x H) :
    s.TypeIs v T ∧ ∀ a, v = .ref a → ∃ ob, s.heap.get? a = some ob ∧ ob.dict = none := by
  cases x with
  | str z =>
    obtain ⟨t, rfl⟩ := r
    cases (show T = "str" from ty)
    exact ⟨typeIs_str s z t, fun _ e => nomatch e⟩
  | int i =>
    obtain ⟨t, rfl⟩ := r
    cases (show T = "int" from ty)
    exact ⟨typeIs_int s i t, fun _ e => nomatch e⟩
  | ref p =>
    cases r
    rcases ty with ⟨rfl, xs, hq⟩ | ⟨rfl, o, hk, hc, hd⟩ | ⟨rfl, hk⟩ | ⟨rfl, S, n, hk⟩
    · obtain ⟨its, _, pl, _⟩ := I.list hq
      refine ⟨pl.isList.typeIs, fun a e => ?_⟩
      cases e
      obtain ⟨o, n, e, c, hd, _⟩ := pl
      exact ⟨o, e, hd⟩
    · refine ⟨⟨o, I.kIn p o hk, hc⟩, fun a e => ?_⟩
      cases e
      exact ⟨o, I.kIn _ o hk, hd⟩
    · have z : ∃ o, s.heap.get? p = some o ∧ o.ExactDict := by
        rcases hk with ⟨kvs, hk⟩ | ⟨kvs, hk⟩
        · obtain ⟨_, _, _, _, o, _, _, e, ex, _⟩ := I.hok p _ hk
          exact ⟨o, e, ex⟩
        · obtain ⟨_, _, _, _, o, _, _, e, ex, _⟩ := I.hok p _ hk
          exact ⟨o, e, ex⟩
      obtain ⟨o, e, ex⟩ := z
      refine ⟨⟨o, e, ex.1⟩, fun a e2 => ?_⟩
      cases e2
      exact ⟨o, e, ex.2.1⟩
    · obtain ⟨o, _, _, _, e, ex, _⟩ := I.hok p _ hk
      refine ⟨⟨o, e, ex.1⟩, fun a e2 => ?_⟩
      cases e2
      exact ⟨o, e, ex.2.1⟩
  | _ => exact False.elim ty
def tBM0 (K : PySem.W.Frag) (T : String) (r : V → List V → Hp → VK → Prop) (to : TE) : TE := fun σ H Q => to σ H fun x H1 => tyV K T x H1 ∧ r x [] H1 Q
def tBM (K : PySem.W.Frag) (T : String) (r : V → List V → Hp → VK → Prop) (to : TE) (t : TA) : TE := fun σ H Q => to σ H fun x H1 => tyV K T x H1 ∧ t σ H1 fun xs H2 => r x xs H2 Q
variable {o e : Expr} {es : List Expr} {to : TE} {t : TA} {name : Str} {apos cpos : PySem.Pos} {T id : String} {r : V → List V → Hp → VK → Prop}
theorem pe_bm0 (pa : PlainAttrs T) (slot : Slot T name id) (hty : typeOf (.builtin id) = pure (.type "method_descriptor")) (hm : MtR X id r) (ho : PE X o to)
    (hbase : attributeBase o name X.env (eval o X.env) = eval o X.env := by rfl) (hline : (apos.endLine == cpos.line) = true := by rfl) : PE X (.Call (.Attribute o name apos) [] [] cpos) (tBM0 X.K T r to) := by
  intro pins s σ H Q I h
  refine wpAny_Call_method0_late hbase hline (thn (ho pins s σ H _ I h) fun v s1 ⟨x, H1, I1, r1, ty, q1⟩ => ?_)
  obtain ⟨h1, h2⟩ := tyV_is I1 r1 ty
  exact ⟨T, id, pa, slot, hty, h1, h2, Calls.callWith_builtin rfl (PySem.evalArgs_none (hm pins s1 σ H1 x [] v [] Q I1 r1 .nil q1))⟩
theorem pe_bm (pa : PlainAttrs T) (slot : Slot T name id) (hty : typeOf (.builtin id) = pure (.type "method_descriptor")) (hm : MtR X id r) (ho : PE X o to) (ha : PA X (e :: es) t)
    (hbase : attributeBase o name X.env (eval o X.env) = eval o X.env := by rfl)
    (hfew : ((backTo cpos (starEach (e :: es) X.env)).all (fun x => !x.1) && (backToKw cpos (keywordEach [] X.env)).all (fun x => x.1.isSome)
      && decide ((e :: es).length + ([] : List Keyword).length + (if ([] : List Keyword).isEmpty then 0 else 1) < 30)) = true := by rfl)
    (hline : (apos.endLine == cpos.line) = true := by rfl) (hs : starEach (e :: es) X.env = (false, eval e X.env) :: starEach es X.env := by rfl) (hplain : (backTo cpos (starEach es X.env)).any (·.1) = false := by rfl) :
    PE X (.Call (.Attribute o name apos) (e :: es) [] cpos) (tBM X.K T r to t) := by
  intro pins s σ H Q I h
  refine wpAny_Call_method_late hbase hfew hline rfl (thn (ho pins s σ H _ I h) fun v s1 ⟨x, H1, I1, r1, ty, q1⟩ => ?_)
  obtain ⟨h1, h2⟩ := tyV_is I1 r1 ty
  refine ⟨T, id, pa, slot, hty, h1, h2, ?_⟩
  have hA := ha cpos pins s1 σ H1 _ I1 q1
  rw [hs] at hA ⊢
  refine Calls.callWith_builtin (by show (false || (backTo cpos (starEach es X.env)).any (·.1)) = false; rw [hplain] <;> rfl) (Calls.evalArgs_plain ?_)
  exact thn hA fun us s2 ⟨vs, H2, I2, r2, q2⟩ => hm pins s2 σ H2 x vs v us Q I2 r1 r2 q2
end
end L2
namespace L2
open PySem PySem.Spec PyProof.Rows
def MtM (X : Cx) (id : String) (r : V → List V → Hp → VK → Prop) : Prop :=
  ∀ (pins : List (Addr × Obj)) (s : Shared) (σ : St) (H : Hp) (x : V) (xs : List V) (v : Value) (us : List Value) (Q : VK), Inv X pins σ H s → RelV x v → Vals xs us → r x xs H Q →
    wpAny (model X.prog X.w) X.A (call (.builtin id) (v :: us)) (EP X pins σ Q) X.xe s
theorem Vals.one : ∀ {x : V} {us : List Value}, Vals [x] us → ∃ u, us = [u] ∧ RelV x u
  | _, _, .cons r .nil => ⟨_, rfl, r⟩
theorem Vals.zero : ∀ {us : List Value}, Vals [] us → us = []
  | _, .nil => rfl
theorem Vals.dropLast {xs : List V} {us : List Value} (h : Vals xs us) : Vals xs.dropLast us.dropLast := by
  induction h with
  | nil => exact .nil
  | cons r t ih =>
    cases t with
    | nil => exact .nil
    | cons q t' => exact .cons r ih
theorem Vals.eraseIdx : ∀ {xs : List V} {us : List Value} (i : Nat), Vals xs us → Vals (xs.eraseIdx i) (us.eraseIdx i)
  | _, _, _, .nil => .nil
  | _, _, 0, .cons _ t => t
  | _, _, i + 1, .cons r t => .cons r (Vals.eraseIdx i t)
theorem Vals.rep {xs : List V} {us : List Value} (h : Vals xs us) : ∀ k : Nat, Vals (List.replicate k xs).flatten (List.replicate k us).flatten
  | 0 => .nil
  | k + 1 => by
    rw [List.replicate_succ, List.replicate_succ, List.flatten_cons, List.flatten_cons]
    exact Vals.append h (Vals.rep h k)
theorem erase_last {α : Type} (l : List α) : l.eraseIdx (l.length - 1) = l.dropLast := by
  induction l with
  | nil => rfl
  | cons a r ih =>
    cases r with
    | nil => rfl
    | cons b r =>
      have e : (a :: b :: r).length - 1 = ((b :: r).length - 1) + 1 := by
        have h1 : (a :: b :: r).length = r.length + 2 := rfl
        have h2 : (b :: r).length = r.length + 1 := rfl
        omega
      rw [e, List.eraseIdx_cons_succ, ih]
      all_goals rfl
theorem len_erase {α : Type} : ∀ (l : List α) (i : Nat), (l.eraseIdx i).length ≤ l.length
  | [], _ => Nat.le_refl _
  | _ :: _, 0 => Nat.le_succ _
  | _ :: r, i + 1 => Nat.succ_le_succ (len_erase r i)
theorem foldl_rep (its : List Value) : ∀ (k : Nat) (acc : List Value),
    List.foldl (fun x1 x2 => x1 ++ x2) acc.toArray (List.replicate k its.toArray) = (acc ++ (List.replicate k its).flatten).toArray
  | 0, acc => by simp
  | k + 1, acc => by
    have e : acc.toArray ++ its.toArray = (acc ++ its).toArray := by simp
    have e2 : (acc ++ its) ++ (List.replicate k its).flatten = acc ++ (List.replicate (k + 1) its).flatten := by
      rw [List.replicate_succ, List.flatten_cons, List.append_assoc]
    rw [← e2, ← foldl_rep its k (acc ++ its), ← e, List.replicate_succ, List.foldl_cons]
section
variable {X : Cx} {pins : List (Addr × Obj)} {σ : St} {H : Hp} {s : Shared} {l b : Addr} {xs ys zs : List V}
theorem Inv.lset {its its' : List Value} {n : Nat} {f : Array Value → Array Value} {t' : Nat} (I : Inv X pins σ H s) (hH : H l = some (.lst xs))
    (e : s.heap.get? l = some { cls := .type "list", data := .seq its.toArray n }) (hf : f its.toArray = its'.toArray) (hv : Vals ys its') (hz : ys.length ≤ sizeLine) :
    Inv X pins σ (upd H l (.lst ys)) { s with heap := s.heap.update l (Obj.mapSeq f), toks := t' } := by
  have q := PySem.IsL.update e f
  rw [hf] at q
  refine I.write (x := l) (e := l) (by rw [hH]; exact trivial) (.inl rfl) (fun b' u hb hu => (Heap.get?_update_other s.heap (Obj.mapSeq f) (Ne.symm hb)).trans hu) ⟨_, q⟩ ?_
  exact ⟨hz, its', _, hv, q⟩
theorem Inv.lnew {its : List Value} {t' : Nat} (I : Inv X pins σ H s) (hv : Vals ys its) (hz : ys.length ≤ sizeLine) :
    Inv X pins σ (upd H s.heap.objs.size (.lst ys)) { s with heap := s.heap.push { cls := .type "list", data := .seq its.toArray }, toks := t' } :=
  I.laid (fun _ _ q => Heap.get?_push_of_some _ q) (Nat.le_refl _) ⟨hz, its, 0, hv, Heap.get?_push_size _ rfl⟩
theorem Inv.fresh (I : Inv X pins σ H s) : H s.heap.objs.size = none := I.hok.fresh (Nat.le_refl _)
theorem Inv.lstM (I : Inv X pins σ H s) (hH : H l = some (.lst xs)) : xs.length ≤ sizeLine ∧ ∃ (its : List Value) (n : Nat), Vals xs its ∧ xs.length = its.length ∧ s.heap.get? l = some { cls := .type "list", data := .seq its.toArray n } := by
  obtain ⟨z, its, n, r, e⟩ := I.hok l _ hH
  exact ⟨z, its, n, r, r.length, e⟩
theorem notLongL {n : Nat} (h : n ≤ sizeLine) : Builtin.List.listTooLong n = false := by
  unfold Builtin.List.listTooLong
  exact decide_eq_false (by omega)
end
section
variable {X : Cx}
def rAppend : V → List V → Hp → VK → Prop := fun x vs H Q => ∃ l xs y, x = .ref l ∧ vs = [y] ∧ H l = some (.lst xs) ∧ xs.length < sizeLine ∧ Q .non (upd H l (.lst (xs ++ [y])))
theorem mt_append : MtM X "list.append" rAppend := by
  intro pins s σ H x vs v us Q I rx rv h
  obtain ⟨l, xs, y, rfl, rfl, hH, hz, q⟩ := h
  cases rx
  obtain ⟨u, rfl, ru⟩ := rv.one
  obtain ⟨z, its, n, r, hl, e⟩ := I.lstM hH
  refine call_meets F.slot_list_append ⟨_, e, rfl⟩ F.entry_list_append (F.args_list_append_2 _ _) (PySem.list_append l its.toArray n u (by rw [List.size_toArray]; omega)) ⟨e, ?_⟩
  refine ⟨.non, _, I.lset (its' := its ++ [u]) hH e (by simp) (r.append (.cons ru .nil)) ?_, rfl, q⟩
  rw [List.length_append, List.length_singleton]
  omega
def rPop : V → List V → Hp → VK → Prop := fun x vs H Q => ∃ l xs y, x = .ref l ∧ vs = [] ∧ H l = some (.lst xs) ∧ xs[xs.length - 1]? = some y ∧ Q y (upd H l (.lst xs.dropLast))
theorem mt_pop : MtM X "list.pop" rPop := by
  intro pins s σ H x vs v us Q I rx rv h
  obtain ⟨l, xs, y, rfl, rfl, hH, hy, q⟩ := h
  cases rx
  have hus := rv.zero
  subst hus
  obtain ⟨z, its, n, r, hl, e⟩ := I.lstM hH
  obtain ⟨u, hu, ru⟩ := r.get hy
  have hy' : its.toArray[its.toArray.size - 1]? = some u := by
    show its.toArray[its.length - 1]? = some u
    rw [← Array.getElem?_toList, ← hl]
    exact hu
  refine call_meets F.slot_list_pop ⟨_, e, rfl⟩ F.entry_list_pop (F.args_list_pop_1 _) (MeetsSeq.list_pop_last l its.toArray n u hy' (by rw [List.size_toArray]; omega)) ⟨e, ?_⟩
  refine ⟨y, _, I.lset (its' := its.dropLast) hH e ?_ r.dropLast ?_, ru, q⟩
  · show its.toArray.eraseIdxIfInBounds (its.toArray.size - 1) = its.dropLast.toArray
    rw [List.size_toArray, List.eraseIdxIfInBounds_toArray, erase_last]
  · rw [List.length_dropLast]
    omega
def rPopAt : V → List V → Hp → VK → Prop := fun x vs H Q => ∃ l xs i k y, x = .ref l ∧ vs = [.int i] ∧ H l = some (.lst xs) ∧ -(2 ^ 63) ≤ i ∧ i < 2 ^ 63 ∧ seqIndex? i xs.length = some k ∧ xs[k]? = some y ∧ Q y (upd H l (.lst (xs.eraseIdx k)))
theorem mt_popAt : MtM X "list.pop" rPopAt := by
  intro pins s σ H x vs v us Q I rx rv h
  obtain ⟨l, xs, i, k, y, rfl, rfl, hH, h1, h2, hk, hy, q⟩ := h
  cases rx
  obtain ⟨u, rfl, ru⟩ := rv.one
  obtain ⟨t, rfl⟩ := ru
  obtain ⟨z, its, n, r, hl, e⟩ := I.lstM hH
  obtain ⟨w, hw, rw'⟩ := r.get hy
  refine call_meets F.slot_list_pop ⟨_, e, rfl⟩ F.entry_list_pop (F.args_list_pop_2 _ _)
    (MeetsSeq.list_pop_at l its.toArray n i t k w (fitsIndex_both h1 h2) (by rw [List.size_toArray, ← hl]; exact hk) (by rw [← Array.getElem?_toList]; exact hw) (by rw [List.size_toArray]; omega)) ⟨e, ?_⟩
  refine ⟨y, _, I.lset (its' := its.eraseIdx k) hH e ?_ (r.eraseIdx k) ?_, rw', q⟩
  · show its.toArray.eraseIdxIfInBounds k = (its.eraseIdx k).toArray
    rw [List.eraseIdxIfInBounds_toArray]
  · have := len_erase xs k
    omega
def rCat : R2 := fun x y H Q => ∃ l b xs zs, x = .ref l ∧ y = .ref b ∧ H l = some (.lst xs) ∧ H b = some (.lst zs) ∧ xs.length + zs.length ≤ sizeLine ∧ ∀ p, H p = none → Q (.ref p) (upd H p (.lst (xs ++ zs)))
theorem op_cat : OpR X (binaryOp .Add) rCat := by
  intro pins s σ H x y v u Q I rx ry h
  obtain ⟨l, b, xs, zs, rfl, rfl, hH, hB, hz, q⟩ := h
  cases rx
  cases ry
  obtain ⟨z, its, n, r, hl, e⟩ := I.lstM hH
  obtain ⟨z2, its2, n2, r2, hl2, e2⟩ := I.lstM hB
  refine PySem.P.add_list e e2 ?_ (by rw [List.size_toArray, List.size_toArray]; omega)
  have ea : its.toArray ++ its2.toArray = (its ++ its2).toArray := by simp
  rw [ea]
  exact ⟨.ref _, _, I.lnew (t' := s.toks) (r.append r2) (by rw [List.length_append]; omega), rfl, q _ I.fresh⟩
def rRep : R2 := fun x y H Q => ∃ l k xs, x = .ref l ∧ y = .int k ∧ H l = some (.lst xs) ∧ -(2 ^ 63) ≤ k ∧ k < 2 ^ 63 ∧ xs.length * k.toNat ≤ sizeLine ∧
  ∀ p, H p = none → Q (.ref p) (upd H p (.lst (List.replicate k.toNat xs).flatten))
theorem len_rep {α : Type} (xs : List α) (k : Nat) : (List.replicate k xs).flatten.length = k * xs.length := by
  induction k with
  | zero => simp
  | succ k ih => rw [List.replicate_succ, List.flatten_cons, List.length_append, ih, Nat.succ_mul, Nat.add_comm]
theorem op_rep : OpR X (binaryOp .Mult) rRep := by
  intro pins s σ H x y v u Q I rx ry h
  obtain ⟨l, k, xs, rfl, rfl, hH, h1, h2, hz, q⟩ := h
  cases rx
  obtain ⟨t, rfl⟩ := ry
  obtain ⟨z, its, n, r, hl, e⟩ := I.lstM hH
  have hlen : its.toArray.size * k.toNat ≤ sizeLine := by rw [List.size_toArray, ← hl]; exact hz
  have hcap : ¬ its.toArray.size * k.toNat > (2 ^ 63 - 1) / 8 := by
    have : (sizeLine : Nat) ≤ (2 ^ 63 - 1) / 8 := by decide
    omega
  have hfit : ¬ (!Builtin.List.listFitsIndex k) = true := by
    rw [fitsIndex_both h1 h2]
    exact Bool.false_ne_true
  have hlong : ¬ Builtin.List.listTooLong (its.toArray.size * k.toNat) = true := by
    rw [notLongL hlen]
    exact Bool.false_ne_true
  have hnew : List.foldl (fun x1 x2 => x1 ++ x2) #[] (List.replicate (if its.toArray.isEmpty = true then 0 else k.toNat) its.toArray) = (List.replicate k.toNat its).flatten.toArray := by
    have f0 : ∀ m : Nat, List.foldl (fun x1 x2 => x1 ++ x2) #[] (List.replicate m its.toArray) = (List.replicate m its).flatten.toArray := fun m => by
      have := foldl_rep its m []
      rw [List.nil_append] at this
      exact this
    rw [f0]
    cases its with
    | nil => simp
    | cons a r' => rw [if_neg (by simp)]
  refine wpAny_binaryOp_repeat_ref (T := "list") (U := "int") (by decide) ⟨_, e, rfl⟩ (fun s' => typeIs_int s' k t) noFill_list_mul F.fills_int_mul F.slot_int_rmul repeat_list F.slot_int_index.lookup
    (call_meets F.slot_int_rmul (typeIs_int s k t) F.entry_int_rmul (F.args_int_rmul_2 _ _) (int___rmul___int_list k t l its.toArray n)
      ⟨e, rfl, ⟨_, e, rfl⟩, call_meets F.slot_list_mul ⟨_, e, rfl⟩ F.entry_list_mul (F.args_list_mul_2 _ _) (AutoListH.list___mul___list_int_3 l its.toArray n k t hfit hcap hlong) ⟨e, ?_⟩⟩)
  rw [hnew]
  exact ⟨.ref _, _, I.lnew (t' := s.toks) (r.rep k.toNat) (by rw [len_rep, Nat.mul_comm]; exact hz), rfl, q _ I.fresh⟩
end
end L2
namespace Att
open PySem PySem.W PySem.Calls PyProof.Rows
theorem ints_of_wellAll {P : Params} {h : Heap} : ∀ (ns : List Int) (vs : List Value), WellAll P h vs (ns.map WData.int) → IntsAre vs ns := by
  intro ns
  induction ns with
  | nil =>
    intro vs w
    rw [List.map_nil] at w
    cases w
    exact .nil
  | cons n ns ih =>
    intro vs w
    rw [List.map_cons] at w
    cases w with
    | cons a b =>
      cases a
      exact .cons _ _ (ih _ b)
theorem script_of {l : OpenLaw} {n : Nat} (hn : l.most = some n) {P : Params} {h : Heap} {args : List WData} {vals : List Value}
    (hpre : l.row.toRowW.claim.pre args = true) (hwl : WellAll P h vals args) :
    ∃ a vs ns, vals = [Value.ref a] ∧ args = [WData.list (ns.map WData.int)] ∧ h.get? a = some { cls := .type "list", data := .seq vs.toArray } ∧ IntsAre vs ns ∧ ns.length ≤ n := by
  have hsh : WShape.hasAll [] args [.list .int] = true := (pre_splitW hpre).1
  have hc : l.pre.holds [] { args := args } = true := (pre_splitW hpre).2
  obtain ⟨d, r, rfl, h1, h2⟩ := hasAllW_cons hsh
  obtain rfl := hasAllW_nil h2
  obtain ⟨xs, rfl, h3⟩ := hasW_list h1
  obtain ⟨ns, rfl⟩ := items_int h3
  have hlen : ns.length ≤ n := by
    unfold OpenLaw.pre at hc
    have h4 : (WTm.not (.lt (.lit (.int (n : Int))) (.len (.arg 0)))).holds [] { args := [.list (ns.map .int)] } = true := by
      have h4 := (holds_andW hc).1
      rw [hn] at h4
      exact h4
    have h5 := condW_of h4 (w_not (w_lt w_lit (w_len_list (w_arg rfl))))
    rw [List.length_map] at h5
    refine Nat.le_of_not_lt fun q => ?_
    have q' : (n : Int) < ((ns.length : Nat) : Int) := by omega
    first
      | (rw [decide_eq_true q'] at h5; exact absurd h5 (by decide))
      | (simp at h5; omega)
  cases hwl with
  | cons w1 w2 =>
    cases w2
    cases w1 with
    | list ho hall => exact ⟨_, _, ns, rfl, rfl, ho, ints_of_wellAll ns _ hall, hlen⟩
theorem post_true (l : OpenLaw) (args : List WData) : l.row.toRowW.claim.post args (.bool true) args = true :=
  postW_of (r := l.row.toRowW) (X := (true == true))
    (show WShape.has [] (.bool true) .bool = true by first | rfl | decide | simp [WShape.has, WShape.arms, WShape.armsAll])
    (show (WTm.eq .res (.lit (.bool true))).value [] { args := args, res := some (.bool true), after := args } = some (.bool (true == true)) from w_eq_bool (w_res rfl) w_lit) rfl
theorem attach_call {l : OpenLaw} {n : Nat} {q : Program} {loose : List Str} {XP : (Str → Option Value) → Heap → Prop} {YP : World → Heap → Prop} {d : DefRec}
    (hn : l.most = some n) (hdf : d.params.defaults = [])
    (call : ∀ (w : World) (s₀ s₁ : Shared) (mg mb : Str → Option Value) (fa : Addr) (o : Obj) (pm cd doc : Value) (a : Addr) (vs : List Value) (ns : List Int),
      Ground q loose [] XP w s₀ mg mb s₁.heap → YP w s₁.heap →
      s₁.heap.get? fa = some o → o.data = .func (docDef d.name d.params d.body d.scope pm cd doc) → s₁.heap.CodeRec cd d.name → mg d.name = some (.ref fa) →
      s₁.heap.get? a = some { cls := .type "list", data := .seq vs.toArray } → IntsAre vs ns → ns.length ≤ n → s₁.gens = #[] →
      codeAny (model l.prog w) callerA (.call (.ref fa) ⟨[.ref a], []⟩) (fun r s' => r = .ok (.ret (.bool true)) ∧ OldK s₁.heap s'.heap ∧ s'.os = s₁.os ∧ AllBare s'.gens) s₁) :
    WalkO q loose XP YP l.row.toRowW d [] (fun f vs => PySem.call f vs) := by
  intro w s₀ s₁ mg mb G Y fa o pm cd doc dV kV ho hd hcd hD hmg hg args vals as hpre hlay hrd hwl hlo
  obtain rfl : dV = .none := Dflts.none hD hdf
  obtain rfl : kV = .none := Dflts.noKw hD
  obtain ⟨a, vs, ns, rfl, rfl, hobj, hints, hlen⟩ := script_of hn hpre hwl
  refine enter_call (codeAny_mono (call w s₀ s₁ mg mb fa o pm cd doc a vs ns G Y ho (fd_plain hd) hcd hmg hobj hints hlen hg) fun r s' hq => ?_)
  obtain ⟨rfl, h2, h3, h4⟩ := hq
  exact ⟨.inl ⟨.bool true, .bool true, [], rfl, fun _ => rfl, .bool true, post_true l _, fun _ => ⟨List.Pairwise.nil, fun _ hm => (nomatch hm)⟩⟩, h2, h3, h4⟩
end Att
namespace L2
open PySem PySem.Spec PyProof.Rows
theorem vals_ints : ∀ {vs : List Value} {ns : List Int}, IntsAre vs ns → Vals (ns.map V.int) vs
  | _, _, .nil => .nil
  | _, _, .cons n t h => .cons ⟨t, rfl⟩ (vals_ints h)
def Only (H : Hp) : Prop := ∀ b, H b = none ∨ ∃ o xs, H b = some (.frz o (.lst xs))
theorem law_call {P : Program} {w : World} {K : PySem.W.Frag} {mg mb : Str → Option Value} {CX : CXT} {k : Nat} {fa a : Addr} {fd : FuncData} {x : Str} {sp : Sp} {s₁ : Shared} {vs : List Value} {ns : List Int}
    (KX : K.In s₁.heap) (hns : s₁.heap.Ns mainGlobals mg) (hb : s₁.heap.Ns builtinsNs mb) (hbb : ∀ x : Str, x ≠ "__name__" → mb x = bootBuiltins x) (hlim : s₁.heap.NoLimit) (hg : s₁.gens = #[])
    (ha : s₁.heap.get? a = some { cls := .type "list", data := .seq vs.toArray }) (hi : IntsAre vs ns) (hl : ns.length ≤ sizeLine) (hr : Room k callerA)
    (F : ∀ base : Heap, K.In base → base.Ns mainGlobals mg → FnOk P w K mg base CX k fa fd [x] sp) (hbind : ∀ (s : Shared) (u : Value), BindsTo s fd ⟨[u], []⟩ [(x, u)])
    (hsp : ∀ H : Hp, Only H → SqL K H a (ns.map V.int) → sp [.ref a] H (fun v _ => v = .bl true) fun _ _ _ => False)
    (hCX : ∀ H e s', CX [] H s₁ (fun _ _ _ => False) e s' → False) :
    codeAny (model P w) callerA (.call (.ref fa) ⟨[.ref a], []⟩) (fun r s' => r = .ok (.ret (.bool true)) ∧ OldK s₁.heap s'.heap ∧ s'.os = s₁.os ∧ AllBare s'.gens) s₁ := by
  have rv := vals_ints hi
  have lenV := hi.length
  have core : ∀ H : Hp, Only H → SqL K H a (ns.map V.int) → HOk P w H s₁.heap → (∀ b, H b ≠ none → b = a) → (H a ≠ none → K.lookup a = none) →
      codeAny (model P w) callerA (.call (.ref fa) ⟨[.ref a], []⟩) (fun r s' => r = .ok (.ret (.bool true)) ∧ OldK s₁.heap s'.heap ∧ s'.os = s₁.os ∧ AllBare s'.gens) s₁ := by
    intro H hO hS hok hA hK
    have base_of : ∀ {b : Addr} {o : Obj}, s₁.heap.get? b = some o → H b = none → (hidT s₁.heap H).get? b = some o := fun e n => hidT_get e n
    have noA : ∀ {b : Addr} {o : Obj} {es : Array DictEntry} {ep : Nat}, s₁.heap.get? b = some o → o.data = .dict es ep → H b = none := fun {b o es ep} e d => by
      cases q : H b with
      | none => rfl
      | some u =>
        have e' : b = a := hA b (by rw [q]; simp)
        subst e'
        rw [ha] at e; cases e
        have d' : Data.seq vs.toArray _ = Data.dict es ep := d
        cases d'
    have nsK : ∀ {b : Addr} {m : Str → Option Value}, s₁.heap.Ns b m → (hidT s₁.heap H).Ns b m := fun {b m} ⟨o, es, ep, e, d, r⟩ => ⟨o, es, ep, base_of e (noA e d), d, r⟩
    have hKb : K.In (hidT s₁.heap H) := fun b o e => base_of (KX b o e) (by
      cases q : H b with
      | none => rfl
      | some u =>
        have e' : b = a := hA b (by rw [q]; simp)
        subst e'
        rw [hK (by rw [q]; simp)] at e; cases e)
    have hM : Mod K mg (hidT s₁.heap H) := ⟨hKb, nsK hns, ⟨mb, nsK hb, hbb⟩, let ⟨mc, h1, h2⟩ := hlim; ⟨mc, nsK h1, h2⟩⟩
    have e0 : Env0 P w K mg (hidT s₁.heap H) callerA [] s₁ H := ⟨rfl, hM, fun b o e => of_hidT e, Nat.le_of_eq (hidT_size _ _), trivial, fun b hb => absurd (show b ∈ ([] : List Addr) from hb) (by simp), hok, .of_eq hg⟩
    refine codeAny_mono ((F _ hKb (nsK hns)).run callerA [] s₁ H ⟨[.ref a], []⟩ [.ref a] [.ref a] _ _ hr e0 (hbind s₁ (.ref a)) (.cons rfl .nil) (hsp H hO hS)) fun r s' h => ?_
    cases r with
    | error e => exact (hCX H e s' h).elim
    | ok fl =>
      cases fl with
      | next => exact False.elim h
      | brk => exact False.elim h
      | cont => exact False.elim h
      | ret u =>
        obtain ⟨v, H', os, bare, un, hok', r', q⟩ := h
        have q' : v = .bl true := q
        subst q'
        obtain rfl : u = Value.bool true := r'
        refine ⟨rfl, OldK.of_keep fun b o e => ?_, os, bare⟩
        cases q : H b with
        | none => exact un.keep b o e q (by intro z; exact absurd (show b ∈ ([] : List Addr) from z) (by simp)) (by simp)
        | some u =>
          rcases hO b with z | ⟨ob, xs, z⟩
          · rw [q] at z; cases z
          · have z2 := un.frzs b ob _ z
            obtain ⟨e1, _⟩ := hok b _ z
            obtain ⟨e2, _⟩ := hok' b _ z2
            rw [e] at e1; cases e1
            exact e2
  cases hk : K.lookup a with
  | some o =>
    have e := KX a o hk
    rw [ha] at e
    cases e
    refine core (fun _ => none) (fun _ => .inl rfl) (.inr ⟨_, vs.toArray, _, hk, rfl, rfl, rfl, by rw [List.size_toArray, lenV]; exact hl, by simpa using rv⟩) (fun b u z => by have z' : (none : Option HO) = some u := z; cases z') (fun b z => absurd rfl z) fun z => absurd rfl z
  | none =>
    refine core (fun b => if b = a then some (.frz { cls := .type "list", data := .seq vs.toArray } (.lst (ns.map V.int))) else none) (fun b => ?_) (.inl (.inr ⟨{ cls := .type "list", data := .seq vs.toArray }, if_pos rfl⟩)) (fun b u z => ?_) (fun b z => ?_) fun _ => hk
    · by_cases hb : b = a
      · exact .inr ⟨_, _, if_pos hb⟩
      · exact .inl (if_neg hb)
    · by_cases hb : b = a
      · have z' := (if_pos hb).symm.trans z
        cases z'
        subst hb
        exact ⟨ha, by rw [List.length_map]; exact hl, vs, _, rv, ha⟩
      · have z' := (if_neg hb).symm.trans z
        cases z'
    · by_cases hb : b = a
      · exact hb
      · exact absurd (if_neg hb) z
end L2
namespace L2
open PySem PySem.Spec PyProof.Rows
theorem walk_of {l : PySem.W.OpenLaw} {n k : Nat} {q : Program} {loose : List Str} {XP : (Str → Option Value) → Heap → Prop} {YP : World → Heap → Prop} {d : DefRec} {K : Params → PySem.W.Frag} {CX : World → CXT} {sp : World → Sp} {x : Str}
    (hn : l.most = some n) (hn2 : n ≤ sizeLine) (hdf : d.params.defaults = []) (hr : Room k callerA)
    (hY : ∀ (w : World) (h : Heap), YP w h → (K w.params).In h)
    (F : ∀ (w : World) (mg : Str → Option Value) (fa : Addr) (h : Heap), (K w.params).In h → h.Ns mainGlobals mg → mg d.name = some (.ref fa) →
      ∃ fd : FuncData, (∀ (s : Shared) (u : Value), BindsTo s fd ⟨[u], []⟩ [(x, u)]) ∧
        ∀ base : Heap, (K w.params).In base → base.Ns mainGlobals mg → FnOk l.prog w (K w.params) mg base (CX w) k fa fd [x] (sp w))
    (hsp : ∀ (w : World) (H : Hp) (a : Addr) (ns : List Int), ns.length ≤ n → Only H → SqL (K w.params) H a (ns.map V.int) → sp w [.ref a] H (fun v _ => v = .bl true) fun _ _ _ => False)
    (hCX : ∀ (w : World) (H : Hp) (s : Shared) (e : Value) (s' : Shared), CX w [] H s (fun _ _ _ => False) e s' → False) :
    PySem.W.WalkO q loose XP YP l.row.toRowW d [] (fun f vs => PySem.call f vs) := by
  refine Att.attach_call hn hdf fun w s₀ s₁ mg mb fa o pm cd doc a vs ns G Y ho hd hcd hmg hobj hints hlen hg => ?_
  have KX := hY w _ Y
  obtain ⟨fd, hb, hF⟩ := F w mg fa _ KX G.T.g hmg
  exact law_call KX G.T.g G.T.b G.T.builtins G.T.nolimit hg hobj hints (Nat.le_trans hlen hn2) hr hF hb (fun H hO hS => hsp w H a ns hlen hO hS) fun H e s' => hCX w H s₁ e s'
end L2
namespace L2
open PySem PySem.Spec PyProof.Rows
def defArgs (s : Stmt) : Arguments := match s with
  | .FunctionDef _ a _ _ _ _ _ _ _ _ => a
  | _ => { posonlyargs := [], args := [], vararg := none, kwonlyargs := [], kw_defaults := [], kwarg := none, defaults := [] }
def defBody (s : Stmt) : List Stmt := match s with
  | .FunctionDef _ _ b _ _ _ _ _ _ _ => b
  | _ => []
def defScope (s : Stmt) : Scope := match s with
  | .FunctionDef _ _ _ _ _ _ sc _ _ _ => sc
  | _ => { kind := .function, names := [], isGenerator := false, isCoroutine := false }
abbrev CX0 : CXT := fun _ _ _ _ _ _ => False
abbrev E0 : XK := fun _ _ _ => False
theorem pass0 {X : Cx} : Passes CX0 X E0 := fun _ _ _ _ _ _ _ h => h.elim
structure Fun (K : PySem.W.Frag) (x qual : Str) (st : Stmt) (f : Addr) (fd : FuncData) : Prop where
  ex : ∃ (oc : Value) (od : Option Addr) (kV doc pm : Value) (an : Option Addr) (cdv ct : Value) (osl : Array (Option Value)),
    fd = PySem.W.fnOf x qual (defArgs st) (defBody st) (defScope st) .none kV doc pm an cdv ct ∧ K.lookup f = some ⟨oc, od, .func fd, osl⟩ ∧ PySem.W.codeIn K cdv qual = true
  kp : PySem.W.keepIn K (.ref f) = true
section
variable {P : Program} {w : World} {K : PySem.W.Frag} {mg : Str → Option Value} {base : Heap}
theorem Fun.ok {x qual : Str} {st : Stmt} {f : Addr} {fd : FuncData} {N ps : List Str} {k : Nat} {sp : Sp} (F : Fun K x qual st f fd) (S : FnScope N ps (defScope st)) (len : ∀ vs H Q E, sp vs H Q E → vs.length = ps.length)
    (hbody : ∀ (cdv : Value) (A : Around) (outer : List Env) (s : Shared) (H : Hp) (vs : List V) (Q : VK) (E : XK), Room k (A.deeper (envOfC qual (defScope st) s.heap.objs.size f cdv)) → sp vs H Q E →
      ∃ t, PSs (cxOf CX0 P w K mg base N qual (defScope st) f cdv A outer s H E).nox (defBody st) t ∧ t { nx := fun _ H' => Q .non H', rt := Q } (start N vs) H) : FnOk P w K mg base CX0 (k + 1) f fd ps sp := by
  obtain ⟨oc, od, kV, doc, pm, an, cdv, ct, osl, rfl, lk, hcd⟩ := F.ex
  refine fn_of lk hcd S len fun A outer s H vs Q E hr hsp => ?_
  obtain ⟨t, h, q⟩ := hbody cdv A outer s H vs Q E hr hsp
  exact ⟨t, h.nox, q⟩
theorem Fun.binds {x qual : Str} {st : Stmt} {f : Addr} {fd : FuncData} {ps : List Str} (F : Fun K x qual st f fd)
    (h : ∀ (kV doc pm : Value) (an : Option Addr) (cdv ct : Value) (us : List Value), us.length = ps.length → bindArgs (PySem.W.fnOf x qual (defArgs st) (defBody st) (defScope st) .none kV doc pm an cdv ct) ⟨us, []⟩ = pure (ps.zip us)) : Binds K fd ps [] := by
  obtain ⟨oc, od, kV, doc, pm, an, cdv, ct, osl, rfl, lk, hcd⟩ := F.ex
  exact .all (h kV doc pm an cdv ct)
theorem fun_mk {x qual : Str} {st : Stmt} {f : Addr} {oc : Value} {od an : Option Addr} {osl : Array (Option Value)} {kV doc pm cdv ct : Value} (l : K.lookup f = some ⟨oc, od, .func (PySem.W.fnOf x qual (defArgs st) (defBody st) (defScope st) .none kV doc pm an cdv ct), osl⟩)
    (c : PySem.W.codeIn K cdv qual = true) (k : PySem.W.keepIn K (.ref f) = true) : Fun K x qual st f (PySem.W.fnOf x qual (defArgs st) (defBody st) (defScope st) .none kV doc pm an cdv ct) := ⟨⟨oc, od, kV, doc, pm, an, cdv, ct, osl, rfl, l, c⟩, k⟩
end
theorem hu_of {A : Around} {k : Nat} (hr : Room k A) : A.units + 1 < cLine := Nat.lt_of_le_of_lt (Nat.add_le_add_left (by decide : 1 ≤ 64) _) hr.units
theorem small1000 {n : Nat} (h : n ≤ 1000) : n < sizeLine := Nat.lt_of_le_of_lt h (by decide)
section
variable {X : Cx}
theorem pv (i : Nat) {x : Str} {pos : PySem.Pos} (hN : X.N[i]? = some x := by rfl) (hv : Vis X.env.scope x := by first | exact Or.inl rfl | exact Or.inr (Or.inl rfl) | exact Or.inr (Or.inr rfl)) (hd : (x == ("__debug__" : Str)) = false := by decide)
    (hcd : (x == ("__classdict__" : Str)) = false := by decide) : PE X (.Name x pos) (tVar i) := pe_var hN hv hd hcd
end
theorem iteF {A B : Prop} (h : B) : if false = true then A else B := by
  rw [if_neg Bool.false_ne_true]
  exact h
theorem iteT {A B : Prop} (h : A) : if true = true then A else B := by
  rw [if_pos rfl]
  exact h
theorem ite2 {c A B : Prop} [Decidable c] (h1 : c → A) (h2 : ¬ c → B) : if c then A else B := by
  by_cases h : c
  · rw [if_pos h]
    exact h1 h
  · rw [if_neg h]
    exact h2 h
def Same (H H' : Hp) : Prop := ∀ b o, H b = some o → H' b = some o
theorem Same.refl (H : Hp) : Same H H := fun _ _ h => h
theorem Same.trans {H H1 H2 : Hp} (a : Same H H1) (b : Same H1 H2) : Same H H2 := fun c o h => b c o (a c o h)
theorem Same.free {H H' : Hp} (e : Same H H') {l : Addr} (h : H' l = Option.none) : H l = Option.none := by
  cases q : H l with
  | none => rfl
  | some o =>
    rw [e l o q] at h
    cases h
theorem Same.seq {K : PySem.W.Frag} {H H' : Hp} {a : Addr} {xs : List V} (e : Same H H') (h : SqL K H a xs) : SqL K H' a xs := by
  rcases h with (h | ⟨o, h⟩) | h
  · exact .inl (.inl (e _ _ h))
  · exact .inl (.inr ⟨o, e _ _ h⟩)
  · exact .inr h
end L2
set_option Elab.async false
set_option linter.all false
set_option maxRecDepth 100000
set_option maxHeartbeats 4000000
namespace L2
open PySem PySem.Spec PyProof.Rows
section
variable {X : Cx}
def CDivL (i j : Int) : Prop := 0 < j ∧ j.natAbs.log2 < 9000
theorem op_fdivL : OpR X (binaryOp .FloorDiv) (rI CDivL fun i j => .int (i / j)) := opI fun i j _ _ _ _ _ hc q => by
  have h1 : (0 : Int) < j := hc.1
  exact floordiv_int (by omega) (by rw [Int.fdiv_eq_ediv_of_nonneg i (by omega)]; exact q) (.inl (PyProof.noPylong_of_log2 hc.2))
theorem call_isinst {T : String} : CallR X (.builtin "isinstance") (fun xs H Q => ∃ x t b, xs = [x, .ty T] ∧ TyOf X.K H x t ∧ PySem.W.kitOne X.K t (.type T) = some b ∧ Q (.bl b) H) := by
  intro pins s σ H xs us Q I r h
  obtain ⟨x, t, b, rfl, ty, e, q⟩ := h
  obtain ⟨u, w', rfl, r1, r2⟩ := vals2 r
  cases (show w' = .type T from r2)
  exact isinst_ok I r1 ty e fun tk => ⟨.bl b, H, I.tok _, rfl, q⟩
theorem kit_ib {K : PySem.W.Frag} : PySem.W.kitOne K (.type "int") (.type "bool") = some false := by with_unfolding_all rfl
end
end L2
set_option Elab.async false
set_option linter.all false
set_option maxRecDepth 100000
set_option maxHeartbeats 4000000
namespace L2
open PySem PySem.Spec PyProof.Rows
section
variable {X : Cx}
theorem clos_go (env : Env) : ∀ (names : List (Str × NameKind)) (acc : List (Str × Addr)), (∀ y ∈ names, y.2 = .free → ∃ c, env.cells.lookup y.1 = some c) → (∀ y c, acc.lookup y = some c → env.cells.lookup y = some c) →
    ∃ cl, (forIn names acc fun (x : Str × NameKind) (r : List (Str × Addr)) => if (x.2 == NameKind.free) = true then (do let c ← cellOf env x.1; pure (ForInStep.yield ((x.1, c) :: r))) else pure (ForInStep.yield r) : Sem _) = pure cl ∧
      (∀ y c, cl.lookup y = some c → env.cells.lookup y = some c) ∧ (∀ y, (y, NameKind.free) ∈ names → (cl.lookup y).isSome = true) ∧ (∀ y, (acc.lookup y).isSome = true → (cl.lookup y).isSome = true)
  | [], acc, _, h => ⟨acc, by simp, h, fun y z => absurd z (by simp), fun _ z => z⟩
  | (n, k) :: r, acc, hf, h => by
    by_cases hk : k = .free
    · subst hk
      obtain ⟨c, hc⟩ := hf (n, .free) List.mem_cons_self rfl
      obtain ⟨cl, e, h1, h2, h3⟩ := clos_go env r ((n, c) :: acc) (fun y hy => hf y (List.mem_cons_of_mem _ hy)) (fun y d hd => by
        rw [List.lookup_cons] at hd
        cases z : y == n with
        | true =>
          rw [z] at hd
          have : y = n := by simpa using z
          subst this
          cases hd
          exact hc
        | false => rw [z] at hd; exact h y d hd)
      have hin : ∀ y, (((n, c) :: acc).lookup y).isSome = true ∨ True := fun _ => .inr trivial
      refine ⟨cl, ?_, h1, fun y hy => ?_, fun y hy => h3 y ?_⟩
      · rw [List.forIn_cons]
        have e0 : cellOf env n = pure c := by unfold cellOf; rw [hc]
        simp only [beq_self_eq_true, if_true, e0, pure_bind]
        exact e
      · rcases List.mem_cons.mp hy with z | z
        · cases z
          exact h3 _ (by rw [List.lookup_cons]; simp)
        · exact h2 y z
      · rw [List.lookup_cons]
        cases y == n with
        | true => rfl
        | false => exact hy
    · obtain ⟨cl, e, h1, h2, h3⟩ := clos_go env r acc (fun y hy => hf y (List.mem_cons_of_mem _ hy)) h
      refine ⟨cl, ?_, h1, fun y hy => ?_, h3⟩
      · rw [List.forIn_cons]
        have hb : (k == NameKind.free) = false := by simpa using hk
        simp only [hb, Bool.false_eq_true, if_false, pure_bind]
        exact e
      · rcases List.mem_cons.mp hy with z | z
        · cases z; exact absurd rfl hk
        · exact h2 y z
theorem clos_ok {scope : Scope} {env : Env} (hf : ∀ y ∈ scope.names, y.2 = .free → ∃ c, env.cells.lookup y.1 = some c) : ∃ cl, closureFor scope env = pure cl ∧ (∀ y c, cl.lookup y = some c → env.cells.lookup y = some c) ∧ (∀ y, (y, NameKind.free) ∈ scope.names → (cl.lookup y).isSome = true) := by
  obtain ⟨cl, e, h1, h2, _⟩ := clos_go env scope.names [] hf (fun y c h => by cases h)
  refine ⟨cl, ?_, h1, h2⟩
  unfold closureFor
  simp only [bind_pure]
  exact e
end
end L2
namespace L2
open PySem PySem.Spec PyProof.Rows
section
variable {X : Cx}
def tYes : TT := fun _ H Q => Q true H
def PIf (X : Cx) (ifs : List Expr) (t : TT) : Prop :=
  ∀ (pins : List (Addr × Obj)) (s : Shared) (σ : St) (H : Hp) (Q : Bool → Hp → Prop), Inv X pins σ H s → t σ H Q →
    wpAny (model X.prog X.w) X.A (forIn ifs true fun c r => if r = true then do let ok ← isTrue c X.env (eval c X.env); pure (ForInStep.yield ok) else pure (ForInStep.yield r)) (TP X pins σ Q) X.xe s
theorem pif_nil : PIf X [] tYes := fun pins s σ H Q I h => wpAny_tests_nil ⟨H, I, h⟩
theorem pif_one {c : Expr} {t : TT} (hc : PT X c t) : PIf X [c] t := fun pins s σ H Q I h => wpAny_tests_one (hc pins s σ H Q I h)
theorem relabel_kind {names : List (Str × NameKind)} {env : Env} {x : Str} {k : NameKind} (hc : ∀ y ∈ names, y.2 ≠ .cell) (h : (names.map fun (n, k) => if (k == NameKind.free && env.scope.kind == .function && env.kindOf n == some .cell) then (n, NameKind.cell) else (n, k)).lookup x = some k) :
    (k = .cell ∨ k = .free) → names.lookup x = some .free ∧ (k = .cell → env.kindOf x = some .cell) := by
  induction names with
  | nil => cases h
  | cons p r ih =>
    obtain ⟨n, k0⟩ := p
    intro hk
    have h : List.lookup x ((if (k0 == NameKind.free && env.scope.kind == .function && env.kindOf n == some .cell) = true then (n, NameKind.cell) else (n, k0)) :: _) = some k := h
    by_cases c : (k0 == NameKind.free && env.scope.kind == .function && env.kindOf n == some .cell) = true
    · rw [if_pos c] at h
      rw [List.lookup_cons] at h ⊢
      cases z : x == n with
      | true =>
        have e : x = n := by simpa using z
        subst e
        simp only [Bool.and_eq_true, beq_iff_eq] at c
        exact ⟨by rw [c.1.1], fun _ => c.2⟩
      | false => rw [z] at h; exact ih (fun y hy => hc y (List.mem_cons_of_mem _ hy)) h hk
    · rw [if_neg c] at h
      rw [List.lookup_cons] at h ⊢
      cases z : x == n with
      | true =>
        rw [z] at h
        have e : k0 = k := Option.some.inj h
        subst e
        rcases hk with rfl | rfl
        · exact absurd rfl (hc (n, .cell) List.mem_cons_self)
        · exact ⟨rfl, fun z => by cases z⟩
      | false => rw [z] at h; exact ih (fun y hy => hc y (List.mem_cons_of_mem _ hy)) h hk
end
end L2
set_option Elab.async false
set_option linter.all false
set_option maxRecDepth 100000
set_option maxHeartbeats 4000000
namespace L2
open PySem PySem.Spec PyProof.Rows
section
variable {X : Cx}
theorem relabel_local {names : List (Str × NameKind)} {env : Env} {x : Str} (h : (names.map fun (n, k) => if (k == NameKind.free && env.scope.kind == .function && env.kindOf n == some .cell) then (n, NameKind.cell) else (n, k)).lookup x = some .local) :
    names.lookup x = some .local := by
  induction names with
  | nil => cases h
  | cons p r ih =>
    obtain ⟨n, k0⟩ := p
    have h : List.lookup x ((if (k0 == NameKind.free && env.scope.kind == .function && env.kindOf n == some .cell) = true then (n, NameKind.cell) else (n, k0)) :: _) = some .local := h
    by_cases c : (k0 == NameKind.free && env.scope.kind == .function && env.kindOf n == some .cell) = true
    · rw [if_pos c] at h
      rw [List.lookup_cons] at h ⊢
      cases z : x == n with
      | true => rw [z] at h; cases h
      | false => rw [z] at h; exact ih h
    · rw [if_neg c] at h
      rw [List.lookup_cons] at h ⊢
      cases z : x == n with
      | true => rw [z] at h; exact h
      | false => rw [z] at h; exact ih h
end
end L2
set_option Elab.async false
set_option linter.all false
set_option maxRecDepth 100000
set_option maxHeartbeats 4000000
namespace L2
open PySem PySem.Spec PyProof.Rows
inductive DI (K : PySem.W.Frag) (H : Hp) : V → PyData → Prop where
  | non : DI K H .non .none
  | bl (b : Bool) : DI K H (.bl b) (.bool b)
  | int (i : Int) : DI K H (.int i) (.int i)
  | str (x : Str) : DI K H (.str x) (.str x)
  | tup {a : Addr} {xs : List V} {ds : List PyData} : SqT K H a xs → xs.length = ds.length → (∀ (i : Nat) (x : V) (d : PyData), xs[i]? = some x → ds[i]? = some d → DI K H x d) → DI K H (.ref a) (.tuple ds)
  | lst {a : Addr} {xs : List V} {ds : List PyData} : SqL K H a xs → xs.length = ds.length → (∀ (i : Nat) (x : V) (d : PyData), xs[i]? = some x → ds[i]? = some d → DI K H x d) → DI K H (.ref a) (.list ds)
section
variable {X : Cx} {pins : List (Addr × Obj)} {σ : St} {H : Hp} {s : Shared}
theorem readsAll_of : ∀ {us : List Value} {ds : List PyData} {xs : List V}, Vals xs us → xs.length = ds.length → (∀ (i : Nat) (x : V) (d : PyData) (u : Value), xs[i]? = some x → ds[i]? = some d → RelV x u → ∃ as, Reads s.heap u d as) → ∃ as, ReadsAll s.heap us ds as
  | _, ds, _, .nil, hl, _ => by
    cases ds with
    | nil => exact ⟨_, .nil⟩
    | cons d r => cases hl
  | _, ds, _, .cons (a := x) r t, hl, h => by
    cases ds with
    | nil => cases hl
    | cons d rest =>
      obtain ⟨as, ra⟩ := h 0 x d _ rfl rfl r
      obtain ⟨bs, rb⟩ := readsAll_of t (by simpa using hl) (fun i y e u h1 h2 h3 => h (i + 1) y e u (by simpa using h1) (by simpa using h2) h3)
      exact ⟨_, .cons ra rb⟩
theorem DI.reads (I : Inv X pins σ H s) {x : V} {d : PyData} (h : DI X.K H x d) : ∀ {u : Value}, RelV x u → ∃ as, Reads s.heap u d as := by
  induction h with
  | non => intro u r; cases r; exact ⟨_, .none⟩
  | bl b => intro u r; cases r; exact ⟨_, .bool b⟩
  | int i => intro u r; obtain ⟨t, rfl⟩ := r; exact ⟨_, .int i t⟩
  | str x => intro u r; obtain ⟨t, rfl⟩ := r; exact ⟨_, .str x t⟩
  | tup hq hl _ ih =>
    intro u r
    cases r
    obtain ⟨its, rv, ⟨o, e, c, n, hd⟩, _⟩ := I.tuple hq
    obtain ⟨as, ra⟩ := readsAll_of (s := s) rv hl (fun i y d u h1 h2 h3 => ih i y d h1 h2 h3)
    exact ⟨_, .tuple e c hd (by simpa using ra)⟩
  | lst hq hl _ ih =>
    intro u r
    cases r
    obtain ⟨its, rv, pl, _⟩ := I.list hq
    obtain ⟨o, e, c, n, hd⟩ := pl.isList
    obtain ⟨as, ra⟩ := readsAll_of (s := s) rv hl (fun i y d u h1 h2 h3 => ih i y d h1 h2 h3)
    exact ⟨_, .list e c hd (by simpa using ra)⟩
def rEqD (K : PySem.W.Frag) (g : Bool → Bool) : R2 := fun x y H Q => ∃ dx dy, DI K H x dx ∧ DI K H y dy ∧ dx.canLay0 = true ∧ dy.canLay0 = true ∧ dx.depth ≤ 60 ∧ Q (.bl (g (PyData.eqv dx dy))) H
theorem op_eqD {k : Nat} (hr : Room k X.A) : OpR X (compareOp .Eq) (rEqD X.K fun b => b) := by
  intro pins s σ H x y v u Q I rx ry h
  obtain ⟨dx, dy, hx, hy, cx, cy, hd, q⟩ := h
  obtain ⟨as, ra⟩ := hx.reads I rx
  obtain ⟨bs, rb⟩ := hy.reads I ry
  have hu := hr.units
  exact SeqAt.compareEq_reads ra rb cx cy (by omega) ⟨.bl _, H, I, rfl, q⟩
theorem op_neD {k : Nat} (hr : Room k X.A) : OpR X (compareOp .NotEq) (rEqD X.K fun b => !b) := by
  intro pins s σ H x y v u Q I rx ry h
  obtain ⟨dx, dy, hx, hy, cx, cy, hd, q⟩ := h
  obtain ⟨as, ra⟩ := hx.reads I rx
  obtain ⟨bs, rb⟩ := hy.reads I ry
  have hu := hr.units
  exact SeqAt.compareNe_reads ra rb cx cy (by omega) ⟨.bl _, H, I, rfl, q⟩
end
end L2
set_option Elab.async false
set_option linter.all false
set_option maxRecDepth 100000
set_option maxHeartbeats 4000000
namespace L2
open PySem PySem.Spec PyProof.Rows
section
variable {X : Cx}
theorem call_isinstK {K : PySem.W.Frag} {T : String} (hK : X.K = K := by rfl) : CallR X (.builtin "isinstance") (fun xs H Q => ∃ x t b, xs = [x, .ty T] ∧ TyOf K H x t ∧ PySem.W.kitOne K t (.type T) = some b ∧ Q (.bl b) H) := by
  subst hK; exact call_isinst
theorem ix_listK {K : PySem.W.Frag} (hK : X.K = K := by rfl) : IxR X (rIxL K) := by subst hK; exact ix_list
theorem ix_tupK {K : PySem.W.Frag} (hK : X.K = K := by rfl) : IxR X (rIxT K) := by subst hK; exact ix_tup
theorem call_lenK {K : PySem.W.Frag} (hK : X.K = K := by rfl) : CallR X (.builtin "len") (fun xs H Q => ∃ p ys, xs = [.ref p] ∧ (SqL K H p ys ∨ SqT K H p ys) ∧ Q (.int ys.length) H) := by subst hK; exact call_len_seq
end
end L2
set_option Elab.async false
set_option linter.all false
set_option maxRecDepth 100000
set_option maxHeartbeats 4000000
namespace L2
open PySem PySem.Spec PyProof.Rows
section
variable {X : Cx}
theorem Vals.of_get : ∀ {xs : List V} {us : List Value}, xs.length = us.length → (∀ (i : Nat) (x : V) (u : Value), xs[i]? = some x → us[i]? = some u → RelV x u) → Vals xs us
  | [], [], _, _ => .nil
  | [], _ :: _, h, _ => by cases h
  | _ :: _, [], h, _ => by cases h
  | x :: xs, u :: us, h, k => .cons (k 0 x u rfl rfl) (Vals.of_get (by simpa using h) fun i y v h1 h2 => k (i + 1) y v (by simpa using h1) (by simpa using h2))
end
end L2
set_option Elab.async false
set_option linter.all false
set_option maxRecDepth 100000
set_option maxHeartbeats 4000000
namespace L2
open PySem PySem.Spec PyProof.Rows
section
variable {X : Cx}
section
variable {prog : Program} {w : World} {A : Around} {R : Result → Shared → Prop} {s : Shared}
theorem loop_turns {elt tg iter : Expr} {ifs : List Expr} {scope : Scope} {pos : PySem.Pos} {it acc : Value} {env : Env} {EE : Value → Shared → Prop} (hE : EE = notedBy (model prog w) A env fun e s' => R (.error e) s') (I : Nat → Shared → Prop)
    (turn : ∀ n s, I n s → wpAny (model prog w) A (pyNext it) (fun r z1 => match r with
      | none => R (.ok .next) z1
      | some v => wpAny (model prog w) A (letOwnedTupleGo tg it v) (fun _ y1 => wpAny (model prog w) A (assign tg env v) (fun _ z2 =>
          wpAny (model prog w) A (forIn ifs true fun c r => if r = true then do let ok ← isTrue c env (eval c env); pure (ForInStep.yield ok) else pure (ForInStep.yield r)) (fun ok z3 =>
            if ok = true then wpAny (model prog w) A (eval elt env) (fun x z4 => wpAny (model prog w) A (call (.builtin "list.append") [acc, x]) (fun _ z5 => ∃ m, m < n ∧ I m z5) EE z4) EE z3 else ∃ m, m < n ∧ I m z3) EE z2) EE y1) EE z1) EE s)
    (n : Nat) (h : I n s) : codeAny (model prog w) A (.compLoop (.ListComp elt [⟨tg, iter, ifs, 0⟩] scope pos) 0 it acc env) R s := by
  subst hE
  refine codeAny_loop rfl I (fun n s hI => ?_) n h
  show wpAny _ A ((compTurn (.ListComp elt [⟨tg, iter, ifs, 0⟩] scope pos) 0 it acc env).onRaise (fun x => do noteFrame x env; theTreesLotGoes x)) _ _ s
  refine wpAny_noted ?_
  rw [compTurn_list]
  refine wpAny_bind (wpAny_standAt (wpAny_bind (wpAny_mono (turn n s hI) (fun r z1 q1 => ?_) fun _ _ z => z)))
  cases r with
  | none => exact wpAny_pure q1
  | some v =>
    refine wpAny_bind (wpAny_mono q1 (fun _ y1 q1 => ?_) fun _ _ z => z)
    refine wpAny_bind (wpAny_mono q1 (fun _ z2 q2 => wpAny_bind (wpAny_mono q2 (fun ok z3 q3 => ?_) fun _ _ z => z)) fun _ _ z => z)
    cases ok with
    | false => exact wpAny_pure ⟨rfl, q3⟩
    | true => exact wpAny_bind (wpAny_bind (wpAny_mono q3 (fun x z4 q4 => wpAny_bind (wpAny_mono q4 (fun _ z5 q5 => wpAny_pure (wpAny_pure ⟨rfl, q5⟩)) fun _ _ z => z)) fun _ _ z => z))
end
def cxC (X : Cx) (xs Nb : List Str) (scope : Scope) (cl : List (Str × Addr)) (C : Addr) (s₂ : Shared) (H₂ : Hp) (fp : List Addr) : Cx :=
  { X with N := xs ++ Nb, s₀ := s₂, H₀ := H₂, env := compEnvC scope cl C X.env, outer := X.stack, stack := X.stack, ex := fp, fn := fun _ => false, pn := [], xe := fun _ _ => False }
def InB (X : Cx) (xs Nb : List Str) (scope : Scope) (φ : Cx → Prop) : Prop := ∀ (cl : List (Str × Addr)) (C : Addr) (s₂ : Shared) (H₂ : Hp) (fp : List Addr), φ (cxC X xs Nb scope cl C s₂ H₂ fp)
def CGo (k : Nat) (J : It) (g : TG) (tt : TT) (te : TE) (Q : VK) (σ : St) (H1 : Hp) : Prop := ∃ W : Nat → Nat → List V → Hp → Prop, (∃ m, W 0 m [] H1) ∧ ∀ i m ys H, W i m ys H →
  (J.stop i H ∧ ∀ D, H D = none → Q (.ref D) (upd H D (.lst ys))) ∨ (J.go i H ∧ ys.length < sizeLine ∧ ∃ N : List V → Hp → Prop, (∀ zs H', N zs H' → ∃ m', m' < m ∧ W (i + 1) m' zs H') ∧ ∀ v H' (pre : St), pre.length = k → J.yld i H v H' → g v (pre ++ σ) H' fun σ' H2 => (∃ pre' : St, σ' = pre' ++ σ ∧ pre'.length = k) ∧ tt σ' H2 fun ok H3 => if ok = true then te σ' H3 fun y H4 => N (ys ++ [y]) H4 else N ys H3)
def tCompG (k : Nat) (wi : TI) (g : TG) (tt : TT) (te : TE) : TE := fun σ H Q => wi σ H fun J H1 => CGo k J g tt te Q σ H1
theorem comp_core {elt iter tg : Expr} {xs Nb : List Str} {ifs : List Expr} {scope : Scope} {pos : PySem.Pos} {wi : TI} {g : TG} {tt : TT} {te : TE}
    (hc : X.calm = true) (hi : PI X tg iter wi) (hlen : Nb.length = X.N.length) (hNb : ∀ p ∈ Nb.zip X.N, p.1 = p.2 ∨ scope.names.lookup p.1 = none) (hxN : ∀ y ∈ Nb, scope.names.lookup y ≠ some .local)
    (hg : InB X xs Nb scope fun Y => PG Y tg g) (ht : InB X xs Nb scope fun Y => PIf Y ifs tt) (he : InB X xs Nb scope fun Y => PE Y elt te)
    (hcell : ∀ y ∈ scope.names, y.2 ≠ .cell) (hkind : scope.kind = .function) (hnames : ∀ y ∈ scope.names, y.2 = .local → scope.names.lookup y.1 = some .local)
    (hfree : ∀ y ∈ scope.names, y.2 = .free → X.env.kindOf y.1 = some .cell)
    (hs : ∀ x, foldedSetIterable iter X.env x = pure x) {pos2 : PySem.Pos} {use : Option (Value → Sem Unit)} {QQ : Value → Shared → Prop} {pins : List (Addr × Obj)} {s : Shared} {σ : St} {H : Hp} {Q : VK} (I : Inv X pins σ H s) (h : tCompG xs.length wi g tt te σ H Q)
    (post : ∀ (s2 s4 : Shared) (H2 H4 : Hp) (C D : Addr) (m4 : Str → Option Value), Inv X pins σ H2 s2 → s2.heap.objs.size ≤ C → s4.heap.Ns C m4 → H4 C = none → (∀ h', Heap.SameBut C s4.heap h' → Inv X pins σ H4 { s4 with heap := h' }) → Q (.ref D) H4 → compPost (model X.prog X.w) X.A X.xe use QQ (.ref D) C (.ok .next) s4) :
    wpAny (model X.prog X.w) X.A (comprehension (.ListComp elt [⟨tg, iter, ifs, 0⟩] scope pos) scope X.env pos2 (newList []) false (eval iter X.env) use) QQ X.xe s := by
  obtain ⟨cl, hcl, cl1, cl2⟩ := clos_ok (scope := scope) (env := X.env) (fun y hy hf => I.ok.has y.1 (.inl (hfree y hy hf)))
  refine wpAny_comprehension_free rfl hs hcl hkind hnames (thn (hi pins s σ H _ I h) fun v s1 h1 => thn h1 fun itv s2 h2 => ?_)
  obtain ⟨it, fp, tn, J, H2, e, I2, T, st2, f2, W, ⟨m0, w0⟩, turn⟩ := h2
  subst e
  refine wpAny_newObj_type (wpAny_newFunctionEnv hcell (by intro y hy; simp at hy) (fun h₁ hns₁ hsb₁ => ?_) hkind)
  dsimp only at hns₁ hsb₁ ⊢
  generalize hHp : s2.heap.push { cls := .type "list", dict := none, data := .seq ([] : List Value).toArray } = Hp2 at hns₁ hsb₁ ⊢
  have hC : Hp2.objs.size = s2.heap.objs.size + 1 := by rw [← hHp, Heap.size_push]
  have hDC : s2.heap.objs.size ≠ Hp2.objs.size := by rw [hC]; exact Nat.ne_of_lt (Nat.lt_succ_self _)
  have below : ∀ b, b < s2.heap.objs.size → b ≠ Hp2.objs.size ∧ b ≠ s2.heap.objs.size := fun b hb => ⟨by rw [hC]; exact Nat.ne_of_lt (Nat.lt_succ_of_lt hb), Nat.ne_of_lt hb⟩
  have old : ∀ b o, s2.heap.get? b = some o → h₁.get? b = some o := fun b o e => hsb₁.extBut b o (below b (Heap.lt_size e)).1 (Heap.get?_push_of_some _ (hHp ▸ Heap.get?_push_of_some _ e))
  have hacc : h₁.PlainList s2.heap.objs.size #[] := ⟨_, hsb₁.extBut _ _ hDC (Heap.get?_push_of_some _ (hHp ▸ Heap.get?_push_size _ rfl))⟩
  generalize hY : cxC X xs Nb scope cl Hp2.objs.size s2 H2 fp = Y
  have Yprog : Y.prog = X.prog := by rw [← hY]; rfl
  have fpLt : ∀ b ∈ fp, b < s2.heap.objs.size := fun b hb => by
    obtain ⟨o, e, _⟩ := T.obj _ _ st2 b hb
    exact Heap.lt_size e
  have cellLt : ∀ y c, cl.lookup y = some c → c < s2.heap.objs.size := fun y c hc => by
    obtain ⟨v, q⟩ := I2.cell y c (cl1 y c hc)
    exact q.lt
  have frSub : ∀ b ∈ frs X.stack, b < s2.heap.objs.size := fun b hb => by
    rcases List.mem_cons.mp (I2.stkSub b hb) with z | z
    · rw [z]; exact I2.lt
    · by_cases hlt : b < s2.heap.objs.size
      · exact hlt
      · exact absurd z (I2.nofs (Nat.le_of_not_lt hlt))
  have ok : (cxC X xs Nb scope cl Hp2.objs.size s2 H2 fp).Ok := by
    refine ⟨I2.ok.mod, hkind, I2.ok.glob, I2.ok.blt, (by show s2.heap.objs.size ≤ Hp2.objs.size; omega), fun y z c h1 h2 => I2.ok.inj y z c (cl1 y c h1) (cl1 z c h2), fun y hy => ?_, fun y c hf _ => absurd hf (by intro z; cases z), I2.ok.hd, I2.ok.frames, .inl rfl, fun b hb => ⟨?_, fun y c h1 h2 => ?_⟩, I2.bs, Nat.le_trans I2.ok.bsz I2.sz, fun b o e hb => ?_, fun b hb hm => ?_, I2.stack, I2.stkFree⟩
    · have hy : (scope.names.map fun (n, k) => if (k == NameKind.free && X.env.scope.kind == .function && X.env.kindOf n == some .cell) then (n, NameKind.cell) else (n, k)).lookup y = some .cell ∨ (scope.names.map fun (n, k) => if (k == NameKind.free && X.env.scope.kind == .function && X.env.kindOf n == some .cell) then (n, NameKind.cell) else (n, k)).lookup y = some .free := hy
      have q : scope.names.lookup y = some .free := by
        rcases hy with z | z
        · exact (relabel_kind hcell z (.inl rfl)).1
        · exact (relabel_kind hcell z (.inr rfl)).1
      exact Option.isSome_iff_exists.mp (cl2 y (PySem.mem_of_lookup q))
    · exact (below b (fpLt b hb)).1
    · exact (f2 b hb).2.2.2.2.1 y c (cl1 y c h1) h2
    · rcases (f2 b hb).2.2.2.1 with z | z
      · exact I2.ok.noex b o e z
      · exact absurd (Nat.lt_of_lt_of_le (Heap.lt_size e) (Nat.le_trans I2.ok.bsz z)) (Nat.lt_irrefl _)
    · rcases List.mem_cons.mp (I2.stkSub b hm) with z | z
      · exact (f2 b hb).2.1 z
      · exact (f2 b hb).2.2.1 z
  have fpY : ∀ {H' : Hp} {pl : List (Addr × Obj)}, (∀ b ∈ fp, H' b = none) → (∀ p ∈ pl, p.1 = s2.heap.objs.size) → ∀ b ∈ fp, FpOk Y pl H' b := fun {H' pl} hn hp b hb => by
    rw [← hY]
    refine ⟨hn b hb, (below b (fpLt b hb)).1, fun hm => ?_, .inl hb, fun y c h1 h2 => (f2 b hb).2.2.2.2.1 y c (cl1 y c h1) h2, fun p hm z => ?_⟩
    · rcases List.mem_cons.mp (I2.stkSub b hm) with z | z
      · exact (f2 b hb).2.1 z
      · exact (f2 b hb).2.2.1 z
    · have hm : p ∈ pl := hm
      rw [hp p hm] at z
      exact (below b (fpLt b hb)).2 z.symm
  have HD : H2 s2.heap.objs.size = none := I2.hok.fresh (Nat.le_refl _)
  have HC : H2 Hp2.objs.size = none := I2.hok.fresh (by omega)
  obtain ⟨m2, hns2, hloc2⟩ := I2.loc
  have IY : ∀ tk, Inv (cxC X xs Nb scope cl Hp2.objs.size s2 H2 fp) [] (List.replicate xs.length none ++ σ) H2 { s2 with heap := h₁, toks := tk } := fun tk => by
    refine ⟨ok, rfl, I2.bare, Un.kept old, ⟨_, hns₁, fun i y v h1 h2 h3 => ?_⟩, fun y c h1 => ?_, HC, fun y c h1 => I2.freeC y c (cl1 y c h1), fun p hp => absurd (show p ∈ ([] : List (Addr × Obj)) from hp) (by simp), I2.hok.kept old, (by show (List.replicate xs.length (none : Option V) ++ σ).length = (xs ++ Nb).length; rw [List.length_append, List.length_append, List.length_replicate, hlen, I2.len])⟩
    · have h1 : (xs ++ Nb)[i]? = some y := h1
      by_cases hik : i < xs.length
      · rw [List.getElem?_append_left (by rw [List.length_replicate]; exact hik), List.getElem?_replicate, if_pos hik] at h2
        cases h2
      · rw [List.getElem?_append_right (by omega)] at h1
        rw [List.getElem?_append_right (by rw [List.length_replicate]; omega), List.length_replicate] at h2
        generalize i - xs.length = i at h1 h2
        have h3 : Vis (relabel scope X.env) y := h3
        have key : ∀ k, (k = NameKind.cell ∨ k = NameKind.free) → (relabel scope X.env).names.lookup y = some k → ∃ u, RelV v u ∧ Look (compEnvC scope cl Hp2.objs.size X.env) h₁ (fun x => ([] : List (Str × Value)).reverse.lookup x) y u := fun k hk hl => by
          obtain ⟨q1, _⟩ := relabel_kind hcell hl hk
          have q2 := hfree (y, .free) (PySem.mem_of_lookup q1) rfl
          have h1' : X.N[i]? = some y := by
            have hi' : i < X.N.length := by rw [← hlen]; exact (List.getElem?_eq_some_iff.mp h1).1
            have hz : (Nb.zip X.N)[i]? = some (y, X.N[i]) := by rw [List.getElem?_zip_eq_some]; exact ⟨h1, List.getElem?_eq_getElem hi'⟩
            rcases hNb _ (List.mem_of_getElem? hz) with z | z
            · have z : y = X.N[i] := z
              rw [z]; exact List.getElem?_eq_getElem hi'
            · have z : scope.names.lookup y = none := z
              rw [q1] at z; cases z
          obtain ⟨u, r, l⟩ := hloc2 i y v h1' h2 (.inr (.inl q2))
          refine ⟨u, r, .inr ⟨?_, ?_⟩⟩
          · rcases hk with rfl | rfl
            · exact .inl hl
            · exact .inr hl
          · rcases l with ⟨k1, _⟩ | ⟨_, c, e1, z⟩
            · rw [q2] at k1; cases k1
            · obtain ⟨c', e2⟩ := Option.isSome_iff_exists.mp (cl2 y (PySem.mem_of_lookup q1))
              have e3 := cl1 y c' e2
              rw [e1] at e3
              cases e3
              obtain ⟨o, ho, hd⟩ := z
              exact ⟨c, e2, o, old c o ho, hd⟩
        rcases h3 with h3 | h3 | h3
        ·
          exfalso
          exact hxN y (List.mem_of_getElem? h1) (relabel_local h3)
        · exact key _ (.inl rfl) h3
        · exact key _ (.inr rfl) h3
    · obtain ⟨v, o, ho, hd⟩ := I2.cell y c (cl1 y c h1)
      exact ⟨v, o, old c o ho, hd⟩
  have noErr : ∀ {α : Type} {m : Sem α} {G : α → Shared → Prop} {E' : Value → Shared → Prop} {s' : Shared}, wpAny (model X.prog X.w) X.A m G (fun _ _ => False) s' → wpAny (model X.prog X.w) X.A m G E' s' := fun h => wpAny_mono h (fun _ _ q => q) fun _ _ q => q.elim
  have loop : ∀ (tk : Nat) (R : Result → Shared → Prop), R = compPost (model X.prog X.w) X.A X.xe use QQ (.ref s2.heap.objs.size) Hp2.objs.size →
      codeAny (model X.prog X.w) X.A (.compLoop (.ListComp elt [⟨tg, iter, ifs, 0⟩] scope pos) 0 (.ref it) (.ref s2.heap.objs.size) (compEnvC scope cl Hp2.objs.size X.env)) R { s2 with heap := h₁, toks := tk } := by
    rintro tk R rfl
    refine loop_turns rfl (fun n s' => ∃ i σv H' ys its, σv.length = xs.length ∧ Inv Y [] (σv ++ σ) H' s' ∧ tn i s'.heap ∧ (∀ b ∈ fp, H' b = none) ∧ Vals ys its ∧ ys.length ≤ sizeLine ∧ s'.heap.PlainList s2.heap.objs.size its.toArray ∧ H' s2.heap.objs.size = none ∧ W i n ys H') ?_ m0
      ⟨0, List.replicate xs.length none, H2, [], [], List.length_replicate, hY ▸ IY tk, T.keep _ _ _ st2 fun b _ o e => old b o e, fun b hb => (f2 b hb).1, .nil, Nat.zero_le _, hacc, HD, w0⟩
    rintro n s3 ⟨i, σv, H3, ys, its, lv, I3, st3, fr3, rv, hz, ⟨nn, pl3⟩, HD3, w3⟩
    have I3p : Inv Y [(s2.heap.objs.size, { cls := .type "list", data := .seq its.toArray nn })] (σv ++ σ) H3 s3 := I3.pins_of fun p hp => by
      rw [List.mem_singleton] at hp
      subst hp
      refine ⟨pl3, HD3, ?_, fun hm => ?_, fun v z => by cases z⟩
      · rw [← hY]; exact hDC
      · rw [← hY] at hm
        exact absurd (frSub _ hm) (Nat.lt_irrefl _)
    have pinD : ∀ p ∈ [((s2.heap.objs.size : Addr), ({ cls := .type "list", data := .seq its.toArray nn } : Obj))], p.1 = s2.heap.objs.size := fun p hp => by
      rw [List.mem_singleton] at hp
      rw [hp]
    subst hY
    rcases turn i n ys H3 w3 with ⟨stop, qn⟩ | ⟨go, hlt, NN, hNN, step⟩
    · refine noErr (thn (T.done (cxC X xs Nb scope cl Hp2.objs.size s2 H2 fp) rfl rfl rfl hc i _ s3 _ H3 (fun _ _ => False) I3p (fpY fr3 pinD) st3 stop) fun r s4 ⟨hr, I4⟩ => ?_)
      subst hr
      obtain ⟨m4, hns4, _⟩ := I4.loc
      refine post s2 s4 H2 (upd H3 s2.heap.objs.size (.lst ys)) Hp2.objs.size s2.heap.objs.size m4 I2 (by omega) hns4 (by rw [upd_ne (Ne.symm hDC)]; exact I4.free) (fun h' sb => ?_) (qn _ HD3)
      have pl4 := (I4.pin _ (List.mem_append_right _ List.mem_cons_self)).1
      have up : ∀ b o, b ≠ Hp2.objs.size → s4.heap.get? b = some o → h'.get? b = some o := fun b o hb e => sb.extBut b o hb e
      have base := I4.base
      have HC4 : H3 Hp2.objs.size = none := I4.free
      have neC : ∀ b o, s2.heap.get? b = some o → b ≠ Hp2.objs.size := fun b o e => (below b (Heap.lt_size e)).1
      have neD : ∀ b o, s2.heap.get? b = some o → b ≠ s2.heap.objs.size := fun b o e => (below b (Heap.lt_size e)).2
      have hokN : HOk X.prog X.w (upd H3 s2.heap.objs.size (.lst ys)) h' := fun b u e => by
        by_cases hb : b = s2.heap.objs.size
        · subst hb
          rw [upd_same] at e
          cases e
          exact ⟨hz, its, nn, rv, up _ _ hDC pl4⟩
        · rw [upd_ne hb] at e
          refine (I4.hok b u e).stay (fun c v hc q => up c v ?_ q) (fun c q => by rw [upd_ne (ne_of_none q HD3)]; exact q) fun c xs q => by rw [upd_ne (ne_of_none q HD3)]; exact q
          rcases hc with z | z
          · rw [z]; exact ne_of_none e HC4
          · exact ne_of_none z HC4
      refine I2.call' (s' := { s4 with heap := h' }) (ch := fp) I4.os ⟨fun b o e n hb hx' => up b o (neC b o e) (base.keep b o e n hb hx'), fun b o e n hb hx' => ?_, fun b o e n hx' => ?_, fun b o e hx' => ?_, fun b xs e => ?_, fun b o u e => ?_, fun b ps e => ?_⟩ hokN I4.bare (fun b hb => ?_)
      · obtain ⟨sl, q⟩ := base.slot b o e n hb hx'
        exact ⟨sl, up b _ (neC b o e) q⟩
      · rw [upd_ne (neD b o e)]
        exact base.free b o e n hx'
      · obtain ⟨o', q⟩ := base.there b o e hx'
        exact ⟨o', up b o' (neC b o e) q⟩
      · have q := base.tups b xs e
        rw [upd_ne (ne_of_none q HD3)]; exact q
      · have q := base.frzs b o u e
        rw [upd_ne (ne_of_none q HD3)]; exact q
      · obtain ⟨more, q⟩ := base.tbls b ps e
        exact ⟨more, by rw [upd_ne (ne_of_none q HD3)]; exact q⟩
      · obtain ⟨_, g1, _, g3, g4, g5⟩ := f2 b hb
        exact ⟨g3, g1, g4, g5⟩
    · refine noErr (thn (T.item (cxC X xs Nb scope cl Hp2.objs.size s2 H2 fp) rfl rfl rfl hc i _ s3 _ H3 (fun _ _ => False) I3p (fpY fr3 pinD) st3 go) fun r s4 ⟨u, hr, h4⟩ => ?_)
      subst hr
      refine noErr (thn h4 fun _ s5 ⟨v, H5, I5, r5, y5, st5, fr5⟩ => ?_)
      have I5' := I5.pinned (fpY fr5 pinD) (T.obj _ _ st5)
      have stp := step v H5 σv lv y5
      refine noErr (thn (hg cl Hp2.objs.size s2 H2 fp _ s5 _ H5 v u _ I5' r5 stp) fun _ s6 ⟨σ6, H6, I6, ⟨pre', e6, l6⟩, stp⟩ => ?_)
      subst e6
      have again : ∀ {s7 s8 : Shared} {H7 : Hp} {zs : List V} {ws : List Value} {m' : Nat}, Inv (cxC X xs Nb scope cl Hp2.objs.size s2 H2 fp) ([((s2.heap.objs.size : Addr), ({ cls := .type "list", data := .seq its.toArray nn } : Obj))] ++ pinsAt fp s5.heap) (pre' ++ σ) H7 s7 →
          (∃ h', s8 = { s7 with heap := h' } ∧ (∀ b o, b ≠ s2.heap.objs.size → s7.heap.get? b = some o → h'.get? b = some o) ∧ h'.PlainList s2.heap.objs.size ws.toArray) → Vals zs ws → zs.length ≤ sizeLine → m' < n → W (i + 1) m' zs H7 →
          ∃ m, m < n ∧ ∃ i σv H' ys its, σv.length = xs.length ∧ Inv (cxC X xs Nb scope cl Hp2.objs.size s2 H2 fp) [] (σv ++ σ) H' s8 ∧ tn i s8.heap ∧ (∀ b ∈ fp, H' b = none) ∧ Vals ys its ∧ ys.length ≤ sizeLine ∧ s8.heap.PlainList s2.heap.objs.size its.toArray ∧ H' s2.heap.objs.size = none ∧ W i m ys H' := by
        rintro s7 s8 H7 zs ws m' I7 ⟨h', rfl, up, plw⟩ rz hzz hm w7
        have HD7 : H7 s2.heap.objs.size = none := (I7.pin _ (List.mem_append_right _ (List.mem_append_left _ List.mem_cons_self))).2.1
        have fr7 : ∀ b ∈ fp, H7 b = none := fun b hb => by
          obtain ⟨o, e, d⟩ := T.obj _ _ st5 b hb
          exact (I7.pin (b, o) (List.mem_append_right _ (List.mem_append_right _ (mem_pinsAt hb e)))).2.1
        have I7' : Inv (cxC X xs Nb scope cl Hp2.objs.size s2 H2 fp) [] (pre' ++ σ) H7 s7 := I7.pins_of fun p hp => absurd hp (by simp)
        refine ⟨m', hm, i + 1, pre', H7, zs, ws, l6, ?_, ?_, fr7, rz, hzz, plw, HD7, w7⟩
        · have := I7'.turned (it := s2.heap.objs.size) (h' := h') (t' := s7.toks) up HD7 hDC (.inr (Nat.le_refl _)) (fun y c h1 h2 => absurd (cellLt y c h1) (by rw [h2]; exact Nat.lt_irrefl _)) (fun p hp => absurd (show p ∈ ([] : List (Addr × Obj)) from hp) (by simp))
          exact this
        · refine T.keep _ _ _ st5 fun b hb o e => up b o (below b (fpLt b hb)).2 ?_
          exact (I7.pin (b, o) (List.mem_append_right _ (List.mem_append_right _ (mem_pinsAt hb e)))).1
      refine noErr (thn (ht cl Hp2.objs.size s2 H2 fp _ s6 _ H6 _ I6 stp) fun okb s7 ⟨H7, I7, q7⟩ => ?_)
      have pl7 := (I7.pin _ (List.mem_append_right _ (List.mem_append_left _ List.mem_cons_self))).1
      cases okb with
      | false =>
        rw [if_neg Bool.false_ne_true] at q7 ⊢
        obtain ⟨m', hm, w7⟩ := hNN _ _ q7
        exact again I7 ⟨s7.heap, rfl, fun _ _ _ e => e, nn, pl7⟩ rv hz hm w7
      | true =>
        rw [if_pos rfl] at q7 ⊢
        refine noErr (thn (he cl Hp2.objs.size s2 H2 fp _ s7 _ H7 _ I7 q7) fun w' s8 ⟨y, H8, I8, r8, q8⟩ => ?_)
        obtain ⟨m', hm, w8⟩ := hNN _ _ q8
        have pl8 := (I8.pin _ (List.mem_append_right _ (List.mem_append_left _ List.mem_cons_self))).1
        refine wpAny_list_append_plain (hsz := by have := rv.length; simp only [List.size_toArray]; omega) ⟨nn, pl8⟩ fun h9 pl9 sb9 => ?_
        refine again I8 ⟨h9, rfl, fun b o hb e => sb9.extBut b o hb e, ?_⟩ (rv.append (.cons r8 .nil)) (by rw [List.length_append, List.length_singleton]; omega) hm w8
        have e9 : its.toArray.push w' = (its ++ [w']).toArray := by simp
        rw [← e9]
        exact pl9
  refine codeAny_compStart_list (loop _ _ rfl) (noErr (T.self _ 0 _ _ _ (T.keep _ _ _ st2 fun b _ o e => old b o e) (loop _ _ rfl)))
theorem pe_compG {elt iter tg : Expr} {xs Nb : List Str} {ifs : List Expr} {scope : Scope} {pos : PySem.Pos} {wi : TI} {g : TG} {tt : TT} {te : TE}
    (hc : X.calm = true) (hi : PI X tg iter wi) (hlen : Nb.length = X.N.length) (hNb : ∀ p ∈ Nb.zip X.N, p.1 = p.2 ∨ scope.names.lookup p.1 = none) (hxN : ∀ y ∈ Nb, scope.names.lookup y ≠ some .local)
    (hg : InB X xs Nb scope fun Y => PG Y tg g) (ht : InB X xs Nb scope fun Y => PIf Y ifs tt) (he : InB X xs Nb scope fun Y => PE Y elt te)
    (hcell : ∀ y ∈ scope.names, y.2 ≠ .cell) (hkind : scope.kind = .function) (hnames : ∀ y ∈ scope.names, y.2 = .local → scope.names.lookup y.1 = some .local)
    (hfree : ∀ y ∈ scope.names, y.2 = .free → X.env.kindOf y.1 = some .cell)
    (hs : ∀ x, foldedSetIterable iter X.env x = pure x := by intro _; rfl) :
    PE X (.ListComp elt [⟨tg, iter, ifs, 0⟩] scope pos) (tCompG xs.length wi g tt te) := by
  intro pins s σ H Q I h
  rw [eval_ListComp]
  exact comp_core (use := none) (QQ := EP X pins σ Q) hc hi hlen hNb hxN hg ht he hcell hkind hnames hfree hs I h fun s2 s4 H2 H4 C D m4 _ _ hn _ IX q => ⟨m4, hn, fun h' sb => ⟨.ref D, H4, IX h' sb, rfl, q⟩⟩
theorem ps_compG {elt iter tg : Expr} {xs Nb : List Str} {ifs : List Expr} {scope : Scope} {pos spos py : PySem.Pos} {wi : TI} {g g2 : TG} {tt : TT} {te : TE} {y : Str}
    (hg2 : PG X (.Name y py) g2) (hsw : swapsWith (.ListComp elt [⟨tg, iter, ifs, 0⟩] scope pos) (some (.Name y py)) spos.line X.env = pure true)
    (hc : X.calm = true) (hi : PI X tg iter wi) (hlen : Nb.length = X.N.length) (hNb : ∀ p ∈ Nb.zip X.N, p.1 = p.2 ∨ scope.names.lookup p.1 = none) (hxN : ∀ y ∈ Nb, scope.names.lookup y ≠ some .local)
    (hg : InB X xs Nb scope fun Y => PG Y tg g) (ht : InB X xs Nb scope fun Y => PIf Y ifs tt) (he : InB X xs Nb scope fun Y => PE Y elt te)
    (hcell : ∀ y ∈ scope.names, y.2 ≠ .cell) (hkind : scope.kind = .function) (hnames : ∀ y ∈ scope.names, y.2 = .local → scope.names.lookup y.1 = some .local)
    (hfree : ∀ y ∈ scope.names, y.2 = .free → X.env.kindOf y.1 = some .cell)
    (hs : ∀ x, foldedSetIterable iter X.env x = pure x := by intro _; rfl) :
    PS X (.Assign [.Name y py] (.ListComp elt [⟨tg, iter, ifs, 0⟩] scope pos) spos) (tAsg (tCompG xs.length wi g tt te) g2) := by
  intro pins s σ H D I h
  rw [exec_Assign_Name_used _ _ _ _ hsw]
  refine wpAny_bind (wpAny_standAt (wpAny_bind ?_))
  show wpAny (model X.prog X.w) X.A (comprehension (.ListComp elt [⟨tg, iter, ifs, 0⟩] scope pos) scope X.env _ (newList []) false (eval iter X.env) (some (assign (.Name y py) X.env)) >>= fun _ => pure ()) _ _ s
  refine wpAny_bind (wpAny_mono (comp_core (use := some (assign (.Name y py) X.env)) (QQ := fun _ s' => SP X pins D .next s') hc hi hlen hNb hxN hg ht he hcell hkind hnames hfree hs I h ?_) (fun _ s' hq => wpAny_pure (wpAny_pure hq)) fun _ _ e => e)
  intro s2 s4 H2 H4 C R m4 I2 hC hn HC IX q
  have I4 : Inv X pins σ H4 s4 := IX s4.heap (Heap.SameBut.refl _ _)
  obtain ⟨o, es, ep, ho, hd, hn'⟩ := id hn
  have hLC : C ≠ X.env.locals := fun z => absurd (Nat.lt_of_lt_of_le I2.lt hC) (by rw [z]; exact Nat.lt_irrefl _)
  have hfsC : C ∉ X.fs := I2.nofs hC
  have I4p : Inv X ((C, o) :: pins) σ H4 s4 := I4.pins_of fun p hp => by
    rcases List.mem_cons.mp hp with rfl | z
    · exact ⟨ho, HC, hLC, hfsC, fun v z => by rw [hd] at z; cases z⟩
    · exact I4.pin p (List.mem_append_right _ z)
  show wpAny _ X.A (assign (.Name y py) X.env (.ref R)) _ _ s4
  refine thn (hg2 _ s4 σ H4 (.ref R) (.ref R) _ I4p rfl q) fun _ s5 ⟨σ5, H5, I5, q5⟩ => ?_
  have pC := I5.pin (C, o) (List.mem_append_right _ List.mem_cons_self)
  refine ⟨m4, ⟨o, es, ep, pC.1, hd, hn'⟩, fun h' sb => ⟨σ5, H5, ?_, q5⟩⟩
  have I6 : Inv X pins σ5 H5 s5 := I5.pins_of fun p hp => I5.pin p (List.mem_append_right _ (List.mem_cons_of_mem _ hp))
  exact I6.turned (it := C) (h' := h') (t' := s5.toks) (fun b o hb e => sb.extBut b o hb e) pC.2.1 hLC (.inr (Nat.le_trans I2.sz hC)) (fun y c e z => by
      obtain ⟨v, qq⟩ := I2.cell y c e
      exact absurd (Nat.lt_of_lt_of_le qq.lt hC) (by rw [z]; exact Nat.lt_irrefl _)) (fun p hp z => by
      exact absurd (Nat.lt_of_lt_of_le (Heap.lt_size (I2.pin p hp).1) hC) (by rw [z]; exact Nat.lt_irrefl _))
theorem compL {K : PySem.W.Frag} {k : Nat} {a : Addr} {xs : List V} {g : TG} {tt : TT} {te : TE} {Q : VK} {σ : St} {H : Hp} (Pv : Nat → List V → Hp → Prop) (h0 : Pv 0 [] H) (hb : xs.length ≤ 1000) (hz : ∀ i ys H, Pv i ys H → ys.length ≤ i) (hl : ∀ i ys H, i ≤ xs.length → Pv i ys H → SqL K H a xs)
    (hs : ∀ i x ys H (pre : St), pre.length = k → xs[i]? = some x → Pv i ys H → g x (pre ++ σ) H fun σ' H2 => (∃ pre' : St, σ' = pre' ++ σ ∧ pre'.length = k) ∧ tt σ' H2 fun ok H3 => if ok = true then te σ' H3 fun y H4 => Pv (i + 1) (ys ++ [y]) H4 else Pv (i + 1) ys H3) (hd : ∀ ys H, Pv xs.length ys H → ∀ D, H D = none → Q (.ref D) (upd H D (.lst ys))) : CGo k (Itl K a) g tt te Q σ H := by
  refine ⟨fun i m ys H => m = xs.length - i ∧ i ≤ xs.length ∧ Pv i ys H, ⟨xs.length, by simp, Nat.zero_le _, h0⟩, ?_⟩
  rintro i m ys H ⟨rfl, hi, p⟩
  have q := hl i ys H hi p
  by_cases hlt : i < xs.length
  · refine .inr ⟨⟨xs, xs[i], q, by simp [hlt]⟩, Nat.lt_of_le_of_lt (hz i ys H p) (small1000 (by omega)), Pv (i + 1), fun zs H' p' => ⟨xs.length - (i + 1), by omega, rfl, hlt, p'⟩, fun x H' pre hp y => ?_⟩
    obtain ⟨e, y⟩ := y
    subst e
    exact hs i x ys _ pre hp (y xs q) p
  · have e : i = xs.length := by omega
    subst e
    exact .inl ⟨⟨xs, q, Nat.le_refl _⟩, hd ys H p⟩
theorem compT {K : PySem.W.Frag} {k : Nat} {a : Addr} {xs : List V} {g : TG} {tt : TT} {te : TE} {Q : VK} {σ : St} {H : Hp} (Pv : Nat → List V → Hp → Prop) (h0 : Pv 0 [] H) (hb : xs.length ≤ 1000) (hz : ∀ i ys H, Pv i ys H → ys.length ≤ i) (hl : ∀ i ys H, i ≤ xs.length → Pv i ys H → SqT K H a xs)
    (hs : ∀ i x ys H (pre : St), pre.length = k → xs[i]? = some x → Pv i ys H → g x (pre ++ σ) H fun σ' H2 => (∃ pre' : St, σ' = pre' ++ σ ∧ pre'.length = k) ∧ tt σ' H2 fun ok H3 => if ok = true then te σ' H3 fun y H4 => Pv (i + 1) (ys ++ [y]) H4 else Pv (i + 1) ys H3) (hd : ∀ ys H, Pv xs.length ys H → ∀ D, H D = none → Q (.ref D) (upd H D (.lst ys))) : CGo k (Itt K a) g tt te Q σ H := by
  refine ⟨fun i m ys H => m = xs.length - i ∧ i ≤ xs.length ∧ Pv i ys H, ⟨xs.length, by simp, Nat.zero_le _, h0⟩, ?_⟩
  rintro i m ys H ⟨rfl, hi, p⟩
  have q := hl i ys H hi p
  by_cases hlt : i < xs.length
  · refine .inr ⟨⟨xs, xs[i], q, by simp [hlt]⟩, Nat.lt_of_le_of_lt (hz i ys H p) (small1000 (by omega)), Pv (i + 1), fun zs H' p' => ⟨xs.length - (i + 1), by omega, rfl, hlt, p'⟩, fun x H' pre hp y => ?_⟩
    obtain ⟨e, y⟩ := y
    subst e
    exact hs i x ys _ pre hp (y xs q) p
  · have e : i = xs.length := by omega
    subst e
    exact .inl ⟨⟨xs, q, Nat.le_refl _⟩, hd ys H p⟩
theorem compR {k : Nat} {lo : Int} {n : Nat} {g : TG} {tt : TT} {te : TE} {Q : VK} {σ : St} {H : Hp} (Pv : Nat → List V → Hp → Prop) (h0 : Pv 0 [] H) (hb : n ≤ 1000) (hz : ∀ i ys H, Pv i ys H → ys.length ≤ i)
    (hs : ∀ (i : Nat) ys H (pre : St), pre.length = k → i < n → Pv i ys H → g (.int (lo + i)) (pre ++ σ) H fun σ' H2 => (∃ pre' : St, σ' = pre' ++ σ ∧ pre'.length = k) ∧ tt σ' H2 fun ok H3 => if ok = true then te σ' H3 fun y H4 => Pv (i + 1) (ys ++ [y]) H4 else Pv (i + 1) ys H3) (hd : ∀ ys H, Pv n ys H → ∀ D, H D = none → Q (.ref D) (upd H D (.lst ys))) : CGo k (Itr lo n) g tt te Q σ H := by
  refine ⟨fun i m ys H => m = n - i ∧ i ≤ n ∧ Pv i ys H, ⟨n, by simp, Nat.zero_le _, h0⟩, ?_⟩
  rintro i m ys H ⟨rfl, hi, p⟩
  by_cases hlt : i < n
  · refine .inr ⟨hlt, Nat.lt_of_le_of_lt (hz i ys H p) (small1000 (by omega)), Pv (i + 1), fun zs H' p' => ⟨n - (i + 1), by omega, rfl, hlt, p'⟩, fun x H' pre hp y => ?_⟩
    obtain ⟨e, y⟩ := y
    subst e y
    exact hs i ys _ pre hp hlt p
  · have e : i = n := by omega
    subst e
    exact .inl ⟨Nat.le_refl _, hd ys H p⟩
end
end L2
set_option Elab.async false
set_option linter.all false
set_option maxRecDepth 100000
set_option maxHeartbeats 4000000
namespace L2
open PySem PySem.Spec PyProof.Rows
section
variable {X : Cx}
section
variable {prog : Program} {w : World} {A : Around} {R : Result → Shared → Prop} {s : Shared}
abbrev e2 (elt tg iter : Expr) (ifs : List Expr) (tg2 iter2 : Expr) (ifs2 : List Expr) (scope : Scope) (pos : PySem.Pos) : Expr := .ListComp elt [⟨tg, iter, ifs, 0⟩, ⟨tg2, iter2, ifs2, 0⟩] scope pos
end
end
end L2
set_option Elab.async false
set_option linter.all false
set_option maxRecDepth 100000
set_option maxHeartbeats 4000000
namespace L2
open PySem PySem.Spec PyProof.Rows
section
variable {X : Cx}
theorem pg_tupK {K : PySem.W.Frag} {es : List Expr} {k : Nat} {t : TGs} {n : Nat} {pos : PySem.Pos} (hc : X.calm = true) (h : PGs X es t) (hK : X.K = K := by rfl)
    (hn : (assignEach es X.env).length = n := by rfl) (hst : (assignEach es X.env).findIdx? (·.1) = none := by rfl) : PG X (.Tuple es k pos) (gTup K n t) := by
  subst hK; exact pg_tup hc h hn hst
theorem sl_listK {K : PySem.W.Frag} (hK : X.K = K := by rfl) : SlR X (rSlL K) := by subst hK; exact sl_list
end
def dT (ns : List Int) : PyData := .tuple (ns.map .int)
theorem eqvAll_ints : ∀ ns ms : List Int, PyData.eqvAll (ns.map .int) (ms.map .int) = decide (ns = ms)
  | [], [] => rfl
  | [], _ :: _ => rfl
  | _ :: _, [] => rfl
  | n :: ns, m :: ms => by
    show (PyData.eqv (.int n) (.int m) && PyData.eqvAll (ns.map .int) (ms.map .int)) = _
    rw [eqvAll_ints ns ms]
    show ((n == m) && _) = _
    by_cases h : n = m
    · subst h; by_cases h2 : ns = ms <;> simp [h2]
    · simp [h]
theorem eqv_dT (ns ms : List Int) : PyData.eqv (dT ns) (dT ms) = decide (ns = ms) := eqvAll_ints ns ms
theorem lay_ints : ∀ ns : List Int, PyData.canLayAll0 (ns.map .int) = true
  | [] => rfl
  | _ :: ns => by show (true && _) = true; rw [lay_ints ns]; rfl
theorem lay_dT (ns : List Int) : (dT ns).canLay0 = true := lay_ints ns
theorem dep_ints : ∀ ns : List Int, PyData.depthAll (ns.map .int) = 0
  | [] => rfl
  | _ :: ns => by show max 0 _ = 0; rw [dep_ints ns]; rfl
theorem dep_dT (ns : List Int) : (dT ns).depth = 1 := by show PyData.depthAll _ + 1 = 1; rw [dep_ints]
def Tups (H H' : Hp) : Prop := ∀ b ys, H b = some (.tup ys) → H' b = some (.tup ys)
theorem Tups.refl (H : Hp) : Tups H H := fun _ _ h => h
theorem Tups.trans {H H1 H2 : Hp} (a : Tups H H1) (b : Tups H1 H2) : Tups H H2 := fun c y h => b c y (a c y h)
theorem Tups.lst {H H1 : Hp} {p : Addr} {xs ys : List V} (a : Tups H H1) (h : H1 p = some (.lst xs)) : Tups H (upd H1 p (.lst ys)) := fun c y e => by
  have := a c y e
  have hn : c ≠ p := fun z => by rw [z, h] at this; cases this
  rw [upd_ne hn]; exact this
theorem Same.tups {H H' : Hp} (s : Same H H') : Tups H H' := fun b ys e => s b _ e
theorem take_succ' {α : Type} {L : List α} {i : Nat} {e : α} (h : L[i]? = some e) : L.take (i + 1) = L.take i ++ [e] := by
  rw [List.take_add_one, h]; rfl
end L2
set_option Elab.async false
set_option linter.all false
set_option maxRecDepth 100000
set_option maxHeartbeats 4000000
set_option Elab.async false
set_option linter.all false
set_option maxRecDepth 100000
set_option maxHeartbeats 4000000
namespace L2
open PySem PySem.Spec PyProof.Rows
section
variable {X : Cx}
theorem call_sorted : CallR X (.builtin "sorted") (fun xs H Q => ∃ (p : Addr) (ns : List Int), xs = [.ref p] ∧ SqL X.K H p (ns.map V.int) ∧ ns.length < 64 ∧ ∀ (l : Addr) (ms : List Int), H l = none → ms.Perm ns → ms.Pairwise (· ≤ ·) → Q (.ref l) (upd H l (.lst (ms.map V.int)))) := by
  intro pins s σ H xs us Q I r h
  obtain ⟨p, ns, rfl, hq, h64, q⟩ := h
  obtain ⟨u, rfl, rx⟩ := vals1 r
  cases rx
  obtain ⟨its, rv, pl, hz⟩ := I.list hq
  have hlen : its.length = ns.length := by have := rv.length; rw [List.length_map] at this; exact this.symm
  refine sorted_ints (vs := its) pl.isList (intsAre_of rv) (by omega) fun out ms hI hp hw => ?_
  obtain ⟨e, he⟩ := sortedAll_at s.heap its out
  have hl : ms.length = ns.length := hp.length_eq
  refine ⟨.ref _, upd H (s.heap.objs.size + 1) (.lst (ms.map V.int)), I.laid (t' := s.toks) (fun b ob z => sortedAll_old z) (Nat.le_succ _) ⟨?_, out.toList, e, vals_ints hI, ?_⟩, rfl, q _ ms (I.hok.fresh (Nat.le_succ _)) hp hw⟩
  · rw [List.length_map, hl]
    exact Nat.le_of_lt (small1000 (by omega))
  · rw [he]
section
variable {prog : Program} {w : World} {A : Around} {E : Value → Shared → Prop} {s : Shared}
theorem draw_lst {it t : Addr} {items : Array Value} (hne : t ≠ it) (n : Nat) : ∀ (i : Nat) (s : Shared) (Q : List Value → Shared → Prop), s.heap.IsListIter it t i → s.heap.IsList t items → i + n ≤ items.size →
    (∀ h', h'.IsListIter it t (i + n) → Heap.SameBut it s.heap h' → Q ((items.toList.drop i).take n) { s with heap := h' }) → wpAny (model prog w) A (draw (.ref it) n) Q E s := by
  induction n with
  | zero =>
    intro i s Q a _ _ hQ
    refine wpAny_pure ?_
    have := hQ s.heap a (Heap.SameBut.refl ..)
    simpa using this
  | succ n ih =>
    intro i s Q a b hle hQ
    have lt : i < items.size := by omega
    refine wpAny_bind (m := pyNext (.ref it)) (wpAny_pyNext_list_item a b (x := items[i]) (by simp [lt]) fun h1 a1 s1 => ?_)
    refine wpAny_bind (wpAny_holding (ih (i + 1) _ _ a1 (b.extBut s1.extBut hne) (by omega) fun h2 a2 s2 => wpAny_pure ?_))
    have := hQ h2 (by rw [show i + (n + 1) = i + 1 + n by omega]; exact a2) (s1.trans s2)
    rw [show items.toList.drop i = items[i] :: items.toList.drop (i + 1) by simp [List.drop_eq_getElem_cons, lt], List.take_succ_cons] at this
    exact this
theorem unpack_lst {t : Addr} {items : Array Value} {Q : List Value → Shared → Prop} (hh : A.handled = none) (ht : s.heap.IsList t items)
    (hQ : ∀ h', Heap.ExtBut s.heap.objs.size s.heap h' → Q items.toList { s with heap := h' }) : wpAny (model prog w) A (unpackItems (.ref t) items.size none) Q E s := by
  have ne : t ≠ s.heap.objs.size := by obtain ⟨o, ho, _⟩ := ht; exact Nat.ne_of_lt (Heap.lt_size ho)
  unfold unpackItems notIterableAtAll
  refine wpAny_bind (wpAny_bind (wpAny_specialOf ht.typeIs slot_list_iter.lookup (wpAny_pure ?_)))
  simp only [Bool.false_eq_true, if_false]
  refine wpAny_bind (wpAny_holding (wpAny_pyIter_list ht ?_))
  refine wpAny_bind (wpAny_holding (draw_lst ne items.size 0 _ _ ⟨_, Heap.get?_push_size _ rfl, rfl, rfl⟩ (ht.push _) (by omega) fun h1 a1 s1 => ?_))
  rw [show List.take items.size (List.drop 0 items.toList) = items.toList by rw [List.drop_zero]; exact List.take_of_length_le (by simp), if_neg (by simp)]
  have t1 : h1.IsList t items := (ht.push _).extBut s1.extBut ne
  refine wpAny_bind (wpAny_holding (wpAny_pyNext_list_end hh a1 t1 (by simp) fun h2 e2 => ?_))
  simp only [Option.isSome_none, Bool.false_eq_true, if_false]
  exact wpAny_pure (hQ h2 fun b o hb e => e2 b o hb (s1.extBut b o hb (Heap.get?_push_of_some _ e)))
end
def gLst (K : PySem.W.Frag) (n : Nat) (t : TGs) : TG := fun v σ H Q => ∃ a xs, v = .ref a ∧ SqL K H a xs ∧ xs.length = n ∧ t xs σ H Q
theorem pg_lst {es : List Expr} {k : Nat} {t : TGs} {n : Nat} {pos : PySem.Pos} (hc : X.calm = true) (h : PGs X es t)
    (hn : (assignEach es X.env).length = n := by rfl) (hst : (assignEach es X.env).findIdx? (·.1) = none := by rfl) : PG X (.Tuple es k pos) (gLst X.K n t) := by
  intro pins s σ H v u Q I r hw
  obtain ⟨a, xs, rfl, hq, hl, hw⟩ := hw
  cases r
  obtain ⟨its, rv, pl, hz⟩ := I.list hq
  rw [arm_assign_Tuple]
  refine wpAny_bind (wpAny_standAt ?_)
  unfold unpack
  rw [hst, show (assignEach es X.env).length = its.toArray.size by simp [hn, ← hl, rv.length]]
  refine wpAny_bind (wpAny_holding (unpack_lst (I.ok.hd hc) pl.isList fun h' hx => ?_))
  have I1 : Inv X pins σ H { s with heap := h' } := I.kept (t' := s.toks) fun b o e => hx b o (Nat.ne_of_lt (Heap.lt_size e)) e
  exact h pins _ σ H xs _ Q I1 (by simpa using rv) hw
end
end L2
set_option Elab.async false
set_option linter.all false
set_option maxRecDepth 100000
set_option maxHeartbeats 4000000
namespace L2
abbrev WL := List (Int × List Int)
def mn (i j : Int) : Int := if j < i then j else i
def mx (i j : Int) : Int := if j > i then j else i
def Pos (L : WL) : Prop := ∀ e ∈ L, 0 < e.1
end L2
set_option Elab.async false
set_option linter.all false
set_option maxRecDepth 100000
set_option maxHeartbeats 4000000
namespace L2
open PySem PySem.Spec PyProof.Rows
inductive Th (H : Hp) : V → PyData → Prop where
  | non : Th H .non .none
  | bl (b : Bool) : Th H (.bl b) (.bool b)
  | int (i : Int) : Th H (.int i) (.int i)
  | str (x : Str) : Th H (.str x) (.str x)
  | tup {a : Addr} {xs : List V} {ds : List PyData} : H a = some (.tup xs) → xs.length = ds.length → (∀ (i : Nat) (x : V) (d : PyData), xs[i]? = some x → ds[i]? = some d → Th H x d) → Th H (.ref a) (.tuple ds)
  | lst {a : Addr} {xs : List V} {ds : List PyData} : H a = some (.lst xs) → xs.length = ds.length → (∀ (i : Nat) (x : V) (d : PyData), xs[i]? = some x → ds[i]? = some d → Th H x d) → Th H (.ref a) (.list ds)
theorem Th.di {K : PySem.W.Frag} {H : Hp} {x : V} {d : PyData} (h : Th H x d) : DI K H x d := by
  induction h with
  | non => exact .non
  | bl b => exact .bl b
  | int i => exact .int i
  | str x => exact .str x
  | tup a b _ ih => exact .tup (SqT.of a) b ih
  | lst a b _ ih => exact .lst (SqL.of a) b ih
def isInt : PyData → Bool
  | .int _ | .bool _ => true
  | _ => false
section
variable {X : Cx} {es : List Expr} {te : TE} {t : TA}
theorem pa_Constant {c : Const} {j : Nat} {p : PySem.Pos} (ha : PE X (.Constant c j p) te) (hr : PA X es t) : PA X (.Constant c j p :: es) (tCons te t) := pa_cons ha hr rfl
theorem pa_Name {x : Str} {p : PySem.Pos} (ha : PE X (.Name x p) te) (hr : PA X es t) : PA X (.Name x p :: es) (tCons te t) := pa_cons ha hr rfl
theorem pa_Tuple {l : List Expr} {k : Nat} {p : PySem.Pos} (ha : PE X (.Tuple l k p) te) (hr : PA X es t) : PA X (.Tuple l k p :: es) (tCons te t) := pa_cons ha hr rfl
theorem pa_List {l : List Expr} {p : PySem.Pos} (ha : PE X (.List l p) te) (hr : PA X es t) : PA X (.List l p :: es) (tCons te t) := pa_cons ha hr rfl
theorem pa_BinOp {a b : Expr} {o : Operator} {p : PySem.Pos} (ha : PE X (.BinOp a o b p) te) (hr : PA X es t) : PA X (.BinOp a o b p :: es) (tCons te t) := pa_cons ha hr rfl
theorem pa_Subscript {a b : Expr} {p : PySem.Pos} (ha : PE X (.Subscript a b p) te) (hr : PA X es t) : PA X (.Subscript a b p :: es) (tCons te t) := pa_cons ha hr rfl
theorem pa_Call {f : Expr} {l : List Expr} {kw : List Keyword} {p : PySem.Pos} (ha : PE X (.Call f l kw p) te) (hr : PA X es t) : PA X (.Call f l kw p :: es) (tCons te t) := pa_cons ha hr rfl
end
theorem pa_o2 {X : Cx} {e1 e2 : Expr} {t1 t2 : TE} {es : List Expr} {t : TA} (h1 : PE X e1 t1) (h2 : PE X e2 t2) (hr : PA X es t) (s1 : ∀ l, starEach (e1 :: l) X.env = (false, eval e1 X.env) :: starEach l X.env := by intro _; rfl) (s2 : ∀ l, starEach (e2 :: l) X.env = (false, eval e2 X.env) :: starEach l X.env := by intro _; rfl) : PA X (e1 :: e2 :: es) (tCons t1 (tCons t2 t)) := (pa_cons h1 (pa_cons h2 hr (s2 _)) (s1 _))
theorem pa_o3 {X : Cx} {e1 e2 e3 : Expr} {t1 t2 t3 : TE} {es : List Expr} {t : TA} (h1 : PE X e1 t1) (h2 : PE X e2 t2) (h3 : PE X e3 t3) (hr : PA X es t) (s1 : ∀ l, starEach (e1 :: l) X.env = (false, eval e1 X.env) :: starEach l X.env := by intro _; rfl) (s2 : ∀ l, starEach (e2 :: l) X.env = (false, eval e2 X.env) :: starEach l X.env := by intro _; rfl) (s3 : ∀ l, starEach (e3 :: l) X.env = (false, eval e3 X.env) :: starEach l X.env := by intro _; rfl) : PA X (e1 :: e2 :: e3 :: es) (tCons t1 (tCons t2 (tCons t3 t))) := (pa_cons h1 (pa_cons h2 (pa_cons h3 hr (s3 _)) (s2 _)) (s1 _))
theorem pa_o4 {X : Cx} {e1 e2 e3 e4 : Expr} {t1 t2 t3 t4 : TE} {es : List Expr} {t : TA} (h1 : PE X e1 t1) (h2 : PE X e2 t2) (h3 : PE X e3 t3) (h4 : PE X e4 t4) (hr : PA X es t) (s1 : ∀ l, starEach (e1 :: l) X.env = (false, eval e1 X.env) :: starEach l X.env := by intro _; rfl) (s2 : ∀ l, starEach (e2 :: l) X.env = (false, eval e2 X.env) :: starEach l X.env := by intro _; rfl) (s3 : ∀ l, starEach (e3 :: l) X.env = (false, eval e3 X.env) :: starEach l X.env := by intro _; rfl) (s4 : ∀ l, starEach (e4 :: l) X.env = (false, eval e4 X.env) :: starEach l X.env := by intro _; rfl) : PA X (e1 :: e2 :: e3 :: e4 :: es) (tCons t1 (tCons t2 (tCons t3 (tCons t4 t)))) := (pa_cons h1 (pa_cons h2 (pa_cons h3 (pa_cons h4 hr (s4 _)) (s3 _)) (s2 _)) (s1 _))
end L2
set_option Elab.async false
set_option linter.all false
set_option maxRecDepth 100000
set_option maxHeartbeats 1000000
namespace L2
open PySem PySem.Spec PyProof.Rows
section
variable {X : Cx} {pins : List (Addr × Obj)} {σ : St} {H : Hp} {s : Shared} {h' : Heap}
theorem Inv.turnedNew {t' : Nat} {ch : List Addr} {p : Addr} {xs : List V} (I : Inv X pins σ H s) (k : ∀ b o, b ∉ ch → s.heap.get? b = some o → h'.get? b = some o) (hf : ∀ b ∈ ch, FpOk X pins H b) (hp : s.heap.objs.size ≤ p)
    (new : ObjOk X.prog X.w (upd H p (.tup xs)) h' p (.tup xs)) : Inv X pins σ (upd H p (.tup xs)) { s with heap := h', toks := t' } := by
  have hn : H p = none := I.hok.fresh hp
  have nit : ∀ b u, H b = some u → b ∉ ch := fun b u e z => by rw [(hf b z).1] at e; cases e
  have nL : X.env.locals ∉ ch := fun z => (hf _ z).2.1 rfl
  refine I.step (g' := s.gens) (d' := s.drawn) (ch := ch) (fun b hb => ?_) (fun b o _ _ hc e _ => k b o hc e) (fun b o _ _ hc e _ => ⟨o.slots, k b o hc e⟩) (fun b o _ e n => ?_)
    (fun b o hc e => ⟨o, k b o hc e⟩) (fun b xs e => ?_) (fun b o u e => ?_) (fun b ps e => ⟨#[], ?_⟩) (fun m hm => ?_) (fun b u e => ?_) I.bare
  · obtain ⟨f0, f1, f2, f3, f4, f5⟩ := hf b hb
    exact ⟨f3, f1, f4, f5⟩
  · rw [upd_ne (fun z => by rw [z] at e; exact absurd (Nat.lt_of_lt_of_le (Heap.lt_size e) hp) (Nat.lt_irrefl _))]
    exact n
  · rw [upd_ne (ne_of_none e hn)]; exact e
  · rw [upd_ne (ne_of_none e hn)]; exact e
  · rw [upd_ne (ne_of_none e hn), e]; simp
  · obtain ⟨o, es, ep, ho, r⟩ := hm
    exact ⟨o, es, ep, k _ o nL ho, r⟩
  · by_cases hb : b = p
    · subst hb; rw [upd_same] at e; cases e; exact new
    · rw [upd_ne hb] at e
      refine (I.hok b u e).stay (fun c v hc q => k c v ?_ q) (fun c q => by rw [upd_ne (ne_of_none q hn)]; exact q) fun c xs q => by rw [upd_ne (ne_of_none q hn)]; exact q
      rcases hc with z | z
      · rw [z]; exact nit b u e
      · exact nit c _ z
theorem Inv.turnedL {t' : Nat} {ch : List Addr} (I : Inv X pins σ H s) (k : ∀ b o, b ∉ ch → s.heap.get? b = some o → h'.get? b = some o) (hf : ∀ b ∈ ch, FpOk X pins H b) : Inv X pins σ H { s with heap := h', toks := t' } := by
  have nit : ∀ b u, H b = some u → b ∉ ch := fun b u e z => by rw [(hf b z).1] at e; cases e
  have nL : X.env.locals ∉ ch := fun z => (hf _ z).2.1 rfl
  refine I.step (g' := s.gens) (d' := s.drawn) (ch := ch) (fun b hb => ?_) (fun b o _ _ hc e _ => k b o hc e) (fun b o _ _ hc e _ => ⟨o.slots, k b o hc e⟩) (fun b o _ e n => n)
    (fun b o hc e => ⟨o, k b o hc e⟩) (fun b xs e => e) (fun b o u e => e) (fun b ps e => ⟨#[], by rw [e]; simp⟩) (fun m hm => ?_) (fun b u e => ?_) I.bare
  · obtain ⟨f0, f1, f2, f3, f4, f5⟩ := hf b hb
    exact ⟨f3, f1, f4, f5⟩
  · obtain ⟨o, es, ep, ho, r⟩ := hm
    exact ⟨o, es, ep, k _ o nL ho, r⟩
  · refine (I.hok b u e).stay (fun c v hc q => k c v ?_ q) (fun _ q => q) fun _ _ q => q
    rcases hc with z | z
    · rw [z]; exact nit b u e
    · exact nit c _ z
end
end L2
set_option Elab.async false
set_option linter.all false
set_option maxRecDepth 100000
set_option maxHeartbeats 1000000
namespace L2
open PySem PySem.Spec PyProof.Rows
def ThL (H : Hp) (xs : List V) (ds : List PyData) : Prop := xs.length = ds.length ∧ ∀ (i : Nat) (x : V) (d : PyData), xs[i]? = some x → ds[i]? = some d → Th H x d
theorem ThL.tup {H : Hp} {a : Addr} {xs : List V} {ds : List PyData} (k : ThL H xs ds) (h : H a = some (.tup xs)) : Th H (.ref a) (.tuple ds) := .tup h k.1 k.2
theorem ThL.ints {H : Hp} (ns : List Int) : ThL H (ns.map V.int) (ns.map .int) := by
  refine ⟨by simp, fun i x d h1 h2 => ?_⟩
  rw [List.getElem?_map] at h1 h2
  cases z : ns[i]? with
  | none => rw [z] at h1; cases h1
  | some n => rw [z] at h1 h2; cases h1; cases h2; exact .int n
end L2
set_option Elab.async false
set_option linter.all false
set_option maxRecDepth 100000
set_option maxHeartbeats 1000000
set_option Elab.async false
set_option linter.all false
set_option maxRecDepth 100000
set_option maxHeartbeats 1000000
set_option Elab.async false
set_option linter.all false
set_option maxRecDepth 100000
set_option maxHeartbeats 1000000
namespace L2
open PySem PySem.Spec PyProof.Rows
structure TB (t : SetTable) (led : Bool) : Prop where
  led : t.led = led
  dum : t.dummies = #[]
  up : t.place.toList.Pairwise (· < ·)
theorem below_go {xs : Array Nat} (h : xs.toList.Pairwise (· < ·)) (j : Nat) : ∀ (fuel lo hi : Nat), hi ≤ xs.size → lo ≤ hi → hi - lo ≤ fuel → (∀ i, i < lo → xs.getD i 0 < j) → (∀ i, hi ≤ i → i < xs.size → j ≤ xs.getD i 0) →
    SetTable.below.go xs j fuel lo hi ≤ xs.size ∧ (∀ i, i < SetTable.below.go xs j fuel lo hi → xs.getD i 0 < j) ∧ (∀ i, SetTable.below.go xs j fuel lo hi ≤ i → i < xs.size → j ≤ xs.getD i 0) := by
  have inc : ∀ a b, a ≤ b → b < xs.size → xs.getD a 0 ≤ xs.getD b 0 := fun a b hab hb => by
    rcases Nat.lt_or_eq_of_le hab with z | z
    · have := List.pairwise_iff_getElem.mp h a b (by simpa using Nat.lt_trans z hb) (by simpa using hb) z
      simp only [Array.getElem_toList] at this
      rw [Array.getD_eq_getD_getElem?, Array.getD_eq_getD_getElem?, Array.getElem?_eq_getElem (Nat.lt_trans z hb), Array.getElem?_eq_getElem hb]
      exact Nat.le_of_lt this
    · rw [z]; exact Nat.le_refl _
  intro fuel
  induction fuel with
  | zero =>
    intro lo hi h1 h2 h3 h4 h5
    have e : lo = hi := by omega
    subst e
    exact ⟨h1, h4, h5⟩
  | succ fuel ih =>
    intro lo hi h1 h2 h3 h4 h5
    unfold SetTable.below.go
    by_cases hlt : lo < hi
    · rw [if_pos hlt]
      have hm : (lo + hi) / 2 < hi := by omega
      have hm0 : lo ≤ (lo + hi) / 2 := by omega
      have hms : (lo + hi) / 2 < xs.size := by omega
      have eg : xs.getD ((lo + hi) / 2) j = xs.getD ((lo + hi) / 2) 0 := by
        rw [Array.getD_eq_getD_getElem?, Array.getD_eq_getD_getElem?, Array.getElem?_eq_getElem hms]; rfl
      dsimp only
      rw [eg]
      by_cases hc : xs.getD ((lo + hi) / 2) 0 < j
      · rw [if_pos hc]
        refine ih _ _ h1 (by omega) (by omega) (fun i hi' => ?_) h5
        exact Nat.lt_of_le_of_lt (inc i _ (by omega) hms) hc
      · rw [if_neg hc]
        refine ih _ _ (by omega) (by omega) (by omega) h4 (fun i hi' hs => ?_)
        exact Nat.le_trans (Nat.not_lt.mp hc) (inc _ i hi' hs)
    · rw [if_neg hlt]
      have e : lo = hi := by omega
      subst e
      exact ⟨h1, h4, h5⟩
theorem below_ok {xs : Array Nat} (h : xs.toList.Pairwise (· < ·)) (j : Nat) : SetTable.below xs j ≤ xs.size ∧ (∀ i, i < SetTable.below xs j → xs.getD i 0 < j) ∧ (∀ i, SetTable.below xs j ≤ i → i < xs.size → j ≤ xs.getD i 0) :=
  below_go h j xs.size 0 xs.size (Nat.le_refl _) (Nat.zero_le _) (Nat.le_refl _) (fun i hi => by omega) (fun i h1 h2 => by omega)
theorem put_tb {t : SetTable} {led : Bool} (h : TB t led) {j : Nat} (he : t.slot j = .empty) : TB (t.put j).1 led := by
  have hd : SetTable.has t.dummies j = false := by rw [h.dum]; rfl
  refine ⟨h.led, ?_, ?_⟩
  · show (if SetTable.has t.dummies j = true then _ else t.dummies) = #[]
    rw [hd]
    exact h.dum
  · show (SetTable.insertAt t.place (SetTable.below t.place j) j).toList.Pairwise (· < ·)
    rw [SetTable.toList_insertAt]
    obtain ⟨b1, b2, b3⟩ := below_ok h.up j
    have hne : t.place[SetTable.below t.place j]? ≠ some j := fun z => by
      unfold SetTable.slot at he
      dsimp only at he
      rw [z] at he
      simp at he
    rw [List.pairwise_append]
    refine ⟨h.up.sublist (List.take_sublist _ _), ?_, ?_⟩
    · rw [List.pairwise_cons]
      refine ⟨fun b hb => ?_, h.up.sublist (List.drop_sublist _ _)⟩
      obtain ⟨i, hi⟩ := List.mem_iff_getElem?.mp hb
      rw [List.getElem?_drop, Array.getElem?_toList] at hi
      obtain ⟨hlt, hg⟩ := Array.getElem?_eq_some_iff.mp hi
      have h1 := b3 _ (Nat.le_add_right _ i) hlt
      rw [Array.getD_eq_getD_getElem?, hi] at h1
      rcases Nat.lt_or_eq_of_le h1 with z | z
      · exact z
      · exfalso
        have z : j = b := z
        cases i with
        | zero => exact hne (by rw [← z] at hi; simpa using hi)
        | succ i =>
          have hlt0 : SetTable.below t.place j < t.place.size := by omega
          have h2 := b3 _ (Nat.le_refl _) hlt0
          have h3 := List.pairwise_iff_getElem.mp h.up (SetTable.below t.place j) (SetTable.below t.place j + (i + 1)) (by simpa using hlt0) (by simpa using hlt) (by omega)
          simp only [Array.getElem_toList] at h3
          rw [Array.getD_eq_getD_getElem?, Array.getElem?_eq_getElem hlt0] at h2
          have h2 : j ≤ t.place[SetTable.below t.place j] := h2
          omega
    · intro a ha b hb
      have haj : a < j := by
        obtain ⟨i, hi⟩ := List.mem_iff_getElem?.mp ha
        rw [List.getElem?_take] at hi
        split at hi
        · rename_i hir
          rw [Array.getElem?_toList] at hi
          have := b2 i hir
          rw [Array.getD_eq_getD_getElem?, hi] at this
          exact this
        · cases hi
      rcases List.mem_cons.mp hb with rfl | hb
      · exact haj
      · obtain ⟨i, hi⟩ := List.mem_iff_getElem?.mp hb
        rw [List.getElem?_drop, Array.getElem?_toList] at hi
        obtain ⟨hlt, hg⟩ := Array.getElem?_eq_some_iff.mp hi
        have h1 := b3 _ (Nat.le_add_right _ i) hlt
        rw [Array.getD_eq_getD_getElem?, hi] at h1
        exact Nat.lt_of_lt_of_le haj h1
theorem probe_go {t : SetTable} (hd : t.dummies = #[]) {f : Nat → Int} {h : Int} : ∀ (fuel : Nat) (p : SetTable.Probe), p.dummy = none → ∀ {j : Nat} {d : Option Nat}, SetTable.probe.go t f h fuel p = some (.empty j d) → t.slot j = .empty ∧ d = none := by
  have nd : ∀ j, t.slot j ≠ .dummy := fun j z => by
    unfold SetTable.slot at z
    dsimp only at z
    rw [hd] at z
    split at z
    · cases z
    · have e : SetTable.has #[] j = false := rfl
      rw [e] at z
      cases z
  intro fuel
  induction fuel with
  | zero => intro p _ j d e; unfold SetTable.probe.go at e; cases e
  | succ fuel ih =>
    intro p hp j d e
    unfold SetTable.probe.go at e
    cases hs : t.slot p.j with
    | empty => rw [hs] at e; cases e; exact ⟨hs, hp⟩
    | dummy => exact absurd hs (nd _)
    | live i =>
      rw [hs] at e
      dsimp only at e
      split at e
      · cases e
      · refine ih _ ?_ e
        unfold SetTable.advance
        split <;> exact hp
theorem free_empty {t : SetTable} (hd : t.dummies = #[]) {h : Int} {slot : Nat} {wd : Bool} (e : t.freeSlot h = some (slot, wd)) : t.slot slot = .empty := by
  unfold SetTable.freeSlot at e
  cases hp : t.probe (fun _ => h + 1) h (t.probeStart h) with
  | none => rw [hp] at e; cases e
  | some m =>
    cases m with
    | empty j d =>
      rw [hp] at e
      obtain ⟨h1, h2⟩ := probe_go hd _ _ rfl hp
      subst h2
      cases e
      exact h1
    | candidate a b c => rw [hp] at e; cases e
theorem standIn_tb {t : SetTable} {led : Bool} (h : t.led = led) (n : Nat) : TB (t.standIn n) led := by
  refine ⟨h, rfl, ?_⟩
  show (Array.range n).toList.Pairwise (· < ·)
  rw [Array.toList_range]
  exact List.pairwise_lt_range
theorem layNew_tb {t : SetTable} {led : Bool} (h : TB t led) (es : Array (Int × Value)) (hh : Int) (x : Value) : TB (layNew t es hh x).2.1 led := by
  unfold layNew
  split
  · rename_i slot wd e
    have p := put_tb h (free_empty h.dum e)
    dsimp only
    unfold SetTable.orStandIn
    split
    · exact p
    · exact standIn_tb p.led _
  · exact standIn_tb h.led _
theorem filter_fst {α β : Type} (f : α → Option β) : ∀ l : List α, ((l.filterMap fun j => (f j).map (j, ·)).map (·.1)) = l.filter fun j => (f j).isSome
  | [] => rfl
  | a :: l => by
    cases h : f a with
    | none => simp [h, filter_fst f l]
    | some b => simp [h, filter_fst f l]
theorem relayAll_tb {t : SetTable} {led : Bool} (h : TB t led) (es : Array (Int × Value)) (wanted : Nat) : TB (relayAll t es wanted).2.1 led := by
  unfold relayAll
  split
  · rename_i t' order e
    dsimp only
    split
    · unfold SetTable.relaid SetTable.laid at e
      simp only [Option.bind_eq_bind, Option.bind_eq_some_iff, Option.pure_def, Option.some.injEq, Prod.mk.injEq] at e
      obtain ⟨owner, _, e1, _⟩ := e
      subst e1
      refine ⟨h.led, rfl, ?_⟩
      show ((((List.range _).filterMap fun j => (owner.getD j none).map (j, ·)).map (·.1)).toArray).toList.Pairwise (· < ·)
      rw [filter_fst (fun j => owner.getD j none)]
      exact List.pairwise_lt_range.sublist List.filter_sublist
    · exact standIn_tb h.led _
  · exact standIn_tb h.led _
end L2
set_option Elab.async false
set_option linter.all false
set_option maxRecDepth 100000
set_option maxHeartbeats 2000000
namespace L2
open PySem PySem.Spec PyProof.Rows
def SetJ (prog : Program) (w : World) (h : Heap) (a : Addr) (ns : List Int) : Prop :=
  ∃ o es ep t, h.get? a = some o ∧ o.ExactSet ∧ o.data = .set es ep t ∧ ElemsOf (intKind prog w) es.toList ∧ (∃ ms, IntsAre (es.toList.map (·.2)) ms ∧ ms.Perm ns) ∧ es.size < scanBound ∧ t.fits es.size = true ∧ TB t (!w.params.followText "set-order")
theorem SetJ.size {prog : Program} {w : World} {o : Obj} {es : Array (Int × Value)} {ns : List Int} (h : ∃ ms, IntsAre (es.toList.map (·.2)) ms ∧ ms.Perm ns) : es.size = ns.length := by
  obtain ⟨ms, h1, h2⟩ := h
  have := h1.length
  rw [List.length_map, Array.length_toList] at this
  rw [this, h2.length_eq]
theorem intsAre_mem : ∀ {us : List Value} {ms : List Int}, IntsAre us ms → ∀ k : Int, k ∈ ms ↔ ∃ u ∈ us, u.isInt k = true
  | _, _, .nil, k => by simp
  | _, _, .cons n t h, k => by
    have ih := intsAre_mem h k
    constructor
    · intro hk
      rcases List.mem_cons.mp hk with rfl | hk
      · exact ⟨_, List.mem_cons_self, by simp [Value.isInt]⟩
      · obtain ⟨u, hu, e⟩ := ih.mp hk
        exact ⟨u, List.mem_cons_of_mem _ hu, e⟩
    · rintro ⟨u, hu, e⟩
      rcases List.mem_cons.mp hu with rfl | hu
      · simp [Value.isInt] at e
        rw [e]; exact List.mem_cons_self
      · exact List.mem_cons_of_mem _ (ih.mpr ⟨u, hu, e⟩)
theorem intsAre_perm : ∀ {us vs : List Value}, us.Perm vs → ∀ {ms : List Int}, IntsAre vs ms → ∃ ms', IntsAre us ms' ∧ ms'.Perm ms := by
  intro us vs p
  induction p with
  | nil => intro ms h; exact ⟨ms, h, .refl _⟩
  | cons x _ ih =>
    intro ms h
    cases h with
    | cons n t h => obtain ⟨m, h1, h2⟩ := ih h; exact ⟨_, .cons n t h1, h2.cons n⟩
  | swap x y l =>
    intro ms h
    cases h with
    | cons n t h => cases h with | cons n' t' h => exact ⟨_, .cons n' t' (.cons n t h), .swap ..⟩
  | trans _ _ ih1 ih2 =>
    intro ms h
    obtain ⟨m2, h3, h4⟩ := ih2 h
    obtain ⟨m1, h1, h2⟩ := ih1 h3
    exact ⟨m1, h1, h2.trans h4⟩
theorem intsAre_append : ∀ {us vs : List Value} {ms ns : List Int}, IntsAre us ms → IntsAre vs ns → IntsAre (us ++ vs) (ms ++ ns)
  | _, _, _, _, .nil, h => h
  | _, _, _, _, .cons n t h, k => .cons n t (intsAre_append h k)
section
variable {prog : Program} {w : World} {A : Around} {E : Value → Shared → Prop} {s : Shared}
theorem stored_at {h : Heap} {a : Addr} {o : Obj} {es : Array (Int × Value)} {ep : Nat} {t : SetTable} (ho : h.get? a = some o) (hd : o.data = .set es ep t) (es' : Array (Int × Value)) (t' : SetTable) :
    (h.update a (Obj.putSet es' t')).get? a = some { o with data := .set es' (ep + 1) t' } := by
  have z := Heap.get?_update_self (Obj.putSet es' t') ho (by rw [putSet_of es' t' hd]; rfl)
  rw [putSet_of es' t' hd] at z
  exact z
theorem add_end {g : Bool → Sem Unit} (hg : ∀ (b : Bool) (s1 : Shared) (R : Unit → Shared → Prop), R () s1 → wpAny (model prog w) A (g b) R E s1) {a : Addr} {o : Obj} {es : Array (Int × Value)} {ep : Nat} {t : SetTable}
    (ho : s.heap.get? a = some o) (hx : o.ExactSet) (hd : o.data = .set es ep t) {es1 : Array (Int × Value)} {t2 : SetTable} {ns : List Int} (he : ElemsOf (intKind prog w) es1.toList) (hi : ∃ ms, IntsAre (es1.toList.map (·.2)) ms ∧ ms.Perm ns)
    (hb : es1.size < scanBound) (hf : t2.fits es1.size = true) (tb : TB t2 (!w.params.followText "set-order")) {wd : Bool} {R : Option Bool → Shared → Prop} (h : ∀ h', Heap.SameBut a s.heap h' → SetJ prog w h' a ns → R (some true) { s with heap := h' }) :
    wpAny (model prog w) A (do
        storeSet a es1 t2
        if (!wd && t2.tooFull) = true then do
            g (relayAll t2 es1 (SetTable.grown es1.size)).2.2
            storeSet a (relayAll t2 es1 (SetTable.grown es1.size)).1 (relayAll t2 es1 (SetTable.grown es1.size)).2.1
            pure (some true)
          else pure (some true)) R E s := by
  refine wpAny_bind (wpAny_storeSet_of ho hd ?_ (fits_of_scanBound hb))
  have o1 := stored_at ho hd es1 t2
  have b1 := Heap.SameBut.update s.heap a (Obj.putSet es1 t2)
  split
  · have q1 := relayAll_perm t2 es1 (SetTable.grown es1.size)
    have q2 := relayAll_fits t2 es1 (SetTable.grown es1.size)
    have q3 := relayAll_tb tb es1 (SetTable.grown es1.size)
    generalize relayAll t2 es1 (SetTable.grown es1.size) = Z at q1 q2 q3 ⊢
    obtain ⟨es2, t3, gv⟩ := Z
    dsimp only at q1 q2 q3 ⊢
    have sz : es2.size = es1.size := by rw [← Array.length_toList, q1.length_eq, Array.length_toList]
    refine wpAny_bind (hg _ _ _ (wpAny_bind (wpAny_storeSet_of o1 rfl (wpAny_pure (h _ (b1.trans (Heap.SameBut.update _ a _)) ?_)) (fits_of_scanBound (by rw [sz]; exact hb)))))
    obtain ⟨ms, i1, i2⟩ := hi
    obtain ⟨ms', i3, i4⟩ := intsAre_perm (q1.map (·.2)) i1
    exact ⟨_, es2, _, t3, stored_at o1 rfl es2 t3, hx, rfl, he.perm q1, ⟨ms', i3, i4.trans i2⟩, by rw [sz]; exact hb, q2, q3⟩
  · exact wpAny_pure (h _ b1 ⟨_, es1, _, t2, o1, hx, rfl, he, hi, hb, hf, tb⟩)
theorem tb_plain {t : SetTable} {led : Bool} (h : TB t led) : TB { t with plain := false } led := ⟨h.led, h.dum, h.up⟩
theorem setAdd_j {a : Addr} {ns : List Int} {k : Int} {tk : Tok} {Q : Bool → Shared → Prop} (hS : SetJ prog w s.heap a ns) (hroom : ns.length + 1 < scanBound)
    (h : ∀ h', Heap.SameBut a s.heap h' → SetJ prog w h' a (if k ∈ ns then ns else ns ++ [k]) → Q (!decide (k ∈ ns)) { s with heap := h' }) : wpAny (model prog w) A (setAddHashed a (.int k tk) ((intKind prog w).hash k)) Q E s := by
  have hkey := intKind_is prog w k tk
  have hsc : (Value.int k tk).scannable = true := rfl
  obtain ⟨o, es, ep, t, ho, hx, hd, he, hi, hb, hf, tb⟩ := id hS
  have hn := SetJ.size (prog := prog) (w := w) (o := o) hi
  have hmem : k ∈ ns ↔ ∃ e ∈ es.toList, (intKind prog w).is k e.2 = true := by
    obtain ⟨ms, i1, i2⟩ := hi
    rw [← i2.mem_iff, intsAre_mem i1 k]
    constructor
    · rintro ⟨u, hu, e⟩
      obtain ⟨z, hz, rfl⟩ := List.mem_map.mp hu
      exact ⟨z, hz, e⟩
    · rintro ⟨z, hz, e⟩
      exact ⟨z.2, List.mem_map.mpr ⟨z, hz, rfl⟩, e⟩
  unfold setAddHashed setAddHashedIn
  refine wpAny_holding (wpAny_bind (wpAny_setState_of ho hd hf ?_))
  dsimp only
  rw [byScan_of hsc hb he]
  simp only [↓reduceIte]
  unfold setAddByScan
  refine wpAny_bind (wpAny_bind (wpAny_rule (wpAny_bind (wpAny_setScan_of hkey ho hd hf he ?_))))
  cases hr : List.findIdx? (fun e => (intKind prog w).is k e.2) es.toList with
  | some j =>
    dsimp only
    obtain ⟨hj, hpj, _⟩ := List.findIdx?_eq_some_iff_getElem.mp hr
    have hk : k ∈ ns := hmem.mpr ⟨es.toList[j], List.getElem_mem hj, hpj⟩
    refine wpAny_pure (wpAny_pure ?_)
    have z := h s.heap (Heap.SameBut.refl a s.heap) (by rw [if_pos hk]; exact hS)
    rw [decide_eq_true hk] at z
    exact z
  | none =>
    dsimp only
    have hk : ¬ k ∈ ns := fun hk => by
      obtain ⟨e, hee, hp⟩ := hmem.mp hk
      have z := List.findIdx?_eq_none_iff.mp hr e hee
      rw [hp] at z
      exact Bool.noConfusion z
    have hgw : ∀ (b : Bool) {s1 : Shared} {R : Unit → Shared → Prop}, R () s1 → wpAny (model prog w) A (match b with | true => rule "set.scan.the-table-gave-way" | false => pure ()) R E s1 :=
      fun b s1 R hq => by cases b <;> first | exact wpAny_pure hq | exact wpAny_rule hq
    have q1 := layNew_perm t es ((intKind prog w).hash k) (.int k tk)
    have q2 := layNew_fits t es ((intKind prog w).hash k) (.int k tk)
    have q3 := layNew_tb tb es ((intKind prog w).hash k) (.int k tk)
    generalize layNew t es ((intKind prog w).hash k) (.int k tk) = Z at q1 q2 q3 ⊢
    obtain ⟨es1, t1, wd, gv⟩ := Z
    dsimp only at q1 q2 q3 ⊢
    rw [Array.toList_push] at q1
    have he1 : ElemsOf (intKind prog w) es1.toList := (he.push hkey hsc).perm q1
    have sz : es1.size = es.size + 1 := by rw [← Array.length_toList, q1.length_eq, List.length_append, Array.length_toList]; rfl
    have hb1 : es1.size < scanBound := by rw [sz, hn]; exact hroom
    have hi1 : ∃ ms, IntsAre (es1.toList.map (·.2)) ms ∧ ms.Perm (ns ++ [k]) := by
      obtain ⟨ms, i1, i2⟩ := hi
      have i5 : IntsAre ((es.toList ++ [((intKind prog w).hash k, Value.int k tk)]).map (·.2)) (ms ++ [k]) := by
        rw [List.map_append]
        exact intsAre_append i1 (.cons k tk .nil)
      obtain ⟨ms', i3, i4⟩ := intsAre_perm (q1.map (·.2)) i5
      exact ⟨ms', i3, i4.trans (i2.append_right _)⟩
    refine wpAny_bind (hgw _ ?_)
    have fin : ∀ h', Heap.SameBut a s.heap h' → SetJ prog w h' a (ns ++ [k]) → Q true { s with heap := h' } := fun h' sb j => by
      have z := h h' sb (by rw [if_neg hk]; exact j)
      rw [decide_eq_false hk] at z
      exact z
    split
    · refine wpAny_bind ?_
      rw [hashByValue_scannable 8 hsc]
      refine wpAny_pure (add_end ?_ ho hx hd he1 hi1 hb1 ?_ ?_ ?_)
      · intro b s1 R hq; cases b <;> first | exact wpAny_pure hq | exact wpAny_rule hq
      · split
        · exact q2
        · exact SetTable.fits_plain_off q2
      · split
        · exact q3
        · exact tb_plain q3
      · intro h' sb j; dsimp only; exact wpAny_pure (fin h' sb j)
    · refine wpAny_bind (wpAny_pure ?_)
      simp only [↓reduceIte]
      refine add_end ?_ ho hx hd he1 hi1 hb1 q2 q3 ?_
      · intro b s1 R hq; cases b <;> first | exact wpAny_pure hq | exact wpAny_rule hq
      · intro h' sb j; dsimp only; exact wpAny_pure (fin h' sb j)
end
end L2
set_option Elab.async false
set_option linter.all false
set_option maxRecDepth 100000
set_option maxHeartbeats 4000000
namespace L2
open PySem PySem.Spec PyProof.Rows
def ddStep (acc : List Int) (k : Int) : List Int := if k ∈ acc then acc else acc ++ [k]
def dd (ns : List Int) : List Int := ns.foldl ddStep []
theorem dd_snoc (ns : List Int) (k : Int) : dd (ns ++ [k]) = ddStep (dd ns) k := by unfold dd; rw [List.foldl_append]; rfl
theorem dd_len : ∀ ns : List Int, (dd ns).length ≤ ns.length := by
  have : ∀ (ns acc : List Int), (ns.foldl ddStep acc).length ≤ acc.length + ns.length := by
    intro ns
    induction ns with
    | nil => intro acc; exact Nat.le_refl _
    | cons k ns ih =>
      intro acc
      have h := ih (ddStep acc k)
      have h2 : (ddStep acc k).length ≤ acc.length + 1 := by unfold ddStep; split <;> simp
      show (ns.foldl ddStep (ddStep acc k)).length ≤ acc.length + (ns.length + 1)
      omega
  intro ns
  have := this ns []
  unfold dd
  simpa using this
theorem dd_mem (ns : List Int) (k : Int) : k ∈ dd ns ↔ k ∈ ns := by
  have : ∀ (ns acc : List Int), k ∈ ns.foldl ddStep acc ↔ k ∈ acc ∨ k ∈ ns := by
    intro ns
    induction ns with
    | nil => intro acc; simp
    | cons j ns ih =>
      intro acc
      show k ∈ ns.foldl ddStep (ddStep acc j) ↔ _
      rw [ih]
      unfold ddStep
      split
      · rename_i h
        constructor
        · rintro (z | z)
          · exact .inl z
          · exact .inr (List.mem_cons_of_mem _ z)
        · rintro (z | z)
          · exact .inl z
          · rcases List.mem_cons.mp z with rfl | z
            · exact .inl h
            · exact .inr z
      · simp [or_assoc]
  have := this ns []
  unfold dd
  simpa using this
theorem SetJ.keep {prog : Program} {w : World} {h h' : Heap} {a : Addr} {ns : List Int} (x : SetJ prog w h a ns) (k : ∀ o, h.get? a = some o → h'.get? a = some o) : SetJ prog w h' a ns := by
  obtain ⟨o, es, ep, t, ho, r⟩ := x
  exact ⟨o, es, ep, t, k o ho, r⟩
section
variable {prog : Program} {w : World} {A : Around} {E : Value → Shared → Prop} {s : Shared}
theorem fresh_j {h : Heap} {a : Addr} (ho : h.get? a = some { cls := .type "set", dict := none, data := .set #[] 0 (.fresh 0 0 (!w.params.followText "set-order")) }) : SetJ prog w h a [] :=
  ⟨_, #[], 0, _, ho, ⟨rfl, rfl, rfl⟩, rfl, fun e he => by simp at he, ⟨[], .nil, .refl _⟩, by decide, by rfl, ⟨rfl, rfl, List.Pairwise.nil⟩⟩
end
end L2
set_option Elab.async false
set_option linter.all false
set_option maxRecDepth 100000
set_option maxHeartbeats 4000000
set_option Elab.async false
set_option linter.all false
set_option maxRecDepth 100000
set_option maxHeartbeats 4000000
set_option Elab.async false
set_option linter.all false
set_option maxRecDepth 100000
set_option maxHeartbeats 4000000
set_option Elab.async false
set_option linter.all false
set_option maxRecDepth 100000
set_option maxHeartbeats 4000000
namespace L2
open PySem PySem.Spec PyProof.Rows
section
variable {prog : Program} {w : World} {A : Around} {R : Result → Shared → Prop} {s : Shared}
theorem compTurn_setX (elt target iter : Expr) (ifs : List Expr) (scope : Scope) (pos : PySem.Pos) (it acc : Value) (env : Env) :
    compTurn (.SetComp elt [⟨target, iter, ifs, 0⟩] scope pos) 0 it acc env = (do
      standAt iter.pos
      match ← pyNext it with
      | none => pure (.done .next)
      | some v =>
        letOwnedTupleGo target it v
        assign target env v
        let mut ok := true
        for c in ifs do
          if ok then ok ← isTrue c env (eval c env)
        if ok then (do let v ← eval elt env; standAt elt.pos; let _ ← call (.builtin "set.add") [acc, v])
        again (.compLoop (.SetComp elt [⟨target, iter, ifs, 0⟩] scope pos) 0 it acc env)) := by rfl
theorem compStart_setX {elt target iter ifs rest scope pos it acc env} (h0 : codeAny (model prog w) A (.compLoop (.SetComp elt (⟨target, iter, ifs, 0⟩ :: rest) scope pos) 0 it acc env) R s)
    (h : wpAny (model prog w) A (pyIter it) (fun j s' => codeAny (model prog w) A (.compLoop (.SetComp elt (⟨target, iter, ifs, 0⟩ :: rest) scope pos) 0 j acc env) R s') (notedBy (model prog w) A env fun x s' => R (.error x) s') s) :
    codeAny (model prog w) A (.compStart (.SetComp elt (⟨target, iter, ifs, 0⟩ :: rest) scope pos) 0 it acc env) R s := by
  refine codeAny_of_tree ?_
  show wpAny _ _ ((compStart (.SetComp elt (⟨target, iter, ifs, 0⟩ :: rest) scope pos) 0 it acc env).onRaise (fun x => do noteFrame x env; standAt theWindowsPlace)) _ _ s
  refine wpAny_notedAt ?_
  unfold compStart
  show wpAny _ _ (ask >>= _) _ _ s
  refine wpAny_bind (wpAny_askSetting (wpAny_ite ?_))
  split
  · first
      | exact wpAny_bind (wpAny_pure (wpAny_pure (And.intro rfl h0)))
      | exact wpAny_pure (And.intro rfl h0)
  · first
      | exact wpAny_bind (wpAny_rule (wpAny_bind (wpAny_standAt (wpAny_bind (wpAny_mono h (fun j s' q => wpAny_pure (And.intro rfl q)) fun _ _ x => x)))))
      | exact wpAny_rule (wpAny_bind (wpAny_standAt (wpAny_bind (wpAny_mono h (fun j s' q => wpAny_pure (And.intro rfl q)) fun _ _ x => x))))
      | exact wpAny_bind (wpAny_pure (wpAny_bind (wpAny_rule (wpAny_bind (wpAny_standAt (wpAny_bind (wpAny_mono h (fun j s' q => wpAny_pure (And.intro rfl q)) fun _ _ x => x)))))))
theorem set_add_j {E : Value → Shared → Prop} {a : Addr} {ns : List Int} {k : Int} {tk : Tok} {Q : Value → Shared → Prop} (hS : SetJ prog w s.heap a ns) (hroom : ns.length + 1 < scanBound)
    (h : ∀ h' tk', Heap.SameBut a s.heap h' → SetJ prog w h' a (ddStep ns k) → Q .none { s with heap := h', toks := tk' }) : wpAny (model prog w) A (call (.builtin "set.add") [.ref a, .int k tk]) Q E s := by
  have hT : s.TypeIs (.ref a) "set" := by obtain ⟨o, _, _, _, ho, hx, _⟩ := hS; exact ⟨o, ho, hx.1⟩
  refine wpAny_call_entry PySem.F.slot_set_add hT PySem.F.entry_set_add ?_ (PySem.F.args_set_add_2 _ _)
  unfold Builtin.«set.add» Builtin.Frozenset.oneOther
  simp only [List.isEmpty_nil, bind_assoc]
  unfold Builtin.Frozenset.addrOf setAdd
  refine wpAny_bind (wpAny_pure ?_)
  try dsimp only
  refine wpAny_bind (wpAny_pure ?_)
  try dsimp only
  refine wpAny_bind (wpAny_holding (wpAny_bind ((intKind prog w).pyHash (k := k) (intKind_is _ _ _ _) ?_)))
  refine setAdd_j (s := { s with toks := s.toks + 1 }) hS hroom fun h' sb j => ?_
  show wpAny _ _ (ret Value.none) _ _ _
  exact wpAny_pure ⟨_, rfl, h h' _ sb j⟩
theorem newSet_j {E : Value → Shared → Prop} {Q : Value → Shared → Prop} (h : Q (.ref s.heap.objs.size) { s with heap := s.heap.push { cls := .type "set", dict := none, data := .set #[] 0 (.fresh 0 0 (!w.params.followText "set-order")) } }) : wpAny (model prog w) A (newSet (.type "set")) Q E s := by
  unfold newSet setsByText
  refine wpAny_bind (wpAny_bind (wpAny_askSetting (wpAny_pure ?_)))
  dsimp only
  simp only [newObj]
  exact wpAny_bind (wpAny_alloc (wpAny_pure h))
theorem loop_turnsS {elt tg iter : Expr} {ifs : List Expr} {scope : Scope} {pos : PySem.Pos} {it acc : Value} {env : Env} {EE : Value → Shared → Prop} (hE : EE = notedBy (model prog w) A env fun e s' => R (.error e) s') (I : Nat → Shared → Prop)
    (turn : ∀ n s, I n s → wpAny (model prog w) A (pyNext it) (fun r z1 => match r with
      | none => R (.ok .next) z1
      | some v => wpAny (model prog w) A (letOwnedTupleGo tg it v) (fun _ y1 => wpAny (model prog w) A (assign tg env v) (fun _ z2 =>
          wpAny (model prog w) A (forIn ifs true fun c r => if r = true then do let ok ← isTrue c env (eval c env); pure (ForInStep.yield ok) else pure (ForInStep.yield r)) (fun ok z3 =>
            if ok = true then wpAny (model prog w) A (eval elt env) (fun x z4 => wpAny (model prog w) A (call (.builtin "set.add") [acc, x]) (fun _ z5 => ∃ m, m < n ∧ I m z5) EE z4) EE z3 else ∃ m, m < n ∧ I m z3) EE z2) EE y1) EE z1) EE s)
    (n : Nat) (h : I n s) : codeAny (model prog w) A (.compLoop (.SetComp elt [⟨tg, iter, ifs, 0⟩] scope pos) 0 it acc env) R s := by
  subst hE
  refine codeAny_loop rfl I (fun n s hI => ?_) n h
  show wpAny _ A ((compTurn (.SetComp elt [⟨tg, iter, ifs, 0⟩] scope pos) 0 it acc env).onRaise (fun x => do noteFrame x env; theTreesLotGoes x)) _ _ s
  refine wpAny_noted ?_
  rw [compTurn_setX]
  refine wpAny_bind (wpAny_standAt (wpAny_bind (wpAny_mono (turn n s hI) (fun r z1 q1 => ?_) fun _ _ z => z)))
  cases r with
  | none => exact wpAny_pure q1
  | some v =>
    refine wpAny_bind (wpAny_mono q1 (fun _ y1 q1 => ?_) fun _ _ z => z)
    refine wpAny_bind (wpAny_mono q1 (fun _ z2 q2 => wpAny_bind (wpAny_mono q2 (fun ok z3 q3 => ?_) fun _ _ z => z)) fun _ _ z => z)
    cases ok with
    | false => exact wpAny_pure ⟨rfl, q3⟩
    | true => exact wpAny_bind (wpAny_bind (wpAny_mono q3 (fun x z4 q4 => wpAny_bind (wpAny_standAt (wpAny_bind (wpAny_mono q4 (fun _ z5 q5 => wpAny_pure (wpAny_pure ⟨rfl, q5⟩)) fun _ _ z => z)))) fun _ _ z => z))
end
def CGoS (k : Nat) (J : It) (g : TG) (tt : TT) (te : TE) (QS : List Int → Hp → Prop) (σ : St) (H1 : Hp) : Prop := ∃ W : Nat → Nat → List Int → Hp → Prop, (∃ m, W 0 m [] H1) ∧ ∀ i m ns H, W i m ns H →
  (J.stop i H ∧ ns.length < 64 ∧ QS ns H) ∨ (J.go i H ∧ ns.length < 64 ∧ ∃ N : List Int → Hp → Prop, (∀ zs H', N zs H' → ∃ m', m' < m ∧ W (i + 1) m' zs H') ∧ ∀ v H' (pre : St), pre.length = k → J.yld i H v H' → g v (pre ++ σ) H' fun σ' H2 => (∃ pre' : St, σ' = pre' ++ σ ∧ pre'.length = k) ∧ tt σ' H2 fun ok H3 => if ok = true then te σ' H3 fun y H4 => ∃ j, y = .int j ∧ N (ns ++ [j]) H4 else N ns H3)
section
variable {X : Cx}
theorem comp_coreS {elt iter tg : Expr} {xs Nb : List Str} {ifs : List Expr} {scope : Scope} {pos : PySem.Pos} {wi : TI} {g : TG} {tt : TT} {te : TE}
    (hc : X.calm = true) (hi : PI X tg iter wi) (hlen : Nb.length = X.N.length) (hNb : ∀ p ∈ Nb.zip X.N, p.1 = p.2 ∨ scope.names.lookup p.1 = none) (hxN : ∀ y ∈ Nb, scope.names.lookup y ≠ some .local)
    (hg : InB X xs Nb scope fun Y => PG Y tg g) (ht : InB X xs Nb scope fun Y => PIf Y ifs tt) (he : InB X xs Nb scope fun Y => PE Y elt te)
    (hcell : ∀ y ∈ scope.names, y.2 ≠ .cell) (hkind : scope.kind = .function) (hnames : ∀ y ∈ scope.names, y.2 = .local → scope.names.lookup y.1 = some .local)
    (hfree : ∀ y ∈ scope.names, y.2 = .free → X.env.kindOf y.1 = some .cell)
    (hs : ∀ x, foldedSetIterable iter X.env x = pure x) {pos2 : PySem.Pos} {use : Option (Value → Sem Unit)} {QQ : Value → Shared → Prop} {pins : List (Addr × Obj)} {s : Shared} {σ : St} {H : Hp} {QS : List Int → Hp → Prop} (I : Inv X pins σ H s) (h : wi σ H fun J H1 => CGoS xs.length J g tt te QS σ H1)
    (post : ∀ (s2 s4 : Shared) (H2 H4 : Hp) (C D : Addr) (m4 : Str → Option Value) (ns : List Int), Inv X pins σ H2 s2 → s2.heap.objs.size ≤ C → s4.heap.Ns C m4 → H4 C = none → D ≠ C → (∀ h', Heap.SameBut C s4.heap h' → Inv X pins σ H4 { s4 with heap := h' }) → SetJ X.prog X.w s4.heap D (dd ns) → ns.length < 64 → QS ns H4 → compPost (model X.prog X.w) X.A X.xe use QQ (.ref D) C (.ok .next) s4) :
    wpAny (model X.prog X.w) X.A (comprehension (.SetComp elt [⟨tg, iter, ifs, 0⟩] scope pos) scope X.env pos2 (newSet (.type "set")) false (eval iter X.env) use) QQ X.xe s := by
  obtain ⟨cl, hcl, cl1, cl2⟩ := clos_ok (scope := scope) (env := X.env) (fun y hy hf => I.ok.has y.1 (.inl (hfree y hy hf)))
  refine wpAny_comprehension_free rfl hs hcl hkind hnames (thn (hi pins s σ H _ I h) fun v s1 h1 => thn h1 fun itv s2 h2 => ?_)
  obtain ⟨it, fp, tn, J, H2, e, I2, T, st2, f2, W, ⟨m0, w0⟩, turn⟩ := h2
  subst e
  refine newSet_j (wpAny_newFunctionEnv hcell (by intro y hy; simp at hy) (fun h₁ hns₁ hsb₁ => ?_) hkind)
  dsimp only at hns₁ hsb₁ ⊢
  generalize hHp : s2.heap.push { cls := .type "set", dict := none, data := .set #[] 0 (.fresh 0 0 (!X.w.params.followText "set-order")) } = Hp2 at hns₁ hsb₁ ⊢
  have hC : Hp2.objs.size = s2.heap.objs.size + 1 := by rw [← hHp, Heap.size_push]
  have hDC : s2.heap.objs.size ≠ Hp2.objs.size := by rw [hC]; exact Nat.ne_of_lt (Nat.lt_succ_self _)
  have below : ∀ b, b < s2.heap.objs.size → b ≠ Hp2.objs.size ∧ b ≠ s2.heap.objs.size := fun b hb => ⟨by rw [hC]; exact Nat.ne_of_lt (Nat.lt_succ_of_lt hb), Nat.ne_of_lt hb⟩
  have old : ∀ b o, s2.heap.get? b = some o → h₁.get? b = some o := fun b o e => hsb₁.extBut b o (below b (Heap.lt_size e)).1 (Heap.get?_push_of_some _ (hHp ▸ Heap.get?_push_of_some _ e))
  have hacc : SetJ X.prog X.w h₁ s2.heap.objs.size (dd []) := fresh_j (hsb₁.extBut _ _ hDC (Heap.get?_push_of_some _ (hHp ▸ Heap.get?_push_size _ rfl)))
  generalize hY : cxC X xs Nb scope cl Hp2.objs.size s2 H2 fp = Y
  have Yprog : Y.prog = X.prog := by rw [← hY]; rfl
  have fpLt : ∀ b ∈ fp, b < s2.heap.objs.size := fun b hb => by
    obtain ⟨o, e, _⟩ := T.obj _ _ st2 b hb
    exact Heap.lt_size e
  have cellLt : ∀ y c, cl.lookup y = some c → c < s2.heap.objs.size := fun y c hc => by
    obtain ⟨v, q⟩ := I2.cell y c (cl1 y c hc)
    exact q.lt
  have frSub : ∀ b ∈ frs X.stack, b < s2.heap.objs.size := fun b hb => by
    rcases List.mem_cons.mp (I2.stkSub b hb) with z | z
    · rw [z]; exact I2.lt
    · by_cases hlt : b < s2.heap.objs.size
      · exact hlt
      · exact absurd z (I2.nofs (Nat.le_of_not_lt hlt))
  have ok : (cxC X xs Nb scope cl Hp2.objs.size s2 H2 fp).Ok := by
    refine ⟨I2.ok.mod, hkind, I2.ok.glob, I2.ok.blt, (by show s2.heap.objs.size ≤ Hp2.objs.size; omega), fun y z c h1 h2 => I2.ok.inj y z c (cl1 y c h1) (cl1 z c h2), fun y hy => ?_, fun y c hf _ => absurd hf (by intro z; cases z), I2.ok.hd, I2.ok.frames, .inl rfl, fun b hb => ⟨?_, fun y c h1 h2 => ?_⟩, I2.bs, Nat.le_trans I2.ok.bsz I2.sz, fun b o e hb => ?_, fun b hb hm => ?_, I2.stack, I2.stkFree⟩
    · have hy : (scope.names.map fun (n, k) => if (k == NameKind.free && X.env.scope.kind == .function && X.env.kindOf n == some .cell) then (n, NameKind.cell) else (n, k)).lookup y = some .cell ∨ (scope.names.map fun (n, k) => if (k == NameKind.free && X.env.scope.kind == .function && X.env.kindOf n == some .cell) then (n, NameKind.cell) else (n, k)).lookup y = some .free := hy
      have q : scope.names.lookup y = some .free := by
        rcases hy with z | z
        · exact (relabel_kind hcell z (.inl rfl)).1
        · exact (relabel_kind hcell z (.inr rfl)).1
      exact Option.isSome_iff_exists.mp (cl2 y (PySem.mem_of_lookup q))
    · exact (below b (fpLt b hb)).1
    · exact (f2 b hb).2.2.2.2.1 y c (cl1 y c h1) h2
    · rcases (f2 b hb).2.2.2.1 with z | z
      · exact I2.ok.noex b o e z
      · exact absurd (Nat.lt_of_lt_of_le (Heap.lt_size e) (Nat.le_trans I2.ok.bsz z)) (Nat.lt_irrefl _)
    · rcases List.mem_cons.mp (I2.stkSub b hm) with z | z
      · exact (f2 b hb).2.1 z
      · exact (f2 b hb).2.2.1 z
  have fpY : ∀ {H' : Hp} {pl : List (Addr × Obj)}, (∀ b ∈ fp, H' b = none) → (∀ p ∈ pl, p.1 = s2.heap.objs.size) → ∀ b ∈ fp, FpOk Y pl H' b := fun {H' pl} hn hp b hb => by
    rw [← hY]
    refine ⟨hn b hb, (below b (fpLt b hb)).1, fun hm => ?_, .inl hb, fun y c h1 h2 => (f2 b hb).2.2.2.2.1 y c (cl1 y c h1) h2, fun p hm z => ?_⟩
    · rcases List.mem_cons.mp (I2.stkSub b hm) with z | z
      · exact (f2 b hb).2.1 z
      · exact (f2 b hb).2.2.1 z
    · have hm : p ∈ pl := hm
      rw [hp p hm] at z
      exact (below b (fpLt b hb)).2 z.symm
  have HD : H2 s2.heap.objs.size = none := I2.hok.fresh (Nat.le_refl _)
  have HC : H2 Hp2.objs.size = none := I2.hok.fresh (by omega)
  obtain ⟨m2, hns2, hloc2⟩ := I2.loc
  have IY : ∀ tk, Inv (cxC X xs Nb scope cl Hp2.objs.size s2 H2 fp) [] (List.replicate xs.length none ++ σ) H2 { s2 with heap := h₁, toks := tk } := fun tk => by
    refine ⟨ok, rfl, I2.bare, Un.kept old, ⟨_, hns₁, fun i y v h1 h2 h3 => ?_⟩, fun y c h1 => ?_, HC, fun y c h1 => I2.freeC y c (cl1 y c h1), fun p hp => absurd (show p ∈ ([] : List (Addr × Obj)) from hp) (by simp), I2.hok.kept old, (by show (List.replicate xs.length (none : Option V) ++ σ).length = (xs ++ Nb).length; rw [List.length_append, List.length_append, List.length_replicate, hlen, I2.len])⟩
    · have h1 : (xs ++ Nb)[i]? = some y := h1
      by_cases hik : i < xs.length
      · rw [List.getElem?_append_left (by rw [List.length_replicate]; exact hik), List.getElem?_replicate, if_pos hik] at h2
        cases h2
      · rw [List.getElem?_append_right (by omega)] at h1
        rw [List.getElem?_append_right (by rw [List.length_replicate]; omega), List.length_replicate] at h2
        generalize i - xs.length = i at h1 h2
        have h3 : Vis (relabel scope X.env) y := h3
        have key : ∀ k, (k = NameKind.cell ∨ k = NameKind.free) → (relabel scope X.env).names.lookup y = some k → ∃ u, RelV v u ∧ Look (compEnvC scope cl Hp2.objs.size X.env) h₁ (fun x => ([] : List (Str × Value)).reverse.lookup x) y u := fun k hk hl => by
          obtain ⟨q1, _⟩ := relabel_kind hcell hl hk
          have q2 := hfree (y, .free) (PySem.mem_of_lookup q1) rfl
          have h1' : X.N[i]? = some y := by
            have hi' : i < X.N.length := by rw [← hlen]; exact (List.getElem?_eq_some_iff.mp h1).1
            have hz : (Nb.zip X.N)[i]? = some (y, X.N[i]) := by rw [List.getElem?_zip_eq_some]; exact ⟨h1, List.getElem?_eq_getElem hi'⟩
            rcases hNb _ (List.mem_of_getElem? hz) with z | z
            · have z : y = X.N[i] := z
              rw [z]; exact List.getElem?_eq_getElem hi'
            · have z : scope.names.lookup y = none := z
              rw [q1] at z; cases z
          obtain ⟨u, r, l⟩ := hloc2 i y v h1' h2 (.inr (.inl q2))
          refine ⟨u, r, .inr ⟨?_, ?_⟩⟩
          · rcases hk with rfl | rfl
            · exact .inl hl
            · exact .inr hl
          · rcases l with ⟨k1, _⟩ | ⟨_, c, e1, z⟩
            · rw [q2] at k1; cases k1
            · obtain ⟨c', e2⟩ := Option.isSome_iff_exists.mp (cl2 y (PySem.mem_of_lookup q1))
              have e3 := cl1 y c' e2
              rw [e1] at e3
              cases e3
              obtain ⟨o, ho, hd⟩ := z
              exact ⟨c, e2, o, old c o ho, hd⟩
        rcases h3 with h3 | h3 | h3
        ·
          exfalso
          exact hxN y (List.mem_of_getElem? h1) (relabel_local h3)
        · exact key _ (.inl rfl) h3
        · exact key _ (.inr rfl) h3
    · obtain ⟨v, o, ho, hd⟩ := I2.cell y c (cl1 y c h1)
      exact ⟨v, o, old c o ho, hd⟩
  have noErr : ∀ {α : Type} {m : Sem α} {G : α → Shared → Prop} {E' : Value → Shared → Prop} {s' : Shared}, wpAny (model X.prog X.w) X.A m G (fun _ _ => False) s' → wpAny (model X.prog X.w) X.A m G E' s' := fun h => wpAny_mono h (fun _ _ q => q) fun _ _ q => q.elim
  have loop : ∀ (tk : Nat) (R : Result → Shared → Prop), R = compPost (model X.prog X.w) X.A X.xe use QQ (.ref s2.heap.objs.size) Hp2.objs.size →
      codeAny (model X.prog X.w) X.A (.compLoop (.SetComp elt [⟨tg, iter, ifs, 0⟩] scope pos) 0 (.ref it) (.ref s2.heap.objs.size) (compEnvC scope cl Hp2.objs.size X.env)) R { s2 with heap := h₁, toks := tk } := by
    rintro tk R rfl
    refine loop_turnsS rfl (fun n s' => ∃ i σv H' ys, σv.length = xs.length ∧ Inv Y [] (σv ++ σ) H' s' ∧ tn i s'.heap ∧ (∀ b ∈ fp, H' b = none) ∧ SetJ X.prog X.w s'.heap s2.heap.objs.size (dd ys) ∧ H' s2.heap.objs.size = none ∧ W i n ys H') ?_ m0
      ⟨0, List.replicate xs.length none, H2, [], List.length_replicate, hY ▸ IY tk, T.keep _ _ _ st2 fun b _ o e => old b o e, fun b hb => (f2 b hb).1, hacc, HD, w0⟩
    rintro n s3 ⟨i, σv, H3, ys, lv, I3, st3, fr3, sj3, HD3, w3⟩
    obtain ⟨ob, oes, oep, ot, pl3, oex, oda, orest⟩ := id sj3
    have I3p : Inv Y [(s2.heap.objs.size, ob)] (σv ++ σ) H3 s3 := I3.pins_of fun p hp => by
      rw [List.mem_singleton] at hp
      subst hp
      refine ⟨pl3, HD3, ?_, fun hm => ?_, fun v z => by rw [oda] at z; cases z⟩
      · rw [← hY]; exact hDC
      · rw [← hY] at hm
        exact absurd (frSub _ hm) (Nat.lt_irrefl _)
    have pinD : ∀ p ∈ [((s2.heap.objs.size : Addr), ob)], p.1 = s2.heap.objs.size := fun p hp => by
      rw [List.mem_singleton] at hp
      rw [hp]
    subst hY
    rcases turn i n ys H3 w3 with ⟨stop, hlt, qn⟩ | ⟨go, hlt, NN, hNN, step⟩
    · refine noErr (thn (T.done (cxC X xs Nb scope cl Hp2.objs.size s2 H2 fp) rfl rfl rfl hc i _ s3 _ H3 (fun _ _ => False) I3p (fpY fr3 pinD) st3 stop) fun r s4 ⟨hr, I4⟩ => ?_)
      subst hr
      obtain ⟨m4, hns4, _⟩ := I4.loc
      have sj4 : SetJ X.prog X.w s4.heap s2.heap.objs.size (dd ys) := ⟨ob, oes, oep, ot, (I4.pin _ (List.mem_append_right _ List.mem_cons_self)).1, oex, oda, orest⟩
      refine post s2 s4 H2 H3 Hp2.objs.size s2.heap.objs.size m4 ys I2 (by omega) hns4 I4.free hDC (fun h' sb => ?_) sj4 hlt qn
      have pl4 := (I4.pin _ (List.mem_append_right _ List.mem_cons_self)).1
      have up : ∀ b o, b ≠ Hp2.objs.size → s4.heap.get? b = some o → h'.get? b = some o := fun b o hb e => sb.extBut b o hb e
      have base := I4.base
      have HC4 : H3 Hp2.objs.size = none := I4.free
      have neC : ∀ b o, s2.heap.get? b = some o → b ≠ Hp2.objs.size := fun b o e => (below b (Heap.lt_size e)).1
      have neD : ∀ b o, s2.heap.get? b = some o → b ≠ s2.heap.objs.size := fun b o e => (below b (Heap.lt_size e)).2
      have hokN : HOk X.prog X.w H3 h' := fun b u e => by
        refine (I4.hok b u e).stay (fun c v hc q => up c v ?_ q) (fun c q => q) fun c xs q => q
        rcases hc with z | z
        · rw [z]; exact ne_of_none e HC4
        · exact ne_of_none z HC4
      refine I2.call' (s' := { s4 with heap := h' }) (ch := fp) I4.os ⟨fun b o e n hb hx' => up b o (neC b o e) (base.keep b o e n hb hx'), fun b o e n hb hx' => ?_, fun b o e n hx' => ?_, fun b o e hx' => ?_, fun b xs e => ?_, fun b o u e => ?_, fun b ps e => ?_⟩ hokN I4.bare (fun b hb => ?_)
      · obtain ⟨sl, q⟩ := base.slot b o e n hb hx'
        exact ⟨sl, up b _ (neC b o e) q⟩
      · exact base.free b o e n hx'
      · obtain ⟨o', q⟩ := base.there b o e hx'
        exact ⟨o', up b o' (neC b o e) q⟩
      · exact base.tups b xs e
      · exact base.frzs b o u e
      · exact base.tbls b ps e
      · obtain ⟨_, g1, _, g3, g4, g5⟩ := f2 b hb
        exact ⟨g3, g1, g4, g5⟩
    · refine noErr (thn (T.item (cxC X xs Nb scope cl Hp2.objs.size s2 H2 fp) rfl rfl rfl hc i _ s3 _ H3 (fun _ _ => False) I3p (fpY fr3 pinD) st3 go) fun r s4 ⟨u, hr, h4⟩ => ?_)
      subst hr
      refine noErr (thn h4 fun _ s5 ⟨v, H5, I5, r5, y5, st5, fr5⟩ => ?_)
      have I5' := I5.pinned (fpY fr5 pinD) (T.obj _ _ st5)
      have stp := step v H5 σv lv y5
      refine noErr (thn (hg cl Hp2.objs.size s2 H2 fp _ s5 _ H5 v u _ I5' r5 stp) fun _ s6 ⟨σ6, H6, I6, ⟨pre', e6, l6⟩, stp⟩ => ?_)
      subst e6
      have again : ∀ {s7 s8 : Shared} {H7 : Hp} {zs : List Int} {m' : Nat}, Inv (cxC X xs Nb scope cl Hp2.objs.size s2 H2 fp) ([((s2.heap.objs.size : Addr), ob)] ++ pinsAt fp s5.heap) (pre' ++ σ) H7 s7 →
          (∃ h' t', s8 = { s7 with heap := h', toks := t' } ∧ (∀ b o, b ≠ s2.heap.objs.size → s7.heap.get? b = some o → h'.get? b = some o) ∧ SetJ X.prog X.w h' s2.heap.objs.size (dd zs)) → m' < n → W (i + 1) m' zs H7 →
          ∃ m, m < n ∧ ∃ i σv H' ys, σv.length = xs.length ∧ Inv (cxC X xs Nb scope cl Hp2.objs.size s2 H2 fp) [] (σv ++ σ) H' s8 ∧ tn i s8.heap ∧ (∀ b ∈ fp, H' b = none) ∧ SetJ X.prog X.w s8.heap s2.heap.objs.size (dd ys) ∧ H' s2.heap.objs.size = none ∧ W i m ys H' := by
        rintro s7 s8 H7 zs m' I7 ⟨h', t', rfl, up, plw⟩ hm w7
        have HD7 : H7 s2.heap.objs.size = none := (I7.pin _ (List.mem_append_right _ (List.mem_append_left _ List.mem_cons_self))).2.1
        have fr7 : ∀ b ∈ fp, H7 b = none := fun b hb => by
          obtain ⟨o, e, d⟩ := T.obj _ _ st5 b hb
          exact (I7.pin (b, o) (List.mem_append_right _ (List.mem_append_right _ (mem_pinsAt hb e)))).2.1
        have I7' : Inv (cxC X xs Nb scope cl Hp2.objs.size s2 H2 fp) [] (pre' ++ σ) H7 s7 := I7.pins_of fun p hp => absurd hp (by simp)
        refine ⟨m', hm, i + 1, pre', H7, zs, l6, ?_, ?_, fr7, plw, HD7, w7⟩
        · have := I7'.turned (it := s2.heap.objs.size) (h' := h') (t' := t') up HD7 hDC (.inr (Nat.le_refl _)) (fun y c h1 h2 => absurd (cellLt y c h1) (by rw [h2]; exact Nat.lt_irrefl _)) (fun p hp => absurd (show p ∈ ([] : List (Addr × Obj)) from hp) (by simp))
          exact this
        · refine T.keep _ _ _ st5 fun b hb o e => up b o (below b (fpLt b hb)).2 ?_
          exact (I7.pin (b, o) (List.mem_append_right _ (List.mem_append_right _ (mem_pinsAt hb e)))).1
      refine noErr (thn (ht cl Hp2.objs.size s2 H2 fp _ s6 _ H6 _ I6 stp) fun okb s7 ⟨H7, I7, q7⟩ => ?_)
      have pl7 := (I7.pin _ (List.mem_append_right _ (List.mem_append_left _ List.mem_cons_self))).1
      cases okb with
      | false =>
        rw [if_neg Bool.false_ne_true] at q7 ⊢
        obtain ⟨m', hm, w7⟩ := hNN _ _ q7
        exact again I7 ⟨s7.heap, s7.toks, rfl, fun _ _ _ e => e, ob, oes, oep, ot, pl7, oex, oda, orest⟩ hm w7
      | true =>
        rw [if_pos rfl] at q7 ⊢
        refine noErr (thn (he cl Hp2.objs.size s2 H2 fp _ s7 _ H7 _ I7 q7) fun w' s8 ⟨y, H8, I8, r8, k8, ey, q8⟩ => ?_)
        subst ey
        obtain ⟨tk8, rfl⟩ := r8
        obtain ⟨m', hm, w8⟩ := hNN _ _ q8
        have pl8 := (I8.pin _ (List.mem_append_right _ (List.mem_append_left _ List.mem_cons_self))).1
        have hdl : (dd ys).length + 1 < scanBound := by have := dd_len ys; unfold scanBound; omega
        refine set_add_j (ns := dd ys) ⟨ob, oes, oep, ot, pl8, oex, oda, orest⟩ hdl fun h9 t9 sb9 sj9 => ?_
        exact again I8 ⟨h9, t9, rfl, fun b o hb e => sb9.extBut b o hb e, by rw [dd_snoc]; exact sj9⟩ hm w8
  refine compStart_setX (loop _ _ rfl) (noErr (T.self _ 0 _ _ _ (T.keep _ _ _ st2 fun b _ o e => old b o e) (loop _ _ rfl)))
theorem eval_SetCompX (elt tg iter : Expr) (ifs : List Expr) (scope : Scope) (pos : PySem.Pos) (env : Env) : eval (.SetComp elt [⟨tg, iter, ifs, 0⟩] scope pos) env = comprehension (.SetComp elt [⟨tg, iter, ifs, 0⟩] scope pos) scope env (firstIterPos [⟨tg, iter, ifs, 0⟩] pos) (newSet (.type "set")) false (eval iter env) := rfl
theorem compS {K : PySem.W.Frag} {k : Nat} {a : Addr} {xs : List V} {g : TG} {tt : TT} {te : TE} {QS : List Int → Hp → Prop} {σ : St} {H : Hp} (Pv : Nat → List Int → Hp → Prop) (h0 : Pv 0 [] H) (hb : xs.length < 64) (hz : ∀ i ns H, Pv i ns H → ns.length ≤ i) (hl : ∀ i ns H, i ≤ xs.length → Pv i ns H → SqL K H a xs)
    (hs : ∀ i x ns H (pre : St), pre.length = k → xs[i]? = some x → Pv i ns H → g x (pre ++ σ) H fun σ' H2 => (∃ pre' : St, σ' = pre' ++ σ ∧ pre'.length = k) ∧ tt σ' H2 fun ok H3 => if ok = true then te σ' H3 fun y H4 => ∃ j, y = .int j ∧ Pv (i + 1) (ns ++ [j]) H4 else Pv (i + 1) ns H3) (hd : ∀ ns H, Pv xs.length ns H → QS ns H) : CGoS k (Itl K a) g tt te QS σ H := by
  refine ⟨fun i m ns H => m = xs.length - i ∧ i ≤ xs.length ∧ Pv i ns H, ⟨xs.length, by simp, Nat.zero_le _, h0⟩, ?_⟩
  rintro i m ns H ⟨rfl, hi, p⟩
  have q := hl i ns H hi p
  have z := hz i ns H p
  by_cases hlt : i < xs.length
  · refine .inr ⟨⟨xs, xs[i], q, by simp [hlt]⟩, by omega, Pv (i + 1), fun zs H' p' => ⟨xs.length - (i + 1), by omega, rfl, hlt, p'⟩, fun x H' pre hp y => ?_⟩
    obtain ⟨e, y⟩ := y
    subst e
    exact hs i x ns _ pre hp (y xs q) p
  · have e : i = xs.length := by omega
    subst e
    exact .inl ⟨⟨xs, q, Nat.le_refl _⟩, by omega, hd ns H p⟩
end
end L2
set_option Elab.async false
set_option linter.all false
set_option maxRecDepth 100000
set_option maxHeartbeats 1000000
set_option Elab.async false
set_option linter.all false
set_option maxRecDepth 100000
set_option maxHeartbeats 1000000
set_option Elab.async false
set_option linter.all false
set_option maxRecDepth 100000
set_option maxHeartbeats 1000000
set_option Elab.async false
set_option linter.all false
set_option maxRecDepth 100000
set_option maxHeartbeats 1000000
namespace L2
open PySem PySem.Spec PyProof.Rows
section
variable {prog : Program} {w : World} {A : Around} {E : Value → Shared → Prop} {s : Shared}
theorem nxT {it t : Addr} {i : Nat} {its : Array Value} {x : Value} {Q : Value → Shared → Prop} (st : s.heap.IsTupleIter it t i) (ht : s.heap.IsTuple t its) (hx : its[i]? = some x)
    (k : ∀ h', h'.IsTupleIter it t (i + 1) → Heap.SameBut it s.heap h' → Q x { s with heap := h' }) : wpAny (model prog w) A (Builtin.SmallTypes.nextOf (.ref it)) Q E s := by
  obtain ⟨o, e, c, d⟩ := id st
  obtain ⟨ot, et, _, m, dt⟩ := ht
  unfold Builtin.SmallTypes.nextOf
  refine wpAny_bind (wpAny_callSpecial?_slot (name := Str.ofString "__next__") st.typeIs F.slot_tuple_iterator_next (wpAny_call_entry F.slot_tuple_iterator_next st.typeIs F.entry_tuple_iterator_next (show wpAny _ _ (field (.ref it) 0 >>= _) _ _ s from wpAny_bind (wpAny_field e d (x := .ref t) rfl ?_)) (F.args_tuple_iterator_next_1 _)))
  show wpAny _ _ (if (Value.ref t == Value.none) = true then _ else _) _ _ s
  rw [if_neg (show ¬ (Value.ref t == Value.none) = true by intro z; exact Bool.false_ne_true z)]
  refine (show wpAny _ _ (field (.ref it) 1 >>= _) _ _ s from wpAny_bind (wpAny_field e d (x := .int i 0) rfl (show wpAny _ _ (seqItems? (.ref t) >>= _) _ _ s from wpAny_bind (wpAny_seqItems et dt ?_))))
  simp only [Int.toNat_natCast, hx]
  refine wpAny_bind (wpAny_setField e d (by simp) (wpAny_pure ⟨x, rfl, wpAny_pure (k _ ⟨_, Heap.get?_update_self _ e (Obj.isFreed_of_fields (Obj.data_mapFields d _)), (Obj.cls_mapFields ..).trans c, ?_⟩ (Heap.SameBut.update ..))⟩))
  rw [Obj.data_mapFields d]
  simp [rawInt]
theorem nxTe {it t : Addr} {i : Nat} {its : Array Value} {Q : Value → Shared → Prop} (hh : A.handled = none) (st : s.heap.IsTupleIter it t i) (ht : s.heap.IsTuple t its) (hx : its[i]? = none)
    (k : ∀ h' e, Heap.ExtBut it s.heap h' → (∃ o, h'.get? e = some o ∧ o.cls = .type "StopIteration") → E (.ref e) { s with heap := h' }) : wpAny (model prog w) A (Builtin.SmallTypes.nextOf (.ref it)) Q E s := by
  obtain ⟨o, e, c, d⟩ := id st
  obtain ⟨ot, et, _, m, dt⟩ := ht
  unfold Builtin.SmallTypes.nextOf
  refine wpAny_bind (wpAny_callSpecial?_slot (name := Str.ofString "__next__") st.typeIs F.slot_tuple_iterator_next (wpAny_call_entry F.slot_tuple_iterator_next st.typeIs F.entry_tuple_iterator_next (show wpAny _ _ (field (.ref it) 0 >>= _) _ _ s from wpAny_bind (wpAny_field e d (x := .ref t) rfl ?_)) (F.args_tuple_iterator_next_1 _)))
  show wpAny _ _ (if (Value.ref t == Value.none) = true then _ else _) _ _ s
  rw [if_neg (show ¬ (Value.ref t == Value.none) = true by intro z; exact Bool.false_ne_true z)]
  refine (show wpAny _ _ (field (.ref it) 1 >>= _) _ _ s from wpAny_bind (wpAny_field e d (x := .int i 0) rfl (show wpAny _ _ (seqItems? (.ref t) >>= _) _ _ s from wpAny_bind (wpAny_seqItems et dt ?_))))
  simp only [Int.toNat_natCast, hx]
  refine wpAny_bind (wpAny_rule (wpAny_bind (wpAny_setField e d (by simp) (show wpAny _ _ (newExc (.type "StopIteration") [] >>= _) _ _ _ from wpAny_bind ?_))))
  simp only [newExc, newTuple]
  refine wpAny_bind (wpAny_newObj_type (wpAny_bind (m := firstArgMember _ _) (wpAny_of_eq (a := Value.none) (by first | rfl | (simp only [firstArgMember]; rfl)) (wpAny_newObj_type ?_ (by size_fits)))) (by size_fits))
  simp only [raiseNew]
  refine wpAny_bind (wpAny_handled ?_)
  first | rw [show A.in1.handled = none from hh] | rw [hh]
  exact wpAny_bind (wpAny_pure (wpAny_throw (k _ _ (((Heap.SameBut.update ..).extBut.push _).push _) ⟨_, Heap.get?_push_size _ rfl, rfl⟩)))
end
end L2
set_option Elab.async false
set_option linter.all false
set_option maxRecDepth 100000
namespace L2
open PySem PySem.Spec PyProof.Rows
section
variable {κ : Type} [DecidableEq κ]
def valV (kvs : List (κ × V)) (k : κ) : Option V := (kvs.find? fun kv => decide (kv.1 = k)).map (·.2)
def putK (kvs : List (κ × V)) (k : κ) (v : V) : List (κ × V) :=
  if (kvs.any fun kv => decide (kv.1 = k)) = true then kvs.map (fun kv => if kv.1 = k then (kv.1, v) else kv) else kvs ++ [(k, v)]
theorem valV_pos {p : κ × V} {r : List (κ × V)} {k : κ} (e : p.1 = k) : valV (p :: r) k = some p.2 := by simp [valV, List.find?_cons, e]
theorem valV_neg {p : κ × V} {r : List (κ × V)} {k : κ} (e : ¬ p.1 = k) : valV (p :: r) k = valV r k := by simp [valV, List.find?_cons, e]
theorem valV_any (k : κ) : ∀ kvs : List (κ × V), (kvs.any fun kv => decide (kv.1 = k)) = (valV kvs k).isSome
  | [] => rfl
  | p :: r => by
    rw [List.any_cons]
    by_cases e : p.1 = k
    · simp only [valV_pos e, decide_eq_true e, Bool.true_or, Option.isSome_some]
    · rw [valV_neg e, decide_eq_false e, Bool.false_or]; exact valV_any k r
theorem length_putK (kvs : List (κ × V)) (k : κ) (v : V) : (putK kvs k v).length ≤ kvs.length + 1 := by
  unfold putK
  split
  · rw [List.length_map]; omega
  · rw [List.length_append, List.length_cons, List.length_nil]; omega
theorem RelO.isSome_eq {o : Option V} {u : Option Value} (r : RelO o u) : o.isSome = u.isSome := by
  cases o with
  | none => cases u with
    | none => rfl
    | some _ => exact (show False from r).elim
  | some _ => cases u with
    | none => exact (show False from r).elim
    | some _ => rfl
theorem KV.val {kvs : List (κ × V)} {vs : List (κ × Value)} (r : KV kvs vs) (k : κ) : RelO (valV kvs k) (valueAt vs k) := by
  unfold KV at r
  induction r with
  | nil => exact True.intro
  | @cons p q ps qs h t ih =>
    obtain ⟨h1, h2⟩ := h
    by_cases e : p.1 = k
    · have e' : q.1 = k := h1.symm.trans e
      have b : valueAt (q :: qs) k = some q.2 := by simp [valueAt, List.find?_cons, e']
      rw [valV_pos e, b]; exact h2
    · have e' : ¬ q.1 = k := fun z => e (h1.trans z)
      have b : valueAt (q :: qs) k = valueAt qs k := by simp [valueAt, List.find?_cons, e']
      rw [valV_neg e, b]; exact ih
theorem KV.any {kvs : List (κ × V)} {vs : List (κ × Value)} (r : KV kvs vs) (k : κ) : (kvs.any fun kv => decide (kv.1 = k)) = vs.any fun kv => decide (kv.1 = k) := by
  unfold KV at r
  induction r with
  | nil => rfl
  | cons h t ih => rw [List.any_cons, List.any_cons, ih, h.1]
theorem KV.repl {kvs : List (κ × V)} {vs : List (κ × Value)} (r : KV kvs vs) (k : κ) {y : V} {u : Value} (ry : RelV y u) :
    KV (kvs.map fun kv => if kv.1 = k then (kv.1, y) else kv) (vs.map fun kv => if kv.1 = k then (kv.1, u) else kv) := by
  unfold KV at r ⊢
  induction r with
  | nil => exact .nil
  | @cons p q ps qs h t ih =>
    rw [List.map_cons, List.map_cons]
    refine .cons ?_ ih
    obtain ⟨h1, h2⟩ := h
    by_cases e : p.1 = k
    · rw [if_pos e, if_pos (h1.symm.trans e)]; exact ⟨h1, ry⟩
    · rw [if_neg e, if_neg (fun z => e (h1.trans z))]; exact ⟨h1, h2⟩
theorem KV.put {kvs : List (κ × V)} {vs : List (κ × Value)} (r : KV kvs vs) (k : κ) {y : V} {u : Value} (ry : RelV y u) : KV (putK kvs k y) (stored vs k u) := by
  unfold putK stored
  rw [r.any k]
  by_cases e : (vs.any fun kv => decide (kv.1 = k)) = true
  · rw [if_pos e, if_pos e]; exact r.repl k ry
  · rw [if_neg e, if_neg e]; exact Paired.snoc r ⟨rfl, ry⟩
theorem KV.length {kvs : List (κ × V)} {vs : List (κ × Value)} (r : KV kvs vs) : kvs.length = vs.length := Paired.length r
end
theorem kV_is {P : Program} {w : World} {k : Key} {u : Value} (r : RelV (kV k) u) : (mixKind P w).is k u = true := by
  cases k with
  | inl i => obtain ⟨t, e⟩ := (show ∃ t, u = Value.int i t from r); subst e; exact mixKind_int P w i t
  | inr x => obtain ⟨t, e⟩ := (show ∃ t, u = Value.str x t from r); subst e; exact mixKind_str P w x t
theorem items_are {P : Program} {w : World} : ∀ {ks : List Key} {us : List Value}, Vals (ks.map kV) us → ItemsAre (mixKind P w) ks us
  | [], _, r => by rw [List.map_nil] at r; cases r; exact .nil
  | k :: ks, _, r => by
    rw [List.map_cons] at r
    cases r with
    | cons h t => exact .cons (kV_is h) (items_are t)
abbrev KT (H : Hp) : List (List Key × V) → List (List Key × Addr × Value) → Prop := Paired fun p q => p.1 = q.1 ∧ H q.2.1 = some (.tup (p.1.map kV)) ∧ RelV p.2 q.2.2
theorem KT.val {H : Hp} {kvs : List (List Key × V)} {xs : List (List Key × Addr × Value)} (r : KT H kvs xs) (k : List Key) : RelO (valV kvs k) ((atKey xs k).map (·.2)) := by
  induction r with
  | nil => exact True.intro
  | @cons p q ps qs h t ih =>
    obtain ⟨h1, _, h2⟩ := h
    by_cases e : p.1 = k
    · have e' : q.1 = k := h1.symm.trans e
      have b : atKey (q :: qs) k = some q.2 := by simp [atKey, List.find?_cons, e']
      rw [valV_pos e, b]; exact h2
    · have e' : ¬ q.1 = k := fun z => e (h1.trans z)
      have b : atKey (q :: qs) k = atKey qs k := by simp [atKey, List.find?_cons, e']
      rw [valV_neg e, b]; exact ih
theorem KT.repl {H : Hp} {kvs : List (List Key × V)} {xs : List (List Key × Addr × Value)} (r : KT H kvs xs) (k : List Key) {y : V} {u : Value} (ry : RelV y u) :
    KT H (kvs.map fun kv => if kv.1 = k then (kv.1, y) else kv) (xs.map (putAt k u)) := by
  induction r with
  | nil => exact .nil
  | @cons p q ps qs h t ih =>
    rw [List.map_cons, List.map_cons]
    refine .cons ?_ ih
    obtain ⟨h1, h2, h3⟩ := h
    unfold putAt
    by_cases e : p.1 = k
    · rw [if_pos e, if_pos (h1.symm.trans e)]; exact ⟨h1, h2, ry⟩
    · rw [if_neg e, if_neg (fun z => e (h1.trans z))]; exact ⟨h1, h2, h3⟩
theorem KT.put {H : Hp} {kvs : List (List Key × V)} {xs : List (List Key × Addr × Value)} (r : KT H kvs xs) (k : List Key) {b : Addr} {y : V} {u : Value} (hb : H b = some (.tup (k.map kV))) (ry : RelV y u) :
    KT H (putK kvs k y) (storedH xs k b u) := by
  have e : (kvs.any fun kv => decide (kv.1 = k)) = (atKey xs k).isSome := by
    rw [valV_any, (r.val k).isSome_eq, Option.isSome_map]
  unfold putK storedH
  rw [e]
  by_cases q : (atKey xs k).isSome = true
  · rw [if_pos q, if_pos q]; exact r.repl k ry
  · rw [if_neg q, if_neg q]; exact Paired.snoc r ⟨rfl, hb, ry⟩
theorem KT.keeps {H H' : Hp} {kvs : List (List Key × V)} {xs : List (List Key × Addr × Value)} (r : KT H kvs xs) (ht : ∀ b ys, H b = some (.tup ys) → H' b = some (.tup ys)) : KT H' kvs xs :=
  Paired.mapP r fun _ _ z => ⟨z.1, ht _ _ z.2.1, z.2.2⟩
section
variable {P : Program} {w : World} {H : Hp} {h : Heap} {a : Addr}
theorem rd_of {u : HO} (ok : HOk P w H h) (e : Rd H a u) : ObjOk P w H h a u := e.ok ok
theorem dk_rd {kvs : List (Key × V)} (ok : HOk P w H h) (e : Rd H a (.dK kvs)) : kvs.length ≤ sizeLine ∧ (a == sysModules) = false ∧ ∃ vs, KV kvs vs ∧ h.DictOf (mixKind P w) a vs :=
  show ObjOk P w H h a (.dK kvs) from rd_of ok e
theorem dk_of {kvs : List (Key × V)} (ok : HOk P w H h) (e : H a = some (.dK kvs)) : kvs.length ≤ sizeLine ∧ (a == sysModules) = false ∧ ∃ vs, KV kvs vs ∧ h.DictOf (mixKind P w) a vs := dk_rd ok (.inl e)
theorem key_of {ks : List Key} (ok : HOk P w H h) (e : H a = some (.tup (ks.map kV))) : (tupleKind (mixKind P w)).is h ks a := by
  obtain ⟨_, its, r, o, h1, h2, n, h3⟩ := (show ObjOk P w H h a (.tup (ks.map kV)) from ok a _ e)
  exact ⟨o, its.toArray, n, h1, h2, h3, by simpa using items_are r⟩
theorem dt_rd {kvs : List (List Key × V)} (ok : HOk P w H h) (e : Rd H a (.dT kvs)) : kvs.length ≤ sizeLine ∧ (a == sysModules) = false ∧
    ∃ xs, KT H kvs xs ∧ h.DictOfH (tupleKind (mixKind P w)) a xs := by
  obtain ⟨z, y, xs, r, o, es, ep, h1, h2, h3, h4, h5⟩ := (show ObjOk P w H h a (.dT kvs) from rd_of ok e)
  refine ⟨z, y, xs, r, o, es, ep, h1, h2, h3, h4, fun x hx => ?_, h5⟩
  have all : ∀ {l : List (List Key × V)} {m : List (List Key × Addr × Value)}, KT H l m → ∀ x ∈ m, (tupleKind (mixKind P w)).is h x.1 x.2.1 := by
    intro l m q
    induction q with
    | nil => intro x hx; exact nomatch hx
    | @cons p q ps qs hq t ih =>
      intro x hx
      rcases List.mem_cons.mp hx with e | hx
      · subst e
        exact key_of ok (by rw [← hq.1]; exact hq.2.1)
      · exact ih x hx
  exact all r x hx
theorem dt_of {kvs : List (List Key × V)} (ok : HOk P w H h) (e : H a = some (.dT kvs)) : kvs.length ≤ sizeLine ∧ (a == sysModules) = false ∧
    ∃ xs, KT H kvs xs ∧ h.DictOfH (tupleKind (mixKind P w)) a xs := dt_rd ok (.inl e)
end
def DGet (H : Hp) (a : Addr) (y : V) (r : Option V) : Prop :=
  (∃ kvs k, Rd H a (.dK kvs) ∧ y = kV k ∧ r = valV kvs k) ∨ ∃ kvs k b, Rd H a (.dT kvs) ∧ y = .ref b ∧ H b = some (.tup (k.map kV)) ∧ r = valV kvs k
def DPut (H : Hp) (a : Addr) (y v : V) (H' : Hp) : Prop :=
  (∃ kvs k, H a = some (.dK kvs) ∧ y = kV k ∧ kvs.length < sizeLine ∧ H' = upd H a (.dK (putK kvs k v))) ∨
  ∃ kvs k b, H a = some (.dT kvs) ∧ y = .ref b ∧ H b = some (.tup (k.map kV)) ∧ kvs.length < sizeLine ∧ H' = upd H a (.dT (putK kvs k v))
theorem DGet.k {H : Hp} {a : Addr} {kvs : List (Key × V)} {k : Key} (e : H a = some (.dK kvs)) : DGet H a (kV k) (valV kvs k) := .inl ⟨kvs, k, .inl e, rfl, rfl⟩
theorem DPut.k {H : Hp} {a : Addr} {kvs : List (Key × V)} {k : Key} {v : V} (e : H a = some (.dK kvs)) (hl : kvs.length < sizeLine) : DPut H a (kV k) v (upd H a (.dK (putK kvs k v))) := .inl ⟨kvs, k, e, rfl, hl, rfl⟩
section
variable {X : Cx} {pins : List (Addr × Obj)} {σ : St} {H : Hp} {s : Shared} {a : Addr} {y v : V} {u r : Value} {o : Option V} {A : Around} {E : Value → Shared → Prop}
theorem Inv.big (I : Inv X pins σ H s) : sysModules < s.heap.objs.size := by
  have h : mainGlobals < s.heap.objs.size := (I.mod.glob.keeps I.bk).lt
  exact Nat.lt_trans (by decide) h
theorem d_in {Q : Value → Shared → Prop} (hu : A.units + 1 < cLine) (I : Inv X pins σ H s) (g : DGet H a y o) (ry : RelV y u) (h : ∀ s', Inv X pins σ H s' → Q (.bool o.isSome) s') :
    wpAny (model X.prog X.w) A (compareOp .In u (.ref a)) Q E s := by
  rcases g with ⟨kvs, k, e, ey, l⟩ | ⟨kvs, k, b, e, ey, eb, l⟩
  · subst ey
    obtain ⟨z, hd, vs, rel, dd⟩ := dk_rd I.hok e
    refine wpAny_in_of (kV_is ry) hd dd.mapOf ?_
    rw [← (rel.val k).isSome_eq, ← l]
    exact h _ (I.tok _)
  · subst ey
    cases (show u = Value.ref b from ry)
    obtain ⟨z, hd, xs, rel, dd⟩ := dt_rd I.hok e
    refine wpAny_in_heap (tupleKind_room_in1 hu) (key_of I.hok eb) hd dd ?_
    have q := (rel.val k).isSome_eq
    rw [Option.isSome_map] at q
    rw [← q, ← l]
    exact h _ (I.tok _)
theorem d_write {h' : Heap} {t' : Nat} {ob : HO} (I : Inv X pins σ H s) (mu : Mut (H a)) (hs : Heap.SameBut a s.heap h') (he : ∃ q, h'.get? a = some q) (new : ObjOk X.prog X.w (upd H a ob) h' a ob) :
    Inv X pins σ (upd H a ob) { s with heap := h', toks := t' } :=
  I.write (x := a) (e := a) mu (.inl rfl) (fun b q hb z => (hs.2 b hb).trans z) he new
theorem dk_new {P : Program} {w : World} {H' : Hp} {h' : Heap} {kvs : List (Key × V)} {vs : List (Key × Value)} (z : kvs.length ≤ sizeLine) (hd : (a == sysModules) = false) (rel : KV kvs vs) (dd : h'.DictOf (mixKind P w) a vs) :
    ObjOk P w H' h' a (.dK kvs) := ⟨z, hd, vs, rel, dd⟩
theorem d_setItem {H' : Hp} {Q : Unit → Shared → Prop} (hu : A.units + 1 < cLine) (I : Inv X pins σ H s) (g : DPut H a y v H') (ry : RelV y u) (rv : RelV v r) (h : ∀ s', Inv X pins σ H' s' → Q () s') :
    wpAny (model X.prog X.w) A (setItem (.ref a) u r) Q E s := by
  rcases g with ⟨kvs, k, e, ey, l, eH⟩ | ⟨kvs, k, b, e, ey, eb, l, eH⟩
  · subst ey eH
    obtain ⟨z, hd, vs, rel, dd⟩ := dk_of I.hok e
    have hz : vs.length ≤ sizeLine := by rw [← rel.length]; exact z
    have hl : (putK kvs k v).length ≤ sizeLine := by have := length_putK kvs k v; omega
    refine wpAny_setItem_pairs (hsz := hz) (kV_is ry) dd fun h' dd' hs => h _ ?_
    have he : ∃ q, h'.get? a = some q := let ⟨q, _, _, hq, _⟩ := dd'; ⟨q, hq⟩
    exact d_write I (by rw [e]; exact True.intro) hs he (dk_new hl hd (rel.put k rv) dd')
  · subst ey eH
    cases (show u = Value.ref b from ry)
    obtain ⟨z, hd, xs, rel, dd⟩ := dt_of I.hok e
    have hz : xs.length ≤ sizeLine := by rw [← Paired.length rel]; exact z
    have hl : (putK kvs k v).length ≤ sizeLine := by have := length_putK kvs k v; omega
    refine wpAny_setItem_heap (hsz := hz) (tupleKind_room_in1 hu) (key_of I.hok eb) dd fun h' dd' hs => h _ ?_
    obtain ⟨q, es, ep, hq, h2, h3, h4, _, h5⟩ := dd'
    refine d_write I (by rw [e]; exact True.intro) hs ⟨q, hq⟩ ⟨hl, hd, _, (rel.put k eb rv).keeps fun c ys ec => ?_, q, es, ep, hq, h2, h3, h4, h5⟩
    rw [upd_ne (ne_of ec e (fun z => nomatch z))]
    exact ec
end
def tDIn (ty td : TE) : TE := fun σ H Q => ty σ H fun y H1 => td σ H1 fun x H2 => ∃ a o, x = .ref a ∧ DGet H2 a y o ∧ Q (.bl o.isSome) H2
def sDPut (td ty tv : TE) : TS := fun D σ H => tv σ H fun v H1 => td σ H1 fun x H2 => ty σ H2 fun y H3 => ∃ a H4, x = .ref a ∧ DPut H3 a y v H4 ∧ D.nx σ H4
section
variable {X : Cx} {o i e value : Expr} {pos pos' tpos : PySem.Pos} {td ty tv : TE}
theorem pc_din (hu : X.A.units + 1 < cLine) (hi : PE X i ty) (ho : PE X o td) : PC X .In i o (tDIn ty td) := by
  intro pins s σ H Q I h
  refine thn (hi pins s σ H _ I h) fun iv s1 ⟨y, H1, I1, ry, q1⟩ => thn (ho pins s1 σ H1 _ I1 q1) fun u s2 ⟨x, H2, I2, rx, a, ov, ex, g, q2⟩ => ?_
  subst ex
  obtain rfl : u = Value.ref a := rx
  exact d_in hu I2 g ry fun s3 I3 => ⟨.bl ov.isSome, H2, I3, rfl, q2⟩
theorem ps_dput (hu : X.A.units + 1 < cLine) (ho : PE X o td) (hi : PE X i ty) (hv : PE X value tv) (hs : swapsWith value (some (.Subscript o i pos')) pos.line X.env = pure false) :
    PS X (.Assign [.Subscript o i pos'] value pos) (sDPut td ty tv) := by
  intro pins s σ H D I h
  refine wpAny_Assign_Subscript (thn (hv pins s σ H _ I h) fun r s1 ⟨v, H1, I1, rv, q1⟩ => thn (ho pins s1 σ H1 _ I1 q1) fun u s2 ⟨x, H2, I2, rx, q2⟩ => thn (hi pins s2 σ H2 _ I2 q2) fun iv s3 ⟨y, H3, I3, ry, a, H4, ex, g, q3⟩ => ?_) hs
  subst ex
  obtain rfl : u = Value.ref a := rx
  exact d_setItem hu I3 g ry rv fun s4 I4 => ⟨σ, H4, I4, q3⟩
end
theorem dk_empty {P : Program} {w : World} {H : Hp} (h : Heap) (hb : sysModules < h.objs.size) : ObjOk P w H (h.push { cls := .type "dict", data := .dict #[] }) h.objs.size (.dK []) :=
  ⟨Nat.zero_le _, beq_eq_false_iff_ne.mpr (Ne.symm (Nat.ne_of_lt hb)), [], .nil, Heap.DictOf.new h⟩
def tDNewK : TE := fun _ H Q => ∀ p, H p = none → Q (.ref p) (upd H p (.dK []))
section
variable {X : Cx} {pos : PySem.Pos}
theorem pe_dnewK : PE X (.Dict [] [] pos) tDNewK := fun pins s σ H Q I h =>
  wpAny_Dict_empty ⟨.ref s.heap.objs.size, _, I.laid (a := s.heap.objs.size) (o := .dK []) (t' := s.toks) (fun _ _ q => Heap.get?_push_of_some _ q) (Nat.le_refl _) (dk_empty s.heap I.big), rfl, h _ (I.hok.fresh (Nat.le_refl _))⟩
end
structure M2 (X : Cx) (o : Expr) (m : Str) (apos : PySem.Pos) (e f : Expr) (cpos : PySem.Pos) : Prop where
  base : attributeBase o m X.env (eval o X.env) = eval o X.env
  few : ((backTo cpos (starEach [e, f] X.env)).all (fun x => !x.1) && (backToKw cpos (keywordEach [] X.env)).all (fun x => x.1.isSome)
    && decide (([e, f] : List Expr).length + ([] : List Keyword).length + (if ([] : List Keyword).isEmpty then 0 else 1) < 30)) = true
  line : (apos.endLine == cpos.line) = true
  trees : backTo cpos (starEach [e, f] X.env) = [(false, eval e X.env), (false, eval f X.env)]
end L2
set_option Elab.async false
set_option linter.all false
set_option maxRecDepth 100000
set_option maxHeartbeats 1000000
namespace L2
open PySem PySem.Spec PyProof.Rows
def Ite (K : PySem.W.Frag) (a : Addr) : It :=
  ⟨fun i H => ∃ xs x, SqL K H a xs ∧ xs[i]? = some x,
   fun i H v H' => ∃ p x, v = .ref p ∧ H p = none ∧ H' = upd H p (.tup [.int (i : Int), x]) ∧ ∀ xs, SqL K H a xs → xs[i]? = some x,
   fun i H => ∃ xs, SqL K H a xs ∧ xs[i]? = none⟩
def EnumAt (e it a : Addr) (i : Nat) (h : Heap) : Prop := (∃ old, IsEnum h e it (i : Int) old) ∧ h.IsListIter it a i
theorem turn_enum {P : Program} {w : World} {K : PySem.W.Frag} {es : List Expr} {k : Nat} {pos : PySem.Pos} (a e it : Addr) (hei : e ≠ it) (hle : a ≠ e) (hli : a ≠ it) : Turn P w K (.Tuple es k pos) (Ite K a) [e, it] e (EnumAt e it a) where
  mem := by simp
  obj := fun i h st c hc => by
    obtain ⟨⟨old, he⟩, ⟨o1, e1, c1, d1⟩⟩ := st
    simp only [List.mem_cons, List.not_mem_nil, or_false] at hc
    rcases hc with rfl | rfl
    · exact ⟨_, he, fun v q => by cases q⟩
    · exact ⟨o1, e1, fun v q => by rw [d1] at q; cases q⟩
  keep := fun i h h' st q => by
    obtain ⟨⟨old, he⟩, l1⟩ := st
    exact ⟨⟨old, q _ (by simp) _ he⟩, l1.at fun o x => q _ (by simp) o x⟩
  item := by
    intro X hP hw hK hc i pins s σ H E I hf st hg
    subst hP hw hK
    obtain ⟨xs, x, hq1, hx⟩ := hg
    obtain ⟨⟨old, he⟩, l1⟩ := st
    obtain ⟨its1, rv1, p1, _⟩ := I.list hq1
    obtain ⟨ux, hux, rux⟩ := rv1.get hx
    refine wpAny_pyNext_enum_item he l1 p1.isList (x := ux) (by simpa using hux) hei fun h' z1 j1 T1 sz kp => ?_
    refine ⟨_, rfl, wpAny_letOwnedTupleGo_enum z1 fun h2 z2 sb => ?_⟩
    have helt : e < s.heap.objs.size := Heap.lt_size he
    have hpe : s.heap.objs.size ≠ e := Nat.ne_of_gt helt
    have T2 := sb.extBut _ _ hpe T1
    have kp2 : ∀ c o, c ∉ [e, it] → s.heap.get? c = some o → h2.get? c = some o := fun c o hc x => by
      simp only [List.mem_cons, List.not_mem_nil, or_false, not_or] at hc
      exact sb.extBut _ _ hc.1 (kp c o hc.1 hc.2 x)
    have I2 : Inv X pins σ (upd H s.heap.objs.size (.tup [.int (i : Int), x])) { s with heap := h2, toks := s.toks + 1 } := I.turnedNew kp2 hf (Nat.le_refl _) ⟨by show 2 ≤ sizeLine; decide, [.int (i : Int) s.toks, ux], .cons ⟨_, rfl⟩ (.cons rux .nil), ⟨_, T2, rfl, _, rfl⟩⟩
    refine ⟨.ref s.heap.objs.size, _, I2, rfl, ⟨_, x, rfl, I.hok.fresh (Nat.le_refl _), rfl, fun xs' h => ?_⟩, ⟨⟨ux, by simpa using z2⟩, ?_⟩, fun c hc => ?_⟩
    · rw [I.list_inj h hq1]; exact hx
    · exact j1.at fun o x => sb.extBut _ _ (Ne.symm hei) x
    · have hlt : c < s.heap.objs.size := by
        simp only [List.mem_cons, List.not_mem_nil, or_false] at hc
        rcases hc with rfl | rfl
        · exact helt
        · obtain ⟨_, x, _⟩ := l1; exact Heap.lt_size x
      rw [upd_ne (Nat.ne_of_lt hlt)]
      exact (hf c hc).1
  done := by
    intro X hP hw hK hc i pins s σ H E I hf st hg
    subst hP hw hK
    obtain ⟨xs, hq1, hend⟩ := hg
    obtain ⟨⟨old, he⟩, l1⟩ := st
    obtain ⟨its1, rv1, p1, _⟩ := I.list hq1
    have e1 := rv1.length
    rw [List.getElem?_eq_none_iff] at hend
    refine wpAny_pyNext_enum_end (I.ok.hd hc) he l1 p1.isList (by simp; omega) fun h' kp => ⟨rfl, I.turnedL (t' := s.toks) (ch := [e, it]) (fun c o hc x => ?_) hf⟩
    simp only [List.mem_cons, List.not_mem_nil, or_false, not_or] at hc
    exact kp c o hc.2 x
  self := fun _ _ _ _ _ st h => by
    obtain ⟨⟨old, he⟩, _⟩ := st
    exact wpAny_pyIter_enum he h
theorem boot_enumerate : bootBuiltins "enumerate" = some (.type "enumerate") := by decide +kernel
section
variable {X : Cx}
def iEnum (K : PySem.W.Frag) (ta : TA) : TI := fun σ H R => ta σ H fun vs H1 => ∃ a, vs = [.ref a] ∧ (∃ xs, SqL K H1 a xs) ∧ R (Ite K a) H1
theorem pi_enum {tes : List Expr} {tk : Nat} {tpos p pos : PySem.Pos} {a : Expr} {ta : TA} (hg : Gl X "enumerate") (hm : X.mg "enumerate" = none) (ha : PA X [a] ta)
    (hs : starEach [a] X.env = [(false, eval a X.env)] := by rfl) : PI X (.Tuple tes tk tpos) (.Call (.Name "enumerate" p) [a] [] pos) (iEnum X.K ta) := by
  intro pins s σ H R I h
  refine wpAny_Call_Name_kw (ld_blt I hg hm boot_enumerate ?_)
  refine PyProof.Rows.callWith_type1 (rest := []) (thn (ha pos pins s σ H _ I h) fun us s1 ⟨vs, H1, I1, r1, l1, e, ⟨xs, hx⟩, q⟩ => ?_) hs rfl
  subst e
  obtain ⟨u1, rfl, rfl⟩ := vals1 r1
  obtain ⟨its1, rv1, p1, _⟩ := I1.list hx
  have a1 : l1 < s1.heap.objs.size := by obtain ⟨_, e, _⟩ := p1.isList; exact Heap.lt_size e
  refine call_enumerate_list p1.isList fun h' he hit sz kp => ?_
  refine wpAny_pyIter_enum he ?_
  refine ⟨_, [_, _], _, _, H1, rfl, I1.kept (t' := s1.toks) kp, turn_enum l1 _ _ (Nat.succ_ne_self _) (Nat.ne_of_lt (Nat.lt_succ_of_lt a1)) (Nat.ne_of_lt a1), ⟨⟨_, he⟩, hit⟩, fun c hc => ?_, q⟩
  have hge : s1.heap.objs.size ≤ c := by
    simp only [List.mem_cons, List.not_mem_nil, or_false] at hc
    rcases hc with rfl | rfl
    · exact Nat.le_succ _
    · exact Nat.le_refl _
  exact I1.fpOk hge (I1.hok.fresh hge)
theorem for_enum {K : PySem.W.Frag} {a : Addr} {xs : List V} {g : TG} {tb : TS} {D : Ends} {σ : St} {H : Hp} (Pv : Nat → St → Hp → Prop) (h0 : Pv 0 σ H) (hl : ∀ i σ H, i ≤ xs.length → Pv i σ H → SqL K H a xs)
    (hs : ∀ i x σ H (p : Addr), xs[i]? = some x → Pv i σ H → H p = none → g (.ref p) σ (upd H p (.tup [.int (i : Int), x])) fun σ2 H2 => tb { D with nx := Pv (i + 1), ct := Pv (i + 1), bk := D.nx } σ2 H2) (hd : ∀ σ H, Pv xs.length σ H → D.nx σ H) :
    ∃ W : Nat → Nat → St → Hp → Prop, (∃ m, W 0 m σ H) ∧ ∀ i m σ H, W i m σ H →
      ((Ite K a).stop i H ∧ D.nx σ H) ∨ ((Ite K a).go i H ∧ ∃ N : St → Hp → Prop, (∀ σ' H', N σ' H' → ∃ m', m' < m ∧ W (i + 1) m' σ' H') ∧ ∀ x H', (Ite K a).yld i H x H' → g x σ H' fun σ2 H2 => tb { D with nx := N, ct := N, bk := D.nx } σ2 H2) := by
  refine ⟨fun i m σ H => m = xs.length - i ∧ i ≤ xs.length ∧ Pv i σ H, ⟨xs.length, by simp, Nat.zero_le _, h0⟩, ?_⟩
  rintro i m σ H ⟨rfl, hi, p⟩
  have q1 := hl i σ H hi p
  by_cases hlt : i < xs.length
  · refine .inr ⟨⟨xs, xs[i], q1, by simp [hlt]⟩, Pv (i + 1), fun σ' H' p' => ⟨xs.length - (i + 1), by omega, rfl, hlt, p'⟩, fun x H' y => ?_⟩
    obtain ⟨q, x1, rfl, hq, rfl, e1⟩ := y
    exact hs i x1 σ _ q (e1 xs q1) p hq
  · have e : i = xs.length := by omega
    subst e
    exact .inl ⟨⟨xs, q1, List.getElem?_eq_none (Nat.le_refl _)⟩, hd σ H p⟩
end
end L2
set_option Elab.async false
set_option linter.all false
set_option maxRecDepth 100000
set_option maxHeartbeats 1000000
set_option Elab.async false
set_option linter.all false
set_option maxRecDepth 100000
set_option maxHeartbeats 1000000
set_option Elab.async false
set_option linter.all false
set_option maxRecDepth 100000
set_option maxHeartbeats 1000000
namespace L2
open PySem PySem.Spec PyProof.Rows
def vInt : Value → Int
  | .int n _ => n
  | _ => 0
theorem ints_map : ∀ {vs : List Value} {u : List Int}, IntsAre vs u → vs.map vInt = u
  | _, _, .nil => rfl
  | _, _, .cons n t h => by rw [List.map_cons, ints_map h]; rfl
def kfI (h : Heap) (v : Value) : List Int := match v with
  | .ref a => match h.get? a with
    | some o => match o.data with
      | .seq its _ => its.toList.map vInt
      | _ => []
    | none => []
  | _ => []
def TupI (h : Heap) (v : Value) (u : List Int) : Prop := ∃ a o its n, v = .ref a ∧ h.get? a = some o ∧ o.cls = .type "tuple" ∧ o.data = .seq its n ∧ IntsAre its.toList u
theorem TupI.kf {h : Heap} {v : Value} {u : List Int} (t : TupI h v u) : kfI h v = u := by
  obtain ⟨a, o, its, n, rfl, e, c, d, i⟩ := t
  unfold kfI
  dsimp only
  rw [e]
  dsimp only
  rw [d]
  exact ints_map i
end L2
set_option Elab.async false
set_option linter.all false
set_option maxRecDepth 100000
set_option maxHeartbeats 1000000
set_option Elab.async false
set_option linter.all false
set_option maxRecDepth 100000
set_option maxHeartbeats 1000000
set_option Elab.async false
set_option linter.all false
set_option maxRecDepth 100000
set_option maxHeartbeats 1000000
namespace L2
open PySem PySem.Spec PyProof.Rows
abbrev Pb := SetTable.Probe
def lp (m : Nat) (p : Pb) : Pb := { p with j := (p.i * 5 + 1 + p.perturb / 32) % (m + 1), more := SetTable.runEnd m ((p.i * 5 + 1 + p.perturb / 32) % (m + 1)) - (p.i * 5 + 1 + p.perturb / 32) % (m + 1), i := (p.i * 5 + 1 + p.perturb / 32) % (m + 1), perturb := p.perturb / 32 }
end L2
set_option Elab.async false
set_option linter.all false
set_option maxRecDepth 100000
set_option maxHeartbeats 1000000
set_option Elab.async false
set_option linter.all false
set_option maxRecDepth 100000
set_option maxHeartbeats 1000000
namespace L2
open PySem PySem.Spec PyProof.Rows
theorem nodup_leN : ∀ {l m : List Nat}, l.Nodup → (∀ x ∈ l, x ∈ m) → l.length ≤ m.length
  | [], m, _, _ => Nat.zero_le _
  | a :: l, m, h, hm => by
    rw [List.nodup_cons] at h
    have ha := hm a List.mem_cons_self
    have q := nodup_leN (m := m.erase a) h.2 fun x hx => (List.mem_erase_of_ne (fun z : x = a => h.1 (by rw [← z]; exact hx))).mpr (hm x (List.mem_cons_of_mem _ hx))
    rw [List.length_erase_of_mem ha] at q
    have := List.length_pos_of_mem ha
    simp only [List.length_cons]
    omega
end L2
set_option Elab.async false
set_option linter.all false
set_option maxRecDepth 100000
set_option maxHeartbeats 1000000
set_option Elab.async false
set_option linter.all false
set_option maxRecDepth 100000
set_option maxHeartbeats 1000000
set_option Elab.async false
set_option linter.all false
set_option maxRecDepth 100000
set_option maxHeartbeats 1000000
namespace L2
open PySem PySem.Spec PyProof.Rows
def hsh (prog : Program) (w : World) (u : List Int) : Int := tupleKeyHash (intKind prog w) u
end L2
set_option Elab.async false
set_option linter.all false
set_option maxRecDepth 100000
set_option maxHeartbeats 1000000
set_option Elab.async false
set_option linter.all false
set_option maxRecDepth 100000
set_option maxHeartbeats 4000000
set_option Elab.async false
set_option linter.all false
set_option maxRecDepth 100000
set_option maxHeartbeats 4000000
set_option Elab.async false
set_option linter.all false
set_option maxRecDepth 100000
set_option maxHeartbeats 1000000
namespace L2
open PySem PySem.Spec PyProof.Rows
def TuL (H : Hp) (xs : List V) (us : List (List Int)) : Prop := xs.length = us.length ∧ ∀ (i : Nat) (x : V) (u : List Int), xs[i]? = some x → us[i]? = some u → ∃ a : Addr, x = .ref a ∧ H a = some (.tup (u.map V.int))
theorem TuL.nil (H : Hp) : TuL H [] [] := ⟨rfl, fun i x u h => by cases h⟩
theorem TuL.up {H H' : Hp} {xs : List V} {us : List (List Int)} (h : TuL H xs us) (t : Tups H H') : TuL H' xs us := ⟨h.1, fun i x u h1 h2 => by
  obtain ⟨a, b, c⟩ := h.2 i x u h1 h2
  exact ⟨a, b, t _ _ c⟩⟩
theorem TuL.snoc {H : Hp} {xs : List V} {us : List (List Int)} {a : Addr} {u : List Int} (h : TuL H xs us) (ha : H a = some (.tup (u.map V.int))) : TuL H (xs ++ [.ref a]) (us ++ [u]) := by
  refine ⟨by rw [List.length_append, List.length_append, h.1]; rfl, fun i y r h1 h2 => ?_⟩
  by_cases z : i < xs.length
  · rw [List.getElem?_append_left z] at h1
    rw [List.getElem?_append_left (h.1 ▸ z)] at h2
    exact h.2 i y r h1 h2
  · rw [List.getElem?_append_right (by omega)] at h1
    rw [List.getElem?_append_right (by have := h.1; omega), ← h.1] at h2
    cases w : i - xs.length with
    | zero => rw [w] at h1 h2; cases h1; cases h2; exact ⟨a, rfl, ha⟩
    | succ m => rw [w] at h1; cases h1
def dTs (us : List (List Int)) : PyData := .list (us.map dT)
theorem TuL.di {K : PySem.W.Frag} {H : Hp} {a : Addr} {xs : List V} {us : List (List Int)} (h : TuL H xs us) (ha : SqL K H a xs) : DI K H (.ref a) (dTs us) := by
  refine .lst ha (by rw [List.length_map]; exact h.1) fun i x d h1 h2 => ?_
  rw [List.getElem?_map] at h2
  cases z : us[i]? with
  | none => rw [z] at h2; cases h2
  | some u =>
    rw [z] at h2
    cases h2
    obtain ⟨b, rfl, hb⟩ := h.2 i x u h1 z
    refine .tup (SqT.of hb) (by rw [List.length_map, List.length_map]) fun j y e h3 h4 => ?_
    rw [List.getElem?_map] at h3 h4
    cases zz : u[j]? with
    | none => rw [zz] at h3; cases h3
    | some m => rw [zz] at h3 h4; cases h3; cases h4; exact .int m
theorem lay_dTs : ∀ us : List (List Int), (dTs us).canLay0 = true := by
  have : ∀ us : List (List Int), PyData.canLayAll0 (us.map dT) = true := by
    intro us
    induction us with
    | nil => rfl
    | cons u us ih => show ((dT u).canLay0 && PyData.canLayAll0 (us.map dT)) = true; rw [lay_dT, ih]; rfl
  exact this
theorem dep_dTs (us : List (List Int)) : (dTs us).depth ≤ 60 := by
  have : ∀ us : List (List Int), PyData.depthAll (us.map dT) ≤ 1 := by
    intro us
    induction us with
    | nil => exact Nat.zero_le _
    | cons u us ih => show max (dT u).depth _ ≤ 1; rw [dep_dT]; omega
  show PyData.depthAll _ + 1 ≤ 60
  have := this us
  omega
section
variable {X : Cx} {pins : List (Addr × Obj)} {σ : St} {H : Hp} {s : Shared}
theorem tup_of (I : Inv X pins σ H s) {a : Addr} {u : List Int} (h : H a = some (.tup (u.map V.int))) : TupI s.heap (.ref a) u := by
  obtain ⟨its, r, ⟨o, e, c, n, hd⟩, _⟩ := I.tuple (SqT.of (K := X.K) h)
  exact ⟨a, o, _, n, rfl, e, c, hd, by simpa using intsAre_of r⟩
theorem call_tuple_ofKK {K : PySem.W.Frag} (hK : X.K = K := by rfl) : CallR X (.type "tuple") (fun xs H Q => ∃ p ys, xs = [.ref p] ∧ ((SqL K H p ys ∧ ∀ l, H l = none → Q (.ref l) (upd H l (.tup ys))) ∨ (SqT K H p ys ∧ Q (.ref p) H))) := by subst hK; exact call_tuple_of
end
end L2
set_option Elab.async false
set_option linter.all false
set_option maxRecDepth 100000
set_option maxHeartbeats 1000000
set_option Elab.async false
set_option linter.all false
set_option maxRecDepth 100000
set_option maxHeartbeats 1000000
namespace L2
open PySem PySem.Spec PyProof.Rows
theorem ints_items {P : Program} {w : World} : ∀ {vs : List Value} {u : List Int}, IntsAre vs u → ItemsAre (intKind P w) u vs
  | _, _, .nil => .nil
  | _, _, .cons n t h => .cons (intKind_is _ _ _ _) (ints_items h)
end L2
set_option Elab.async false
set_option linter.all false
set_option maxRecDepth 100000
set_option maxHeartbeats 1000000
namespace L2
open PySem PySem.Spec PyProof.Rows
def cont (h : Heap) (b : Addr) : Option HO := match h.get? b with
  | some o => match o.data with
    | .seq its _ => match its.toList with
      | [.ref ka, .int m _] => some (.tup [.ref ka, .int m])
      | _ => none
    | _ => none
  | none => none
end L2
set_option Elab.async false
set_option linter.all false
set_option maxRecDepth 100000
set_option maxHeartbeats 1000000
set_option Elab.async false
set_option linter.all false
set_option maxRecDepth 100000
set_option maxHeartbeats 1000000
namespace L2
open PySem PySem.Spec PyProof.Rows
section
variable {X : Cx}
theorem call_range2 : CallR X (.type "range") (fun xs H Q => ∃ i j : Int, xs = [.int i, .int j] ∧ ∀ p, H p = none → Q (.ref p) (upd H p (.rng i j))) := by
  intro pins s σ H xs us Q I r h
  obtain ⟨i, j, rfl, q⟩ := h
  obtain ⟨u1, u2, rfl, ⟨t1, rfl⟩, ⟨t2, rfl⟩⟩ := vals2 r
  refine call_range_2 ?_
  exact ⟨.ref _, upd H s.heap.objs.size (.rng i j), I.laid (fun b u e => Heap.get?_push_of_some _ e) (Nat.le_refl _) ⟨_, _, _, Heap.get?_push_size _ rfl⟩, rfl, q _ (I.hok.fresh (Nat.le_refl _))⟩
def upto (lo : Int) (n : Nat) : List Int := (List.range n).map fun (i : Nat) => lo + (i : Int)
theorem call_list_rng2 (hc : X.calm = true) : CallR X (.type "list") (fun xs H Q => ∃ (p : Addr) (i j : Int), xs = [.ref p] ∧ H p = some (.rng i j) ∧ -1000 ≤ i ∧ i ≤ j ∧ j ≤ 1000 ∧ ∀ l, H l = none → Q (.ref l) (upd H l (.lst ((upto i (j - i).toNat).map V.int)))) := by
  intro pins s σ H xs us Q I r h
  obtain ⟨p, lo, j, rfl, hp, h0, h1, h2, q⟩ := h
  obtain ⟨u, rfl, rx⟩ := vals1 r
  cases rx
  obtain ⟨t, u, v, e⟩ := I.hok p _ hp
  refine call_list_range (n := (j - lo).toNat) (I.ok.hd hc) e (small_one (by omega) (by omega) (by omega) (by omega)) (by rw [rangeSize_one]; split <;> omega) (by omega) fun h' tk acc' c' hk hS hacc => ?_
  have hln : ((upto lo (j - lo).toNat).map V.int).length = acc'.toList.length := by unfold upto; simp [hacc.1]
  refine ⟨.ref _, _, I.laid (o := .lst ((upto lo (j - lo).toNat).map V.int)) hk (Nat.le_refl _) ⟨?_, acc'.toList, c', Vals.of_get hln fun i x w' e1 e2 => ?_, by simpa using hS⟩, rfl, q _ (I.hok.fresh (Nat.le_refl _))⟩
  · unfold upto
    rw [List.length_map, List.length_map, List.length_range]
    exact Nat.le_trans (show (j - lo).toNat ≤ 2000 by omega) (by decide)
  · have hi : i < (j - lo).toNat := by
      have := (List.getElem?_eq_some_iff.mp e1).1
      unfold upto at this
      rw [List.length_map, List.length_map, List.length_range] at this
      exact this
    unfold upto at e1
    rw [List.getElem?_map, List.getElem?_map, List.getElem?_range hi] at e1
    cases e1
    obtain ⟨tk', z⟩ := hacc.2 i w' (by simpa using e2)
    rw [z]
    exact ⟨tk', by simp⟩
def rRepR : R2 := fun x y H Q => ∃ l k xs, y = .ref l ∧ x = .int k ∧ H l = some (.lst xs) ∧ -(2 ^ 63) ≤ k ∧ k < 2 ^ 63 ∧ xs.length * k.toNat ≤ sizeLine ∧
  ∀ p, H p = none → Q (.ref p) (upd H p (.lst (List.replicate k.toNat xs).flatten))
theorem op_repR : OpR X (binaryOp .Mult) rRepR := by
  intro pins s σ H x y v u Q I rx ry h
  obtain ⟨l, k, xs, rfl, rfl, hH, h1, h2, hz, q⟩ := h
  cases ry
  obtain ⟨t, rfl⟩ := rx
  obtain ⟨z, its, n, r, hl, e⟩ := I.lstM hH
  have hlen : its.toArray.size * k.toNat ≤ sizeLine := by rw [List.size_toArray, ← hl]; exact hz
  have hcap : ¬ its.toArray.size * k.toNat > (2 ^ 63 - 1) / 8 := by
    have : (sizeLine : Nat) ≤ (2 ^ 63 - 1) / 8 := by decide
    omega
  have hfit : ¬ (!Builtin.List.listFitsIndex k) = true := by
    rw [fitsIndex_both h1 h2]
    exact Bool.false_ne_true
  have hlong : ¬ Builtin.List.listTooLong (its.toArray.size * k.toNat) = true := by
    rw [notLongL hlen]
    exact Bool.false_ne_true
  have hnew : List.foldl (fun x1 x2 => x1 ++ x2) #[] (List.replicate (if its.toArray.isEmpty = true then 0 else k.toNat) its.toArray) = (List.replicate k.toNat its).flatten.toArray := by
    have f0 : ∀ m : Nat, List.foldl (fun x1 x2 => x1 ++ x2) #[] (List.replicate m its.toArray) = (List.replicate m its).flatten.toArray := fun m => by
      have := foldl_rep its m []
      rw [List.nil_append] at this
      exact this
    rw [f0]
    cases its with
    | nil => simp
    | cons a r' => rw [if_neg (by simp)]
  refine lm_binaryOp_repeat_right (T := "list") (U := "int") (by decide) (fun s' => typeIs_int s' k t) ⟨_, e, rfl⟩ F.fills_int_mul noFill_list_mul F.slot_int_mul lm_noRepeat_int repeat_list F.slot_int_index.lookup
    (call_meets F.slot_int_mul (typeIs_int s k t) F.entry_int_mul (F.args_int_mul_2 _ _) (int___mul___int_list k t l its.toArray n)
      ⟨e, rfl, ⟨_, e, rfl⟩, call_meets F.slot_list_mul ⟨_, e, rfl⟩ F.entry_list_mul (F.args_list_mul_2 _ _) (AutoListH.list___mul___list_int_3 l its.toArray n k t hfit hcap hlong) ⟨e, ?_⟩⟩)
  rw [hnew]
  exact ⟨.ref _, _, I.lnew (t' := s.toks) (r.rep k.toNat) (by rw [len_rep, Nat.mul_comm]; exact hz), rfl, q _ I.fresh⟩
theorem pi_listK {K : PySem.W.Frag} {tg l : Expr} {tl : TE} (hl : PE X l tl) (hK : X.K = K := by rfl) : PI X tg l (iList K tl) := by subst hK; exact pi_list hl
end
end L2
set_option Elab.async false
set_option linter.all false
set_option maxRecDepth 100000
set_option maxHeartbeats 1000000
namespace L2
open PySem PySem.Spec PyProof.Rows
def absI (i : Int) : Int := if i < 0 then -i else i
def pool (n : Nat) : List Int := upto 1 n ++ upto 1 n
structure ShOk (S : List (List Int)) : Prop where
  even : ∃ m : Nat, S.length = 2 * m ∧ 1 ≤ m ∧ m ≤ 6
  three : ∀ t ∈ S, t.length = 3
  ties : (S.flatten.map absI).Perm (pool (S.length / 2 * 3))
theorem mem_upto {lo : Int} {n : Nat} {i : Int} : i ∈ upto lo n ↔ lo ≤ i ∧ i < lo + (n : Int) := by
  unfold upto
  rw [List.mem_map]
  constructor
  · rintro ⟨k, hk, rfl⟩
    have := List.mem_range.mp hk
    omega
  · rintro ⟨h1, h2⟩
    exact ⟨(i - lo).toNat, List.mem_range.mpr (by omega), by omega⟩
theorem upto_len (lo : Int) (n : Nat) : (upto lo n).length = n := by unfold upto; rw [List.length_map, List.length_range]
theorem chunks (os : List Int) : ∀ n : Nat, ((List.range n).map fun k => (os.drop (3 * k)).take 3).flatten = os.take (3 * n)
  | 0 => by simp
  | n + 1 => by
    rw [List.range_succ, List.map_append, List.flatten_append, chunks os n]
    simp only [List.map_cons, List.map_nil, List.flatten_cons, List.flatten_nil, List.append_nil]
    rw [show 3 * (n + 1) = 3 * n + 3 by omega, List.take_add]
theorem rep2 (xs : List V) : (List.replicate (2 : Int).toNat xs).flatten = xs ++ xs := by
  show xs ++ (xs ++ []) = xs ++ xs
  rw [List.append_nil]
def dI (ns : List Int) : PyData := .list (ns.map .int)
theorem di_lst {K : PySem.W.Frag} {H : Hp} {a : Addr} {ns : List Int} (h : SqL K H a (ns.map V.int)) : DI K H (.ref a) (dI ns) := by
  refine .lst h (by rw [List.length_map, List.length_map]) fun i x d h1 h2 => ?_
  rw [List.getElem?_map] at h1 h2
  cases z : ns[i]? with
  | none => rw [z] at h1; cases h1
  | some m => rw [z] at h1 h2; cases h1; cases h2; exact .int m
theorem eqv_dI (ns ms : List Int) : PyData.eqv (dI ns) (dI ms) = decide (ns = ms) := eqvAll_ints ns ms
theorem lay_dI (ns : List Int) : (dI ns).canLay0 = true := lay_ints ns
theorem dep_dI (ns : List Int) : (dI ns).depth ≤ 60 := by show PyData.depthAll _ + 1 ≤ 60; rw [dep_ints]; decide
theorem erase_permK {α : Type} : ∀ {l : List α} {k : Nat} {y : α}, l[k]? = some y → l.Perm (y :: l.eraseIdx k)
  | [], k, y, h => by cases h
  | a :: l, 0, y, h => by cases h; exact List.Perm.refl _
  | a :: l, k + 1, y, h => by
    have ih := erase_permK (l := l) (k := k) (y := y) (by simpa using h)
    exact (List.Perm.cons a ih).trans (List.Perm.swap y a _)
theorem map_erase {α β : Type} (f : α → β) : ∀ (l : List α) (k : Nat), (l.map f).eraseIdx k = (l.eraseIdx k).map f
  | [], _ => rfl
  | _ :: _, 0 => rfl
  | a :: l, k + 1 => by
    show f a :: (l.map f).eraseIdx k = f a :: (l.eraseIdx k).map f
    rw [map_erase f l k]
theorem cut_midL (xs : List V) {u m : Int} (u0 : 0 ≤ u) (m1 : 0 ≤ m) (h : u + m ≤ (xs.length : Int)) : cutV xs (some u) (some (u + m)) = (xs.drop u.toNat).take m.toNat := by
  unfold cutV
  have a1 : HT.sIx xs.length 0 (some u) = u.toNat := by
    show (if u < 0 then _ else min u.toNat xs.length) = _
    rw [if_neg (by omega)]
    omega
  have a2 : HT.sIx xs.length xs.length (some (u + m)) = u.toNat + m.toNat := by
    show (if u + m < 0 then _ else min (u + m).toNat xs.length) = _
    rw [if_neg (by omega)]
    omega
  rw [a1, a2, Nat.add_sub_cancel_left]
theorem abs_sign {y r : Int} (hy : 0 ≤ y) (h0 : 0 ≤ r) (h1 : r < 2) : absI (y * (1 - 2 * r)) = y := by
  have : r = 0 ∨ r = 1 := by omega
  unfold absI
  rcases this with rfl | rfl
  · rw [show y * (1 - 2 * 0) = y by omega, if_neg (by omega)]
  · rw [show y * (1 - 2 * 1) = -y by omega]
    split <;> omega
theorem pool_len (n : Nat) : (pool n).length = 2 * n := by unfold pool; rw [List.length_append, upto_len]; omega
theorem mem_pool {n : Nat} {i : Int} (h : i ∈ pool n) : 1 ≤ i ∧ i ≤ (n : Int) := by
  unfold pool at h
  rcases List.mem_append.mp h with h | h <;> (have := mem_upto.mp h; omega)
theorem sheet_ok {m : Nat} {os : List Int} (m1 : 1 ≤ m) (m6 : m ≤ 6) (h : (os.map absI).Perm (pool (3 * m))) : ShOk ((List.range (2 * m)).map fun k => (os.drop (3 * k)).take 3) := by
  have hl : os.length = 6 * m := by
    have := h.length_eq
    rw [List.length_map, pool_len] at this
    omega
  have lS : ((List.range (2 * m)).map fun k => (os.drop (3 * k)).take 3).length = 2 * m := by rw [List.length_map, List.length_range]
  refine ⟨⟨m, lS, m1, m6⟩, fun t ht => ?_, ?_⟩
  · obtain ⟨k, hk, rfl⟩ := List.mem_map.mp ht
    have hk := List.mem_range.mp hk
    rw [List.length_take, List.length_drop]
    omega
  · rw [chunks, List.take_of_length_le (by omega), lS]
    rw [show 2 * m / 2 * 3 = 3 * m by omega]
    exact h
end L2
set_option Elab.async false
set_option linter.all false
set_option maxRecDepth 100000
set_option maxHeartbeats 1000000
namespace L2
open PySem PySem.Spec PyProof.Rows
theorem three3 {α : Type} {xs : List α} (h : xs.length = 3) : ∃ a b c, xs = [a, b, c] := by
  match xs, h with
  | [a, b, c], _ => exact ⟨a, b, c, rfl⟩
theorem upto_succ (lo : Int) (n : Nat) : upto lo (n + 1) = upto lo n ++ [lo + (n : Int)] := by unfold upto; rw [List.range_succ, List.map_append]; rfl
theorem count_upto (t : Int) : ∀ n : Nat, (upto 1 n).countP (fun z => decide (z = t)) = if 1 ≤ t ∧ t ≤ (n : Int) then 1 else 0
  | 0 => by rw [if_neg (by omega)]; rfl
  | n + 1 => by
    rw [upto_succ, List.countP_append, count_upto t n]
    by_cases h : (1 : Int) + (n : Int) = t
    · rw [if_neg (by omega), if_pos (by omega)]
      simp [h]
    · have e : List.countP (fun z => decide (z = t)) [(1 : Int) + (n : Int)] = 0 := by simp [h]
      rw [e]
      by_cases q : 1 ≤ t ∧ t ≤ (n : Int)
      · rw [if_pos q, if_pos (by omega)]
      · rw [if_neg q, if_neg (by omega)]
theorem count_pool (t : Int) (n : Nat) : (pool n).countP (fun z => decide (z = t)) = if 1 ≤ t ∧ t ≤ (n : Int) then 2 else 0 := by
  unfold pool
  rw [List.countP_append, count_upto]
  split <;> rfl
end L2
set_option Elab.async false
set_option linter.all false
set_option maxRecDepth 100000
set_option maxHeartbeats 1000000
namespace L2
open PySem PySem.Spec PyProof.Rows
theorem ShOk.side {S : List (List Int)} (h : ShOk S) {t : List Int} (ht : t ∈ S) {i : Int} (hi : i ∈ t) : 1 ≤ absI i ∧ absI i ≤ ((S.length / 2 * 3 : Nat) : Int) := by
  have : absI i ∈ pool (S.length / 2 * 3) := h.ties.subset (List.mem_map_of_mem (List.mem_flatten.mpr ⟨t, ht, hi⟩))
  exact mem_pool this
theorem ShOk.len {S : List (List Int)} (h : ShOk S) : 2 ≤ S.length ∧ S.length ≤ 12 ∧ S.length % 2 = 0 := by
  obtain ⟨m, a, b, c⟩ := h.even
  omega
end L2
set_option linter.all false
namespace L2
inductive Conn {α : Type} (R : α → α → Prop) : α → α → Prop where
  | refl (a : α) : Conn R a a
  | step {a b c : α} : Conn R a b → R b c → Conn R a c
section
variable {α β : Type} {R : α → α → Prop}
theorem Conn.trans {a b c : α} (h : Conn R a b) (k : Conn R b c) : Conn R a c := by
  induction k with
  | refl => exact h
  | step _ r ih => exact .step ih r
theorem Conn.one {a b : α} (h : R a b) : Conn R a b := .step (.refl a) h
theorem Conn.symm (hs : ∀ a b, R a b → R b a) {a b : α} (h : Conn R a b) : Conn R b a := by
  induction h with
  | refl => exact .refl _
  | step _ r ih => exact (Conn.one (hs _ _ r)).trans ih
theorem Conn.closed {P : α → Prop} (hp : ∀ a b, P a → R a b → P b) {a b : α} (h : Conn R a b) (ha : P a) : P b := by
  induction h with
  | refl => exact ha
  | step _ r ih => exact hp _ _ ih r
structure Parts (R : α → α → Prop) (ts : List α) (hs : List (List α)) : Prop where
  perm : hs.flatten.Perm ts
  ne : ∀ h ∈ hs, h ≠ []
  conn : ∀ h ∈ hs, ∀ x ∈ h, ∀ y ∈ h, Conn R x y
  closed : ∀ h ∈ hs, ∀ x ∈ h, ∀ y, R x y → y ∈ h
theorem Parts.nil : Parts R [] [] := ⟨.refl _, fun _ h => (by cases h), fun _ h => (by cases h), fun _ h => (by cases h)⟩
theorem Parts.mem {ts : List α} {hs : List (List α)} (p : Parts R ts hs) {x : α} (hx : x ∈ ts) : ∃ h ∈ hs, x ∈ h := by
  have := p.perm.symm.subset hx
  obtain ⟨h, h1, h2⟩ := List.mem_flatten.mp this
  exact ⟨h, h1, h2⟩
theorem Parts.class {ts : List α} {hs : List (List α)} (p : Parts R ts hs) {h : List α} (hh : h ∈ hs) {x : α} (hx : x ∈ h) (y : α) : y ∈ h ↔ Conn R x y :=
  ⟨fun hy => p.conn h hh x hx y hy, fun c => c.closed (P := fun z => z ∈ h) (fun a b ha r => p.closed h hh a ha b r) hx⟩
theorem Parts.ts {ts us : List α} {hs : List (List α)} (p : Parts R ts hs) (q : ts.Perm us) : Parts R us hs := ⟨p.perm.trans q, p.ne, p.conn, p.closed⟩
theorem perm_of_mem {a b : List α} [DecidableEq α] (ha : a.Nodup) (hb : b.Nodup) (h : ∀ x, x ∈ a ↔ x ∈ b) : a.Perm b := by
  rw [List.perm_iff_count]
  intro x
  by_cases hx : x ∈ a
  · rw [ha.count, if_pos hx, hb.count, if_pos ((h x).mp hx)]
  · rw [List.count_eq_zero.mpr hx, List.count_eq_zero.mpr fun z => hx ((h x).mpr z)]
theorem flat_nodup : ∀ {hs : List (List α)}, hs.flatten.Nodup → ∀ {h : List α}, h ∈ hs → h.Nodup
  | [], _, _, hh => by cases hh
  | a :: hs, n, h, hh => by
    rw [List.flatten_cons, List.nodup_append] at n
    rcases List.mem_cons.mp hh with e | e
    · rw [e]; exact n.1
    · exact flat_nodup n.2.1 e
theorem Parts.same [DecidableEq α] {ts : List α} {hs gs : List (List α)} (p : Parts R ts hs) (q : Parts R ts gs) (n : ts.Nodup) {h : List α} (hh : h ∈ hs) : ∃ g ∈ gs, h.Perm g := by
  cases e : h with
  | nil => exact absurd e (p.ne h hh)
  | cons x t =>
    have hx : x ∈ h := by rw [e]; exact List.mem_cons_self
    obtain ⟨g, hg, xg⟩ := q.mem (p.perm.subset (List.mem_flatten.mpr ⟨h, hh, hx⟩))
    refine ⟨g, hg, ?_⟩
    rw [← e]
    exact perm_of_mem (flat_nodup (p.perm.nodup_iff.mpr n) hh) (flat_nodup (q.perm.nodup_iff.mpr n) hg) fun y => by rw [p.class hh hx, q.class hg xg]
end
end L2
set_option Elab.async false
set_option linter.all false
set_option maxRecDepth 100000
set_option maxHeartbeats 1000000
namespace L2
open PySem PySem.Spec PyProof.Rows
inductive Itm (H : Hp) : Bool → V → List Int → Prop where
  | int (i : Int) : Itm H false (.int i) [i]
  | tup {a : Addr} {u : List Int} : H a = some (.tup (u.map V.int)) → Itm H true (.ref a) u
def ItL (H : Hp) (tp : Bool) (xs : List V) (us : List (List Int)) : Prop := xs.length = us.length ∧ ∀ (i : Nat) (x : V) (u : List Int), xs[i]? = some x → us[i]? = some u → Itm H tp x u
theorem Itm.up {H H' : Hp} {tp : Bool} {x : V} {u : List Int} (h : Itm H tp x u) (t : Tups H H') : Itm H' tp x u := by
  cases h with
  | int i => exact .int i
  | tup e => exact .tup (t _ _ e)
theorem ItL.up {H H' : Hp} {tp : Bool} {xs : List V} {us : List (List Int)} (h : ItL H tp xs us) (t : Tups H H') : ItL H' tp xs us := ⟨h.1, fun i x u h1 h2 => (h.2 i x u h1 h2).up t⟩
theorem ItL.nil (H : Hp) (tp : Bool) : ItL H tp [] [] := ⟨rfl, fun i x u h => by cases h⟩
theorem ItL.cons {H : Hp} {tp : Bool} {x : V} {u : List Int} {xs : List V} {us : List (List Int)} (a : Itm H tp x u) (h : ItL H tp xs us) : ItL H tp (x :: xs) (u :: us) := by
  refine ⟨by simp [h.1], fun i y v h1 h2 => ?_⟩
  cases i with
  | zero => cases h1; cases h2; exact a
  | succ i => exact h.2 i y v (by simpa using h1) (by simpa using h2)
theorem ItL.head {H : Hp} {tp : Bool} {x : V} {u : List Int} {xs : List V} {us : List (List Int)} (h : ItL H tp (x :: xs) (u :: us)) : Itm H tp x u := h.2 0 x u rfl rfl
theorem ItL.tail {H : Hp} {tp : Bool} {x : V} {u : List Int} {xs : List V} {us : List (List Int)} (h : ItL H tp (x :: xs) (u :: us)) : ItL H tp xs us :=
  ⟨by simpa using h.1, fun i y v h1 h2 => h.2 (i + 1) y v (by simpa using h1) (by simpa using h2)⟩
theorem ItL.append {H : Hp} {tp : Bool} {xs ys : List V} {us vs : List (List Int)} (h : ItL H tp xs us) (k : ItL H tp ys vs) : ItL H tp (xs ++ ys) (us ++ vs) := by
  refine ⟨by simp [h.1, k.1], fun i x u h1 h2 => ?_⟩
  by_cases c : i < xs.length
  · rw [List.getElem?_append_left c] at h1
    rw [List.getElem?_append_left (h.1 ▸ c)] at h2
    exact h.2 i x u h1 h2
  · rw [List.getElem?_append_right (by omega)] at h1
    rw [List.getElem?_append_right (by rw [← h.1]; omega), ← h.1] at h2
    exact k.2 _ x u h1 h2
theorem ItL.erase {H : Hp} {tp : Bool} {xs : List V} {us : List (List Int)} (h : ItL H tp xs us) (n : Nat) : ItL H tp (xs.eraseIdx n) (us.eraseIdx n) := by
  refine ⟨by rw [List.length_eraseIdx, List.length_eraseIdx, h.1], fun i x u h1 h2 => ?_⟩
  rw [List.getElem?_eraseIdx] at h1 h2
  split at h1
  · rename_i c; rw [if_pos c] at h2; exact h.2 i x u h1 h2
  · rename_i c; rw [if_neg c] at h2; exact h.2 _ x u h1 h2
theorem ItL.at {H : Hp} {tp : Bool} {xs : List V} {us : List (List Int)} (h : ItL H tp xs us) {i : Nat} {u : List Int} (e : us[i]? = some u) : ∃ x, xs[i]? = some x ∧ Itm H tp x u := by
  have il : i < xs.length := by rw [h.1]; exact (List.getElem?_eq_some_iff.mp e).1
  exact ⟨xs[i], List.getElem?_eq_getElem il, h.2 i _ u (List.getElem?_eq_getElem il) e⟩
theorem TuL.it {H : Hp} {xs : List V} {us : List (List Int)} (h : TuL H xs us) : ItL H true xs us := ⟨h.1, fun i x u h1 h2 => by
  obtain ⟨a, rfl, e⟩ := h.2 i x u h1 h2
  exact .tup e⟩
theorem ItL.tu {H : Hp} {xs : List V} {us : List (List Int)} (h : ItL H true xs us) : TuL H xs us := ⟨h.1, fun i x u h1 h2 => by
  cases h.2 i x u h1 h2 with
  | tup e => exact ⟨_, rfl, e⟩⟩
inductive ItV (h : Heap) : Bool → Value → List Int → Prop where
  | int (i : Int) (t : Tok) : ItV h false (.int i t) [i]
  | tup {v : Value} {u : List Int} : TupI h v u → ItV h true v u
def cdV (tp : Bool) (h : Heap) (v : Value) : List Int := if tp then kfI h v else [vInt v]
theorem ItV.cd {h : Heap} {tp : Bool} {v : Value} {u : List Int} (x : ItV h tp v u) : cdV tp h v = u := by
  cases x with
  | int i t => rfl
  | tup t => exact t.kf
theorem it_of {X : Cx} {pins : List (Addr × Obj)} {σ : L2.St} {H : Hp} {s : Shared} (I : Inv X pins σ H s) {tp : Bool} {x : V} {u : List Int} (h : Itm H tp x u) {v : Value} (r : RelV x v) : ItV s.heap tp v u := by
  cases h with
  | int i => obtain ⟨t, rfl⟩ := r; exact .int i t
  | tup e => cases r; exact .tup (tup_of I e)
theorem its_of {X : Cx} {pins : List (Addr × Obj)} {σ : L2.St} {H : Hp} {s : Shared} (I : Inv X pins σ H s) {tp : Bool} : ∀ {xs : List V} {vs : List Value} {us : List (List Int)}, Vals xs vs → ItL H tp xs us → vs.length = us.length ∧ ∀ (i : Nat) (v : Value) (u : List Int), vs[i]? = some v → us[i]? = some u → ItV s.heap tp v u
  | _, _, us, .nil, h => by
    have := h.1
    refine ⟨by simpa using this, fun i v u e => by cases e⟩
  | _, _, [], .cons r t, h => by have := h.1; simp at this
  | _, _, u :: us, .cons r t, h => by
    obtain ⟨l, k⟩ := its_of I t h.tail
    refine ⟨by simp [l], fun i v w e1 e2 => ?_⟩
    cases i with
    | zero => cases e1; cases e2; exact it_of I h.head r
    | succ i => exact k i v w (by simpa using e1) (by simpa using e2)
section
variable {prog : Program} {w : World} {A : Around} {E : Value → Shared → Prop} {s : Shared}
theorem ItV.eq {tp : Bool} {x y : Value} {u v : List Int} (hu : A.units < cLine) (hx : ItV s.heap tp x u) (hy : ItV s.heap tp y v) : SeqAt.EqAt A s x y (decide (u = v)) := by
  cases hx with
  | int i t =>
    cases hy with
    | int j t' =>
      have := SeqAt.EqAt.int_int (A := A) (s := s) i t j t'
      have e : (i == j) = decide ([i] = [j]) := by
        by_cases z : i = j <;> simp [z]
      rw [e] at this
      exact this
  | tup tx =>
    cases hy with
    | tup ty =>
      obtain ⟨p, op, ip, np, rfl, g1, g2, g3, g4⟩ := tx
      obtain ⟨q, oq, iq, nq, rfl, k1, k2, k3, k4⟩ := ty
      intro prog w E Q hQ
      exact wpAny_eqBool_tuple (knd := intKind prog w) hu ⟨op, ip, np, g1, g2, g3, ints_items g4⟩ ⟨oq, iq, nq, k1, k2, k3, ints_items k4⟩ hQ
end
end L2
set_option Elab.async false
set_option linter.all false
set_option maxRecDepth 100000
set_option maxHeartbeats 1000000
namespace L2
open PySem PySem.Spec PyProof.Rows
section
variable {prog : Program} {w : World} {A : Around} {E : Value → Shared → Prop} {s : Shared}
section
open PySem.SeqAt
open PySem.AutoSeq1 (wpAny_loadPart')
open PySem.MeetsSeq PySem.MeetsSeq2 PySem.MeetsSeq3
theorem remove_at (l : Addr) (items : Array Value) (n : Nat) (dd : Option Addr) (sl : Array (Option Value)) (x : Value) (e : Value → Bool) (j : Nat) (hj : j < items.size) (hit : e items[j] = true) (k : Nat) (hs1 : items.size ≤ sizeLine) :
    ∀ i : Nat, j - i = k → i ≤ j → (∀ m (hm : m < items.size), i ≤ m → m < j → e items[m] = false) → Meets (Builtin.«list.remove.loop» ⟨[.ref l, x, rawInt i], []⟩)
      (fun A R s => s.heap.get? l = some { cls := .type "list", dict := dd, data := .seq items n, slots := sl } ∧ (∀ y, y ∈ items → EqAt A.in1 s y x (e y)) ∧ R (.ok (.ret .none)) { s with heap := s.heap.update l (Obj.mapSeq fun xs => xs.eraseIdxIfInBounds j) }) := by
  induction k with
  | zero =>
    intro i hk hij hno prog w A R st hh
    obtain ⟨hp, g, d, tk, os⟩ := st
    obtain ⟨hl, he, hR⟩ := hh
    obtain rfl : i = j := by omega
    wp_walk using wpAny_loadPart' hl
    rw [show items[((i : Nat) : Int).toNat]? = some items[i] by simp [hj]]
    refine wpAny_bind (he _ (Array.getElem_mem hj) prog w _ _ ?_)
    rw [hit]
    have hz : (items.eraseIdxIfInBounds i).size ≤ sizeLine + 1 := Nat.le_trans (size_erased items _) (Nat.le_succ_of_le hs1)
    wp_walk using (wpAny_updateSeq hl rfl (hz := hs1) (_hz' := hz)), wpAny_loadPart' hl
    simpa using hR
  | succ k ih =>
    intro i hk hij hno prog w A R st hh
    obtain ⟨hp, g, d, tk, os⟩ := st
    obtain ⟨hl, he, hR⟩ := hh
    have il : i < items.size := by omega
    wp_walk using wpAny_loadPart' hl
    rw [show items[((i : Nat) : Int).toNat]? = some items[i] by simp [il]]
    refine wpAny_bind (he _ (Array.getElem_mem il) prog w _ _ ?_)
    rw [hno i il (Nat.le_refl _) (by omega)]
    wp_walk
    rw [show ((i : Int) + 1) = ((i + 1 : Nat) : Int) by push_cast; rfl]
    refine ⟨plainId_quiet plain_remove_loop _, codeAny_builtin entry_remove_loop ?_⟩
    rw [Around.under_plainId plain_remove_loop _]
    exact ih (i + 1) (by omega) (by omega) (fun m hm h1 h2 => hno m hm (by omega) h2) prog w A R _ ⟨hl, he, hR⟩
theorem list_removeAt (l : Addr) (items : Array Value) (n : Nat) (dd : Option Addr) (sl : Array (Option Value)) (x : Value) (e : Value → Bool) (j : Nat) (hj : j < items.size) (hit : e items[j] = true) (hno : ∀ m (hm : m < items.size), m < j → e items[m] = false) (hs1 : items.size ≤ sizeLine) :
    Meets (Builtin.«list.remove» ⟨[.ref l, x], []⟩)
      (fun A R s => s.heap.get? l = some { cls := .type "list", dict := dd, data := .seq items n, slots := sl } ∧ (∀ y, y ∈ items → EqAt A.in1 s y x (e y)) ∧ R (.ok (.ret .none)) { s with heap := s.heap.update l (Obj.mapSeq fun xs => xs.eraseIdxIfInBounds j) }) := by
  intro prog w A R st hh
  obtain ⟨hp, g, d, tk, os⟩ := st
  obtain ⟨hl, he, hR⟩ := hh
  wp_walk using wpAny_loadPart' hl
  refine ⟨plainId_quiet plain_remove_loop _, codeAny_builtin entry_remove_loop ?_⟩
  rw [Around.under_plainId plain_remove_loop _]
  exact remove_at l items n dd sl x e j hj hit _ hs1 0 rfl (Nat.zero_le _) (fun m hm _ h2 => hno m hm h2) prog w A R _ ⟨hl, he, hR⟩
end
end
end L2
set_option Elab.async false
set_option linter.all false
set_option maxRecDepth 100000
set_option maxHeartbeats 1000000
namespace L2
open PySem PySem.Spec PyProof.Rows
def LsL (H : Hp) (tp : Bool) (ys : List V) (uss : List (List (List Int))) : Prop := ys.length = uss.length ∧ ∀ (i : Nat) (y : V) (us : List (List Int)), ys[i]? = some y → uss[i]? = some us → ∃ (a : Addr) (xs : List V), y = .ref a ∧ H a = some (.lst xs) ∧ ItL H tp xs us
theorem LsL.up {H H' : Hp} {tp : Bool} {ys : List V} {uss : List (List (List Int))} (h : LsL H tp ys uss) (s : Same H H') : LsL H' tp ys uss := ⟨h.1, fun i y us h1 h2 => by
  obtain ⟨a, xs, rfl, e, k⟩ := h.2 i y us h1 h2
  exact ⟨a, xs, rfl, s _ _ e, k.up s.tups⟩⟩
theorem LsL.nil (H : Hp) (tp : Bool) : LsL H tp [] [] := ⟨rfl, fun i x u h => by cases h⟩
theorem LsL.snoc {H : Hp} {tp : Bool} {ys xs : List V} {uss : List (List (List Int))} {us : List (List Int)} {a : Addr} (h : LsL H tp ys uss) (ha : H a = some (.lst xs)) (k : ItL H tp xs us) : LsL H tp (ys ++ [.ref a]) (uss ++ [us]) := by
  refine ⟨by simp [h.1], fun i y vs h1 h2 => ?_⟩
  by_cases il : i < ys.length
  · rw [List.getElem?_append_left il] at h1
    rw [List.getElem?_append_left (h.1 ▸ il)] at h2
    exact h.2 i y vs h1 h2
  · rw [List.getElem?_append_right (by omega)] at h1
    rw [List.getElem?_append_right (by rw [← h.1]; omega), ← h.1] at h2
    cases e : i - ys.length with
    | zero =>
      rw [e] at h1 h2
      cases h1
      cases h2
      exact ⟨a, xs, rfl, ha, k⟩
    | succ j => rw [e] at h1; cases h1
section
variable {X : Cx} {pins : List (Addr × Obj)} {σ : L2.St} {H : Hp} {s : Shared}
def rInC (K : PySem.W.Frag) (tp : Bool) : R2 := fun x y H Q => ∃ p xs u us, y = .ref p ∧ SqL K H p xs ∧ Itm H tp x u ∧ ItL H tp xs us ∧ Q (.bl (decide (u ∈ us))) H
theorem op_inC (tp : Bool) {k : Nat} (hr : Room k X.A) : OpR X (compareOp .In) (rInC X.K tp) := by
  intro pins s σ H x y v v' Q I rx ry h
  obtain ⟨p, xs, u, us, rfl, hp, hx, hL, q⟩ := h
  cases ry
  obtain ⟨its, rv, pl, hz⟩ := I.list hp
  have hv := it_of I hx rx
  obtain ⟨l, at'⟩ := its_of I rv hL
  have hu := hr.un
  refine SeqAt.in_listAt (fun z => decide (cdV tp s.heap z = u)) pl.isList (fun z hz => ?_) ⟨.bl _, H, I, rfl, ?_⟩
  · obtain ⟨i, hi⟩ := List.mem_iff_getElem?.mp (by simpa using hz)
    have il := (List.getElem?_eq_some_iff.mp hi).1
    have hz' := at' i z _ hi (List.getElem?_eq_getElem (by omega))
    rw [hz'.cd]
    exact ItV.eq (by show X.A.units + 1 < cLine; omega) hz' hv
  · have cvs : its.map (cdV tp s.heap) = us := by
      apply List.ext_getElem?
      intro i
      rw [List.getElem?_map]
      cases z : its[i]? with
      | none => rw [List.getElem?_eq_none (by have := List.getElem?_eq_none_iff.mp z; omega)]; rfl
      | some w' =>
        have il := (List.getElem?_eq_some_iff.mp z).1
        have e2 := List.getElem?_eq_getElem (show i < us.length by omega)
        rw [e2]
        show some (cdV tp s.heap w') = some _
        rw [(at' i w' _ z e2).cd]
    have e : (its.toArray.any fun z => decide (cdV tp s.heap z = u)) = decide (u ∈ us) := by
      rw [← cvs, List.any_toArray]
      rw [Bool.eq_iff_iff, List.any_eq_true, decide_eq_true_iff, List.mem_map]
      exact ⟨fun ⟨a, b, c⟩ => ⟨a, b, of_decide_eq_true c⟩, fun ⟨a, b, c⟩ => ⟨a, b, decide_eq_true c⟩⟩
    rw [e]
    exact q
def rRemC (tp : Bool) : V → List V → Hp → VK → Prop := fun x vs H Q => ∃ (l : Addr) (y : V) (xs : List V) (u : List Int) (us : List (List Int)) (j : Nat), x = .ref l ∧ vs = [y] ∧ H l = some (.lst xs) ∧ Itm H tp y u ∧ ItL H tp xs us ∧ us[j]? = some u ∧ (∀ m, m < j → us[m]? ≠ some u) ∧ Q .non (upd H l (.lst (xs.eraseIdx j)))
theorem mt_remC (tp : Bool) {k : Nat} (hr : Room k X.A) : MtM X "list.remove" (rRemC tp) := by
  intro pins s σ H x vs v ws Q I rx rv0 h
  obtain ⟨l, y, xs, u, us, j, rfl, rfl, hH, hy, hL, ej, hno, q⟩ := h
  cases rx
  obtain ⟨w', rfl, ry⟩ := vals1 rv0
  obtain ⟨z, its, n, r, hl, e⟩ := I.lstM hH
  have hv := it_of I hy ry
  obtain ⟨ll, at'⟩ := its_of I r hL
  have hu := hr.un
  have jl : j < us.length := (List.getElem?_eq_some_iff.mp ej).1
  have cd : ∀ m (hm : m < its.length), cdV tp s.heap its[m] = us[m]'(by omega) := fun m hm => (at' m _ _ (List.getElem?_eq_getElem hm) (List.getElem?_eq_getElem (by omega))).cd
  refine call_meets F.slot_list_remove ⟨_, e, rfl⟩ F.entry_list_remove (F.args_list_remove_2 _ _) (list_removeAt l its.toArray n none #[] w' (fun z => decide (cdV tp s.heap z = u)) j (by simp; omega) ?_ (fun m hm mj => ?_) (by rw [List.size_toArray, ← hl]; exact z)) ⟨e, fun z hz => ?_, ?_⟩
  · refine decide_eq_true ?_
    have := cd j (by omega)
    rw [List.getElem_toArray, this]
    rw [List.getElem?_eq_getElem jl] at ej
    exact Option.some.inj ej
  · refine decide_eq_false fun q' => ?_
    have hm' : m < its.length := by simpa using hm
    rw [List.getElem_toArray, cd m hm'] at q'
    exact hno m mj (by rw [List.getElem?_eq_getElem (by omega), q'])
  · obtain ⟨i, hi⟩ := List.mem_iff_getElem?.mp (show z ∈ its by simpa using hz)
    have il := (List.getElem?_eq_some_iff.mp hi).1
    have hz' := at' i z _ hi (List.getElem?_eq_getElem (by omega))
    rw [hz'.cd]
    exact ItV.eq (by show X.A.units + 1 < cLine; omega) hz' hv
  · refine ⟨.non, _, I.lset (its' := its.eraseIdx j) hH e ?_ (r.eraseIdx j) ?_, rfl, q⟩
    · show its.toArray.eraseIdxIfInBounds j = (its.eraseIdx j).toArray
      rw [List.eraseIdxIfInBounds_toArray]
    · have := len_erase xs j
      omega
end
end L2
set_option Elab.async false
set_option linter.all false
set_option maxRecDepth 100000
set_option maxHeartbeats 1000000
namespace L2
open PySem PySem.Spec PyProof.Rows
def datC (tp : Bool) (u : List Int) : PyData := if tp then dT u else .int (u.headD 0)
theorem Itm.di {K : PySem.W.Frag} {H : Hp} {tp : Bool} {x : V} {u : List Int} (h : Itm H tp x u) : DI K H x (datC tp u) := by
  cases h with
  | int i => exact .int i
  | tup e => exact ((ThL.ints u).tup e).di
theorem ItL.di {K : PySem.W.Frag} {H : Hp} {tp : Bool} {a : Addr} {xs : List V} {us : List (List Int)} (h : ItL H tp xs us) (ha : SqL K H a xs) : DI K H (.ref a) (.list (us.map (datC tp))) := by
  refine .lst ha (by rw [List.length_map]; exact h.1) fun i x d h1 h2 => ?_
  rw [List.getElem?_map] at h2
  cases z : us[i]? with
  | none => rw [z] at h2; cases h2
  | some u => rw [z] at h2; cases h2; exact (h.2 i x u h1 z).di
theorem lay_C (tp : Bool) (u : List Int) : (datC tp u).canLay0 = true := by
  cases tp with
  | false => rfl
  | true => have := lay_dTs [u]; simpa [dTs, PyData.canLay0, PyData.canLayAll0, datC] using this
theorem dep_C (tp : Bool) (u : List Int) : (datC tp u).depth ≤ 1 := by
  cases tp with
  | false => exact Nat.zero_le _
  | true => show PyData.depthAll _ + 1 ≤ 1; rw [dep_ints]; decide
theorem lay_CL (tp : Bool) : ∀ us : List (List Int), PyData.canLayAll0 (us.map (datC tp)) = true
  | [] => rfl
  | u :: us => by show ((datC tp u).canLay0 && PyData.canLayAll0 (us.map (datC tp))) = true; rw [lay_C, lay_CL tp us]; rfl
theorem dep_CL (tp : Bool) : ∀ us : List (List Int), PyData.depthAll (us.map (datC tp)) ≤ 1
  | [] => Nat.zero_le _
  | u :: us => by show max (datC tp u).depth (PyData.depthAll (us.map (datC tp))) ≤ 1; have := dep_C tp u; have := dep_CL tp us; omega
theorem eqv_nilC (tp : Bool) (us : List (List Int)) : PyData.eqv (.list (us.map (datC tp))) (.list []) = decide (us = []) := by
  cases us with
  | nil => rfl
  | cons u us => rfl
theorem eqv_C {tp : Bool} {u v : List Int} (hu : tp = false → u.length = 1) (hv : tp = false → v.length = 1) : PyData.eqv (datC tp u) (datC tp v) = decide (u = v) := by
  cases tp with
  | true => exact eqv_dT u v
  | false =>
    match u, v, hu rfl, hv rfl with
    | [i], [j], _, _ =>
      show decide (i = j) = decide ([i] = [j])
      by_cases z : i = j <;> simp [z]
theorem Itm.one {H : Hp} {tp : Bool} {x : V} {u : List Int} (h : Itm H tp x u) : tp = false → u.length = 1 := fun e => by
  subst e
  cases h
  rfl
end L2
set_option Elab.async false
set_option linter.all false
set_option maxRecDepth 100000
set_option maxHeartbeats 1000000
namespace L2
open PySem PySem.Spec PyProof.Rows
theorem Same.nw {p : Addr} {H H' : Hp} {o : HO} (a : Same H H') (h : H' p = none) : Same H (upd H' p o) := fun c u e => by
  have := a c u e
  rw [upd_ne (ne_of_none this h)]; exact this
theorem Same.ow {p : Addr} {H H' : Hp} {o : HO} (a : Same H H') (h : H p = none) : Same H (upd H' p o) := fun c u e => by
  rw [upd_ne (ne_of_none e h)]; exact a c u e
def RL (L : List (List Int × List Int)) (u v : List Int) : Prop := (u, v) ∈ L ∨ (v, u) ∈ L
theorem RL.symm {L : List (List Int × List Int)} (u v : List Int) (h : RL L u v) : RL L v u := h.elim .inr .inl
structure HInv (L : List (List Int × List Int)) (ts : List (List Int)) (hs : List (List (List Int))) (us : List (List Int)) : Prop where
  perm : (hs.flatten ++ us).Perm ts
  ne : ∀ h ∈ hs, h ≠ []
  conn : ∀ h ∈ hs, ∀ x ∈ h, ∀ y ∈ h, Conn (RL L) x y
  closed : ∀ h ∈ hs, ∀ x ∈ h, ∀ y, RL L x y → y ∈ h
structure WInv (L : List (List Int × List Int)) (ts : List (List Int)) (hs : List (List (List Int))) (vs us : List (List Int)) : Prop where
  perm : (hs.flatten ++ (vs ++ us)).Perm ts
  ne : ∀ h ∈ hs, h ≠ []
  conn : ∀ h ∈ hs, ∀ x ∈ h, ∀ y ∈ h, Conn (RL L) x y
  closed : ∀ h ∈ hs, ∀ x ∈ h, ∀ y, RL L x y → y ∈ h
  vne : vs ≠ []
  vcon : ∀ x ∈ vs, ∀ y ∈ vs, Conn (RL L) x y
theorem HInv.start {L : List (List Int × List Int)} {ts : List (List Int)} {hs : List (List (List Int))} {x : List Int} {us : List (List Int)} (h : HInv L ts hs (x :: us)) : WInv L ts hs [x] us :=
  ⟨h.perm, h.ne, h.conn, h.closed, by simp, fun a ha b hb => by rw [List.mem_singleton.mp ha, List.mem_singleton.mp hb]; exact .refl _⟩
theorem WInv.take {L : List (List Int × List Int)} {ts : List (List Int)} {hs : List (List (List Int))} {vs us : List (List Int)} {x w : List Int} {j : Nat} (h : WInv L ts hs vs us) (hx : x ∈ vs) (r : RL L x w) (e : us[j]? = some w) : WInv L ts hs (vs ++ [w]) (us.eraseIdx j) := by
  refine ⟨List.Perm.trans (List.Perm.append_left _ ?_) h.perm, h.ne, h.conn, h.closed, by simp, fun a ha b hb => ?_⟩
  · rw [List.append_assoc]
    exact List.Perm.append_left _ (erase_permK e).symm
  · have cw : ∀ a ∈ vs ++ [w], Conn (RL L) x a := fun a ha => by
      rcases List.mem_append.mp ha with q | q
      · exact h.vcon x hx a q
      · rw [List.mem_singleton.mp q]; exact Conn.one r
    exact ((cw a ha).symm RL.symm).trans (cw b hb)
theorem WInv.fin {L : List (List Int × List Int)} {ts : List (List Int)} {hs : List (List (List Int))} {vs us : List (List Int)} (h : WInv L ts hs vs us) (nd : ts.Nodup) (inT : ∀ p ∈ L, p.1 ∈ ts ∧ p.2 ∈ ts) (pr : ∀ x ∈ vs, ∀ w, RL L x w → w ∉ us) : HInv L ts (hs ++ [vs]) us := by
  refine ⟨?_, ?_, ?_, ?_⟩
  · rw [List.flatten_append, List.append_assoc]
    simpa using h.perm
  · intro g hg
    rcases List.mem_append.mp hg with q | q
    · exact h.ne g q
    · rw [List.mem_singleton.mp q]; exact h.vne
  · intro g hg
    rcases List.mem_append.mp hg with q | q
    · exact h.conn g q
    · rw [List.mem_singleton.mp q]; exact h.vcon
  · intro g hg
    rcases List.mem_append.mp hg with q | q
    · exact h.closed g q
    · rw [List.mem_singleton.mp q]
      intro x hx w r
      have wt : w ∈ ts := by
        rcases r with r | r
        · exact (inT _ r).2
        · exact (inT _ r).1
      have n2 := h.perm.nodup_iff.mpr nd
      rw [List.nodup_append] at n2
      rcases List.mem_append.mp (h.perm.symm.subset wt) with m | m
      · obtain ⟨g', hg', wg⟩ := List.mem_flatten.mp m
        have xg := h.closed g' hg' w wg x (RL.symm _ _ r)
        exact absurd rfl (n2.2.2 x (List.mem_flatten.mpr ⟨g', hg', xg⟩) x (List.mem_append_left _ hx))
      · rcases List.mem_append.mp m with m | m
        · exact m
        · exact absurd m (pr x hx w r)
theorem HInv.parts {L : List (List Int × List Int)} {ts : List (List Int)} {hs : List (List (List Int))} (h : HInv L ts hs []) : Parts (RL L) ts hs :=
  ⟨by simpa using h.perm, h.ne, h.conn, h.closed⟩
def PaL (H : Hp) (tp : Bool) (ps : List V) (L : List (List Int × List Int)) : Prop := ps.length = L.length ∧ ∀ (i : Nat) (y : V) (p : List Int × List Int), ps[i]? = some y → L[i]? = some p → ∃ (q : Addr) (x z : V), y = .ref q ∧ H q = some (.tup [x, z]) ∧ Itm H tp x p.1 ∧ Itm H tp z p.2
theorem PaL.up {H H' : Hp} {tp : Bool} {ps : List V} {L : List (List Int × List Int)} (h : PaL H tp ps L) (t : Tups H H') : PaL H' tp ps L := ⟨h.1, fun i y p h1 h2 => by
  obtain ⟨q, x, z, rfl, e, a, b⟩ := h.2 i y p h1 h2
  exact ⟨q, x, z, rfl, t _ _ e, a.up t, b.up t⟩⟩
theorem PaL.nil (H : Hp) (tp : Bool) : PaL H tp [] [] := ⟨rfl, fun i x u h => by cases h⟩
theorem PaL.snoc {H : Hp} {tp : Bool} {ps : List V} {L : List (List Int × List Int)} {q : Addr} {x z : V} {u v : List Int} (h : PaL H tp ps L) (e : H q = some (.tup [x, z])) (a : Itm H tp x u) (b : Itm H tp z v) : PaL H tp (ps ++ [.ref q]) (L ++ [(u, v)]) := by
  refine ⟨by simp [h.1], fun i y p h1 h2 => ?_⟩
  by_cases il : i < ps.length
  · rw [List.getElem?_append_left il] at h1
    rw [List.getElem?_append_left (h.1 ▸ il)] at h2
    exact h.2 i y p h1 h2
  · rw [List.getElem?_append_right (by omega)] at h1
    rw [List.getElem?_append_right (by rw [← h.1]; omega), ← h.1] at h2
    cases z' : i - ps.length with
    | zero =>
      rw [z'] at h1 h2
      cases h1
      cases h2
      exact ⟨q, x, z, rfl, e, a, b⟩
    | succ j => rw [z'] at h1; cases h1
structure Hst (H0 H : Hp) (tp : Bool) (c l : Addr) (zs xs : List V) (hs : List (List (List Int))) (us : List (List Int)) : Prop where
  same : Same H0 H
  fc : H0 c = none
  fl : H0 l = none
  hc : H c = some (.lst zs)
  lz : LsL H tp zs hs
  hl : H l = some (.lst xs)
  il : ItL H tp xs us
  av : ∀ y ∈ zs, y ≠ .ref l
  ac : ∀ y ∈ zs, y ≠ .ref c
  cl : c ≠ l
structure Wst (H0 H : Hp) (tp : Bool) (c l p : Addr) (zs xs ys : List V) (hs : List (List (List Int))) (us vs : List (List Int)) : Prop extends Hst H0 H tp c l zs xs hs us where
  fp : H0 p = none
  hp : H p = some (.lst ys)
  ip : ItL H tp ys vs
  ap : ∀ y ∈ zs, y ≠ .ref p
  pc : p ≠ c
  pl : p ≠ l
theorem LsL.set {H : Hp} {tp : Bool} {ys xs zs : List V} {uss : List (List (List Int))} {l : Addr} (h : LsL H tp ys uss) (hl : H l = some (.lst xs)) (av : ∀ y ∈ ys, y ≠ .ref l) : LsL (upd H l (.lst zs)) tp ys uss := ⟨h.1, fun i y us h1 h2 => by
  obtain ⟨a, xs', rfl, e, k⟩ := h.2 i y us h1 h2
  have na : a ≠ l := fun z => av _ (List.mem_of_getElem? h1) (by rw [z])
  exact ⟨a, xs', rfl, by rw [upd_ne na]; exact e, k.up (Tups.lst (Tups.refl H) hl)⟩⟩
section
variable {H0 H : Hp} {tp : Bool} {c l p : Addr} {zs xs ys : List V} {hs : List (List (List Int))} {us vs : List (List Int)}
theorem Hst.nw {q : Addr} {o : HO} (h : Hst H0 H tp c l zs xs hs us) (hq : H q = none) : Hst H0 (upd H q o) tp c l zs xs hs us :=
  have s := Same.nw (o := o) (Same.refl H) hq
  ⟨h.same.trans s, h.fc, h.fl, s _ _ h.hc, h.lz.up s, s _ _ h.hl, h.il.up s.tups, h.av, h.ac, h.cl⟩
theorem Wst.nw {q : Addr} {o : HO} (h : Wst H0 H tp c l p zs xs ys hs us vs) (hq : H q = none) : Wst H0 (upd H q o) tp c l p zs xs ys hs us vs :=
  have s := Same.nw (o := o) (Same.refl H) hq
  ⟨h.toHst.nw hq, h.fp, s _ _ h.hp, h.ip.up s.tups, h.ap, h.pc, h.pl⟩
theorem Wst.rem (h : Wst H0 H tp c l p zs xs ys hs us vs) (j : Nat) : Wst H0 (upd H l (.lst (xs.eraseIdx j))) tp c l p zs (xs.eraseIdx j) ys hs (us.eraseIdx j) vs := by
  have t : Tups H (upd H l (.lst (xs.eraseIdx j))) := Tups.lst (Tups.refl H) h.hl
  exact ⟨⟨h.same.ow h.fl, h.fc, h.fl, by rw [upd_ne h.cl]; exact h.hc, h.lz.set h.hl h.av, upd_same, (h.il.erase j).up t, h.av, h.ac, h.cl⟩, h.fp, by rw [upd_ne h.pl]; exact h.hp, h.ip.up t, h.ap, h.pc, h.pl⟩
theorem Wst.app (h : Wst H0 H tp c l p zs xs ys hs us vs) {x : V} {w : List Int} (a : Itm H tp x w) : Wst H0 (upd H p (.lst (ys ++ [x]))) tp c l p zs xs (ys ++ [x]) hs us (vs ++ [w]) := by
  have t : Tups H (upd H p (.lst (ys ++ [x]))) := Tups.lst (Tups.refl H) h.hp
  exact ⟨⟨h.same.ow h.fp, h.fc, h.fl, by rw [upd_ne (Ne.symm h.pc)]; exact h.hc, h.lz.set h.hp h.ap, by rw [upd_ne (Ne.symm h.pl)]; exact h.hl, h.il.up t, h.av, h.ac, h.cl⟩, h.fp, upd_same, ((h.ip.append (ItL.cons a (ItL.nil H tp)))).up t, h.ap, h.pc, h.pl⟩
theorem Wst.fin (h : Wst H0 H tp c l p zs xs ys hs us vs) : Hst H0 (upd H c (.lst (zs ++ [.ref p]))) tp c l (zs ++ [.ref p]) xs (hs ++ [vs]) us := by
  have t : Tups H (upd H c (.lst (zs ++ [.ref p]))) := Tups.lst (Tups.refl H) h.hc
  have lz : LsL (upd H c (.lst (zs ++ [.ref p]))) tp zs hs := h.lz.set h.hc h.ac
  refine ⟨h.same.ow h.fc, h.fc, h.fl, upd_same, LsL.snoc lz (by rw [upd_ne h.pc]; exact h.hp) (h.ip.up t), by rw [upd_ne (Ne.symm h.cl)]; exact h.hl, h.il.up t, fun y hy => ?_, fun y hy => ?_, h.cl⟩
  · rcases List.mem_append.mp hy with q | q
    · exact h.av y q
    · rw [List.mem_singleton.mp q]
      intro e
      exact h.pl (V.ref.inj e)
  · rcases List.mem_append.mp hy with q | q
    · exact h.ac y q
    · rw [List.mem_singleton.mp q]
      intro e
      exact h.pc (V.ref.inj e)
end
def tHeaps (K : PySem.W.Frag) (tp : Bool) : TS :=
  tSeq (tAsg (tLst tNil) (gName 2))
  (tSeq (tAsg (tCB (fun xs H Q => ∃ p ys, xs = [V.ref p] ∧ (SqL K H p ys ∨ SqT K H p ys) ∧ ∀ (l : Addr), H l = none → Q (V.ref l) (upd H l (HO.lst ys))) (tCons (tVar 0) tNil)) (gName 3))
  (tSeq (tWhile (tTest (tOp (rEqD K fun b => !b) (tVar 3) (tLst tNil)))
    (tSeq (tAsg (tLst (tCons (tBM K "list" rPopAt (tVar 3) (tCons (tC (V.int 0)) tNil)) tNil)) (gName 4))
    (tSeq (tAsg (tC (V.int 0)) (gName 5))
    (tSeq (tWhile (tTest (tOp (rI0 fun i j => V.bl (decide (i < j))) (tVar 5) (tCB (fun xs H Q => ∃ p ys, xs = [V.ref p] ∧ (SqL K H p ys ∨ SqT K H p ys) ∧ Q (V.int ((ys.length : Nat) : Int)) H) (tCons (tVar 4) tNil))))
      (tSeq (tFor (iList K (tVar 1)) (gTup K 2 (gCons (gName 6) (gCons (gName 7) gNil)))
        (tFor (iTup K (tTup (tCons (tTup (tCons (tVar 6) (tCons (tVar 7) tNil))) (tCons (tTup (tCons (tVar 7) (tCons (tVar 6) tNil))) tNil)))) (gTup K 2 (gCons (gName 8) (gCons (gName 9) gNil)))
          (tIfS (tAnd (tTest (tOp (rEqD K fun b => b) (tVar 8) (tOp (rIxL K) (tVar 4) (tVar 5)))) (tTest (tOp (rInC K tp) (tVar 9) (tVar 3))))
            (tSeq (tDrop (tBM K "list" (rRemC tp) (tVar 3) (tCons (tVar 9) tNil))) (tDrop (tBM K "list" rAppend (tVar 4) (tCons (tVar 9) tNil)))) tNext)))
        (tAsg (tOp (rI0 fun i j => V.int (i + j)) (tVar 5) (tC (V.int 1))) (gName 5))))
      (tDrop (tBM K "list" rAppend (tVar 2) (tCons (tVar 4) tNil)))))))
    (tRet (tVar 2))))
theorem Hst.pop {H0 H : Hp} {tp : Bool} {c l : Addr} {zs xs : List V} {x : V} {hs : List (List (List Int))} {u : List Int} {us : List (List Int)} (h : Hst H0 H tp c l zs (x :: xs) hs (u :: us)) : Hst H0 (upd H l (.lst xs)) tp c l zs xs hs us ∧ Itm (upd H l (.lst xs)) tp x u := by
  have t : Tups H (upd H l (.lst xs)) := Tups.lst (Tups.refl H) h.hl
  exact ⟨⟨h.same.ow h.fl, h.fc, h.fl, by rw [upd_ne h.cl]; exact h.hc, h.lz.set h.hl h.av, upd_same, h.il.tail.up t, h.av, h.ac, h.cl⟩, h.il.head.up t⟩
theorem Hst.open {H0 H : Hp} {tp : Bool} {c l p : Addr} {zs xs : List V} {x : V} {hs : List (List (List Int))} {u : List Int} {us : List (List Int)} (h : Hst H0 H tp c l zs xs hs us) (i : Itm H tp x u) (hp : H p = none) : Wst H0 (upd H p (.lst [x])) tp c l p zs xs [x] hs us [u] := by
  have s := Same.nw (o := .lst [x]) (Same.refl H) hp
  refine ⟨h.nw hp, h.same.free hp, upd_same, (ItL.cons i (ItL.nil _ _)).up s.tups, fun y hy e => ?_, fun z => ?_, fun z => ?_⟩
  · obtain ⟨i, hi⟩ := List.mem_iff_getElem?.mp hy
    have il := (List.getElem?_eq_some_iff.mp hi).1
    obtain ⟨a, ys, ea, ha, _⟩ := h.lz.2 i y _ hi (List.getElem?_eq_getElem (by rw [← h.lz.1]; exact il))
    rw [ea] at e
    cases e
    rw [hp] at ha
    cases ha
  · rw [z, h.hc] at hp; cases hp
  · rw [z, h.hl] at hp; cases hp
theorem len_flat {α : Type} : ∀ {hs : List (List α)}, (∀ h ∈ hs, h ≠ []) → hs.length ≤ hs.flatten.length
  | [], _ => Nat.le_refl _
  | h :: hs, ne => by
    have ih := len_flat fun g hg => ne g (List.mem_cons_of_mem _ hg)
    have : 0 < h.length := List.length_pos_iff.mpr (ne h List.mem_cons_self)
    rw [List.flatten_cons, List.length_append, List.length_cons]
    omega
theorem nd_erase {us : List (List Int)} {w : List Int} {j : Nat} (nd : us.Nodup) (e : us[j]? = some w) : w ∉ us.eraseIdx j := fun m => by
  have p := (erase_permK e).nodup_iff.mp nd
  exact (List.nodup_cons.mp p).1 m
theorem idx_first {us : List (List Int)} {w : List Int} (h : w ∈ us) : ∃ j : Nat, us[j]? = some w ∧ ∀ m, m < j → us[m]? ≠ some w := by
  induction us with
  | nil => cases h
  | cons a us ih =>
    by_cases e : a = w
    · exact ⟨0, by rw [e]; rfl, fun m hm => absurd hm (Nat.not_lt_zero _)⟩
    · obtain ⟨j, h1, h2⟩ := ih (by rcases List.mem_cons.mp h with q | q; exact absurd q.symm e; exact q)
      refine ⟨j + 1, by simpa using h1, fun m hm => ?_⟩
      cases m with
      | zero => intro q; exact e (Option.some.inj q)
      | succ m => simpa using h2 m (by omega)
theorem heaps_reads {K : PySem.W.Frag} {tp : Bool} {H : Hp} {Q : VK} {Z : L2.St → Hp → Prop} {a b : Addr} {xs ps : List V} {ts : List (List Int)} {L : List (List Int × List Int)} (ha : H a = some (.lst xs)) (iT : ItL H tp xs ts) (hb : H b = some (.lst ps)) (iP : PaL H tp ps L) (nd : ts.Nodup) (sz : ts.length ≤ 1000) (inT : ∀ p ∈ L, p.1 ∈ ts ∧ p.2 ∈ ts)
    (k : ∀ (c : Addr) (zs : List V) (hs : List (List (List Int))) (H' : Hp), Same H H' → H c = none → H' c = some (.lst zs) → LsL H' tp zs hs → Parts (RL L) ts hs → Q (.ref c) H') : tHeaps K tp { nx := Z, rt := Q } [some (.ref a), some (.ref b), none, none, none, none, none, none, none, none] H := by
  refine ⟨(by show 0 ≤ sizeLine; decide), fun c hc => ?_⟩
  have s1 := Same.nw (o := .lst []) (Same.refl H) hc
  have fc : (upd H c (.lst [])) c = some (.lst []) := upd_same
  have acne : a ≠ c := ne_of_none ha hc
  generalize upd H c (.lst []) = H1 at s1 fc ⊢
  refine ⟨_, rfl, a, xs, rfl, .inl (SqL.of (s1 _ _ ha)), fun l hl => ?_⟩
  have s2 := Same.nw (o := .lst xs) s1 hl
  have st0 : Hst H (upd H1 l (.lst xs)) tp c l [] xs [] ts := ⟨s2, hc, s1.free hl, Same.nw (o := .lst xs) (Same.refl H1) hl _ _ fc, LsL.nil _ _, upd_same, iT.up s2.tups, fun y hy => (by cases hy), fun y hy => (by cases hy), ne_of_none fc hl⟩
  generalize upd H1 l (.lst xs) = H2 at st0 ⊢
  refine while_by (fun σ H' => ∃ (x4 x5 x6 x7 x8 x9 : Option V) (zs xs : List V) (hs : List (List (List Int))) (us : List (List Int)), σ = [some (.ref a), some (.ref b), some (.ref c), some (.ref l), x4, x5, x6, x7, x8, x9] ∧ Hst H H' tp c l zs xs hs us ∧ HInv L ts hs us) (fun σ H' => match H' l with | some (.lst xs) => xs.length | _ => 0) ⟨_, _, _, _, _, _, [], xs, [], ts, rfl, st0, ⟨List.Perm.refl _, fun _ h => (by cases h), fun _ h => (by cases h), fun _ h => (by cases h)⟩⟩ ?_ (fun σ H Q Q' h hc => by obtain ⟨v, e, z, k⟩ := hc; exact ⟨v, e, z, fun p hp => by obtain ⟨d1, d2, a1, a2, a3, a4, a5, b, eb, q⟩ := k p hp; exact ⟨d1, d2, a1, a2, a3, a4, a5, b, eb, h _ _ q⟩⟩)
  rintro σ H3 ⟨x4, x5, x6, x7, x8, x9, zs, xs, hs, us, rfl, st, inv⟩
  refine ⟨_, rfl, (by show 0 ≤ sizeLine; decide), fun z hz => ?_⟩
  have st4 := st.nw (o := .lst []) hz
  have hz4 : (upd H3 z (.lst [])) z = some (.lst []) := upd_same
  have s34 := Same.nw (o := .lst []) (Same.refl H3) hz
  generalize upd H3 z (.lst []) = H4 at st4 hz4 s34 ⊢
  refine ⟨_, _, st4.il.di (SqL.of st4.hl), (ItL.nil H4 tp).di (SqL.of hz4), lay_CL tp us, lay_CL tp [], Nat.le_trans (Nat.succ_le_succ (dep_CL tp us)) (by decide), _, rfl, ?_⟩
  have ev : PyData.eqv (.list (us.map (datC tp))) (.list (([] : List (List Int)).map (datC tp))) = decide (us = []) := eqv_nilC tp us
  rw [ev]
  have ul : xs.length = us.length := st.il.1
  have tl : us.length ≤ ts.length := by rw [← inv.perm.length_eq, List.length_append]; omega
  have hm3 := st.hl
  cases us with
  | nil =>
    refine iteF ⟨_, rfl, ?_⟩
    exact k c zs hs H4 st4.same hc st4.hc st4.lz inv.parts
  | cons u us =>
    refine iteT ?_
    cases xs with
    | nil => simp at ul
    | cons x xs =>
      refine ⟨_, rfl, .inl ⟨rfl, _, SqL.of st4.hl⟩, l, _, 0, 0, x, rfl, rfl, st4.hl, by decide, by decide, (by show seqIndex? 0 (xs.length + 1) = some 0; exact seqIndex_of (by decide) (by omega)), rfl, ?_⟩
      obtain ⟨st5, i5⟩ := st4.pop
      rw [show (x :: xs).eraseIdx 0 = xs from rfl]
      generalize upd H4 l (.lst xs) = H5 at st5 i5 ⊢
      refine ⟨(by show 1 ≤ sizeLine; decide), fun p hp => ?_⟩
      have st6 := st5.open i5 hp
      generalize upd H5 p (.lst [x]) = H6 at st6 ⊢
      have ul' : us.length < ts.length := by simp only [List.length_cons] at tl; omega
      have lxs : xs.length = us.length := by simpa using ul
      refine while_by (fun σ H' => ∃ (x6 x7 x8 x9 : Option V) (i : Nat) (xs ys : List V) (us' vs : List (List Int)), σ = [some (.ref a), some (.ref b), some (.ref c), some (.ref l), some (.ref p), some (.int (i : Int)), x6, x7, x8, x9] ∧ Wst H H' tp c l p zs xs ys hs us' vs ∧ WInv L ts hs vs us' ∧ i ≤ vs.length ∧ us'.length ≤ us.length ∧ (∀ m, m < i → ∀ x, vs[m]? = some x → ∀ w, RL L x w → w ∉ us')) (fun (σ : L2.St) (H' : Hp) => match σ[5]? with | some (some (V.int i)) => ts.length - i.toNat | _ => 0) ⟨_, _, _, _, 0, xs, [x], us, [u], rfl, st6, inv.start, Nat.zero_le _, Nat.le_refl _, fun m hm => absurd hm (Nat.not_lt_zero _)⟩ ?_ (fun σ H Q Q' h hc => by obtain ⟨v, e, v2, e2, q1, q2, a1, a2, q3, q4, a3, a4, b, eb, q⟩ := hc; exact ⟨v, e, v2, e2, q1, q2, a1, a2, q3, q4, a3, a4, b, eb, h _ _ q⟩)
      rintro σ H7 ⟨x6, x7, x8, x9, i, xs', ys, us', vs, rfl, w7, wi, iv, uu, pr⟩
      have yl : ys.length = vs.length := w7.ip.1
      have vl : vs.length + us'.length ≤ ts.length := by rw [← wi.perm.length_eq, List.length_append, List.length_append]; omega
      refine ⟨_, rfl, _, rfl, p, ys, rfl, .inl (SqL.of w7.hp), _, _, rfl, rfl, _, rfl, ?_⟩
      by_cases il : i < vs.length
      · have ev2 : decide ((i : Int) < ((ys.length : Nat) : Int)) = true := decide_eq_true (by omega)
        rw [ev2]
        refine iteT ?_
        have eu0 : vs[i]? = some vs[i] := List.getElem?_eq_getElem il
        generalize vs[i] = u0 at eu0
        refine ⟨_, rfl, b, rfl, ⟨_, SqL.of (w7.same _ _ hb)⟩, for_list (K := K) (a := b) (xs := ps) (fun n σ H' => ∃ (x6 x7 x8 x9 : Option V) (xs ys : List V) (us' vs : List (List Int)), σ = [some (.ref a), some (.ref b), some (.ref c), some (.ref l), some (.ref p), some (.int (i : Int)), x6, x7, x8, x9] ∧ Wst H H' tp c l p zs xs ys hs us' vs ∧ WInv L ts hs vs us' ∧ vs[i]? = some u0 ∧ us'.length ≤ us.length ∧ (∀ m, m < i → ∀ x, vs[m]? = some x → ∀ w, RL L x w → w ∉ us') ∧ (∀ q ∈ L.take n, (q.1 = u0 → q.2 ∉ us') ∧ (q.2 = u0 → q.1 ∉ us'))) ⟨_, _, _, _, xs', ys, us', vs, rfl, w7, wi, eu0, uu, pr, fun q hq => (by rw [List.take_zero] at hq; cases hq)⟩ (fun n σ H' _ h => by obtain ⟨_, _, _, _, _, _, _, _, _, w', _⟩ := h; exact SqL.of (w'.same _ _ hb)) ?_ ?_⟩
        · rintro n y σ H8 hy ⟨x6, x7, x8, x9, xs8, ys8, us8, vs8, rfl, w8, wi8, eu8, uu8, pr8, pp8⟩
          have nl : n < L.length := by rw [← iP.1]; exact (List.getElem?_eq_some_iff.mp hy).1
          have eL : L[n]? = some L[n] := List.getElem?_eq_getElem nl
          obtain ⟨q, x1, z1, rfl, hq, ix, iz⟩ := (iP.up w8.same.tups).2 n y _ hy eL
          generalize L[n] = pq at eL ix iz
          refine ⟨q, _, rfl, SqT.of hq, rfl, _, _, rfl, _, _, rfl, rfl, ?_⟩
          refine ⟨_, rfl, _, rfl, (by show 2 ≤ sizeLine; decide), fun t1 ht1 => ?_⟩
          have w9 := w8.nw (o := .tup [x1, z1]) ht1
          have f1 : (upd H8 t1 (.tup [x1, z1])) t1 = some (.tup [x1, z1]) := upd_same
          have s9 := Same.nw (o := .tup [x1, z1]) (Same.refl H8) ht1
          generalize upd H8 t1 (.tup [x1, z1]) = H9 at w9 f1 s9 ⊢
          refine ⟨_, rfl, _, rfl, (by show 2 ≤ sizeLine; decide), fun t2 ht2 => ?_⟩
          have wA := w9.nw (o := .tup [z1, x1]) ht2
          have f2 : (upd H9 t2 (.tup [z1, x1])) t2 = some (.tup [z1, x1]) := upd_same
          have sA := Same.nw (o := .tup [z1, x1]) (Same.refl H9) ht2
          generalize upd H9 t2 (.tup [z1, x1]) = HA at wA f2 sA ⊢
          refine ⟨(by show 2 ≤ sizeLine; decide), fun t3 ht3 => ?_⟩
          have wB := wA.nw (o := .tup [.ref t1, .ref t2]) ht3
          have f3 : (upd HA t3 (.tup [.ref t1, .ref t2])) t3 = some (.tup [.ref t1, .ref t2]) := upd_same
          have sB := Same.nw (o := .tup [.ref t1, .ref t2]) (Same.refl HA) ht3
          generalize upd HA t3 (.tup [.ref t1, .ref t2]) = HB at wB f3 sB ⊢
          have g1 := sB _ _ (sA _ _ f1)
          have g2 := sB _ _ f2
          have ixB := ix.up ((s9.trans sA).trans sB).tups
          have izB := iz.up ((s9.trans sA).trans sB).tups
          have mL : pq ∈ L := List.mem_of_getElem? eL
          refine ⟨t3, rfl, ⟨_, SqT.of f3⟩, for_tup (K := K) (a := t3) (xs := [.ref t1, .ref t2]) (fun m σ H' => ∃ (x8 x9 : Option V) (xs ys : List V) (us' vs : List (List Int)), σ = [some (.ref a), some (.ref b), some (.ref c), some (.ref l), some (.ref p), some (.int (i : Int)), some x1, some z1, x8, x9] ∧ Wst H H' tp c l p zs xs ys hs us' vs ∧ Tups HB H' ∧ WInv L ts hs vs us' ∧ vs[i]? = some u0 ∧ us'.length ≤ us.length ∧ (∀ m, m < i → ∀ x, vs[m]? = some x → ∀ w, RL L x w → w ∉ us') ∧ (∀ q ∈ L.take n, (q.1 = u0 → q.2 ∉ us') ∧ (q.2 = u0 → q.1 ∉ us')) ∧ (1 ≤ m → pq.1 = u0 → pq.2 ∉ us') ∧ (2 ≤ m → pq.2 = u0 → pq.1 ∉ us')) ⟨_, _, xs8, ys8, us8, vs8, rfl, wB, Tups.refl _, wi8, eu8, uu8, pr8, pp8, fun h => absurd h (by decide), fun h => absurd h (by decide)⟩ (fun m σ H' _ h => by obtain ⟨_, _, _, _, _, _, _, _, t', _⟩ := h; exact SqT.of (t' _ _ f3)) ?_ ?_⟩
          · have body : ∀ (D : Ends) (H' : Hp) (xs ys : List V) (us' vs : List (List Int)) (hh th : V) (ch ct : List Int), Wst H H' tp c l p zs xs ys hs us' vs → Tups HB H' → WInv L ts hs vs us' → vs[i]? = some u0 → us'.length ≤ us.length → (∀ m, m < i → ∀ x, vs[m]? = some x → ∀ w, RL L x w → w ∉ us') → Itm HB tp hh ch → Itm HB tp th ct → RL L ch ct →
                (∀ H'' xs ys us'' vs', Wst H H'' tp c l p zs xs ys hs us'' vs' → Tups HB H'' → WInv L ts hs vs' us'' → vs'[i]? = some u0 → us''.length ≤ us.length → (∀ m, m < i → ∀ x, vs'[m]? = some x → ∀ w, RL L x w → w ∉ us'') → (∀ w, w ∈ us'' → w ∈ us') → (ch = u0 → ct ∉ us'') → D.nx [some (.ref a), some (.ref b), some (.ref c), some (.ref l), some (.ref p), some (.int (i : Int)), some x1, some z1, some hh, some th] H'') →
                tIfS (tAnd (tTest (tOp (rEqD K fun b => b) (tVar 8) (tOp (rIxL K) (tVar 4) (tVar 5)))) (tTest (tOp (rInC K tp) (tVar 9) (tVar 3)))) (tSeq (tDrop (tBM K "list" (rRemC tp) (tVar 3) (tCons (tVar 9) tNil))) (tDrop (tBM K "list" rAppend (tVar 4) (tCons (tVar 9) tNil)))) tNext D [some (.ref a), some (.ref b), some (.ref c), some (.ref l), some (.ref p), some (.int (i : Int)), some x1, some z1, some hh, some th] H' := by
              intro D H' xs ys us' vs hh th ch ct w' t' wi' eu' uu' pr' ih it r kN
              obtain ⟨yv, ey, iy⟩ := w'.ip.at eu'
              have ih' := ih.up t'
              have it' := it.up t'
              have ndu : us'.Nodup := by
                have := wi'.perm.nodup_iff.mpr nd
                rw [List.nodup_append, List.nodup_append] at this
                exact this.2.1.2.1
              have vl' : vs.length ≤ ts.length := by rw [← wi'.perm.length_eq, List.length_append, List.length_append]; omega
              refine ⟨_, rfl, _, rfl, _, rfl, p, ys, _, yv, rfl, rfl, SqL.of w'.hp, atI_nat ey, _, _, ih'.di, iy.di, lay_C tp ch, lay_C tp u0, Nat.le_trans (dep_C tp ch) (by decide), _, rfl, ?_⟩
              rw [eqv_C ih'.one iy.one]
              by_cases e : ch = u0
              · rw [decide_eq_true e]
                refine iteT ⟨_, rfl, _, rfl, l, xs, ct, us', rfl, SqL.of w'.hl, it', w'.il, _, rfl, ?_⟩
                by_cases m : ct ∈ us'
                · rw [decide_eq_true m]
                  refine iteT ?_
                  obtain ⟨j, ej, hno⟩ := idx_first m
                  refine ⟨_, rfl, .inl ⟨rfl, _, SqL.of w'.hl⟩, _, rfl, l, th, xs, ct, us', j, rfl, rfl, w'.hl, it', w'.il, ej, hno, ?_⟩
                  have w2 := w'.rem j
                  have t2 : Tups H' (upd H' l (.lst (xs.eraseIdx j))) := Tups.lst (Tups.refl H') w'.hl
                  generalize upd H' l (.lst (xs.eraseIdx j)) = H2 at w2 t2 ⊢
                  have ylen : ys.length ≤ 1000 := by rw [w'.ip.1]; omega
                  refine ⟨_, rfl, .inl ⟨rfl, _, SqL.of w2.hp⟩, _, rfl, p, _, _, rfl, rfl, w2.hp, Nat.lt_of_le_of_lt ylen (by decide), ?_⟩
                  have sub : ∀ w, w ∈ us'.eraseIdx j → w ∈ us' := fun w hw => List.mem_of_mem_eraseIdx hw
                  have iv' := (List.getElem?_eq_some_iff.mp eu').1
                  refine kN _ _ _ _ _ (w2.app (it'.up t2)) ((t'.trans t2).trans (Tups.lst (Tups.refl H2) w2.hp)) (wi'.take (List.mem_of_getElem? eu') (e ▸ r) ej) (by rw [List.getElem?_append_left iv']; exact eu') (Nat.le_trans (List.length_eraseIdx_le _ _) uu') (fun m hm x hx w r' hw => ?_) sub (fun _ => nd_erase ndu ej)
                  rw [List.getElem?_append_left (by omega)] at hx
                  exact pr' m hm x hx w r' (sub w hw)
                · rw [decide_eq_false m]
                  exact iteF (kN _ _ _ _ _ w' t' wi' eu' uu' pr' (fun w h => h) (fun _ => m))
              · rw [decide_eq_false e]
                exact iteF (iteF (kN _ _ _ _ _ w' t' wi' eu' uu' pr' (fun w h => h) (fun z => absurd z e)))
            rintro m y' σ H' hy' ⟨x8, x9, xs', ys', us'', vs'', rfl, w', t', wi', eu', uu', pr', pp', c1, c2⟩
            rcases m with _ | _ | m
            · cases hy'
              refine ⟨t1, _, rfl, SqT.of (t' _ _ g1), rfl, _, _, rfl, _, _, rfl, rfl, ?_⟩
              refine body _ H' xs' ys' us'' vs'' x1 z1 pq.1 pq.2 w' t' wi' eu' uu' pr' ixB izB (.inl mL) fun H'' xs ys us3 vs3 w3 t3' wi3 eu3 uu3 pr3 sub c3 => ?_
              exact ⟨_, _, xs, ys, us3, vs3, rfl, w3, t3', wi3, eu3, uu3, pr3, fun q hq => ⟨fun e h => (pp' q hq).1 e (sub _ h), fun e h => (pp' q hq).2 e (sub _ h)⟩, fun _ => c3, fun h => absurd h (by decide)⟩
            · cases hy'
              refine ⟨t2, _, rfl, SqT.of (t' _ _ g2), rfl, _, _, rfl, _, _, rfl, rfl, ?_⟩
              refine body _ H' xs' ys' us'' vs'' z1 x1 pq.2 pq.1 w' t' wi' eu' uu' pr' izB ixB (.inr mL) fun H'' xs ys us3 vs3 w3 t3' wi3 eu3 uu3 pr3 sub c3 => ?_
              exact ⟨_, _, xs, ys, us3, vs3, rfl, w3, t3', wi3, eu3, uu3, pr3, fun q hq => ⟨fun e h => (pp' q hq).1 e (sub _ h), fun e h => (pp' q hq).2 e (sub _ h)⟩, fun _ e h => c1 (Nat.le_refl _) e (sub _ h), fun _ => c3⟩
            · cases hy'
          · rintro σ H' ⟨x8, x9, xs', ys', us'', vs'', rfl, w', t', wi', eu', uu', pr', pp', c1, c2⟩
            refine ⟨_, _, _, _, xs', ys', us'', vs'', rfl, w', wi', eu', uu', pr', fun q hq => ?_⟩
            rw [List.take_succ, eL] at hq
            rcases List.mem_append.mp hq with hq | hq
            · exact pp' q hq
            · have : q = pq := by simpa using hq
              subst this
              exact ⟨c1 (Nat.le_of_ble_eq_true rfl), c2 (Nat.le_of_ble_eq_true rfl)⟩
        · rintro σ H' ⟨x6, x7, x8, x9, xs8, ys8, us8, vs8, rfl, w8, wi8, eu8, uu8, pr8, pp8⟩
          rw [iP.1, List.take_length] at pp8
          have i8 := (List.getElem?_eq_some_iff.mp eu8).1
          refine ⟨_, rfl, _, _, rfl, rfl, ⟨_, _, _, _, i + 1, xs8, ys8, us8, vs8, rfl, w8, wi8, i8, uu8, fun m hm x hx w r => ?_⟩, ?_⟩
          · by_cases e : m = i
            · subst e
              rw [eu8] at hx
              cases hx
              rcases r with r | r
              · exact (pp8 _ r).1 rfl
              · exact (pp8 _ r).2 rfl
            · exact pr8 m (by omega) x hx w r
          · show ts.length - ((i : Int) + 1).toNat < ts.length - (i : Int).toNat
            omega
      · have ev2 : decide ((i : Int) < ((ys.length : Nat) : Int)) = false := decide_eq_false (by omega)
        rw [ev2]
        refine iteF ?_
        have zl : zs.length ≤ 1000 := by
          rw [w7.lz.1]
          have h1 := wi.perm.length_eq
          have h2 := len_flat wi.ne
          rw [List.length_append] at h1
          omega
        refine ⟨_, rfl, .inl ⟨rfl, _, SqL.of w7.hc⟩, _, rfl, c, _, _, rfl, rfl, w7.hc, Nat.lt_of_le_of_lt zl (by decide), ⟨_, _, _, _, _, _, _, xs', _, us', rfl, w7.fin, wi.fin nd inT fun x hx w r => ?_⟩, ?_⟩
        · obtain ⟨m, hm⟩ := List.mem_iff_getElem?.mp hx
          have ml := (List.getElem?_eq_some_iff.mp hm).1
          exact pr m (by omega) x hm w r
        · rw [upd_ne (Ne.symm w7.cl), w7.hl, hm3]
          show xs'.length < (x :: xs).length
          have := w7.il.1
          simp only [List.length_cons]
          omega
end L2
set_option Elab.async false
set_option linter.all false
set_option maxRecDepth 100000
set_option maxHeartbeats 1000000
namespace L2
open PySem PySem.Spec PyProof.Rows
theorem TuL.take {H : Hp} {xs : List V} {us : List (List Int)} (h : TuL H xs us) {i : Nat} {x : V} (e : xs[i]? = some x) : ∃ u a, us[i]? = some u ∧ x = .ref a ∧ H a = some (.tup (u.map V.int)) := by
  have il : i < us.length := by rw [← h.1]; exact (List.getElem?_eq_some_iff.mp e).1
  obtain ⟨a, ea, ha⟩ := h.2 i x _ e (List.getElem?_eq_getElem il)
  exact ⟨us[i], a, List.getElem?_eq_getElem il, ea, ha⟩
end L2
set_option Elab.async false
set_option linter.all false
set_option maxRecDepth 100000
set_option maxHeartbeats 1000000
namespace L2
open PySem PySem.Spec PyProof.Rows
section
variable {prog : Program} {w : World} {A : Around} {E : Value → Shared → Prop} {s : Shared}
theorem eT_next {e it l : Addr} {i : Nat} {its : Array Value} {x old : Value} {Q : Value → Shared → Prop} (ge : IsEnum s.heap e it i old) (gi : s.heap.IsTupleIter it l i) (gt : s.heap.IsTuple l its) (gx : its[i]? = some x) (ne : e ≠ it)
    (k : ∀ h', IsEnumOut h' e it ((i : Int) + 1) x s.heap.objs.size → h'.IsTupleIter it l (i + 1) → h'.get? s.heap.objs.size = some { cls := .type "tuple", data := .seq #[.int i s.toks, x] } → h'.objs.size = s.heap.objs.size + 1 →
      (∀ b o, b ≠ e → b ≠ it → s.heap.get? b = some o → h'.get? b = some o) → Q (.ref s.heap.objs.size) { s with heap := h', toks := s.toks + 1 }) :
    wpAny (model prog w) A (Builtin.«enumerate.__next__» ⟨[.ref e], []⟩) (fun fin s' => ∃ v, fin = .done (.ret v) ∧ Q v s') E s := by
  obtain ⟨m0, G, D, T, O⟩ := s
  show wpAny _ _ (field (.ref e) 2 >>= _) _ _ _
  refine wpAny_bind (wpAny_field ge rfl (x := .ref it) rfl (wpAny_bind (nxT gi gt gx fun m1 j1 b1 => ?_)))
  have b1 : Heap.SameBut it m0 m1 := b1
  have g1 : IsEnum m1 e it i old := (b1.2 e ne).trans ge
  show wpAny _ _ (field (.ref e) 3 >>= _) _ _ ⟨m1, G, D, T, O⟩
  refine wpAny_bind (wpAny_field g1 rfl (x := rawInt i) rfl ?_)
  show wpAny _ _ (field (.ref e) 4 >>= _) _ _ ⟨m1, G, D, T, O⟩
  refine wpAny_bind (wpAny_field g1 rfl (x := .none) rfl ?_)
  show wpAny _ _ (mkInt i >>= _) _ _ ⟨m1, G, D, T, O⟩
  refine wpAny_bind (wpAny_mkInt ?_)
  show wpAny _ _ (setField (.ref e) 3 (rawInt ((i : Int) + 1)) >>= _) _ _ ⟨m1, G, D, T + 1, O⟩
  refine wpAny_bind (wpAny_setField_rec g1 (by simp) fun m2 g2 b2 => ?_)
  have b2 : Heap.SameBut e m1 m2 := b2
  have g2 : IsEnum m2 e it ((i : Int) + 1) old := g2
  show wpAny _ _ (setField (.ref e) 4 .none >>= _) _ _ ⟨m2, G, D, T + 1, O⟩
  refine wpAny_bind (wpAny_setField_rec g2 (by simp) fun m3 g3 b3 => ?_)
  have b3 : Heap.SameBut e m2 m3 := b3
  have g3 : IsEnum m3 e it ((i : Int) + 1) old := g3
  show wpAny _ _ (newTuple [.int i T, x] >>= _) _ _ ⟨m3, G, D, T + 1, O⟩
  refine wpAny_bind (wpAny_newTuple ?_)
  have g4 : IsEnum (m3.push { cls := .type "tuple", data := .seq #[.int i T, x] }) e it ((i : Int) + 1) old := Heap.get?_push_of_some _ g3
  generalize q4 : m3.push { cls := .type "tuple", data := .seq #[.int i T, x] } = m4 at g4
  have z3 : m3.objs.size = m0.objs.size := by rw [b3.1, b2.1, b1.1]
  have le : e < m0.objs.size := Heap.lt_size ge
  have t4 : m4.get? m0.objs.size = some { cls := .type "tuple", data := .seq #[.int i T, x] } := by rw [← q4, ← z3]; exact Heap.get?_push_size _ rfl
  have z4 : m4.objs.size = m0.objs.size + 1 := by rw [← q4, Heap.size_push, z3]
  have kp : ∀ b o, b ≠ e → b ≠ it → m0.get? b = some o → m4.get? b = some o := fun b o n1 n2 q => by
    rw [← q4]
    exact Heap.get?_push_of_some _ (b3.extBut b o n1 (b2.extBut b o n1 (b1.extBut b o n2 q)))
  have j4 : m4.IsTupleIter it l (i + 1) := by
    obtain ⟨o, ho, c, d⟩ := j1
    rw [← q4]
    exact ⟨o, Heap.get?_push_of_some _ (b3.extBut _ _ (Ne.symm ne) (b2.extBut _ _ (Ne.symm ne) ho)), c, d⟩
  show wpAny _ _ (Builtin.SmallTypes.ownedTupleIsFree (.ref e) >>= _) _ _ ⟨m4, G, D, T + 1, O⟩
  rw [z3]
  refine wpAny_bind ?_
  unfold Builtin.SmallTypes.ownedTupleIsFree
  refine wpAny_bind (wpAny_field g4 rfl (x := .none) rfl (wpAny_pure ?_))
  simp only [if_true]
  refine wpAny_bind (wpAny_rule (wpAny_bind (wpAny_field g4 rfl (x := old) rfl (wpAny_bind (wpAny_setField_rec g4 (by simp) fun m5 g5 b5 => ?_)))))
  have b5 : Heap.SameBut e m4 m5 := b5
  have g5 : IsEnum m5 e it ((i : Int) + 1) x := g5
  show wpAny _ _ (Builtin.SmallTypes.ownedTupleHandOut (.ref e) (.ref m0.objs.size) >>= _) _ _ ⟨m5, G, D, T + 1, O⟩
  refine wpAny_bind ?_
  unfold Builtin.SmallTypes.ownedTupleHandOut
  refine wpAny_bind (wpAny_setField_rec g5 (by simp) fun m6 g6 b6 => ?_)
  have b6 : Heap.SameBut e m5 m6 := b6
  have g6 : IsEnumOut m6 e it ((i : Int) + 1) x m0.objs.size := g6
  refine wpAny_setField_rec g6 (by simp) fun m7 g7 b7 => ?_
  have b7 : Heap.SameBut e m6 m7 := b7
  have g7 : IsEnumOut m7 e it ((i : Int) + 1) x m0.objs.size := g7
  refine wpAny_bind (wpAny_letGo (wpAny_pure ⟨_, rfl, k m7 g7 ?_ ?_ ?_ ?_⟩))
  · obtain ⟨o, ho, c, d⟩ := j4
    exact ⟨o, b7.extBut _ _ (Ne.symm ne) (b6.extBut _ _ (Ne.symm ne) (b5.extBut _ _ (Ne.symm ne) ho)), c, d⟩
  · exact b7.extBut _ _ (Nat.ne_of_gt le) (b6.extBut _ _ (Nat.ne_of_gt le) (b5.extBut _ _ (Nat.ne_of_gt le) t4))
  · rw [b7.1, b6.1, b5.1, z4]
  · exact fun b o n1 n2 q => b7.extBut b o n1 (b6.extBut b o n1 (b5.extBut b o n1 (kp b o n1 n2 q)))
theorem eT_item {e it l : Addr} {i : Nat} {its : Array Value} {x old : Value} {Q : Option Value → Shared → Prop} (ge : IsEnum s.heap e it i old) (gi : s.heap.IsTupleIter it l i) (gt : s.heap.IsTuple l its) (gx : its[i]? = some x) (ne : e ≠ it)
    (k : ∀ h', IsEnumOut h' e it ((i : Int) + 1) x s.heap.objs.size → h'.IsTupleIter it l (i + 1) → h'.get? s.heap.objs.size = some { cls := .type "tuple", data := .seq #[.int i s.toks, x] } → h'.objs.size = s.heap.objs.size + 1 →
      (∀ b o, b ≠ e → b ≠ it → s.heap.get? b = some o → h'.get? b = some o) → Q (some (.ref s.heap.objs.size)) { s with heap := h', toks := s.toks + 1 }) : wpAny (model prog w) A (pyNext (.ref e)) Q E s := by
  have ty : s.TypeIs (.ref e) "enumerate" := ⟨_, ge, rfl⟩
  unfold pyNext
  exact wpAny_bind (wpAny_attempt (wpAny_callSpecial?_slot (name := Str.ofString "__next__") ty F.slot_enumerate_next (wpAny_call_entry F.slot_enumerate_next ty F.entry_enumerate_next (eT_next ge gi gt gx ne fun h' a b c d q => wpAny_pure (k h' a b c d q)) (F.args_enumerate_next_1 _))))
theorem eT_end {e it l : Addr} {i : Nat} {its : Array Value} {old : Value} {Q : Option Value → Shared → Prop} (hh : A.handled = none) (ge : IsEnum s.heap e it i old) (gi : s.heap.IsTupleIter it l i) (gt : s.heap.IsTuple l its) (gx : its[i]? = none)
    (k : ∀ h', Heap.ExtBut it s.heap h' → Q none { s with heap := h' }) : wpAny (model prog w) A (pyNext (.ref e)) Q E s := by
  have ty : s.TypeIs (.ref e) "enumerate" := ⟨_, ge, rfl⟩
  unfold pyNext
  refine wpAny_bind (wpAny_attempt (wpAny_callSpecial?_slot (name := Str.ofString "__next__") ty F.slot_enumerate_next (wpAny_call_entry F.slot_enumerate_next ty F.entry_enumerate_next ?_ (F.args_enumerate_next_1 _))))
  show wpAny _ _ (field (.ref e) 2 >>= _) _ _ _
  refine wpAny_bind (wpAny_field ge rfl (x := .ref it) rfl (wpAny_bind (nxTe hh gi gt gx fun h' x he' hx' => ?_)))
  obtain ⟨o, ho, hc⟩ := hx'
  exact wpAny_bind (wpAny_isInstance (T := "StopIteration") (b := true) ⟨o, ho, hc⟩ isSubtype_stop (wpAny_pure (k _ he')))
open PySem.AutoSeq1 (wpAny_loadPart') in
theorem new_enT (l : Addr) (its : Array Value) (n : Nat) (dct : Option Addr) (sl : Array (Option Value)) :
    Meets (Builtin.«enumerate.__new__» ⟨[.type "enumerate", .ref l], []⟩) (fun _ R s => s.heap.get? l = some { cls := .type "tuple", dict := dct, data := .seq its n, slots := sl } ∧
      R (.ok (.ret (.ref (s.heap.push { cls := .type "tuple_iterator", data := .fields #[.ref l, .int 0 0] }).objs.size))) { s with heap := (s.heap.push { cls := .type "tuple_iterator", data := .fields #[.ref l, .int 0 0] }).push { cls := .type "enumerate", data := .fields #[.none, .bool false, .ref s.heap.objs.size, rawInt 0, .none, .none] } }) :=
  .of_wp fun prog w A R st hh => by
    obtain ⟨m0, G, D, T, O⟩ := st
    obtain ⟨hl, hR⟩ := hh
    have hsub := sub_enumerate
    have hT : Heap.IsTuple (Shared.heap ⟨m0, G, D, T, O⟩) l its := ⟨_, hl, rfl, n, rfl⟩
    wp_walk using wpAny_loadPart' hl
    refine wpAny_stack_any fun st => wpAny_pure ?_
    split
    · rename_i c _ _ _ _ _
      cases (c == Value.type "enumerate")
      · wp_walk using wpAny_loadPart' hl, wpAny_pyIter_tuple hT
        exact ⟨_, rfl, hR⟩
      · wp_walk using wpAny_loadPart' hl, wpAny_pyIter_tuple hT
        exact ⟨_, rfl, hR⟩
    · wp_walk using wpAny_loadPart' hl, wpAny_pyIter_tuple hT
      exact ⟨_, rfl, hR⟩
theorem call_enT {l : Addr} {its : Array Value} {Q : Value → Shared → Prop} (ht : s.heap.IsTuple l its)
    (k : ∀ h', IsEnum h' (s.heap.objs.size + 1) s.heap.objs.size 0 .none → h'.IsTupleIter s.heap.objs.size l 0 → h'.objs.size = s.heap.objs.size + 2 → (∀ b o, s.heap.get? b = some o → h'.get? b = some o) → Q (.ref (s.heap.objs.size + 1)) { s with heap := h' }) :
    wpAny (model prog w) A (call (.type "enumerate") [.ref l]) Q E s := by
  obtain ⟨⟨c, dct, dt, sl⟩, hl, hc, n, hd⟩ := ht
  simp only at hc hd
  subst hc hd
  refine callType_new F.called_enumerate (by decide) (F.typeCall_enumerate_1 _) (F.newCall_enumerate_1 _) (fun obj => F.args_object_init_2 obj _) F.entry_enumerate_new (new_enT l its n dct sl) ⟨hl, ?_⟩
  have hz : (s.heap.push { cls := .type "tuple_iterator", data := .fields #[.ref l, .int 0 0] }).objs.size = s.heap.objs.size + 1 := Heap.size_push ..
  show _ ∧ _
  rw [hz]
  have ge : IsEnum ((s.heap.push { cls := .type "tuple_iterator", data := .fields #[.ref l, .int 0 0] }).push { cls := .type "enumerate", data := .fields #[.none, .bool false, .ref s.heap.objs.size, rawInt 0, .none, .none] }) (s.heap.objs.size + 1) s.heap.objs.size 0 .none := by
    have := Heap.get?_push_size (s.heap.push { cls := .type "tuple_iterator", data := .fields #[.ref l, .int 0 0] }) (o := { cls := .type "enumerate", data := .fields #[.none, .bool false, .ref s.heap.objs.size, rawInt 0, .none, .none] }) rfl
    rw [hz] at this
    exact this
  exact ⟨⟨_, ge, rfl⟩, k _ ge ⟨_, Heap.get?_push_of_some _ (Heap.get?_push_size _ rfl), rfl, rfl⟩ (by rw [Heap.size_push, hz]) fun b o q => Heap.get?_push_of_some _ (Heap.get?_push_of_some _ q)⟩
end
def Iteu (K : PySem.W.Frag) (a : Addr) : It :=
  ⟨fun i H => ∃ xs x, SqT K H a xs ∧ xs[i]? = some x,
   fun i H v H' => ∃ p x, v = .ref p ∧ H p = none ∧ H' = upd H p (.tup [.int (i : Int), x]) ∧ ∀ xs, SqT K H a xs → xs[i]? = some x,
   fun i H => ∃ xs, SqT K H a xs ∧ xs[i]? = none⟩
def EnuAt (e it a : Addr) (i : Nat) (h : Heap) : Prop := (∃ old, IsEnum h e it (i : Int) old) ∧ h.IsTupleIter it a i
theorem turn_enu {P : Program} {w : World} {K : PySem.W.Frag} {es : List Expr} {k : Nat} {pos : PySem.Pos} (a e it : Addr) (hei : e ≠ it) (hle : a ≠ e) (hli : a ≠ it) : Turn P w K (.Tuple es k pos) (Iteu K a) [e, it] e (EnuAt e it a) where
  mem := by simp
  obj := fun i h st c hc => by
    obtain ⟨⟨old, he⟩, ⟨o1, e1, c1, d1⟩⟩ := st
    simp only [List.mem_cons, List.not_mem_nil, or_false] at hc
    rcases hc with rfl | rfl
    · exact ⟨_, he, fun v q => by cases q⟩
    · exact ⟨o1, e1, fun v q => by rw [d1] at q; cases q⟩
  keep := fun i h h' st q => by
    obtain ⟨⟨old, he⟩, ⟨o1, e1, c1, d1⟩⟩ := st
    exact ⟨⟨old, q _ (by simp) _ he⟩, ⟨o1, q _ (by simp) o1 e1, c1, d1⟩⟩
  item := by
    intro X hP hw hK hc i pins s σ H E I hf st hg
    subst hP hw hK
    obtain ⟨xs, x, hq1, hx⟩ := hg
    obtain ⟨⟨old, he⟩, l1⟩ := st
    obtain ⟨its1, rv1, p1, _⟩ := I.tuple hq1
    obtain ⟨ux, hux, rux⟩ := rv1.get hx
    refine eT_item he l1 p1 (x := ux) (by simpa using hux) hei fun h' z1 j1 T1 sz kp => ?_
    refine ⟨_, rfl, wpAny_letOwnedTupleGo_enum z1 fun h2 z2 sb => ?_⟩
    have helt : e < s.heap.objs.size := Heap.lt_size he
    have T2 := sb.extBut _ _ (Nat.ne_of_gt helt) T1
    have kp2 : ∀ c o, c ∉ [e, it] → s.heap.get? c = some o → h2.get? c = some o := fun c o hc x => by
      simp only [List.mem_cons, List.not_mem_nil, or_false, not_or] at hc
      exact sb.extBut _ _ hc.1 (kp c o hc.1 hc.2 x)
    have I2 : Inv X pins σ (upd H s.heap.objs.size (.tup [.int (i : Int), x])) { s with heap := h2, toks := s.toks + 1 } := I.turnedNew kp2 hf (Nat.le_refl _) ⟨by show 2 ≤ sizeLine; decide, [.int (i : Int) s.toks, ux], .cons ⟨_, rfl⟩ (.cons rux .nil), ⟨_, T2, rfl, _, rfl⟩⟩
    refine ⟨.ref s.heap.objs.size, _, I2, rfl, ⟨_, x, rfl, I.hok.fresh (Nat.le_refl _), rfl, fun xs' h => ?_⟩, ⟨⟨ux, by simpa using z2⟩, ?_⟩, fun c hc => ?_⟩
    · rw [I.tuple_inj h hq1]; exact hx
    · obtain ⟨o, ho, c', d'⟩ := j1
      exact ⟨o, sb.extBut _ _ (Ne.symm hei) ho, c', d'⟩
    · have hlt : c < s.heap.objs.size := by
        simp only [List.mem_cons, List.not_mem_nil, or_false] at hc
        rcases hc with rfl | rfl
        · exact helt
        · obtain ⟨_, x, _⟩ := l1; exact Heap.lt_size x
      rw [upd_ne (Nat.ne_of_lt hlt)]
      exact (hf c hc).1
  done := by
    intro X hP hw hK hc i pins s σ H E I hf st hg
    subst hP hw hK
    obtain ⟨xs, hq1, hend⟩ := hg
    obtain ⟨⟨old, he⟩, l1⟩ := st
    obtain ⟨its1, rv1, p1, _⟩ := I.tuple hq1
    have e1 := rv1.length
    rw [List.getElem?_eq_none_iff] at hend
    refine eT_end (I.ok.hd hc) he l1 p1 (by simp; omega) fun h' kp => ⟨rfl, I.turnedL (t' := s.toks) (ch := [e, it]) (fun c o hc x => ?_) hf⟩
    simp only [List.mem_cons, List.not_mem_nil, or_false, not_or] at hc
    exact kp c o hc.2 x
  self := fun _ _ _ _ _ st h => by
    obtain ⟨⟨old, he⟩, _⟩ := st
    exact wpAny_pyIter_enum he h
section
variable {X : Cx}
def iEnumT (K : PySem.W.Frag) (ta : TA) : TI := fun σ H R => ta σ H fun vs H1 => ∃ a, vs = [.ref a] ∧ (∃ xs, SqT K H1 a xs) ∧ R (Iteu K a) H1
theorem pi_enumT {tes : List Expr} {tk : Nat} {tpos p pos : PySem.Pos} {a : Expr} {ta : TA} (hg : Gl X "enumerate") (hm : X.mg "enumerate" = none) (ha : PA X [a] ta)
    (hs : starEach [a] X.env = [(false, eval a X.env)] := by rfl) : PI X (.Tuple tes tk tpos) (.Call (.Name "enumerate" p) [a] [] pos) (iEnumT X.K ta) := by
  intro pins s σ H R I h
  refine wpAny_Call_Name_kw (ld_blt I hg hm boot_enumerate ?_)
  refine PyProof.Rows.callWith_type1 (rest := []) (thn (ha pos pins s σ H _ I h) fun us s1 ⟨vs, H1, I1, r1, l1, e, ⟨xs, hx⟩, q⟩ => ?_) hs rfl
  subst e
  obtain ⟨u1, rfl, rfl⟩ := vals1 r1
  obtain ⟨its1, rv1, p1, _⟩ := I1.tuple hx
  have a1 : l1 < s1.heap.objs.size := by obtain ⟨_, e, _⟩ := p1; exact Heap.lt_size e
  refine call_enT p1 fun h' he hit sz kp => ?_
  refine wpAny_pyIter_enum he ?_
  refine ⟨_, [_, _], _, _, H1, rfl, I1.kept (t' := s1.toks) kp, turn_enu l1 _ _ (Nat.succ_ne_self _) (Nat.ne_of_lt (Nat.lt_succ_of_lt a1)) (Nat.ne_of_lt a1), ⟨⟨_, he⟩, hit⟩, fun c hc => ?_, q⟩
  have hge : s1.heap.objs.size ≤ c := by
    simp only [List.mem_cons, List.not_mem_nil, or_false] at hc
    rcases hc with rfl | rfl
    · exact Nat.le_succ _
    · exact Nat.le_refl _
  exact I1.fpOk hge (I1.hok.fresh hge)
theorem for_enumT {K : PySem.W.Frag} {a : Addr} {xs : List V} {g : TG} {tb : TS} {D : Ends} {σ : L2.St} {H : Hp} (Pv : Nat → L2.St → Hp → Prop) (h0 : Pv 0 σ H) (hl : ∀ i σ H, i ≤ xs.length → Pv i σ H → SqT K H a xs)
    (hs : ∀ i x σ H (p : Addr), xs[i]? = some x → Pv i σ H → H p = none → g (.ref p) σ (upd H p (.tup [.int (i : Int), x])) fun σ2 H2 => tb { D with nx := Pv (i + 1), ct := Pv (i + 1), bk := D.nx } σ2 H2) (hd : ∀ σ H, Pv xs.length σ H → D.nx σ H) :
    ∃ W : Nat → Nat → L2.St → Hp → Prop, (∃ m, W 0 m σ H) ∧ ∀ i m σ H, W i m σ H →
      ((Iteu K a).stop i H ∧ D.nx σ H) ∨ ((Iteu K a).go i H ∧ ∃ N : L2.St → Hp → Prop, (∀ σ' H', N σ' H' → ∃ m', m' < m ∧ W (i + 1) m' σ' H') ∧ ∀ x H', (Iteu K a).yld i H x H' → g x σ H' fun σ2 H2 => tb { D with nx := N, ct := N, bk := D.nx } σ2 H2) := by
  refine ⟨fun i m σ H => m = xs.length - i ∧ i ≤ xs.length ∧ Pv i σ H, ⟨xs.length, by simp, Nat.zero_le _, h0⟩, ?_⟩
  rintro i m σ H ⟨rfl, hi, p⟩
  have q1 := hl i σ H hi p
  by_cases hlt : i < xs.length
  · refine .inr ⟨⟨xs, xs[i], q1, by simp [hlt]⟩, Pv (i + 1), fun σ' H' p' => ⟨xs.length - (i + 1), by omega, rfl, hlt, p'⟩, fun x H' y => ?_⟩
    obtain ⟨q, x1, rfl, hq, rfl, e1⟩ := y
    exact hs i x1 σ _ q (e1 xs q1) p hq
  · have e : i = xs.length := by omega
    subst e
    exact .inl ⟨⟨xs, q1, List.getElem?_eq_none (Nat.le_refl _)⟩, hd σ H p⟩
end
end L2
set_option Elab.async false
set_option linter.all false
set_option maxRecDepth 100000
set_option maxHeartbeats 1000000
namespace Toy
open PySem L2 PyProof.Rows
def top (i : Nat) : Stmt := PySem.Challenge.pw_farcords_k46_faces.main.body.getD i (.Pass ⟨0, 0, 0, 0⟩)
structure Kn (P : Program) (w : World) (K : PySem.W.Frag) (mg : Str → Option Value) (base : Heap) (x : Str) (k : Nat) (ps : List Str) (sp : Sp) : Prop where
  ex : ∃ (f : Addr) (fd : FuncData), FnOk P w K mg base CX0 k f fd ps sp ∧ mg x = some (.ref f) ∧ PySem.W.keepIn K (.ref f) = true ∧ Binds K fd ps []
theorem pe_callD {X : Cx} {x : Str} {k j : Nat} {ps : List Str} {sp : Sp} {e : Expr} {es : List Expr} {t : TA} {p pos : PySem.Pos} (G : Kn X.prog X.w X.K X.mg X.base x k ps sp) (hr : Room j X.A) (hg : Gl X x) (ha : PA X (e :: es) t) (hle : k ≤ j := by decide)
    (hdb : (x == ("__debug__" : Str)) = false := by decide)
    (he : starEach (e :: es) X.env = (false, eval e X.env) :: starEach es X.env := by rfl) (hpl : (backTo pos (starEach es X.env)).any (·.1) = false := by rfl) : PE X (.Call (.Name x p) (e :: es) [] pos) (tCall sp [] E0 t) := by
  obtain ⟨f, fd, F, hm, hk, hb⟩ := G.ex
  exact pe_call F (hr.mono hle) hg hm hk hb .nil pass0 ha hdb he hpl
structure Txt (mg : Str → Option Value) : Prop where
  len : mg "len" = none
  range : mg "range" = none
  min : mg "min" = none
  max : mg "max" = none
  isinstance : mg "isinstance" = none
  bool : mg "bool" = none
  int : mg "int" = none
  tuple : mg "tuple" = none
  list : mg "list" = none
  str : mg "str" = none
  all : mg "all" = none
  sum : mg "sum" = none
  sorted : mg "sorted" = none
def But (d : Addr) (H H' : Hp) : Prop := ∀ c o, H c = some o → c ≠ d → H' c = some o
theorem But.refl (d : Addr) (H : Hp) : But d H H := fun _ _ e _ => e
theorem But.trans {d : Addr} {H H1 H2 : Hp} (a : But d H H1) (b : But d H1 H2) : But d H H2 := fun c o e n => b c o (a c o e n) n
theorem But.upd {d : Addr} {H H' : Hp} {o : HO} (a : But d H H') : But d H (upd H' d o) := fun c u e n => by rw [upd_ne n]; exact a c u e n
theorem But.new {d p : Addr} {H H' : Hp} {o : HO} (a : But d H H') (h : H' p = none) : But d H (L2.upd H' p o) := fun c u e n => by
  have := a c u e n
  rw [upd_ne (ne_of_none this h)]; exact this
theorem Same.new {p : Addr} {H H' : Hp} {o : HO} (a : Same H H') (h : H' p = none) : Same H (L2.upd H' p o) := fun c u e => by
  have := a c u e
  rw [upd_ne (ne_of_none this h)]; exact this
theorem log_ok {m : Int} (h0 : 0 < m) (h : m < 10 ^ 100) : m.natAbs.log2 < 9000 := by
  have h2 : m.natAbs < 2 ^ 400 := by
    have : (10 : Int) ^ 100 ≤ 2 ^ 400 := by decide +kernel
    omega
  have := (Nat.log2_lt (n := m.natAbs) (k := 400) (by omega)).mpr h2
  omega
section
variable {P : Program} {w : World} {K : PySem.W.Frag} {mg : Str → Option Value} {base : Heap}
abbrev s__law_cell_at : Stmt := top 11
theorem sc__law_cell_at : FnScope ["_law_script", "_law_k"] ["_law_script", "_law_k"] (defScope s__law_cell_at) := ⟨rfl, rfl, rfl, by decide +kernel, rfl, by decide +kernel, by decide +kernel⟩
def spCell (K : PySem.W.Frag) : Sp := fun vs H Q _ => ∃ (a : Addr) (ns : List Int) (k : Int), vs = [.ref a, .int k] ∧ SqL K H a (ns.map V.int) ∧ 0 ≤ k ∧ ∀ n : Int, Q (.int n) H
theorem ok_cell {f : Addr} {fd : FuncData} (F : Fun K "_law_cell_at" "_law_cell_at" s__law_cell_at f fd) (M : Txt mg) : FnOk P w K mg base CX0 1 f fd ["_law_script", "_law_k"] (spCell K) := by
  have sc := sc__law_cell_at
  refine F.ok sc (fun vs H Q E h => ?_) (fun cdv A outer s H vs Q E hr h => ?_)
  · obtain ⟨a, ns, k, rfl, _⟩ := h
    rfl
  · obtain ⟨a, ns, i, rfl, hS, h0, k⟩ := h
    refine ⟨_, (pss_cons (ps_if (pt_cmpR op_lt (pv 1) (pe_callB (call_lenK (K := K)) (by rfl) M.len PySem.boot_len (pa_Name (pv 0) pa_nil)) (nomark _)) (pss_one (ps_ret (pe_ix (ix_listK (K := K)) (pv 0) (pv 1) (fun _ _ => rfl)))) pss_nil)
      (pss_one (ps_ret pe_int))), ?_⟩
    refine ⟨_, rfl, _, rfl, a, _, rfl, .inl hS, _, _, rfl, rfl, _, rfl, ?_⟩
    refine ite2 (fun e => ?_) (fun e => ?_)
    · have e := of_decide_eq_true e
      rw [List.length_map] at e
      have hlt : i.toNat < ns.length := by omega
      refine ⟨_, rfl, _, rfl, a, _, _, V.int (ns[i.toNat]), rfl, rfl, hS, ?_, k _⟩
      have := atI_nat (xs := ns.map V.int) (j := i.toNat) (v := V.int (ns[i.toNat])) (by rw [List.getElem?_map, List.getElem?_eq_getElem hlt]; rfl)
      rw [Int.toNat_of_nonneg h0] at this
      exact this
    · exact k 0
end
end Toy
namespace Toy
open PySem L2 PyProof.Rows
def Dgt (m : Int) : Prop := m ≤ 10 ^ 60
theorem dg {m : Int} (h : m ≤ 1000) : Dgt m := Int.le_trans h (by decide +kernel)
theorem Dgt.log {m : Int} (h : Dgt m) (h0 : 0 < m) : m.natAbs.log2 < 9000 := log_ok h0 (Int.lt_of_le_of_lt h (by decide +kernel))
def Rest (H : Hp) (d : Addr) : Prop := ∃ n : Int, H d = some (.lst [.int n])
theorem Rest.new {d p : Addr} {H : Hp} {o : HO} (a : Rest H d) (h : H p = none) : Rest (L2.upd H p o) d := by
  obtain ⟨n, e⟩ := a
  exact ⟨n, by rw [upd_ne (ne_of_none e h)]; exact e⟩
theorem Rest.ne {d p : Addr} {H : Hp} (a : Rest H d) (h : H p = none) : p ≠ d := by
  obtain ⟨n, e⟩ := a
  exact fun z => by rw [z, e] at h; cases h
theorem Rest.same {d : Addr} {H H' : Hp} (a : Rest H d) (s : Same H H') : Rest H' d := let ⟨n, e⟩ := a; ⟨n, s _ _ e⟩
theorem But.tupsR {d : Addr} {H H' : Hp} (b : But d H H') (r : Rest H d) : Tups H H' := fun c xs e => b c _ e fun z => by
  obtain ⟨n, q⟩ := r
  rw [z, q] at e
  cases e
theorem But.same {d : Addr} {H H' : Hp} (s : Same H H') : But d H H' := fun c o e _ => s c o e
theorem But.fr {d p : Addr} {H H' : Hp} (b : But d H H') (h : H' p = none) (n : p ≠ d) : H p = none := by
  cases e : H p with
  | none => rfl
  | some o => rw [b p o e n] at h; cases h
theorem at8 {a0 a1 a2 a3 a4 a5 a6 a7 r : Int} (r0 : 0 ≤ r) (r1 : r < 8) (h : ∀ z ∈ [a0, a1, a2, a3, a4, a5, a6, a7], 0 < z ∧ z < 100000) : ∃ z : Int, atI [V.int a0, V.int a1, V.int a2, V.int a3, V.int a4, V.int a5, V.int a6, V.int a7] r = some (V.int z) ∧ 0 < z ∧ z < 100000 := by
  have hc : r = 0 ∨ r = 1 ∨ r = 2 ∨ r = 3 ∨ r = 4 ∨ r = 5 ∨ r = 6 ∨ r = 7 := by omega
  rcases hc with rfl | rfl | rfl | rfl | rfl | rfl | rfl | rfl
  · exact ⟨a0, rfl, h a0 (by simp)⟩
  · exact ⟨a1, rfl, h a1 (by simp)⟩
  · exact ⟨a2, rfl, h a2 (by simp)⟩
  · exact ⟨a3, rfl, h a3 (by simp)⟩
  · exact ⟨a4, rfl, h a4 (by simp)⟩
  · exact ⟨a5, rfl, h a5 (by simp)⟩
  · exact ⟨a6, rfl, h a6 (by simp)⟩
  · exact ⟨a7, rfl, h a7 (by simp)⟩
section
variable {P : Program} {w : World} {K : PySem.W.Frag} {mg : Str → Option Value} {base : Heap}
abbrev s__law_big : Stmt := top 12
theorem sc__law_big : FnScope ["_law_script", "_law_at", "_law_by", "_law_prime", "_law_cell", "_law_big_here", "_law_k", "_law_one"] ["_law_script", "_law_at"] (defScope s__law_big) := ⟨rfl, rfl, rfl, by decide +kernel, rfl, by decide +kernel, by decide +kernel⟩
def spBig (K : PySem.W.Frag) : Sp := fun vs H Q _ => ∃ (a : Addr) (ns : List Int) (k : Int), vs = [.ref a, .int k] ∧ SqL K H a (ns.map V.int) ∧ 0 ≤ k ∧ ∀ (n : Int) H', Same H H' → Q (.int n) H'
theorem ok_big {f : Addr} {fd : FuncData} (F : Fun K "_law_big" "_law_big" s__law_big f fd) (M : Txt mg) (G_law_cell_at : Kn P w K mg base "_law_cell_at" 1 ["_law_script", "_law_k"] (spCell K)) : FnOk P w K mg base CX0 2 f fd ["_law_script", "_law_at"] (spBig K) := by
  have sc := sc__law_big
  refine F.ok sc (fun vs H Q E h => ?_) (fun cdv A outer s H vs Q E hr h => ?_)
  · obtain ⟨a, ns, k, rfl, _⟩ := h
    rfl
  · obtain ⟨a, ns, i, rfl, hS, h0, k⟩ := h
    refine ⟨_, (pss_cons (ps_set (i := 2) sc.nd rfl (Or.inl rfl) (pe_tup (pa_o4 pe_int pe_int pe_int pe_int (pa_o4 pe_int pe_int pe_int pe_int pa_nil))))
      (pss_cons (ps_set (i := 3) sc.nd rfl (Or.inl rfl) (pe_tup (pa_o4 pe_int pe_int pe_int pe_int (pa_o4 pe_int pe_int pe_int pe_int pa_nil))))
      (pss_cons (ps_set (i := 4) sc.nd rfl (Or.inl rfl) (pe_callD G_law_cell_at hr rfl (pa_Name (pv 0) (pa_Name (pv 1) pa_nil))))
      (pss_cons (ps_if (pt_cmpR op_ge (pv 4) (pe_op op_pow pe_int pe_int) (nomark _)) (pss_one (ps_ret (pv 4))) pss_nil)
      (pss_cons (ps_set (i := 5) sc.nd rfl (Or.inl rfl) pe_int)
      (pss_cons (ps_for PassesOwn.never rfl (pi_range1 rfl M.range (pa_Constant pe_int pa_nil)) (pg_name (i := 6) sc.nd rfl (Or.inl rfl))
      (pss_cons (ps_set (i := 7) sc.nd rfl (Or.inl rfl) (pe_op op_add (pe_op op_add (pe_op op_mod (pe_callD G_law_cell_at hr rfl (pa_Name (pv 0) (pa_BinOp (pe_op op_add (pv 1) (pe_op op_mod (pv 6) pe_int)) pa_nil))) (pe_op op_pow pe_int pe_int)) pe_int) (pe_op op_mul (pv 6) (pv 6))))
      (pss_one (ps_set (i := 5) sc.nd rfl (Or.inl rfl) (pe_op op_add (pe_op op_mul (pv 5) pe_int) (pe_op op_mod (pe_op op_mod (pe_op op_mul (pv 7) (pe_ix (ix_tupK (K := K)) (pv 2) (pe_op op_mod (pv 6) pe_int) (fun _ _ => rfl))) (pe_ix (ix_tupK (K := K)) (pv 3) (pe_op op_mod (pv 6) pe_int) (fun _ _ => rfl))) pe_int))))))
      (pss_one (ps_ret (pv 5))))))))), ?_⟩
    refine ⟨(by show 8 ≤ sizeLine; decide), fun t1 ht1 => ?_⟩
    have s1 := Same.new (o := .tup [.int 48271, .int 69621, .int 16807, .int 39373, .int 21401, .int 60493, .int 87721, .int 31337]) (Same.refl H) ht1
    have h1 : (upd H t1 (.tup [.int 48271, .int 69621, .int 16807, .int 39373, .int 21401, .int 60493, .int 87721, .int 31337])) t1 = some (.tup [.int 48271, .int 69621, .int 16807, .int 39373, .int 21401, .int 60493, .int 87721, .int 31337]) := upd_same
    generalize upd H t1 (.tup [.int 48271, .int 69621, .int 16807, .int 39373, .int 21401, .int 60493, .int 87721, .int 31337]) = H1 at s1 h1 ⊢
    refine ⟨(by show 8 ≤ sizeLine; decide), fun t2 ht2 => ?_⟩
    have s2 := Same.new (o := .tup [.int 99991, .int 99989, .int 99971, .int 99961, .int 99929, .int 99923, .int 99907, .int 99901]) (Same.refl H1) ht2
    have h2 : (upd H1 t2 (.tup [.int 99991, .int 99989, .int 99971, .int 99961, .int 99929, .int 99923, .int 99907, .int 99901])) t2 = some (.tup [.int 99991, .int 99989, .int 99971, .int 99961, .int 99929, .int 99923, .int 99907, .int 99901]) := upd_same
    generalize upd H1 t2 (.tup [.int 99991, .int 99989, .int 99971, .int 99961, .int 99929, .int 99923, .int 99907, .int 99901]) = H2 at s2 h2 ⊢
    have h1' := s2 _ _ h1
    have s02 := s1.trans s2
    refine ⟨_, rfl, _, rfl, a, ns, i, rfl, s02.seq hS, h0, fun cell => ?_⟩
    refine ⟨_, rfl, _, _, rfl, rfl, ⟨by decide, by decide, by decide⟩, _, _, rfl, rfl, _, rfl, ite2 (fun _ => ?_) (fun _ => ?_)⟩
    · exact ⟨_, rfl, k cell H2 s02⟩
    refine ⟨60, rfl, by decide, by decide, for_range (n := 60) (fun j σ H' => ∃ (x6 x7 : Option V) (b : Int), σ = [some (.ref a), some (.int i), some (.ref t1), some (.ref t2), some (.int cell), some (.int b), x6, x7] ∧ H2 = H') ⟨_, _, 0, rfl, rfl⟩ ?_ ?_⟩
    · rintro j σ H' hj ⟨x6, x7, b, rfl, rfl⟩
      have j9 : 0 ≤ (0 + (j : Int)) % 9 := Int.emod_nonneg _ (by decide)
      refine ⟨_, rfl, _, rfl, _, rfl, _, _, rfl, rfl, (by show (0 : Int) < 9; decide), _, _, rfl, rfl, a, ns, _, rfl, s02.seq hS, by omega, fun c2 => ?_⟩
      refine ⟨_, _, rfl, rfl, ⟨by decide, by decide, by decide⟩, _, _, rfl, rfl, (by show (0 : Int) < 10 ^ 18; decide), _, _, rfl, rfl, _, rfl, _, rfl, _, _, rfl, rfl, .inl ⟨by omega, by omega⟩, _, _, rfl, rfl, ?_⟩
      obtain ⟨z1, e1, p1, q1⟩ := at8 (a0 := 48271) (a1 := 69621) (a2 := 16807) (a3 := 39373) (a4 := 21401) (a5 := 60493) (a6 := 87721) (a7 := 31337) (r := (0 + (j : Int)) % 8) (Int.emod_nonneg _ (by decide)) (Int.emod_lt_of_pos _ (by decide)) (by decide)
      obtain ⟨z2, e2, p2, q2⟩ := at8 (a0 := 99991) (a1 := 99989) (a2 := 99971) (a3 := 99961) (a4 := 99929) (a5 := 99923) (a6 := 99907) (a7 := 99901) (r := (0 + (j : Int)) % 8) (Int.emod_nonneg _ (by decide)) (Int.emod_lt_of_pos _ (by decide)) (by decide)
      refine ⟨_, rfl, _, _, rfl, rfl, .inr ⟨by decide, by decide⟩, _, rfl, _, rfl, _, rfl, _, _, rfl, rfl, (by show (0 : Int) < 8; decide), t1, _, _, _, rfl, rfl, SqT.of h1', e1, _, z1, rfl, rfl, .inr ⟨by omega, by omega⟩, _, rfl, _, rfl, _, _, rfl, rfl, (by show (0 : Int) < 8; decide), t2, _, _, _, rfl, rfl, SqT.of h2, e2, _, z2, rfl, rfl, p2, _, _, rfl, rfl, (by show (0 : Int) < 7919; decide), _, _, rfl, rfl, ?_⟩
      exact ⟨_, _, _, rfl, rfl⟩
    · rintro σ H' ⟨x6, x7, b, rfl, rfl⟩
      exact ⟨_, rfl, k b _ s02⟩
abbrev s__law_digit : Stmt := top 13
theorem sc__law_digit : FnScope ["_law_rest", "_law_many", "_law_found"] ["_law_rest", "_law_many"] (defScope s__law_digit) := ⟨rfl, rfl, rfl, by decide +kernel, rfl, by decide +kernel, by decide +kernel⟩
def spDigit : Sp := fun vs H Q _ => ∃ (d : Addr) (m : Int), vs = [.ref d, .int m] ∧ Rest H d ∧ 0 < m ∧ Dgt m ∧ ∀ (r : Int) (H' : Hp), 0 ≤ r → r < m → Rest H' d → But d H H' → Q (.int r) H'
theorem ok_digit {f : Addr} {fd : FuncData} (F : Fun K "_law_digit" "_law_digit" s__law_digit f fd) (M : Txt mg) : FnOk P w K mg base CX0 1 f fd ["_law_rest", "_law_many"] spDigit := by
  have sc := sc__law_digit
  refine F.ok sc (fun vs H Q E h => ?_) (fun cdv A outer s H vs Q E hr h => ?_)
  · obtain ⟨d, m, rfl, _⟩ := h
    rfl
  · obtain ⟨d, m, rfl, ⟨n, hd⟩, m0, m1, k⟩ := h
    refine ⟨_, (pss_cons (ps_set (i := 2) sc.nd rfl (Or.inl rfl) (pe_op op_mod (pe_ix (ix_listK (K := K)) (pv 0) pe_int (fun _ _ => rfl)) (pv 1)))
      (pss_cons (ps_asg (pe_op op_fdivL (pe_ix (ix_listK (K := K)) (pv 0) pe_int (fun _ _ => rfl)) (pv 1)) (pg_sub (pv 0) pe_int set_list))
      (pss_one (ps_ret (pv 2))))), ?_⟩
    refine ⟨_, rfl, d, _, _, _, rfl, rfl, SqL.of hd, rfl, _, rfl, _, _, rfl, rfl, m0, ?_⟩
    refine ⟨_, rfl, d, _, _, _, rfl, rfl, SqL.of hd, rfl, _, rfl, _, _, rfl, rfl, ⟨m0, m1.log m0⟩, _, rfl, d, _, _, _, rfl, rfl, hd, rfl, ?_⟩
    exact ⟨_, rfl, k _ _ (Int.emod_nonneg _ (by omega)) (Int.emod_lt_of_pos _ m0) ⟨_, upd_same⟩ (But.upd (But.refl _ _))⟩
abbrev s__law_sheet : Stmt := top 14
theorem sc__law_sheet : FnScope ["_law_rest", "_law_many", "_law_pool", "_law_order"] ["_law_rest"] (defScope s__law_sheet) := ⟨rfl, rfl, rfl, by decide +kernel, rfl, by decide +kernel, by decide +kernel⟩
def spSheet : Sp := fun vs H Q _ => ∃ (d : Addr), vs = [.ref d] ∧ Rest H d ∧ ∀ (b : Addr) (xs : List V) (S : List (List Int)) (H' : Hp), H b = none → H' b = some (.lst xs) → TuL H' xs S → ShOk S → Rest H' d → But d H H' → Q (.ref b) H'
theorem ok_sheet {f : Addr} {fd : FuncData} (F : Fun K "_law_sheet" "_law_sheet" s__law_sheet f fd) (M : Txt mg) (G_law_digit : Kn P w K mg base "_law_digit" 1 ["_law_rest", "_law_many"] spDigit) : FnOk P w K mg base CX0 2 f fd ["_law_rest"] spSheet := by
  have sc := sc__law_sheet
  refine F.ok sc (fun vs H Q E h => ?_) (fun cdv A outer s H vs Q E hr h => ?_)
  · obtain ⟨d, rfl, _⟩ := h
    rfl
  · obtain ⟨d, rfl, R0, k⟩ := h
    refine ⟨_, (pss_cons (ps_set (i := 1) sc.nd rfl (Or.inl rfl) (pe_op op_add pe_int (pe_op op_mul pe_int (pe_callD G_law_digit hr rfl (pa_Name (pv 0) (pa_Constant pe_int pa_nil))))))
      (pss_cons (ps_if (pt_cmpR op_eq (pe_callD G_law_digit hr rfl (pa_Name (pv 0) (pa_Constant pe_int pa_nil))) pe_int (nomark _)) (pss_one (ps_set (i := 1) sc.nd rfl (Or.inl rfl) (pe_op op_add pe_int (pe_op op_mul pe_int (pe_callD G_law_digit hr rfl (pa_Name (pv 0) (pa_Constant pe_int pa_nil))))))) pss_nil)
      (pss_cons (ps_set (i := 2) sc.nd rfl (Or.inl rfl) (pe_op op_repR pe_int (pe_callTy (call_list_rng2 rfl) (by rfl) M.list boot_list (pa_Call (pe_callTy call_range2 (by rfl) M.range boot_range (pa_Constant pe_int (pa_BinOp (pe_op op_add (pe_op op_fdivL (pe_op op_mul (pv 1) pe_int) pe_int) pe_int) pa_nil))) pa_nil))))
      (pss_cons (ps_set (i := 3) sc.nd rfl (Or.inr rfl) (pe_lst pa_nil))
      (pss_cons (ps_while PassesOwn.never (pt_cmpR (op_neD hr) (pv 2) (pe_lst pa_nil) (nomark _)) (pss_one (ps_expr (pe_bm PySem.F.plainAttrs_list PySem.F.slot_list_append PySem.F.type_list_append mt_append (pv 3) (pa_BinOp (pe_op op_mul (pe_bm PySem.F.plainAttrs_list PySem.F.slot_list_pop PySem.F.type_list_pop mt_popAt (pv 2) (pa_Call (pe_callD G_law_digit hr rfl (pa_Name (pv 0) (pa_Call (pe_callB (call_lenK (K := K)) (by rfl) M.len PySem.boot_len (pa_Name (pv 2) pa_nil)) pa_nil))) pa_nil)) (pe_op op_sub pe_int (pe_op op_mul pe_int (pe_callD G_law_digit hr rfl (pa_Name (pv 0) (pa_Constant pe_int pa_nil)))))) pa_nil)))))
      (pss_one (ps_ret (pe_compG (xs := ["_law_k"]) (Nb := ["_law_rest", "_law_many", "_law_pool", "_law_order"]) rfl (pi_range1 rfl M.range (pa_Name (pv 1) pa_nil)) rfl (by show ∀ p ∈ (List.zip ["_law_rest", "_law_many", "_law_pool", "_law_order"] ["_law_rest", "_law_many", "_law_pool", "_law_order"] : List (Str × Str)), _; decide +kernel) (by decide +kernel) (fun cl C s₂ H₂ fp => (pg_name (i := 0) (by show List.Nodup (["_law_k", "_law_rest", "_law_many", "_law_pool", "_law_order"] : List Str); decide +kernel) rfl (Or.inl (lookup_relabel_local rfl)) (Or.inr (lookup_relabel_local rfl)))) (fun cl C s₂ H₂ fp => pif_nil) (fun cl C s₂ H₂ fp => (pe_callTy (call_tuple_ofKK (K := K)) (by rfl) M.tuple boot_tuple (pa_Subscript (pe_slice (sl_listK (K := K)) (pv 4) (po_some (pe_op op_mul pe_int (pv 0))) (po_some (pe_op op_add (pe_op op_mul pe_int (pv 0)) pe_int))) pa_nil))) (by decide +kernel) rfl (by decide +kernel) (by show ∀ y ∈ (_ : List (Str × NameKind)), y.2 = NameKind.free → (defScope s__law_sheet).names.lookup y.1 = some .cell; decide +kernel))))))))), ?_⟩
    refine ⟨_, rfl, d, 4, rfl, R0, by decide, dg (by decide), fun r1 H1 r10 r11 R1 B1 => ⟨2, r1, rfl, rfl, .inl ⟨by decide, by decide⟩, 2, 2 * r1, rfl, rfl, ?_⟩⟩
    refine ⟨_, rfl, d, 8, rfl, R1, by decide, dg (by decide), fun r2 H2 _ _ R2 B2 => ⟨rfl, _, rfl, ite2 (fun e => ?_) (fun e => ?_)⟩⟩
    · refine ⟨_, rfl, d, 2, rfl, R2, by decide, dg (by decide), fun r3 H3 r30 r31 R3 B3 => ⟨2, r3, rfl, rfl, .inl ⟨by decide, by decide⟩, 10, 2 * r3, rfl, rfl, ?_⟩⟩
      have B03 := (B1.trans B2).trans B3
      obtain ⟨m, hm, m1, m6⟩ : ∃ m : Nat, (10 + 2 * r3) = 2 * (m : Int) ∧ 1 ≤ m ∧ m ≤ 6 := ⟨(10 + 2 * r3).toNat / 2, by omega, by omega, by omega⟩
      refine ⟨_, rfl, (10 + 2 * r3), 3, rfl, rfl, .inr ⟨by decide, by decide⟩, (10 + 2 * r3) * 3, 2, rfl, rfl, ⟨by decide, by decide⟩, _, _, rfl, rfl, 1, (10 + 2 * r3) * 3 / 2 + 1, rfl, fun p1 hp1 => ⟨p1, 1, (10 + 2 * r3) * 3 / 2 + 1, rfl, upd_same, by decide, by omega, by omega, fun l1 hl1 => ⟨l1, 2, _, rfl, rfl, upd_same, by decide, by decide, ?_, fun pl hpl => ?_⟩⟩⟩
      · rw [List.length_map, upto_len]
        exact Nat.le_trans (show ((10 + 2 * r3) * 3 / 2 + 1 - 1).toNat * (2 : Int).toNat ≤ 1000 by show _ * 2 ≤ 1000; omega) (by decide)
      have e3 : ((10 + 2 * r3) * 3 / 2 + 1 - 1).toNat = 3 * m := by omega
      rw [rep2, e3, ← List.map_append]
      have npd : pl ≠ d := ((R3.new hp1).new hl1).ne hpl
      have plfree : H pl = none := ((B03.new hp1).new hl1).fr hpl npd
      have B4 : But d H (upd (upd (upd H3 p1 (.rng 1 ((10 + 2 * r3) * 3 / 2 + 1))) l1 (.lst ((upto 1 (3 * m)).map V.int))) pl (.lst ((upto 1 (3 * m) ++ upto 1 (3 * m)).map V.int))) := by
        rw [e3] at hpl
        exact ((B03.new hp1).new hl1).new hpl
      have R4 : Rest (upd (upd (upd H3 p1 (.rng 1 ((10 + 2 * r3) * 3 / 2 + 1))) l1 (.lst ((upto 1 (3 * m)).map V.int))) pl (.lst ((upto 1 (3 * m) ++ upto 1 (3 * m)).map V.int))) d := by
        rw [e3] at hpl
        exact ((R3.new hp1).new hl1).new hpl
      have hpl4 : (upd (upd (upd H3 p1 (.rng 1 ((10 + 2 * r3) * 3 / 2 + 1))) l1 (.lst ((upto 1 (3 * m)).map V.int))) pl (.lst ((upto 1 (3 * m) ++ upto 1 (3 * m)).map V.int))) pl = some (.lst ((pool (3 * m)).map V.int)) := upd_same
      generalize upd (upd (upd H3 p1 (.rng 1 ((10 + 2 * r3) * 3 / 2 + 1))) l1 (.lst ((upto 1 (3 * m)).map V.int))) pl (.lst ((upto 1 (3 * m) ++ upto 1 (3 * m)).map V.int)) = H4 at B4 R4 hpl4 ⊢
      refine ⟨(by show 0 ≤ sizeLine; decide), fun od hod => ?_⟩
      have B5 := B4.new (o := .lst []) hod
      have R5 := R4.new (o := .lst []) hod
      have hod5 : (upd H4 od (.lst [])) od = some (.lst (([] : List Int).map V.int)) := upd_same
      have hpl5 : (upd H4 od (.lst [])) pl = some (.lst ((pool (3 * m)).map V.int)) := by rw [upd_ne (ne_of_none hpl4 hod)]; exact hpl4
      have nod : od ≠ d := R4.ne hod
      have odfree : H od = none := B4.fr hod nod
      have npo : pl ≠ od := ne_of_none hpl4 hod
      generalize upd H4 od (.lst []) = H5 at B5 R5 hod5 hpl5 ⊢
      refine while_by (fun σ H' => ∃ (ps os : List Int), σ = [some (.ref d), some (.int (10 + 2 * r3)), some (.ref pl), some (.ref od)] ∧ H' pl = some (.lst (ps.map V.int)) ∧ H' od = some (.lst (os.map V.int)) ∧ (os.map absI ++ ps).Perm (pool (3 * m)) ∧ Rest H' d ∧ But d H H') (fun σ H' => match H' pl with | some (.lst xs) => xs.length | _ => 0) ⟨pool (3 * m), [], rfl, hpl5, hod5, List.Perm.refl _, R5, B5⟩ ?_ (fun σ H Q Q' h hc => by obtain ⟨v, e, z, k⟩ := hc; exact ⟨v, e, z, fun p hp => by obtain ⟨d1, d2, a1, a2, a3, a4, a5, b, eb, q⟩ := k p hp; exact ⟨d1, d2, a1, a2, a3, a4, a5, b, eb, h _ _ q⟩⟩)
      rintro σ H6 ⟨ps, os, rfl, hpl6, hod6, pm, R6, B6⟩
      have len6 : os.length + ps.length = 6 * m := by
        have := pm.length_eq
        rw [List.length_append, List.length_map, pool_len] at this
        omega
      refine ⟨_, rfl, (by show 0 ≤ sizeLine; decide), fun z hz => ?_⟩
      have s7 := Same.new (o := .lst []) (Same.refl H6) hz
      have hz7 : (upd H6 z (.lst [])) z = some (.lst (([] : List Int).map V.int)) := upd_same
      generalize upd H6 z (.lst []) = H7 at s7 hz7 ⊢
      have hpl7 := s7 _ _ hpl6
      have hod7 := s7 _ _ hod6
      have R7 := R6.same s7
      have B7 : But d H H7 := B6.trans (But.same s7)
      refine ⟨_, _, di_lst (SqL.of hpl7), di_lst (SqL.of hz7), lay_dI _, lay_dI _, dep_dI _, _, rfl, ?_⟩
      rw [eqv_dI]
      by_cases pe : ps = []
      · rw [decide_eq_true pe]
        refine iteF ?_
        subst pe
        rw [List.append_nil] at pm
        have ol : os.length = 6 * m := by simpa using len6
        refine ⟨_, rfl, (10 + 2 * r3), rfl, by omega, by omega, compR (lo := 0) (n := (10 + 2 * r3).toNat) (fun i ys H' => TuL H' ys ((List.range i).map fun k => (os.drop (3 * k)).take 3) ∧ Same H7 H') ⟨TuL.nil _, Same.refl H7⟩ (by omega) (fun i ys H' h => by rw [h.1.1, List.length_map, List.length_range]; exact Nat.le_refl _) ?_ ?_⟩
        · rintro i ys H8 pre hpre hi ⟨tz, s8⟩
          rcases pre with _ | ⟨q0, _ | ⟨q1, pre⟩⟩
          · cases hpre
          · refine ⟨⟨[some _], rfl, rfl⟩, ?_⟩
            unfold tYes
            dsimp only
            rw [if_pos (rfl : true = true)]
            refine ⟨_, rfl, _, rfl, 3, (0 + (i : Int)), rfl, rfl, .inl ⟨by decide, by decide⟩, 3 * (0 + (i : Int)), rfl, _, rfl, 3, (0 + (i : Int)), rfl, rfl, .inl ⟨by decide, by decide⟩, _, _, rfl, rfl, 3 * (0 + (i : Int)) + 3, rfl, od, _, rfl, SqL.of (s8 _ _ hod7), fun q hq => ?_⟩
            rw [cut_midL _ (by omega) (by decide) (by rw [List.length_map]; omega)]
            have e4 : (3 * (0 + (i : Int))).toNat = 3 * i := by omega
            rw [e4]
            have e5 : (((os.map V.int).drop (3 * i)).take (3 : Int).toNat) = ((os.drop (3 * i)).take 3).map V.int := by rw [← List.map_drop, ← List.map_take]; rfl
            rw [e5]
            have s9 := Same.new (o := .lst (((os.drop (3 * i)).take 3).map V.int)) (Same.refl H8) hq
            refine ⟨q, _, rfl, .inl ⟨SqL.of upd_same, fun t ht => ?_⟩⟩
            have s10 := Same.new (o := .tup (((os.drop (3 * i)).take 3).map V.int)) s9 ht
            rw [List.range_succ, List.map_append]
            exact ⟨TuL.snoc (TuL.up tz s10.tups) upd_same, s8.trans s10⟩
          · cases hpre
        · rintro ys H8 ⟨tz, s8⟩ D hD
          have s9 := Same.new (o := .lst ys) s8 hD
          have B9 : But d H (upd H8 D (.lst ys)) := B7.trans (But.same s9)
          have nD : D ≠ d := (R7.same s8).ne hD
          have e6 : (10 + 2 * r3).toNat = 2 * m := by omega
          rw [e6] at tz
          exact k D ys _ _ (B7.fr (s8.free hD) nD) upd_same (TuL.up tz (Same.new (o := .lst ys) (Same.refl H8) hD).tups) (sheet_ok m1 m6 pm) (R7.same s9) B9
      · rw [decide_eq_false pe]
        refine iteT ?_
        have psl : 0 < ps.length := List.length_pos_iff.mpr pe
        refine ⟨_, rfl, .inl ⟨rfl, _, SqL.of hod7⟩, _, rfl, .inl ⟨rfl, _, SqL.of hpl7⟩, _, rfl, _, rfl, pl, _, rfl, .inl (SqL.of hpl7), d, ((ps.map V.int).length : Nat), rfl, R7, by rw [List.length_map]; omega, dg (by rw [List.length_map]; omega), fun r1 H8 r10 r11 R8 B8 => ?_⟩
        rw [List.length_map] at r11
        have hpl8 := B8 _ _ hpl7 npd
        have hod8 := B8 _ _ hod7 nod
        obtain ⟨y, hy⟩ : ∃ y, ps[r1.toNat]? = some y := ⟨_, List.getElem?_eq_getElem (by omega)⟩
        have si : seqIndex? r1 (ps.map V.int).length = some r1.toNat := seqIndex_of r10 (by rw [List.length_map]; exact r11)
        refine ⟨pl, _, r1, r1.toNat, V.int y, rfl, rfl, hpl8, by omega, by omega, si, by rw [List.getElem?_map, hy]; rfl, ?_⟩
        rw [map_erase]
        have R9 : Rest (upd H8 pl (.lst ((ps.eraseIdx r1.toNat).map V.int))) d := by
          obtain ⟨n, e⟩ := R8
          exact ⟨n, by rw [upd_ne (Ne.symm npd)]; exact e⟩
        have hod9 : (upd H8 pl (.lst ((ps.eraseIdx r1.toNat).map V.int))) od = some (.lst (os.map V.int)) := by rw [upd_ne (Ne.symm npo)]; exact hod8
        have hpl9 : (upd H8 pl (.lst ((ps.eraseIdx r1.toNat).map V.int))) pl = some (.lst ((ps.eraseIdx r1.toNat).map V.int)) := upd_same
        have B9 : But d H (upd H8 pl (.lst ((ps.eraseIdx r1.toNat).map V.int))) := fun c o e n => by
          by_cases z : c = pl
          · subst z
            rw [plfree] at e
            cases e
          · rw [upd_ne z]
            exact B8 c o (B7 c o e n) n
        generalize upd H8 pl (.lst ((ps.eraseIdx r1.toNat).map V.int)) = H9 at R9 hod9 hpl9 B9 ⊢
        refine ⟨_, rfl, d, 2, rfl, R9, by decide, dg (by decide), fun r2 HA r20 r21 RA BA => ⟨2, r2, rfl, rfl, .inl ⟨by decide, by decide⟩, 1, 2 * r2, rfl, rfl, y, 1 - 2 * r2, rfl, rfl, .inr ⟨by omega, by omega⟩, ?_⟩⟩
        have hodA := BA _ _ hod9 nod
        have hplA := BA _ _ hpl9 npd
        refine ⟨od, _, _, rfl, rfl, hodA, Nat.lt_of_le_of_lt (show (os.map V.int).length ≤ 1000 by rw [List.length_map]; omega) (by decide), ?_⟩
        have my : y ∈ pool (3 * m) := pm.subset (List.mem_append_right _ (List.mem_of_getElem? hy))
        have yb := mem_pool my
        have RB : Rest (upd HA od (.lst (os.map V.int ++ [(fun i j => V.int (i * j)) y (1 - 2 * r2)]))) d := by
          obtain ⟨n, e⟩ := RA
          exact ⟨n, by rw [upd_ne (Ne.symm nod)]; exact e⟩
        have BB' : But d H (upd HA od (.lst (os.map V.int ++ [(fun i j => V.int (i * j)) y (1 - 2 * r2)]))) := fun c o e n => by
          by_cases z : c = od
          · subst z
            rw [odfree] at e
            cases e
          · rw [upd_ne z]
            exact BA c o (B9 c o e n) n
        have hplB : (upd HA od (.lst (os.map V.int ++ [(fun i j => V.int (i * j)) y (1 - 2 * r2)]))) pl = some (.lst ((ps.eraseIdx r1.toNat).map V.int)) := by rw [upd_ne npo]; exact hplA
        refine ⟨⟨ps.eraseIdx r1.toNat, os ++ [y * (1 - 2 * r2)], rfl, hplB, ?_, ?_, RB, BB'⟩, ?_⟩
        · rw [upd_same, List.map_append]
          rfl
        · rw [List.map_append, List.append_assoc]
          refine List.Perm.trans (List.Perm.append_left _ ?_) pm
          show (absI (y * (1 - 2 * r2)) :: ps.eraseIdx r1.toNat).Perm ps
          rw [abs_sign (by omega) r20 r21]
          exact (erase_permK hy).symm
        · dsimp only
          rw [hplB, hpl6]
          dsimp only
          rw [List.length_map, List.length_map]
          have := (erase_permK hy).length_eq
          simp only [List.length_cons] at this
          omega
    · have B02 := B1.trans B2
      obtain ⟨m, hm, m1, m6⟩ : ∃ m : Nat, (2 + 2 * r1) = 2 * (m : Int) ∧ 1 ≤ m ∧ m ≤ 6 := ⟨(2 + 2 * r1).toNat / 2, by omega, by omega, by omega⟩
      refine ⟨_, rfl, (2 + 2 * r1), 3, rfl, rfl, .inr ⟨by decide, by decide⟩, (2 + 2 * r1) * 3, 2, rfl, rfl, ⟨by decide, by decide⟩, _, _, rfl, rfl, 1, (2 + 2 * r1) * 3 / 2 + 1, rfl, fun p1 hp1 => ⟨p1, 1, (2 + 2 * r1) * 3 / 2 + 1, rfl, upd_same, by decide, by omega, by omega, fun l1 hl1 => ⟨l1, 2, _, rfl, rfl, upd_same, by decide, by decide, ?_, fun pl hpl => ?_⟩⟩⟩
      · rw [List.length_map, upto_len]
        exact Nat.le_trans (show ((2 + 2 * r1) * 3 / 2 + 1 - 1).toNat * (2 : Int).toNat ≤ 1000 by show _ * 2 ≤ 1000; omega) (by decide)
      have e3 : ((2 + 2 * r1) * 3 / 2 + 1 - 1).toNat = 3 * m := by omega
      rw [rep2, e3, ← List.map_append]
      have npd : pl ≠ d := ((R2.new hp1).new hl1).ne hpl
      have plfree : H pl = none := ((B02.new hp1).new hl1).fr hpl npd
      have B4 : But d H (upd (upd (upd H2 p1 (.rng 1 ((2 + 2 * r1) * 3 / 2 + 1))) l1 (.lst ((upto 1 (3 * m)).map V.int))) pl (.lst ((upto 1 (3 * m) ++ upto 1 (3 * m)).map V.int))) := by
        rw [e3] at hpl
        exact ((B02.new hp1).new hl1).new hpl
      have R4 : Rest (upd (upd (upd H2 p1 (.rng 1 ((2 + 2 * r1) * 3 / 2 + 1))) l1 (.lst ((upto 1 (3 * m)).map V.int))) pl (.lst ((upto 1 (3 * m) ++ upto 1 (3 * m)).map V.int))) d := by
        rw [e3] at hpl
        exact ((R2.new hp1).new hl1).new hpl
      have hpl4 : (upd (upd (upd H2 p1 (.rng 1 ((2 + 2 * r1) * 3 / 2 + 1))) l1 (.lst ((upto 1 (3 * m)).map V.int))) pl (.lst ((upto 1 (3 * m) ++ upto 1 (3 * m)).map V.int))) pl = some (.lst ((pool (3 * m)).map V.int)) := upd_same
      generalize upd (upd (upd H2 p1 (.rng 1 ((2 + 2 * r1) * 3 / 2 + 1))) l1 (.lst ((upto 1 (3 * m)).map V.int))) pl (.lst ((upto 1 (3 * m) ++ upto 1 (3 * m)).map V.int)) = H4 at B4 R4 hpl4 ⊢
      refine ⟨(by show 0 ≤ sizeLine; decide), fun od hod => ?_⟩
      have B5 := B4.new (o := .lst []) hod
      have R5 := R4.new (o := .lst []) hod
      have hod5 : (upd H4 od (.lst [])) od = some (.lst (([] : List Int).map V.int)) := upd_same
      have hpl5 : (upd H4 od (.lst [])) pl = some (.lst ((pool (3 * m)).map V.int)) := by rw [upd_ne (ne_of_none hpl4 hod)]; exact hpl4
      have nod : od ≠ d := R4.ne hod
      have odfree : H od = none := B4.fr hod nod
      have npo : pl ≠ od := ne_of_none hpl4 hod
      generalize upd H4 od (.lst []) = H5 at B5 R5 hod5 hpl5 ⊢
      refine while_by (fun σ H' => ∃ (ps os : List Int), σ = [some (.ref d), some (.int (2 + 2 * r1)), some (.ref pl), some (.ref od)] ∧ H' pl = some (.lst (ps.map V.int)) ∧ H' od = some (.lst (os.map V.int)) ∧ (os.map absI ++ ps).Perm (pool (3 * m)) ∧ Rest H' d ∧ But d H H') (fun σ H' => match H' pl with | some (.lst xs) => xs.length | _ => 0) ⟨pool (3 * m), [], rfl, hpl5, hod5, List.Perm.refl _, R5, B5⟩ ?_ (fun σ H Q Q' h hc => by obtain ⟨v, e, z, k⟩ := hc; exact ⟨v, e, z, fun p hp => by obtain ⟨d1, d2, a1, a2, a3, a4, a5, b, eb, q⟩ := k p hp; exact ⟨d1, d2, a1, a2, a3, a4, a5, b, eb, h _ _ q⟩⟩)
      rintro σ H6 ⟨ps, os, rfl, hpl6, hod6, pm, R6, B6⟩
      have len6 : os.length + ps.length = 6 * m := by
        have := pm.length_eq
        rw [List.length_append, List.length_map, pool_len] at this
        omega
      refine ⟨_, rfl, (by show 0 ≤ sizeLine; decide), fun z hz => ?_⟩
      have s7 := Same.new (o := .lst []) (Same.refl H6) hz
      have hz7 : (upd H6 z (.lst [])) z = some (.lst (([] : List Int).map V.int)) := upd_same
      generalize upd H6 z (.lst []) = H7 at s7 hz7 ⊢
      have hpl7 := s7 _ _ hpl6
      have hod7 := s7 _ _ hod6
      have R7 := R6.same s7
      have B7 : But d H H7 := B6.trans (But.same s7)
      refine ⟨_, _, di_lst (SqL.of hpl7), di_lst (SqL.of hz7), lay_dI _, lay_dI _, dep_dI _, _, rfl, ?_⟩
      rw [eqv_dI]
      by_cases pe : ps = []
      · rw [decide_eq_true pe]
        refine iteF ?_
        subst pe
        rw [List.append_nil] at pm
        have ol : os.length = 6 * m := by simpa using len6
        refine ⟨_, rfl, (2 + 2 * r1), rfl, by omega, by omega, compR (lo := 0) (n := (2 + 2 * r1).toNat) (fun i ys H' => TuL H' ys ((List.range i).map fun k => (os.drop (3 * k)).take 3) ∧ Same H7 H') ⟨TuL.nil _, Same.refl H7⟩ (by omega) (fun i ys H' h => by rw [h.1.1, List.length_map, List.length_range]; exact Nat.le_refl _) ?_ ?_⟩
        · rintro i ys H8 pre hpre hi ⟨tz, s8⟩
          rcases pre with _ | ⟨q0, _ | ⟨q1, pre⟩⟩
          · cases hpre
          · refine ⟨⟨[some _], rfl, rfl⟩, ?_⟩
            unfold tYes
            dsimp only
            rw [if_pos (rfl : true = true)]
            refine ⟨_, rfl, _, rfl, 3, (0 + (i : Int)), rfl, rfl, .inl ⟨by decide, by decide⟩, 3 * (0 + (i : Int)), rfl, _, rfl, 3, (0 + (i : Int)), rfl, rfl, .inl ⟨by decide, by decide⟩, _, _, rfl, rfl, 3 * (0 + (i : Int)) + 3, rfl, od, _, rfl, SqL.of (s8 _ _ hod7), fun q hq => ?_⟩
            rw [cut_midL _ (by omega) (by decide) (by rw [List.length_map]; omega)]
            have e4 : (3 * (0 + (i : Int))).toNat = 3 * i := by omega
            rw [e4]
            have e5 : (((os.map V.int).drop (3 * i)).take (3 : Int).toNat) = ((os.drop (3 * i)).take 3).map V.int := by rw [← List.map_drop, ← List.map_take]; rfl
            rw [e5]
            have s9 := Same.new (o := .lst (((os.drop (3 * i)).take 3).map V.int)) (Same.refl H8) hq
            refine ⟨q, _, rfl, .inl ⟨SqL.of upd_same, fun t ht => ?_⟩⟩
            have s10 := Same.new (o := .tup (((os.drop (3 * i)).take 3).map V.int)) s9 ht
            rw [List.range_succ, List.map_append]
            exact ⟨TuL.snoc (TuL.up tz s10.tups) upd_same, s8.trans s10⟩
          · cases hpre
        · rintro ys H8 ⟨tz, s8⟩ D hD
          have s9 := Same.new (o := .lst ys) s8 hD
          have B9 : But d H (upd H8 D (.lst ys)) := B7.trans (But.same s9)
          have nD : D ≠ d := (R7.same s8).ne hD
          have e6 : (2 + 2 * r1).toNat = 2 * m := by omega
          rw [e6] at tz
          exact k D ys _ _ (B7.fr (s8.free hD) nD) upd_same (TuL.up tz (Same.new (o := .lst ys) (Same.refl H8) hD).tups) (sheet_ok m1 m6 pm) (R7.same s9) B9
      · rw [decide_eq_false pe]
        refine iteT ?_
        have psl : 0 < ps.length := List.length_pos_iff.mpr pe
        refine ⟨_, rfl, .inl ⟨rfl, _, SqL.of hod7⟩, _, rfl, .inl ⟨rfl, _, SqL.of hpl7⟩, _, rfl, _, rfl, pl, _, rfl, .inl (SqL.of hpl7), d, ((ps.map V.int).length : Nat), rfl, R7, by rw [List.length_map]; omega, dg (by rw [List.length_map]; omega), fun r1 H8 r10 r11 R8 B8 => ?_⟩
        rw [List.length_map] at r11
        have hpl8 := B8 _ _ hpl7 npd
        have hod8 := B8 _ _ hod7 nod
        obtain ⟨y, hy⟩ : ∃ y, ps[r1.toNat]? = some y := ⟨_, List.getElem?_eq_getElem (by omega)⟩
        have si : seqIndex? r1 (ps.map V.int).length = some r1.toNat := seqIndex_of r10 (by rw [List.length_map]; exact r11)
        refine ⟨pl, _, r1, r1.toNat, V.int y, rfl, rfl, hpl8, by omega, by omega, si, by rw [List.getElem?_map, hy]; rfl, ?_⟩
        rw [map_erase]
        have R9 : Rest (upd H8 pl (.lst ((ps.eraseIdx r1.toNat).map V.int))) d := by
          obtain ⟨n, e⟩ := R8
          exact ⟨n, by rw [upd_ne (Ne.symm npd)]; exact e⟩
        have hod9 : (upd H8 pl (.lst ((ps.eraseIdx r1.toNat).map V.int))) od = some (.lst (os.map V.int)) := by rw [upd_ne (Ne.symm npo)]; exact hod8
        have hpl9 : (upd H8 pl (.lst ((ps.eraseIdx r1.toNat).map V.int))) pl = some (.lst ((ps.eraseIdx r1.toNat).map V.int)) := upd_same
        have B9 : But d H (upd H8 pl (.lst ((ps.eraseIdx r1.toNat).map V.int))) := fun c o e n => by
          by_cases z : c = pl
          · subst z
            rw [plfree] at e
            cases e
          · rw [upd_ne z]
            exact B8 c o (B7 c o e n) n
        generalize upd H8 pl (.lst ((ps.eraseIdx r1.toNat).map V.int)) = H9 at R9 hod9 hpl9 B9 ⊢
        refine ⟨_, rfl, d, 2, rfl, R9, by decide, dg (by decide), fun r2 HA r20 r21 RA BA => ⟨2, r2, rfl, rfl, .inl ⟨by decide, by decide⟩, 1, 2 * r2, rfl, rfl, y, 1 - 2 * r2, rfl, rfl, .inr ⟨by omega, by omega⟩, ?_⟩⟩
        have hodA := BA _ _ hod9 nod
        have hplA := BA _ _ hpl9 npd
        refine ⟨od, _, _, rfl, rfl, hodA, Nat.lt_of_le_of_lt (show (os.map V.int).length ≤ 1000 by rw [List.length_map]; omega) (by decide), ?_⟩
        have my : y ∈ pool (3 * m) := pm.subset (List.mem_append_right _ (List.mem_of_getElem? hy))
        have yb := mem_pool my
        have RB : Rest (upd HA od (.lst (os.map V.int ++ [(fun i j => V.int (i * j)) y (1 - 2 * r2)]))) d := by
          obtain ⟨n, e⟩ := RA
          exact ⟨n, by rw [upd_ne (Ne.symm nod)]; exact e⟩
        have BB' : But d H (upd HA od (.lst (os.map V.int ++ [(fun i j => V.int (i * j)) y (1 - 2 * r2)]))) := fun c o e n => by
          by_cases z : c = od
          · subst z
            rw [odfree] at e
            cases e
          · rw [upd_ne z]
            exact BA c o (B9 c o e n) n
        have hplB : (upd HA od (.lst (os.map V.int ++ [(fun i j => V.int (i * j)) y (1 - 2 * r2)]))) pl = some (.lst ((ps.eraseIdx r1.toNat).map V.int)) := by rw [upd_ne npo]; exact hplA
        refine ⟨⟨ps.eraseIdx r1.toNat, os ++ [y * (1 - 2 * r2)], rfl, hplB, ?_, ?_, RB, BB'⟩, ?_⟩
        · rw [upd_same, List.map_append]
          rfl
        · rw [List.map_append, List.append_assoc]
          refine List.Perm.trans (List.Perm.append_left _ ?_) pm
          show (absI (y * (1 - 2 * r2)) :: ps.eraseIdx r1.toNat).Perm ps
          rw [abs_sign (by omega) r20 r21]
          exact (erase_permK hy).symm
        · dsimp only
          rw [hplB, hpl6]
          dsimp only
          rw [List.length_map, List.length_map]
          have := (erase_permK hy).length_eq
          simp only [List.length_cons] at this
          omega
end
end Toy
set_option Elab.async false
set_option linter.all false
set_option maxRecDepth 100000
set_option maxHeartbeats 1000000
set_option Elab.async false
set_option linter.all false
set_option maxRecDepth 100000
set_option maxHeartbeats 1000000
namespace L2
open PySem PySem.Spec PyProof.Rows
def sideT (i : Nat) (t : List Int) : List (List Int × Int) := (List.range t.length).map fun (p : Nat) => ([(i : Int), (p : Int)], absI (t.getD p 0))
def sidesF (S : List (List Int)) : List (List Int × Int) := ((List.range S.length).map fun i => sideT i (S.getD i [])).flatten
def glueOf (P : List (List Int × Int)) (k : Nat) : List (List Int) := (P.filter fun q => decide (q.2 = (k : Int) + 1)).map (·.1)
theorem sidesF_snoc (S : List (List Int)) (t : List Int) : sidesF (S ++ [t]) = sidesF S ++ sideT S.length t := by
  unfold sidesF
  rw [List.length_append, List.length_cons, List.length_nil, List.range_succ, List.map_append, List.flatten_append]
  congr 1
  · congr 1
    refine List.map_congr_left fun i hi => ?_
    have := List.mem_range.mp hi
    rw [List.getD_eq_getElem?_getD, List.getD_eq_getElem?_getD, List.getElem?_append_left this]
  · simp [List.getD_eq_getElem?_getD]
theorem sideT_len (i : Nat) (t : List Int) : (sideT i t).length = t.length := by unfold sideT; rw [List.length_map, List.length_range]
theorem sideT_at {i p : Nat} {t : List Int} {s : Int} (h : t[p]? = some s) : (sideT i t)[p]? = some ([(i : Int), (p : Int)], absI s) := by
  unfold sideT
  have pl := (List.getElem?_eq_some_iff.mp h).1
  rw [List.getElem?_map, List.getElem?_range pl]
  show some ([(i : Int), (p : Int)], absI (t.getD p 0)) = _
  rw [List.getD_eq_getElem?_getD, h]
  rfl
theorem glue_snoc (P : List (List Int × Int)) (q : List Int × Int) (k : Nat) : glueOf (P ++ [q]) k = if q.2 = (k : Int) + 1 then glueOf P k ++ [q.1] else glueOf P k := by
  unfold glueOf
  rw [List.filter_append, List.map_append]
  by_cases h : q.2 = (k : Int) + 1
  · rw [if_pos h]
    simp [h]
  · rw [if_neg h]
    simp [h]
structure GlInv (n : Nat) (P : List (List Int × Int)) (gs : List (List (List Int))) : Prop where
  len : gs.length = n
  val : ∀ k, k < n → gs[k]? = some (glueOf P k)
theorem GlInv.put {n : Nat} {P : List (List Int × Int)} {gs : List (List (List Int))} (h : GlInv n P gs) {u : List Int} {k : Nat} (hk : k < n) : GlInv n (P ++ [(u, (k : Int) + 1)]) (gs.set k (glueOf P k ++ [u])) := by
  refine ⟨by rw [List.length_set]; exact h.len, fun j hj => ?_⟩
  rw [List.getElem?_set, glue_snoc]
  by_cases e : k = j
  · subst e
    rw [if_pos rfl, if_pos (by rw [h.len]; exact hk), if_pos rfl]
  · rw [if_neg e, if_neg (by show ¬ ((k : Int) + 1 = (j : Int) + 1); omega)]
    exact h.val j hj
theorem sidesF_ties : ∀ (n : Nat) (S : List (List Int)), S.length = n → (sidesF S).map (·.2) = S.flatten.map absI
  | 0, S, h => by
    cases S with
    | nil => rfl
    | cons _ _ => cases h
  | n + 1, S, h => by
    have ne : S ≠ [] := fun z => by rw [z] at h; cases h
    obtain ⟨S', t, rfl⟩ : ∃ S' t, S = S' ++ [t] := ⟨S.dropLast, S.getLast ne, (List.dropLast_concat_getLast ne).symm⟩
    have h' : S'.length = n := by simpa using h
    rw [sidesF_snoc, List.map_append, sidesF_ties n S' h', List.flatten_append, List.map_append]
    congr 1
    simp only [List.flatten_cons, List.flatten_nil, List.append_nil]
    unfold sideT
    rw [List.map_map]
    apply List.ext_getElem?
    intro p
    rw [List.getElem?_map, List.getElem?_map]
    by_cases pl : p < t.length
    · rw [List.getElem?_range pl, List.getElem?_eq_getElem pl]
      show some (absI (t.getD p 0)) = some (absI t[p])
      rw [List.getD_eq_getElem?_getD, List.getElem?_eq_getElem pl]
      rfl
    · rw [List.getElem?_eq_none (by simpa using pl), List.getElem?_eq_none (by omega)]
      rfl
theorem mem_sides {S : List (List Int)} {q : List Int × Int} (h : q ∈ sidesF S) : ∃ (i p : Nat) (t : List Int) (s : Int), S[i]? = some t ∧ t[p]? = some s ∧ q = ([(i : Int), (p : Int)], absI s) := by
  unfold sidesF at h
  obtain ⟨l, hl, hq⟩ := List.mem_flatten.mp h
  obtain ⟨i, hi, rfl⟩ := List.mem_map.mp hl
  have il := List.mem_range.mp hi
  unfold sideT at hq
  obtain ⟨p, hp, rfl⟩ := List.mem_map.mp hq
  have pl := List.mem_range.mp hp
  have ei : S[i]? = some (S.getD i []) := by rw [List.getD_eq_getElem?_getD, List.getElem?_eq_getElem il]; rfl
  refine ⟨i, p, S.getD i [], (S.getD i []).getD p 0, ei, ?_, rfl⟩
  rw [List.getD_eq_getElem?_getD (l := S.getD i []), List.getElem?_eq_getElem pl]
  rfl
theorem glue_two {S : List (List Int)} (oS : ShOk S) {k : Nat} (hk : k < S.length / 2 * 3) : (glueOf (sidesF S) k).length = 2 := by
  unfold glueOf
  rw [List.length_map, ← List.countP_eq_length_filter]
  have e : (sidesF S).countP (fun q => decide (q.2 = (k : Int) + 1)) = ((sidesF S).map (·.2)).countP fun z => decide (z = (k : Int) + 1) := by
    rw [List.countP_map]
    rfl
  rw [e, sidesF_ties _ S rfl, oS.ties.countP_eq, count_pool, if_pos (by omega)]
theorem glue_mem {S : List (List Int)} {k : Nat} {u : List Int} (h : u ∈ glueOf (sidesF S) k) : ∃ (i p : Nat) (t : List Int) (s : Int), S[i]? = some t ∧ t[p]? = some s ∧ u = [(i : Int), (p : Int)] ∧ absI s = (k : Int) + 1 := by
  unfold glueOf at h
  obtain ⟨q, hq, rfl⟩ := List.mem_map.mp h
  obtain ⟨h1, h2⟩ := List.mem_filter.mp hq
  obtain ⟨i, p, t, s, e1, e2, rfl⟩ := mem_sides h1
  exact ⟨i, p, t, s, e1, e2, rfl, of_decide_eq_true h2⟩
theorem two2 {α : Type} {l : List α} (h : l.length = 2) : ∃ a b, l = [a, b] := by
  match l, h with
  | [a, b], _ => exact ⟨a, b, rfl⟩
theorem LsL.put {H : Hp} {tp : Bool} {ys xs : List V} {uss : List (List (List Int))} {a : Addr} {k : Nat} {x : V} {u : List Int} {us : List (List Int)} (h : LsL H tp ys uss) (nd : ys.Nodup) (ek : ys[k]? = some (.ref a)) (eu : uss[k]? = some us) (ha : H a = some (.lst xs)) (i : Itm H tp x u) : LsL (upd H a (.lst (xs ++ [x]))) tp ys (uss.set k (us ++ [u])) := by
  have t : Tups H (upd H a (.lst (xs ++ [x]))) := Tups.lst (Tups.refl H) ha
  have kl : k < uss.length := (List.getElem?_eq_some_iff.mp eu).1
  refine ⟨by rw [List.length_set]; exact h.1, fun j y vs h1 h2 => ?_⟩
  rw [List.getElem?_set] at h2
  by_cases e : k = j
  · subst e
    rw [if_pos rfl, if_pos kl] at h2
    cases h2
    rw [ek] at h1
    cases h1
    obtain ⟨a', xs', ea, ha', it⟩ := h.2 k _ us ek eu
    cases ea
    rw [ha] at ha'
    cases ha'
    exact ⟨a, xs ++ [x], rfl, upd_same, (it.append (ItL.cons i (ItL.nil _ _))).up t⟩
  · rw [if_neg e] at h2
    obtain ⟨a', xs', ea, ha', it⟩ := h.2 j y vs h1 h2
    have na : a' ≠ a := fun z => by
      rw [ea, z] at h1
      have l1 := (List.getElem?_eq_some_iff.mp ek)
      have l2 := (List.getElem?_eq_some_iff.mp h1)
      exact e ((List.getElem_inj nd).mp (l1.2.trans l2.2.symm))
    exact ⟨a', xs', ea, by rw [upd_ne na]; exact ha', it.up t⟩
end L2
set_option Elab.async false
set_option linter.all false
set_option maxRecDepth 100000
set_option maxHeartbeats 1000000
set_option Elab.async false
set_option linter.all false
set_option maxRecDepth 100000
set_option maxHeartbeats 1000000
set_option Elab.async false
set_option linter.all false
set_option maxRecDepth 100000
set_option maxHeartbeats 1000000
namespace L2
open PySem PySem.Spec PyProof.Rows
def nc (m : Nat) : List Int := [(m : Int)]
def RD (D : List (Nat × Nat)) (u v : Nat) : Prop := (u, v) ∈ D
def dirL (L : List (Nat × Nat)) : List (Nat × Nat) := (L.map fun p => [p, (p.2, p.1)]).flatten
theorem dirL_snoc (L : List (Nat × Nat)) (p : Nat × Nat) : dirL (L ++ [p]) = dirL L ++ [p] ++ [(p.2, p.1)] := by simp [dirL]
theorem dirL_len (L : List (Nat × Nat)) : (dirL L).length = 2 * L.length := by
  induction L with
  | nil => rfl
  | cons p L ih =>
    have : dirL (p :: L) = [p, (p.2, p.1)] ++ dirL L := by simp [dirL]
    rw [this, List.length_append, ih, List.length_cons, List.length_cons, List.length_cons, List.length_nil]
    omega
theorem mem_dirL {L : List (Nat × Nat)} {u v : Nat} : (u, v) ∈ dirL L ↔ (u, v) ∈ L ∨ (v, u) ∈ L := by
  unfold dirL
  simp only [List.mem_flatten, List.mem_map]
  constructor
  · rintro ⟨l, ⟨⟨a, b⟩, hp, rfl⟩, h⟩
    simp at h
    rcases h with ⟨rfl, rfl⟩ | ⟨rfl, rfl⟩
    · exact .inl hp
    · exact .inr hp
  · rintro (h | h)
    · exact ⟨_, ⟨_, h, rfl⟩, by simp⟩
    · exact ⟨_, ⟨_, h, rfl⟩, by simp⟩
structure BsI (n : Nat) (D : List (Nat × Nat)) (gs : List (List (List Int))) : Prop where
  len : gs.length = n
  at' : ∀ k, k < n → ∃ ms : List Nat, gs[k]? = some (ms.map nc) ∧ ms.length ≤ D.length ∧ ∀ j, j ∈ ms ↔ (k, j) ∈ D
theorem BsI.put {n : Nat} {D : List (Nat × Nat)} {gs : List (List (List Int))} (h : BsI n D gs) {a b : Nat} (ha : a < n) {us : List (List Int)} (e : gs[a]? = some us) : BsI n (D ++ [(a, b)]) (gs.set a (us ++ [nc b])) := by
  refine ⟨by rw [List.length_set, h.len], fun k hk => ?_⟩
  obtain ⟨ms, e1, l1, m1⟩ := h.at' k hk
  rw [List.getElem?_set]
  by_cases c : a = k
  · subst c
    rw [e] at e1
    cases e1
    refine ⟨ms ++ [b], ?_, ?_, fun j => ?_⟩
    · rw [if_pos rfl, if_pos (by rw [h.len]; exact hk)]; simp
    · rw [List.length_append, List.length_append]; exact Nat.add_le_add_right l1 _
    · simp [m1]
  · refine ⟨ms, by rw [if_neg c]; exact e1, by rw [List.length_append]; omega, fun j => ?_⟩
    rw [m1, List.mem_append]
    refine ⟨.inl, fun z => z.elim id fun z => ?_⟩
    simp at z
    exact absurd z.1.symm c
theorem set_seen {b : List Bool} {g k : Nat} (hg : g < b.length) : (b.set g true)[k]? = some true ↔ k = g ∨ b[k]? = some true := by
  rw [List.getElem?_set]
  by_cases c : g = k
  · subst c
    rw [if_pos rfl, if_pos hg]
    simp
  · rw [if_neg c]
    exact ⟨.inr, fun z => z.elim (fun e => absurd e.symm c) id⟩
structure RmI (n : Nat) (D : List (Nat × Nat)) (b0 b : List Bool) (s : Nat) (vs as : List Nat) (pl : Option Nat) : Prop where
  len : b.length = n
  seen : ∀ k, k < n → (b[k]? = some true ↔ b0[k]? = some true ∨ k ∈ vs)
  nd : vs.Nodup
  lt : ∀ k ∈ vs, k < n
  new : ∀ k ∈ vs, b0[k]? ≠ some true
  start : s ∈ vs
  conn : ∀ k ∈ vs, Conn (RD D) s k
  sub : ∀ k ∈ as, k ∈ vs
  done : ∀ k ∈ vs, k ∉ as → pl ≠ some k → ∀ j, (k, j) ∈ D → b[j]? = some true
section
variable {n : Nat} {D : List (Nat × Nat)} {b0 b : List Bool} {s p g : Nat} {vs as : List Nat} {pl : Option Nat}
theorem RmI.size (h : RmI n D b0 b s vs as pl) : vs.length ≤ n := by
  have := nodup_leN (m := List.range n) h.nd fun x hx => List.mem_range.mpr (h.lt x hx)
  rwa [List.length_range] at this
theorem RmI.init (hl : b0.length = n) (hs : s < n) (e : b0[s]? = some false) : RmI n D b0 (b0.set s true) s [s] [s] none where
  len := by rw [List.length_set, hl]
  seen := fun k hk => by
    rw [set_seen (by omega)]
    simp
    exact ⟨fun z => z.elim .inr .inl, fun z => z.elim .inr .inl⟩
  nd := by simp
  lt := fun k hk => by rw [List.mem_singleton.mp hk]; exact hs
  new := fun k hk => by rw [List.mem_singleton.mp hk, e]; simp
  start := by simp
  conn := fun k hk => by rw [List.mem_singleton.mp hk]; exact .refl _
  sub := fun k hk => hk
  done := fun k hk ha => absurd hk ha
theorem RmI.pop (h : RmI n D b0 b s vs (as ++ [p]) none) : RmI n D b0 b s vs as (some p) ∧ p ∈ vs :=
  ⟨⟨h.len, h.seen, h.nd, h.lt, h.new, h.start, h.conn, fun k hk => h.sub k (List.mem_append_left _ hk), fun k hk ha hp => h.done k hk (fun z => by
    rcases List.mem_append.mp z with z | z
    · exact ha z
    · exact hp (by rw [List.mem_singleton.mp z])) (by simp)⟩, h.sub p (by simp)⟩
theorem RmI.add (h : RmI n D b0 b s vs as pl) (hp : p ∈ vs) (hg : (p, g) ∈ D) (gl : g < n) (e : b[g]? = some false) : RmI n D b0 (b.set g true) s (vs ++ [g]) (as ++ [g]) pl := by
  have hb : g < b.length := by rw [h.len]; exact gl
  have ng : g ∉ vs := fun z => by
    have := (h.seen g gl).mpr (.inr z)
    rw [e] at this
    cases this
  refine ⟨by rw [List.length_set, h.len], fun k hk => ?_, ?_, fun k hk => ?_, fun k hk => ?_, List.mem_append_left _ h.start, fun k hk => ?_, fun k hk => ?_, fun k hk ha hp' j hj => ?_⟩
  · rw [set_seen hb, h.seen k hk, List.mem_append, List.mem_singleton]
    exact ⟨fun z => z.elim (fun z => .inr (.inr z)) fun z => z.elim .inl fun z => .inr (.inl z), fun z => z.elim (fun z => .inr (.inl z)) fun z => z.elim (fun z => .inr (.inr z)) .inl⟩
  · rw [List.nodup_append]
    exact ⟨h.nd, by simp, fun x hx y hy e => ng (by rw [← List.mem_singleton.mp hy, ← e]; exact hx)⟩
  · rcases List.mem_append.mp hk with z | z
    · exact h.lt k z
    · rw [List.mem_singleton.mp z]; exact gl
  · rcases List.mem_append.mp hk with z | z
    · exact h.new k z
    · rw [List.mem_singleton.mp z]
      intro q
      have := (h.seen g gl).mpr (.inl q)
      rw [e] at this
      cases this
  · rcases List.mem_append.mp hk with z | z
    · exact h.conn k z
    · rw [List.mem_singleton.mp z]; exact .step (h.conn p hp) hg
  · rcases List.mem_append.mp hk with z | z
    · exact List.mem_append_left _ (h.sub k z)
    · exact List.mem_append_right _ z
  · rw [set_seen hb]
    rcases List.mem_append.mp hk with z | z
    · exact .inr (h.done k z (fun q => ha (List.mem_append_left _ q)) hp' j hj)
    · exact absurd (List.mem_append_right _ z) ha
theorem RmI.fin (h : RmI n D b0 b s vs as (some p)) (hd : ∀ j, (p, j) ∈ D → b[j]? = some true) : RmI n D b0 b s vs as none :=
  ⟨h.len, h.seen, h.nd, h.lt, h.new, h.start, h.conn, h.sub, fun k hk ha _ j hj => by
    by_cases c : p = k
    · subst c; exact hd j hj
    · exact h.done k hk ha (fun e => c (Option.some.inj e)) j hj⟩
end
structure LkI (n : Nat) (D : List (Nat × Nat)) (i : Nat) (b : List Bool) (hs : List (List Nat)) : Prop where
  len : b.length = n
  seen : ∀ k, k < n → (b[k]? = some true ↔ k ∈ hs.flatten)
  lt : ∀ k ∈ hs.flatten, k < n
  low : ∀ k, k < i → k ∈ hs.flatten
  nd : hs.flatten.Nodup
  pt : Parts (RD D) hs.flatten hs
  up : ∀ h ∈ hs, h.Pairwise (· < ·)
  hd : ∀ h ∈ hs, ∃ x t, h = x :: t ∧ x < i
  hds : hs.Pairwise (fun g h => ∃ x t y u, g = x :: t ∧ h = y :: u ∧ x < y)
section
variable {n : Nat} {D : List (Nat × Nat)} {b b' : List Bool} {i : Nat} {hs : List (List Nat)} {vs ws : List Nat}
theorem LkI.init (n : Nat) (D : List (Nat × Nat)) : LkI n D 0 (List.replicate n false) [] where
  len := by simp
  seen := fun k hk => by simp [List.getElem?_replicate, hk]
  lt := fun k hk => by simp at hk
  low := fun k hk => absurd hk (Nat.not_lt_zero _)
  nd := by simp
  pt := .nil
  up := fun h hh => by simp at hh
  hd := fun h hh => by simp at hh
  hds := .nil
theorem LkI.skip (h : LkI n D i b hs) (hi : i < n) (e : b[i]? = some true) : LkI n D (i + 1) b hs :=
  ⟨h.len, h.seen, h.lt, fun k hk => by
    by_cases c : k = i
    · rw [c]; exact (h.seen i hi).mp e
    · exact h.low k (by omega), h.nd, h.pt, h.up, fun g hg => by
    obtain ⟨x, t, e1, e2⟩ := h.hd g hg
    exact ⟨x, t, e1, by omega⟩, h.hds⟩
theorem LkI.room (h : LkI n D i b hs) (hi : i < n) (r : RmI n D b b' i vs [] none) (pw : ws.Perm vs) (up : ws.Pairwise (· < ·)) (sy : ∀ u v, (u, v) ∈ D → (v, u) ∈ D) (rg : ∀ u v, (u, v) ∈ D → v < n) : LkI n D (i + 1) b' (hs ++ [ws]) := by
  have fl : (hs ++ [ws]).flatten = hs.flatten ++ ws := by simp
  have mw : ∀ k, k ∈ ws ↔ k ∈ vs := fun k => pw.mem_iff
  have nn : ∀ k ∈ ws, k ∉ hs.flatten := fun k hk z => r.new k ((mw k).mp hk) ((h.seen k (r.lt k ((mw k).mp hk))).mpr z)
  have iw : i ∈ ws := (mw i).mpr r.start
  have hd : ∃ t, ws = i :: t := by
    cases e : ws with
    | nil => rw [e] at iw; cases iw
    | cons x t =>
      rw [e] at iw up
      rcases List.mem_cons.mp iw with rfl | z
      · exact ⟨t, rfl⟩
      · have h1 : x < i := (List.pairwise_cons.mp up).1 i z
        exact absurd (h.low x h1) (nn x (by rw [e]; exact List.mem_cons_self))
  obtain ⟨t, et⟩ := hd
  refine ⟨r.len, fun k hk => ?_, fun k hk => ?_, fun k hk => ?_, ?_, ?_, fun g hg => ?_, fun g hg => ?_, ?_⟩
  · rw [fl, List.mem_append, r.seen k hk, h.seen k hk, mw]
  · rw [fl] at hk
    rcases List.mem_append.mp hk with z | z
    · exact h.lt k z
    · exact r.lt k ((mw k).mp z)
  · rw [fl, List.mem_append]
    by_cases c : k = i
    · rw [c]; exact .inr iw
    · exact .inl (h.low k (by omega))
  · rw [fl, List.nodup_append]
    exact ⟨h.nd, pw.nodup_iff.mpr r.nd, fun x hx y hy e => nn y hy (e ▸ hx)⟩
  · refine ⟨.refl _, fun g hg => ?_, fun g hg x hx y hy => ?_, fun g hg x hx y hy => ?_⟩
    · rcases List.mem_append.mp hg with z | z
      · exact h.pt.ne g z
      · rw [List.mem_singleton.mp z, et]; simp
    · rcases List.mem_append.mp hg with z | z
      · exact h.pt.conn g z x hx y hy
      · rw [List.mem_singleton.mp z] at hx hy
        exact ((r.conn x ((mw x).mp hx)).symm fun a c q => sy a c q).trans (r.conn y ((mw y).mp hy))
    · rcases List.mem_append.mp hg with z | z
      · exact h.pt.closed g z x hx y hy
      · rw [List.mem_singleton.mp z] at hx ⊢
        have yl : y < n := rg x y hy
        have := r.done x ((mw x).mp hx) (by simp) (by simp) y hy
        rcases (r.seen y yl).mp this with q | q
        · obtain ⟨g', hg', yg⟩ := List.mem_flatten.mp ((h.seen y yl).mp q)
          exact absurd (List.mem_flatten.mpr ⟨g', hg', h.pt.closed g' hg' y yg x (sy x y hy)⟩) (nn x hx)
        · exact (mw y).mpr q
  · rcases List.mem_append.mp hg with z | z
    · exact h.up g z
    · rw [List.mem_singleton.mp z]; exact up
  · rcases List.mem_append.mp hg with z | z
    · obtain ⟨x, t, e1, e2⟩ := h.hd g z
      exact ⟨x, t, e1, by omega⟩
    · rw [List.mem_singleton.mp z]; exact ⟨i, t, et, by omega⟩
  · rw [List.pairwise_append]
    refine ⟨h.hds, List.pairwise_singleton _ _, fun g hg g' hg' => ?_⟩
    rw [List.mem_singleton.mp hg']
    obtain ⟨x, u, e1, e2⟩ := h.hd g hg
    exact ⟨x, u, i, t, e1, et, e2⟩
theorem LkI.parts (h : LkI n D n b hs) : Parts (RD D) (List.range n) hs :=
  h.pt.ts (perm_of_mem h.nd List.nodup_range fun x => ⟨fun z => List.mem_range.mpr (h.lt x z), fun z => h.low x (List.mem_range.mp z)⟩)
end
def fE (e : Nat) : List Int := [((e / 2 : Nat) : Int) + 1, ((e % 2 : Nat) : Int)]
end L2
set_option Elab.async false
set_option linter.all false
set_option maxRecDepth 100000
set_option maxHeartbeats 1000000
namespace L2
open PySem PySem.Spec PyProof.Rows
def nv (m : Nat) : V := .int (m : Int)
def pc (p : Nat × Nat) : List Int := [(p.1 : Int), (p.2 : Int)]
theorem it_nv {H : Hp} : ∀ {ms : List Nat} {xs : List V}, ItL H false xs (ms.map nc) → xs = ms.map nv
  | [], [], _ => rfl
  | [], x :: xs, h => absurd h.1 (by simp)
  | m :: ms, [], h => absurd h.1 (by simp)
  | m :: ms, x :: xs, h => by
    have h1 := h.head
    have h2 := it_nv h.tail
    have : x = nv m := by
      have key : ∀ {x : V} {u : List Int}, Itm H false x u → ∀ i : Int, u = [i] → x = .int i := fun hx i e => by
        cases hx with
        | int j => cases e; rfl
      exact key h1 _ rfl
    rw [this, h2]
    rfl
theorem nv_it {H : Hp} : ∀ ms : List Nat, ItL H false (ms.map nv) (ms.map nc)
  | [] => ItL.nil _ _
  | m :: ms => ItL.cons (.int _) (nv_it ms)
def tBeside (K : PySem.W.Frag) : TS := tSeq (tAsg (tCompG 1 (iRng1 (tCons (tVar 0) tNil)) (gName 0) tYes (tLst tNil)) (gName 2)) (tSeq (tFor (iList K (tVar 1)) (gTup K 2 (gCons (gName 3) (gCons (gName 4) gNil))) (tSeq (tDrop (tBM K "list" rAppend (tOp (rIxL K) (tVar 2) (tVar 3)) (tCons (tVar 4) tNil))) (tDrop (tBM K "list" rAppend (tOp (rIxL K) (tVar 2) (tVar 4)) (tCons (tVar 3) tNil))))) (tRet (tVar 2)))
theorem beside_reads {K : PySem.W.Frag} {H : Hp} {Q : VK} {Z : L2.St → Hp → Prop} {b : Addr} {n : Nat} {ps : List V} {L : List (Nat × Nat)} (hb : H b = some (.lst ps)) (tL : TuL H ps (L.map pc)) (hn : n ≤ 1000) (hL : L.length ≤ 400) (rg : ∀ p ∈ L, p.1 < n ∧ p.2 < n)
    (k : ∀ (c : Addr) (zs : List V) (gs : List (List (List Int))) (H' : Hp), Same H H' → H c = none → H' c = some (.lst zs) → LsL H' false zs gs → BsI n (dirL L) gs → Q (.ref c) H') : tBeside K { nx := Z, rt := Q } [some (nv n), some (.ref b), none, none, none] H := by
  have e7 : ((n : Int)).toNat = n := Int.toNat_natCast n
  refine ⟨_, rfl, (n : Int), rfl, by omega, by omega, compR (lo := 0) (n := ((n : Int)).toNat) (fun i ys H' => LsL H' false ys (List.replicate i []) ∧ ys.Nodup ∧ Same H H' ∧ ∀ y ∈ ys, ∀ a, y = .ref a → H a = none) ⟨LsL.nil _ _, List.nodup_nil, Same.refl H, fun y hy => (by cases hy)⟩ (by omega) (fun i ys H' h => by rw [h.1.1, List.length_replicate]; exact Nat.le_refl _) ?_ ?_⟩
  · rintro i ys H1 pre hpre hi ⟨l1, nd1, s1, f1⟩
    rcases pre with _ | ⟨q0, _ | ⟨q1, pre⟩⟩
    · cases hpre
    · refine ⟨⟨[some _], rfl, rfl⟩, ?_⟩
      unfold tYes
      dsimp only
      rw [if_pos (rfl : true = true)]
      refine ⟨(by show 0 ≤ sizeLine; decide), fun p hp => ?_⟩
      have s2 := Same.nw (o := .lst []) (Same.refl H1) hp
      refine ⟨?_, ?_, s1.trans s2, fun y hy a e => ?_⟩
      · rw [List.replicate_succ']
        exact LsL.snoc (l1.up s2) upd_same (ItL.nil _ _)
      · rw [List.nodup_append]
        refine ⟨nd1, by simp, fun y hy z hz e => ?_⟩
        rw [List.mem_singleton.mp hz] at e
        obtain ⟨j, hj⟩ := List.mem_iff_getElem?.mp hy
        have jl := (List.getElem?_eq_some_iff.mp hj).1
        obtain ⟨a, xs', ea, ha, _⟩ := l1.2 j y _ hj (List.getElem?_eq_getElem (by rw [← l1.1]; exact jl))
        rw [ea] at e
        cases e
        rw [hp] at ha
        cases ha
      · rcases List.mem_append.mp hy with z | z
        · exact f1 y z a e
        · rw [List.mem_singleton.mp z] at e
          cases e
          exact s1.free hp
    · cases hpre
  rintro zs H1 ⟨l1, nd1, s1, f1⟩ c hc
  rw [e7] at l1
  have s2 := Same.nw (o := .lst zs) (Same.refl H1) hc
  have fc : (upd H1 c (.lst zs)) c = some (.lst zs) := upd_same
  have cf : H c = none := s1.free hc
  have zc : ∀ y ∈ zs, y ≠ .ref c := fun y hy e => by
    obtain ⟨j, hj⟩ := List.mem_iff_getElem?.mp hy
    have jl := (List.getElem?_eq_some_iff.mp hj).1
    obtain ⟨a, xs', ea, ha, _⟩ := l1.2 j y _ hj (List.getElem?_eq_getElem (by rw [← l1.1]; exact jl))
    rw [ea] at e
    cases e
    rw [hc] at ha
    cases ha
  generalize upd H1 c (.lst zs) = H2 at s2 fc ⊢
  have zl : zs.length = n := by rw [l1.1, List.length_replicate]
  have lp : ps.length = L.length := by rw [tL.1, List.length_map]
  have app : ∀ (H' : Hp) (gs : List (List (List Int))) (D : List (Nat × Nat)) (x y : Nat), x < n → D.length ≤ 900 → Same H H' → Tups H2 H' → H' c = some (.lst zs) → LsL H' false zs gs → BsI n D gs → ∃ (a : Addr) (ax : List V) (gs' : List (List (List Int))), zs[x]? = some (.ref a) ∧ H' a = some (.lst ax) ∧ ax.length < sizeLine ∧ Same H (upd H' a (.lst (ax ++ [nv y]))) ∧ Tups H2 (upd H' a (.lst (ax ++ [nv y]))) ∧ (upd H' a (.lst (ax ++ [nv y]))) c = some (.lst zs) ∧ LsL (upd H' a (.lst (ax ++ [nv y]))) false zs gs' ∧ BsI n (D ++ [(x, y)]) gs' := by
    intro H' gs D x y hx hD s' t' hc' l' B'
    obtain ⟨ms, eg, ml, _⟩ := B'.at' x hx
    have ez : zs[x]? = some zs[x] := List.getElem?_eq_getElem (by omega)
    obtain ⟨a, ax, ea, ha, ia⟩ := l'.2 x _ _ ez eg
    rw [ea] at ez
    have nac : a ≠ c := fun z => zc _ (List.mem_of_getElem? ez) (by rw [z])
    have af : H a = none := f1 _ (List.mem_of_getElem? ez) a rfl
    have al : ax.length ≤ 900 := by rw [ia.1, List.length_map]; omega
    exact ⟨a, ax, _, ez, ha, Nat.lt_of_le_of_lt al (by decide), s'.ow af, Tups.lst t' ha, by rw [upd_ne (Ne.symm nac)]; exact hc', LsL.put l' nd1 ez eg ha (.int _), B'.put hx eg⟩
  refine ⟨_, rfl, b, rfl, ⟨_, SqL.of ((s1.trans s2) _ _ hb)⟩, for_list (K := K) (a := b) (xs := ps) (fun i σ H' => ∃ (x3 x4 : Option V) (gs : List (List (List Int))), σ = [some (nv n), some (.ref b), some (.ref c), x3, x4] ∧ Same H H' ∧ Tups H2 H' ∧ H' c = some (.lst zs) ∧ LsL H' false zs gs ∧ BsI n (dirL (L.take i)) gs) ⟨_, _, List.replicate n [], rfl, s1.trans s2, Tups.refl _, fc, l1.up s2, ⟨by rw [List.length_replicate], fun j hj => ⟨[], by rw [List.getElem?_replicate, if_pos hj]; rfl, Nat.zero_le _, fun m => by simp [dirL]⟩⟩⟩ (fun i σ H' _ h => by obtain ⟨_, _, _, _, s', _⟩ := h; exact SqL.of (s' _ _ hb)) ?_ ?_⟩
  · rintro i y σ H3 hy ⟨x3, x4, gs, rfl, s3, t3, hc3, l3, B3⟩
    obtain ⟨u, q, eu, rfl, hq⟩ := (tL.up s3.tups).take hy
    rw [List.getElem?_map] at eu
    cases eL : L[i]? with
    | none => rw [eL] at eu; cases eu
    | some p =>
      rw [eL] at eu
      cases eu
      have mp : p ∈ L := List.mem_of_getElem? eL
      have il : i < L.length := (List.getElem?_eq_some_iff.mp eL).1
      obtain ⟨r1, r2⟩ := rg p mp
      have dl : (dirL (L.take i)).length ≤ 800 := by rw [dirL_len, List.length_take]; omega
      refine ⟨q, _, rfl, SqT.of hq, rfl, _, _, rfl, _, _, rfl, rfl, ?_⟩
      obtain ⟨a, ax, gs4, ez, ha, al, s4, t4, hc4, l4, B4⟩ := app H3 gs _ p.1 p.2 r1 (by omega) s3 t3 hc3 l3 B3
      refine ⟨_, rfl, _, rfl, c, zs, _, .ref a, rfl, rfl, SqL.of hc3, atI_nat ez, .inl ⟨rfl, _, SqL.of ha⟩, _, rfl, a, ax, _, rfl, rfl, ha, al, ?_⟩
      show _
      generalize hH4 : upd H3 a (.lst (ax ++ [nv p.2])) = H4 at s4 t4 hc4 l4
      obtain ⟨a', ax', gs5, ez', ha', al', s5, t5, hc5, l5, B5⟩ := app H4 gs4 _ p.2 p.1 r2 (by rw [List.length_append]; simp; omega) s4 t4 hc4 l4 B4
      have hH4' : upd H3 a (.lst (ax ++ [V.int (p.2 : Int)])) = H4 := hH4
      rw [hH4']
      refine ⟨_, rfl, _, rfl, c, zs, _, .ref a', rfl, rfl, SqL.of hc4, atI_nat ez', .inl ⟨rfl, _, SqL.of ha'⟩, _, rfl, a', ax', _, rfl, rfl, ha', al', ?_⟩
      exact ⟨_, _, gs5, rfl, s5, t5, hc5, l5, by rw [take_succ' eL, dirL_snoc]; exact B5⟩
  · rintro σ H3 ⟨x3, x4, gs, rfl, s3, t3, hc3, l3, B3⟩
    rw [List.take_of_length_le (by omega)] at B3
    exact ⟨_, rfl, k c zs gs H3 s3 cf hc3 l3 B3⟩
end L2
set_option Elab.async false
set_option linter.all false
set_option maxRecDepth 100000
set_option maxHeartbeats 1000000
namespace L2
open PySem PySem.Spec PyProof.Rows
def tRoom (K : PySem.W.Frag) : TS := tSeq (tAsg (tC (V.bl true)) (gSub (tVar 2) (tVar 0) rSetL)) (tSeq (tAsg (tLst (tCons (tVar 0) tNil)) (gName 3)) (tSeq (tAsg (tLst (tCons (tVar 0) tNil)) (gName 4)) (tSeq (tWhile (fun σ H_1 Q => tVar 4 σ H_1 fun x H' => ∃ k, TruV K x H' k ∧ Q k H') (tSeq (tAsg (tBM0 K "list" rPop (tVar 4)) (gName 5)) (tFor (iList K (tOp (rIxL K) (tVar 1) (tVar 5))) (gName 6) (tIfS (tNot (tB (tOp (rIxL K) (tVar 2) (tVar 6)))) (tSeq (tAsg (tC (V.bl true)) (gSub (tVar 2) (tVar 6) rSetL)) (tSeq (tDrop (tBM K "list" rAppend (tVar 3) (tCons (tVar 6) tNil))) (tDrop (tBM K "list" rAppend (tVar 4) (tCons (tVar 6) tNil))))) tNext)))) (tRet (tCB (fun xs H_1 Q => ∃ p ns, xs = [V.ref p] ∧ SqL K H_1 p (List.map V.int ns) ∧ ns.length < 64 ∧ ∀ (l : Addr) (ms : List Int), H_1 l = none → ms.Perm ns → List.Pairwise (fun x1 x2 => x1 ≤ x2) ms → Q (V.ref l) (upd H_1 l (HO.lst (List.map V.int ms)))) (tCons (tVar 3) tNil))))))
def Bt (d : Addr) (H H' : Hp) : Prop := ∀ c o, c ≠ d → H c = some o → H' c = some o
theorem Bt.nw {d p : Addr} {H H' : Hp} {o : HO} (h : Bt d H H') (hp : H p = none) : Bt d H (upd H' p o) := fun c u n e => by
  rw [upd_ne (ne_of_none e hp)]; exact h c u n e
theorem Bt.at {d : Addr} {H H' : Hp} {o : HO} (h : Bt d H H') : Bt d H (upd H' d o) := fun c u n e => by
  rw [upd_ne n]; exact h c u n e
theorem Bt.free {d p : Addr} {H H' : Hp} {o : HO} (h : Bt d H H') (hd : H' d = some o) (hp : H' p = none) : H p = none := by
  cases z : H p with
  | none => rfl
  | some u =>
    have n : p ≠ d := fun e => by rw [e, hd] at hp; cases hp
    rw [h p u n z] at hp
    cases hp
structure Rst (H0 H : Hp) (sn r a : Addr) (b : List Bool) (vs as : List Nat) : Prop where
  old : Bt sn H0 H
  hs : H sn = some (.lst (b.map V.bl))
  hr : H r = some (.lst (vs.map nv))
  ha : H a = some (.lst (as.map nv))
  rf : H0 r = none
  af : H0 a = none
  ra : r ≠ a
  rs : r ≠ sn
  as' : a ≠ sn
section
variable {H0 H : Hp} {sn r a : Addr} {b : List Bool} {vs as : List Nat}
theorem Rst.pop {p : Nat} (h : Rst H0 H sn r a b vs (as ++ [p])) : Rst H0 (upd H a (.lst (as.map nv))) sn r a b vs as :=
  ⟨h.old.nw h.af, by rw [upd_ne (Ne.symm h.as')]; exact h.hs, by rw [upd_ne h.ra]; exact h.hr, upd_same, h.rf, h.af, h.ra, h.rs, h.as'⟩
theorem Rst.mark (h : Rst H0 H sn r a b vs as) (g : Nat) : Rst H0 (upd H sn (.lst ((b.set g true).map V.bl))) sn r a (b.set g true) vs as :=
  ⟨h.old.at, upd_same, by rw [upd_ne h.rs]; exact h.hr, by rw [upd_ne h.as']; exact h.ha, h.rf, h.af, h.ra, h.rs, h.as'⟩
theorem Rst.put (h : Rst H0 H sn r a b vs as) (ws : List Nat) : Rst H0 (upd H r (.lst (ws.map nv))) sn r a b ws as :=
  ⟨h.old.nw h.rf, by rw [upd_ne (Ne.symm h.rs)]; exact h.hs, upd_same, by rw [upd_ne (Ne.symm h.ra)]; exact h.ha, h.rf, h.af, h.ra, h.rs, h.as'⟩
theorem Rst.putA (h : Rst H0 H sn r a b vs as) (ws : List Nat) : Rst H0 (upd H a (.lst (ws.map nv))) sn r a b vs ws :=
  ⟨h.old.nw h.af, by rw [upd_ne (Ne.symm h.as')]; exact h.hs, by rw [upd_ne h.ra]; exact h.hr, upd_same, h.rf, h.af, h.ra, h.rs, h.as'⟩
end
theorem ixN_nat {n j : Nat} (h : j < n) : ixN n (j : Int) = some j := by
  unfold ixN
  rw [if_pos (by omega)]
  first
    | (rw [if_pos (by omega)]; simp)
    | (simp; omega)
theorem map_set_bl (b : List Bool) (g : Nat) : (b.map V.bl).set g (.bl true) = (b.set g true).map V.bl := by rw [List.map_set]
theorem bl_at {b : List Bool} {g : Nat} {v : Bool} (h : b[g]? = some v) : atI (b.map V.bl) (g : Int) = some (.bl v) := atI_nat (by rw [List.getElem?_map, h]; rfl)
theorem nat_sorted {vs : List Nat} {ms : List Int} (p : ms.Perm (vs.map fun m : Nat => (m : Int))) (u : ms.Pairwise (fun x y => x ≤ y)) (nd : vs.Nodup) : ∃ ws : List Nat, ms.map V.int = ws.map nv ∧ ws.Perm vs ∧ ws.Pairwise (· < ·) := by
  have e : ms = (ms.map Int.toNat).map fun m : Nat => (m : Int) := by
    rw [List.map_map]
    have key : ∀ l : List Int, (∀ i ∈ l, 0 ≤ i) → l = l.map ((fun m : Nat => (m : Int)) ∘ Int.toNat) := fun l => by
      induction l with
      | nil => intro _; rfl
      | cons i l ih =>
        intro h
        have h0 := h i List.mem_cons_self
        rw [List.map_cons, ← ih fun j hj => h j (List.mem_cons_of_mem _ hj)]
        show i :: l = ((i.toNat : Nat) : Int) :: l
        rw [Int.toNat_of_nonneg h0]
    refine key ms fun i hi => ?_
    obtain ⟨m, _, rfl⟩ := List.mem_map.mp (p.subset hi)
    exact Int.natCast_nonneg m
  have pw : (ms.map Int.toNat).Perm vs := by
    have := p.map Int.toNat
    rw [List.map_map] at this
    have e2 : vs.map (Int.toNat ∘ fun m : Nat => (m : Int)) = vs := by
      rw [show (Int.toNat ∘ fun m : Nat => (m : Int)) = id from funext fun m => Int.toNat_natCast m, List.map_id]
    rwa [e2] at this
  refine ⟨ms.map Int.toNat, ?_, pw, ?_⟩
  · rw [show (ms.map Int.toNat).map nv = ((ms.map Int.toNat).map fun m : Nat => (m : Int)).map V.int from by rw [List.map_map (f := fun m : Nat => (m : Int)) (g := V.int)]; rfl, ← e]
  · have nw : (ms.map Int.toNat).Nodup := pw.nodup_iff.mpr nd
    have u2 : ((ms.map Int.toNat).map fun m : Nat => (m : Int)).Pairwise (fun x y => x ≤ y) := by rw [← e]; exact u
    rw [List.pairwise_map] at u2
    exact (u2.and nw).imp fun {x y} q => by have := q.1; have := q.2; omega
set_option maxHeartbeats 4000000 in
theorem room_reads {K : PySem.W.Frag} {H : Hp} {Q : VK} {Z : L2.St → Hp → Prop} {bd sn : Addr} {n s : Nat} {zs : List V} {gs : List (List (List Int))} {D : List (Nat × Nat)} {b0 : List Bool} (hz : H bd = some (.lst zs)) (lz : LsL H false zs gs) (B : BsI n D gs) (hs : H sn = some (.lst (b0.map V.bl))) (hl : b0.length = n) (sl : s < n) (es : b0[s]? = some false) (n63 : n ≤ 63) (nz : ∀ y ∈ zs, y ≠ .ref sn) (nb : bd ≠ sn) (rg : ∀ u v, (u, v) ∈ D → v < n)
    (k : ∀ (l : Addr) (ws vs : List Nat) (b' : List Bool) (H' : Hp), Bt sn H H' → H l = none → H' l = some (.lst (ws.map nv)) → H' sn = some (.lst (b'.map V.bl)) → RmI n D b0 b' s vs [] none → ws.Perm vs → ws.Pairwise (· < ·) → Q (.ref l) H') : tRoom K { nx := Z, rt := Q } [some (nv s), some (.ref bd), some (.ref sn), none, none, none, none] H := by
  refine ⟨_, rfl, _, rfl, sn, _, (s : Int), s, rfl, rfl, hs, by rw [List.length_map]; exact ixN_nat (by omega), ?_⟩
  rw [map_set_bl]
  have o1 : Bt sn H (upd H sn (.lst ((b0.set s true).map V.bl))) := Bt.at (fun _ _ _ e => e)
  have hs1 : (upd H sn (.lst ((b0.set s true).map V.bl))) sn = some (.lst ((b0.set s true).map V.bl)) := upd_same
  generalize upd H sn (.lst ((b0.set s true).map V.bl)) = H1 at o1 hs1 ⊢
  refine ⟨_, rfl, (by show 1 ≤ sizeLine; decide), fun r hr => ?_⟩
  refine ⟨_, rfl, (by show 1 ≤ sizeLine; decide), fun a ha => ?_⟩
  have rf : H r = none := o1.free hs1 hr
  have ar : a ≠ r := fun e => by rw [e, upd_same] at ha; cases ha
  have ha1 : H1 a = none := by rw [upd_ne ar] at ha; exact ha
  have st : Rst H (upd (upd H1 r (.lst [nv s])) a (.lst [nv s])) sn r a (b0.set s true) [s] [s] :=
    ⟨(o1.nw rf).nw (o1.free hs1 ha1), by rw [upd_ne (ne_of_none hs1 ha1), upd_ne (ne_of_none hs1 hr)]; exact hs1, by rw [upd_ne (Ne.symm ar)]; exact upd_same, upd_same, rf, o1.free hs1 ha1, Ne.symm ar, Ne.symm (ne_of_none hs1 hr), Ne.symm (ne_of_none hs1 ha1)⟩
  generalize upd (upd H1 r (.lst [nv s])) a (.lst [nv s]) = H2 at st ⊢
  show tWhile (fun σ H_1 Q => tVar 4 σ H_1 fun x H' => ∃ k, TruV K x H' k ∧ Q k H') _ _ _ _
  refine while_by (fun σ H' => ∃ (x5 x6 : Option V) (b : List Bool) (vs as : List Nat), σ = [some (nv s), some (.ref bd), some (.ref sn), some (.ref r), some (.ref a), x5, x6] ∧ Rst H H' sn r a b vs as ∧ RmI n D b0 b s vs as none ∧ as.length ≤ vs.length) (fun σ H' => match H' r, H' a with | some (.lst vs), some (.lst as) => 2 * (n - vs.length) + as.length | _, _ => 0) ⟨_, _, _, [s], [s], rfl, st, RmI.init hl sl es, Nat.le_refl _⟩ ?_ (fun σ H Q Q' h hc => by obtain ⟨v, e, t, tr, q⟩ := hc; exact ⟨v, e, t, tr, h _ _ q⟩)
  rintro σ H3 ⟨x5, x6, b, vs, as, rfl, st3, I3, av3⟩
  refine ⟨_, rfl, _, .inl ⟨_, SqL.of st3.ha, rfl⟩, ?_⟩
  rcases List.eq_nil_or_concat as with rfl | ⟨as0, p, rfl⟩
  · refine iteF ⟨_, rfl, r, vs.map fun m : Nat => (m : Int), rfl, ?_, ?_, fun l ms hl' pm pu => ?_⟩
    · rw [List.map_map]
      exact SqL.of st3.hr
    · rw [List.length_map]
      have := I3.size
      omega
    · obtain ⟨ws, e1, e2, e3⟩ := nat_sorted pm pu I3.nd
      rw [e1]
      exact k l ws vs b _ (st3.old.nw (st3.old.free st3.hs hl')) (st3.old.free st3.hs hl') upd_same (by rw [upd_ne (ne_of_none st3.hs hl')]; exact st3.hs) I3 e2 e3
  · rw [List.concat_eq_append] at st3 I3 av3 ⊢
    rw [List.length_append] at av3
    have av4 : as0.length + 1 ≤ vs.length := av3
    rw [show (!((as0 ++ [p]).map nv).isEmpty) = true by simp]
    refine iteT ⟨_, rfl, .inl ⟨rfl, _, SqL.of st3.ha⟩, a, (as0 ++ [p]).map nv, nv p, rfl, rfl, st3.ha, by simp, ?_⟩
    have mu0 : (match H3 r, H3 a with | some (.lst vs), some (.lst as) => 2 * (n - vs.length) + as.length | _, _ => 0) = 2 * (n - vs.length) + (as0.length + 1) := by
      rw [st3.hr, st3.ha]
      simp
    rw [mu0]
    have st4 := st3.pop
    obtain ⟨I4, pv⟩ := I3.pop
    rw [show ((as0 ++ [p]).map nv).dropLast = as0.map nv by simp]
    generalize upd H3 a (.lst (as0.map nv)) = H4 at st4 ⊢
    have pl : p < n := I4.lt p pv
    obtain ⟨ms, eg, ml, mm⟩ := B.at' p pl
    have zl : zs.length = n := by rw [lz.1, B.len]
    have ez : zs[p]? = some zs[p] := List.getElem?_eq_getElem (by omega)
    obtain ⟨lp, xs, ea, hp, ip⟩ := lz.2 p _ _ ez eg
    rw [ea] at ez
    have xe := it_nv ip
    subst xe
    have lsn : lp ≠ sn := fun e => nz _ (List.mem_of_getElem? ez) (by rw [e])
    refine ⟨_, rfl, _, rfl, bd, zs, (p : Int), .ref lp, rfl, rfl, SqL.of (st4.old _ _ nb hz), atI_nat ez, ?_⟩
    refine ⟨lp, rfl, ⟨_, SqL.of (st4.old _ _ lsn hp)⟩, for_list (K := K) (a := lp) (xs := ms.map nv) (fun i σ H' => ∃ (x6 : Option V) (b : List Bool) (vs' as : List Nat), σ = [some (nv s), some (.ref bd), some (.ref sn), some (.ref r), some (.ref a), some (nv p), x6] ∧ Rst H H' sn r a b vs' as ∧ RmI n D b0 b s vs' as (some p) ∧ p ∈ vs' ∧ (∀ j ∈ ms.take i, b[j]? = some true) ∧ as.length + vs.length = vs'.length + as0.length ∧ vs.length ≤ vs'.length) ⟨_, b, vs, as0, rfl, st4, I4, pv, fun j hj => (by rw [List.take_zero] at hj; cases hj), by omega, Nat.le_refl _⟩ (fun i σ H' _ h => by obtain ⟨_, _, _, _, _, s', _⟩ := h; exact SqL.of (s'.old _ _ lsn hp)) ?_ ?_⟩
    · rintro i y σ H5 hy ⟨x6, b5, vs5, as5, rfl, st5, I5, pv5, tk5, cn5, le5⟩
      rw [List.getElem?_map] at hy
      cases em : ms[i]? with
      | none => rw [em] at hy; cases hy
      | some g =>
        rw [em] at hy
        cases hy
        have mg : g ∈ ms := List.mem_of_getElem? em
        have gD := (mm g).mp mg
        have gl : g < n := rg p g gD
        have gb : g < b5.length := by rw [I5.len]; exact gl
        have ez5 : b5[g]? = some b5[g] := List.getElem?_eq_getElem gb
        cases bg : b5[g] with
        | true =>
          rw [bg] at ez5
          refine ⟨_, rfl, _, rfl, sn, _, (g : Int), .bl true, rfl, rfl, SqL.of st5.hs, bl_at ez5, true, rfl, ?_⟩
          refine iteF ?_
          refine ⟨_, b5, vs5, as5, rfl, st5, I5, pv5, fun j hj => ?_, cn5, le5⟩
          rw [take_succ' em] at hj
          rcases List.mem_append.mp hj with z | z
          · exact tk5 j z
          · rw [List.mem_singleton.mp z]; exact ez5
        | false =>
          rw [bg] at ez5
          refine ⟨_, rfl, _, rfl, sn, _, (g : Int), .bl false, rfl, rfl, SqL.of st5.hs, bl_at ez5, false, rfl, ?_⟩
          refine iteT ?_
          refine ⟨_, rfl, _, rfl, sn, _, (g : Int), g, rfl, rfl, st5.hs, by rw [List.length_map, I5.len]; exact ixN_nat gl, ?_⟩
          rw [map_set_bl]
          have st6 := st5.mark g
          generalize upd H5 sn (.lst ((b5.set g true).map V.bl)) = H6 at st6 ⊢
          have I6 := I5.add pv5 gD gl ez5
          have vz := I6.size
          rw [List.length_append] at vz
          have vz' : vs5.length + 1 ≤ n := vz
          refine ⟨_, rfl, .inl ⟨rfl, _, SqL.of st6.hr⟩, _, rfl, r, _, nv g, rfl, rfl, st6.hr, by rw [List.length_map]; exact Nat.lt_of_le_of_lt (show vs5.length ≤ 1000 by omega) (by decide), ?_⟩
          have st7 := st6.put (vs5 ++ [g])
          rw [show (vs5 ++ [g]).map nv = vs5.map nv ++ [nv g] by simp] at st7
          generalize upd H6 r (.lst (vs5.map nv ++ [nv g])) = H7 at st7 ⊢
          have al : as5.length ≤ 1000 := by omega
          refine ⟨_, rfl, .inl ⟨rfl, _, SqL.of st7.ha⟩, _, rfl, a, _, nv g, rfl, rfl, st7.ha, by rw [List.length_map]; exact Nat.lt_of_le_of_lt al (by decide), ?_⟩
          have st8 := st7.putA (as5 ++ [g])
          rw [show (as5 ++ [g]).map nv = as5.map nv ++ [nv g] by simp] at st8
          refine ⟨_, b5.set g true, vs5 ++ [g], as5 ++ [g], rfl, st8, I6, List.mem_append_left _ pv5, fun j hj => ?_, by simp; omega, by simp; omega⟩
          rw [set_seen (by rw [I5.len]; exact gl)]
          rw [take_succ' em] at hj
          rcases List.mem_append.mp hj with z | z
          · exact .inr (tk5 j z)
          · exact .inl (List.mem_singleton.mp z)
    · rintro σ H5 ⟨x6, b5, vs5, as5, rfl, st5, I5, pv5, tk5, cn5, le5⟩
      rw [List.length_map, List.take_of_length_le (Nat.le_refl _)] at tk5
      refine ⟨⟨_, _, b5, vs5, as5, rfl, st5, I5.fin fun j hj => tk5 j ((mm j).mpr hj), by omega⟩, ?_⟩
      have sz := I5.size
      show (match H5 r, H5 a with | some (.lst vs), some (.lst as) => 2 * (n - vs.length) + as.length | _, _ => 0) < _
      rw [st5.hr, st5.ha]
      simp only [List.length_map]
      omega
end L2
set_option Elab.async false
set_option linter.all false
set_option maxRecDepth 100000
set_option maxHeartbeats 1000000
namespace L2
open PySem PySem.Spec PyProof.Rows
def spBeside : Sp := fun vs H Q _ => ∃ (b : Addr) (n : Nat) (ps : List V) (L : List (Nat × Nat)), vs = [nv n, .ref b] ∧ H b = some (.lst ps) ∧ TuL H ps (L.map pc) ∧ n ≤ 1000 ∧ L.length ≤ 400 ∧ (∀ p ∈ L, p.1 < n ∧ p.2 < n) ∧ ∀ (c : Addr) (zs : List V) (gs : List (List (List Int))) (H' : Hp), Same H H' → H c = none → H' c = some (.lst zs) → LsL H' false zs gs → BsI n (dirL L) gs → Q (.ref c) H'
def spRoom : Sp := fun vs H Q _ => ∃ (bd sn : Addr) (n s : Nat) (zs : List V) (gs : List (List (List Int))) (D : List (Nat × Nat)) (b0 : List Bool), vs = [nv s, .ref bd, .ref sn] ∧ H bd = some (.lst zs) ∧ LsL H false zs gs ∧ BsI n D gs ∧ H sn = some (.lst (b0.map V.bl)) ∧ b0.length = n ∧ s < n ∧ b0[s]? = some false ∧ n ≤ 63 ∧ (∀ y ∈ zs, y ≠ .ref sn) ∧ bd ≠ sn ∧ (∀ u v, (u, v) ∈ D → v < n) ∧
  ∀ (l : Addr) (ws vs : List Nat) (b' : List Bool) (H' : Hp), Bt sn H H' → H l = none → H' l = some (.lst (ws.map nv)) → H' sn = some (.lst (b'.map V.bl)) → RmI n D b0 b' s vs [] none → ws.Perm vs → ws.Pairwise (· < ·) → Q (.ref l) H'
def spLinked : Sp := fun vs H Q _ => ∃ (b : Addr) (n : Nat) (ps : List V) (L : List (Nat × Nat)), vs = [nv n, .ref b] ∧ H b = some (.lst ps) ∧ TuL H ps (L.map pc) ∧ n ≤ 63 ∧ L.length ≤ 400 ∧ (∀ p ∈ L, p.1 < n ∧ p.2 < n) ∧ ∀ (c : Addr) (zs : List V) (hs : List (List Nat)) (b' : List Bool) (H' : Hp), Same H H' → H c = none → H' c = some (.lst zs) → LsL H' false zs (hs.map (List.map nc)) → LkI n (dirL L) n b' hs → (∀ y ∈ zs, ∀ a, y = .ref a → H a = none) → Q (.ref c) H'
theorem Bt.tups {d : Addr} {H H' : Hp} {xs : List V} (h : Bt d H H') (hd : H d = some (.lst xs)) : Tups H H' := fun b ys e => h b _ (fun z => by rw [z, hd] at e; cases e) e
theorem LsL.bt {d : Addr} {H H' : Hp} {tp : Bool} {ys xs : List V} {uss : List (List (List Int))} (h : LsL H tp ys uss) (s : Bt d H H') (hd : H d = some (.lst xs)) (av : ∀ y ∈ ys, y ≠ .ref d) : LsL H' tp ys uss := ⟨h.1, fun i y us h1 h2 => by
  obtain ⟨a, zs, rfl, e, it⟩ := h.2 i y us h1 h2
  exact ⟨a, zs, rfl, s _ _ (fun z => av _ (List.mem_of_getElem? h1) (by rw [z])) e, it.up (s.tups hd)⟩⟩
theorem LsL.avoid {H : Hp} {tp : Bool} {ys : List V} {uss : List (List (List Int))} (h : LsL H tp ys uss) {p : Addr} (hp : H p = none) : ∀ y ∈ ys, y ≠ .ref p := fun y hy e => by
  obtain ⟨j, hj⟩ := List.mem_iff_getElem?.mp hy
  have jl := (List.getElem?_eq_some_iff.mp hj).1
  obtain ⟨a, xs', ea, ha, _⟩ := h.2 j y _ hj (List.getElem?_eq_getElem (by rw [← h.1]; exact jl))
  rw [ea] at e
  cases e
  rw [hp] at ha
  cases ha
theorem rep_one {α : Type} (x : α) : ∀ k : Nat, (List.replicate k [x]).flatten = List.replicate k x
  | 0 => rfl
  | k + 1 => by rw [List.replicate_succ, List.replicate_succ, List.flatten_cons, rep_one x k]; rfl
def tLinked (K : PySem.W.Frag) : TS := tSeq (tAsg (tCall spBeside [] E0 (tCons (tVar 0) (tCons (tVar 1) tNil))) (gName 2)) (tSeq (tAsg (tOp rRep (tLst (tCons (tC (V.bl false)) tNil)) (tVar 0)) (gName 3)) (tSeq (tAsg (tLst tNil) (gName 4)) (tSeq (tFor (iRng1 (tCons (tVar 0) tNil)) (gName 5) (tIfS (tNot (tB (tOp (rIxL K) (tVar 3) (tVar 5)))) (tDrop (tBM K "list" rAppend (tVar 4) (tCons (tCall spRoom [] E0 (tCons (tVar 5) (tCons (tVar 2) (tCons (tVar 3) tNil)))) tNil))) tNext)) (tRet (tVar 4)))))
set_option maxHeartbeats 4000000 in
theorem linked_reads {K : PySem.W.Frag} {H : Hp} {Q : VK} {Z : L2.St → Hp → Prop} {b : Addr} {n : Nat} {ps : List V} {L : List (Nat × Nat)} (hb : H b = some (.lst ps)) (tL : TuL H ps (L.map pc)) (hn : n ≤ 63) (hL : L.length ≤ 400) (rg : ∀ p ∈ L, p.1 < n ∧ p.2 < n)
    (k : ∀ (c : Addr) (zs : List V) (hs : List (List Nat)) (b' : List Bool) (H' : Hp), Same H H' → H c = none → H' c = some (.lst zs) → LsL H' false zs (hs.map (List.map nc)) → LkI n (dirL L) n b' hs → (∀ y ∈ zs, ∀ a, y = .ref a → H a = none) → Q (.ref c) H') : tLinked K { nx := Z, rt := Q } [some (nv n), some (.ref b), none, none, none, none] H := by
  have sy : ∀ u v, (u, v) ∈ dirL L → (v, u) ∈ dirL L := fun u v h => mem_dirL.mpr ((mem_dirL.mp h).elim .inr .inl)
  have rD : ∀ u v, (u, v) ∈ dirL L → v < n := fun u v h => (mem_dirL.mp h).elim (fun q => (rg _ q).2) fun q => (rg _ q).1
  refine ⟨_, rfl, _, rfl, b, n, ps, L, rfl, hb, tL, by omega, hL, rg, fun bd zs gs H1 s1 bf hz lz B => ?_⟩
  refine ⟨(by show 1 ≤ sizeLine; decide), fun p hp => ?_⟩
  have s2 := Same.nw (o := .lst [.bl false]) (Same.refl H1) hp
  have fp : (upd H1 p (.lst [.bl false])) p = some (.lst [.bl false]) := upd_same
  generalize upd H1 p (.lst [.bl false]) = H2 at s2 fp ⊢
  refine ⟨_, rfl, p, (n : Int), [.bl false], rfl, rfl, fp, by omega, by omega, Nat.le_trans (show [V.bl false].length * ((n : Int)).toNat ≤ 1000 by simp; omega) (by decide), fun sn hsn => ?_⟩
  rw [Int.toNat_natCast, rep_one, show List.replicate n (V.bl false) = (List.replicate n false).map V.bl by rw [List.map_replicate]]
  have s3 := Same.nw (o := .lst ((List.replicate n false).map V.bl)) (Same.refl H2) hsn
  have fs : (upd H2 sn (.lst ((List.replicate n false).map V.bl))) sn = some (.lst ((List.replicate n false).map V.bl)) := upd_same
  generalize upd H2 sn (.lst ((List.replicate n false).map V.bl)) = H3 at s3 fs ⊢
  refine ⟨(by show 0 ≤ sizeLine; decide), fun c hc => ?_⟩
  have s4 := Same.nw (o := .lst []) (Same.refl H3) hc
  have fc : (upd H3 c (.lst [])) c = some (.lst []) := upd_same
  generalize upd H3 c (.lst []) = H4 at s4 fc ⊢
  have s14 : Same H1 H4 := s2.trans (s3.trans s4)
  have s04 : Same H H4 := s1.trans s14
  have sn1 : H1 sn = none := s2.free hsn
  have c1 : H1 c = none := (s2.trans s3).free hc
  have nzs := lz.avoid sn1
  have nzc := lz.avoid c1
  have nbs : bd ≠ sn := ne_of_none hz sn1
  have nbc : bd ≠ c := ne_of_none hz c1
  have nsc : sn ≠ c := ne_of_none fs hc
  have sn0 : H sn = none := s1.free sn1
  have c0 : H c = none := s1.free c1
  refine ⟨_, rfl, (n : Int), rfl, by omega, by omega, for_range (lo := 0) (n := ((n : Int)).toNat) (fun i σ H' => ∃ (x5 : Option V) (b' : List Bool) (ys : List V) (hs : List (List Nat)), σ = [some (nv n), some (.ref b), some (.ref bd), some (.ref sn), some (.ref c), x5] ∧ Same H H' ∧ H' bd = some (.lst zs) ∧ LsL H' false zs gs ∧ H' sn = some (.lst (b'.map V.bl)) ∧ H' c = some (.lst ys) ∧ LsL H' false ys (hs.map (List.map nc)) ∧ (∀ y ∈ ys, y ≠ .ref sn ∧ y ≠ .ref c ∧ ∀ a, y = .ref a → H a = none) ∧ LkI n (dirL L) i b' hs ∧ hs.length ≤ i) ⟨_, _, [], [], rfl, s04, s14 _ _ hz, lz.up s14, s4 _ _ fs, fc, LsL.nil _ _, fun y hy => (by cases hy), LkI.init n _, Nat.le_refl _⟩ ?_ ?_⟩
  · rintro i σ H5 hi ⟨x5, b5, ys, hs, rfl, s5, hz5, lz5, hs5, hc5, ly5, nv5, I5, hl5⟩
    rw [Int.toNat_natCast] at hi
    rw [Int.zero_add]
    have ib : i < b5.length := by rw [I5.len]; exact hi
    have eb : b5[i]? = some b5[i] := List.getElem?_eq_getElem ib
    cases bi : b5[i] with
    | true =>
      rw [bi] at eb
      refine ⟨_, rfl, _, rfl, sn, _, (i : Int), .bl true, rfl, rfl, SqL.of hs5, bl_at eb, true, rfl, ?_⟩
      exact iteF ⟨_, b5, ys, hs, rfl, s5, hz5, lz5, hs5, hc5, ly5, nv5, I5.skip hi eb, by omega⟩
    | false =>
      rw [bi] at eb
      refine ⟨_, rfl, _, rfl, sn, _, (i : Int), .bl false, rfl, rfl, SqL.of hs5, bl_at eb, false, rfl, ?_⟩
      refine iteT ⟨_, rfl, .inl ⟨rfl, _, SqL.of hc5⟩, _, rfl, _, rfl, _, rfl, bd, sn, n, i, zs, gs, dirL L, b5, rfl, hz5, lz5, B, hs5, I5.len, hi, eb, hn, nzs, nbs, rD, fun l ws vs b6 H6 t6 lf hl6 hs6 R6 pw up => ?_⟩
      have hc6 := t6 _ _ (Ne.symm nsc) hc5
      have yl : ys.length ≤ 63 := by rw [ly5.1, List.length_map]; omega
      refine ⟨c, ys, .ref l, rfl, rfl, hc6, Nat.lt_of_le_of_lt (show ys.length ≤ 63 from yl) (by decide), ?_⟩
      have s6 : Same H H6 := fun q o e => t6 q o (ne_of_none e sn0) (s5 q o e)
      have lc : l ≠ c := fun z => by rw [z, hc5] at lf; cases lf
      have ls : l ≠ sn := fun z => by rw [z, hs5] at lf; cases lf
      have lz6 := lz5.bt t6 hs5 nzs
      have ly6 := LsL.snoc (ly5.bt t6 hs5 fun y hy => (nv5 y hy).1) hl6 (nv_it ws)
      have nv6 : ∀ y ∈ ys ++ [.ref l], y ≠ .ref sn ∧ y ≠ .ref c ∧ ∀ a, y = .ref a → H a = none := fun y hy => by
        rcases List.mem_append.mp hy with z | z
        · exact nv5 y z
        · rw [List.mem_singleton.mp z]
          exact ⟨fun e => ls (V.ref.inj e), fun e => lc (V.ref.inj e), fun a e => by cases e; exact s5.free lf⟩
      refine ⟨_, b6, ys ++ [.ref l], hs ++ [ws], rfl, s6.ow c0, by rw [upd_ne nbc]; exact t6 _ _ nbs hz5, lz6.set hc6 nzc, by rw [upd_ne nsc]; exact hs6, upd_same, ?_, nv6, I5.room hi R6 pw up sy rD, by rw [List.length_append]; simp; omega⟩
      rw [List.map_append]
      exact ly6.set hc6 fun y hy => (nv6 y hy).2.1
  · rintro σ H5 ⟨x5, b5, ys, hs, rfl, s5, hz5, lz5, hs5, hc5, ly5, nv5, I5, hl5⟩
    rw [Int.toNat_natCast] at I5
    exact ⟨_, rfl, k c ys hs b5 H5 s5 c0 hc5 ly5 I5 fun y hy => (nv5 y hy).2.2⟩
end L2
set_option Elab.async false
set_option linter.all false
set_option maxRecDepth 100000
set_option maxHeartbeats 1000000
namespace L2
open PySem PySem.Spec PyProof.Rows
def spTiesZ (K : PySem.W.Frag) : Sp := fun vs H Q _ => ∃ (a : Addr) (xs : List V), vs = [.ref a] ∧ SqL K H a xs ∧ Q (.int ((xs.length / 2 * 3 : Nat) : Int)) H
end L2
set_option Elab.async false
set_option linter.all false
set_option maxRecDepth 100000
set_option maxHeartbeats 1000000
namespace L2
open PySem PySem.Spec PyProof.Rows
section
variable {X : Cx}
theorem int_items : ∀ {ns : List Int} {its : List Value}, Vals (ns.map V.int) its → ∃ ps : List (Int × Tok), its = ps.map (fun p => Value.int p.1 p.2) ∧ ps.map (·.1) = ns
  | [], its, r => by cases r; exact ⟨[], rfl, rfl⟩
  | n :: ns, its, r => by
    cases r with
    | cons a b =>
      obtain ⟨t, rfl⟩ := a
      obtain ⟨ps, rfl, e⟩ := int_items b
      exact ⟨(n, t) :: ps, rfl, by rw [List.map_cons, e]⟩
end
end L2
set_option Elab.async false
set_option linter.all false
set_option maxRecDepth 100000
set_option maxHeartbeats 1000000
set_option Elab.async false
set_option linter.all false
set_option maxRecDepth 100000
set_option maxHeartbeats 1000000
set_option Elab.async false
set_option linter.all false
set_option maxRecDepth 100000
set_option maxHeartbeats 1000000
namespace L2
open PySem PySem.Spec PyProof.Rows
theorem pg_lstK {X : Cx} {K : PySem.W.Frag} {es : List Expr} {k : Nat} {t : TGs} {n : Nat} {pos : PySem.Pos} (hc : X.calm = true) (h : PGs X es t) (hK : X.K = K := by rfl)
    (hn : (assignEach es X.env).length = n := by rfl) (hst : (assignEach es X.env).findIdx? (·.1) = none := by rfl) : PG X (.Tuple es k pos) (gLst K n t) := by
  subst hK; exact pg_lst hc h hn hst
def atOf (u : List Int) : Nat := (u.headD 0).toNat
def sdT (i : Nat) (t : List Int) (tie : Int) : List (List Int) := (t.filter fun s => decide (absI s = tie)).map fun s => [(i : Int), s]
def sdL (S : List (List Int)) (tie : Int) : List (List Int) := ((List.range S.length).map fun i => sdT i (S.getD i []) tie).flatten
theorem sdL_snoc (S : List (List Int)) (t : List Int) (tie : Int) : sdL (S ++ [t]) tie = sdL S tie ++ sdT S.length t tie := by
  unfold sdL
  rw [List.length_append, List.length_singleton, List.range_succ, List.map_append, List.flatten_append]
  congr 1
  · congr 1
    refine List.map_congr_left fun i hi => ?_
    have := List.mem_range.mp hi
    rw [List.getD_eq_getElem?_getD, List.getElem?_append_left this, ← List.getD_eq_getElem?_getD]
  · simp
theorem glue_app (P Q : List (List Int × Int)) (k : Nat) : glueOf (P ++ Q) k = glueOf P k ++ glueOf Q k := by
  unfold glueOf
  rw [List.filter_append, List.map_append]
def shiftS (n : Int) (s : Int) : Int := s + n * (1 - 2 * (if s < 0 then 1 else 0))
theorem shift_abs {n s : Int} (hn : 0 ≤ n) : absI (shiftS n s) = absI s + n := by
  unfold shiftS absI
  split
  · rw [if_pos (by omega)]; omega
  · rw [if_neg (by omega)]; omega
def bothS (S T : List (List Int)) : List (List Int) := S ++ T.map (List.map (shiftS ((S.length / 2 * 3 : Nat) : Int)))
theorem upto_add (a b : Nat) : upto 1 (a + b) = upto 1 a ++ (upto 1 b).map (· + (a : Int)) := by
  unfold upto
  rw [List.range_add, List.map_append, List.map_map, List.map_map]
  congr 1
  refine List.map_congr_left fun i _ => ?_
  simp
  omega
theorem pool_add (a b : Nat) : (pool a ++ (pool b).map (· + (a : Int))).Perm (pool (a + b)) := by
  unfold pool
  rw [upto_add, List.map_append]
  generalize upto 1 a = x
  generalize (upto 1 b).map (· + (a : Int)) = y
  have h : (x ++ (x ++ (y ++ y))).Perm (x ++ (y ++ (x ++ y))) := by
    refine List.Perm.append_left x ?_
    rw [← List.append_assoc, ← List.append_assoc]
    exact List.Perm.append_right y List.perm_append_comm
  simpa [List.append_assoc] using h
theorem both_ok {S T : List (List Int)} (oS : ShOk S) (oT : ShOk T) (h : S.length + T.length ≤ 12) : ShOk (bothS S T) := by
  obtain ⟨m, em, m1, m2⟩ := oS.even
  obtain ⟨m', em', m1', m2'⟩ := oT.even
  have lb : (bothS S T).length = S.length + T.length := by unfold bothS; rw [List.length_append, List.length_map]
  refine ⟨⟨m + m', by rw [lb]; omega, by omega, by omega⟩, fun t ht => ?_, ?_⟩
  · unfold bothS at ht
    rcases List.mem_append.mp ht with z | z
    · exact oS.three t z
    · obtain ⟨t', ht', rfl⟩ := List.mem_map.mp z
      rw [List.length_map]
      exact oT.three t' ht'
  · have e1 : (bothS S T).flatten.map absI = S.flatten.map absI ++ (T.flatten.map absI).map (· + ((S.length / 2 * 3 : Nat) : Int)) := by
      unfold bothS
      rw [List.flatten_append, List.map_append]
      congr 1
      rw [← List.map_flatten, List.map_map, List.map_map]
      refine List.map_congr_left fun s _ => ?_
      exact shift_abs (by omega)
    rw [e1, lb, show (S.length + T.length) / 2 * 3 = S.length / 2 * 3 + T.length / 2 * 3 by omega]
    exact ((oS.ties.append (oT.ties.map _))).trans (pool_add _ _)
end L2
set_option Elab.async false
set_option linter.all false
set_option maxRecDepth 100000
set_option maxHeartbeats 1000000
namespace L2
open PySem PySem.Spec PyProof.Rows
section
variable {X : Cx}
def tLenC (k : Nat) (wi : TI) (g : TG) (tt : TT) (te : TE) : TE := fun σ H Q => wi σ H fun J H1 => CGoS k J g tt te (fun ns H' => Q (.int ((dd ns).length : Nat)) H') σ H1
theorem boot_lenX : bootBuiltins "len" = some (.builtin "len") := by decide +kernel
theorem pe_lenComp {elt iter tg : Expr} {xs Nb : List Str} {ifs : List Expr} {scope : Scope} {p pos pos2 : PySem.Pos} {wi : TI} {g : TG} {tt : TT} {te : TE} (hg1 : Gl X "len") (hm : X.mg "len" = none)
    (hc : X.calm = true) (hi : PI X tg iter wi) (hlen : Nb.length = X.N.length) (hNb : ∀ p ∈ Nb.zip X.N, p.1 = p.2 ∨ scope.names.lookup p.1 = none) (hxN : ∀ y ∈ Nb, scope.names.lookup y ≠ some .local)
    (hg : InB X xs Nb scope fun Y => PG Y tg g) (ht : InB X xs Nb scope fun Y => PIf Y ifs tt) (he : InB X xs Nb scope fun Y => PE Y elt te)
    (hcell : ∀ y ∈ scope.names, y.2 ≠ .cell) (hkind : scope.kind = .function) (hnames : ∀ y ∈ scope.names, y.2 = .local → scope.names.lookup y.1 = some .local)
    (hfree : ∀ y ∈ scope.names, y.2 = .free → X.env.kindOf y.1 = some .cell)
    (hs : ∀ x, foldedSetIterable iter X.env x = pure x := by intro _; rfl) : PE X (.Call (.Name "len" p) [.SetComp elt [⟨tg, iter, ifs, 0⟩] scope pos2] [] pos) (tLenC xs.length wi g tt te) := by
  intro pins s σ H Q I h
  refine wpAny_Call_Name_kw (ld_blt I hg1 hm boot_lenX ?_)
  refine PyProof.Rows.callWith_builtin1 (rest := []) ?_ rfl rfl
  show wpAny _ _ (spliced ((false, eval (.SetComp elt [⟨tg, iter, ifs, 0⟩] scope pos2) X.env) :: [])) _ _ s
  refine Calls.spliced_cons ?_
  rw [eval_SetCompX]
  refine comp_coreS (use := none) hc hi hlen hNb hxN hg ht he hcell hkind hnames hfree hs I h fun s2 s4 H2 H4 C D m4 ns _ _ hn _ hDC IX sj h64 q => ⟨m4, hn, fun h' sb => Calls.spliced_nil ?_⟩
  have I4 := IX h' sb
  have sj' : SetJ X.prog X.w h' D (dd ns) := sj.keep fun o ho => sb.extBut D o hDC ho
  obtain ⟨o, es, ep, t, ho, hx, hd, _, hms, _, hf, _⟩ := sj'
  have hz := SetJ.size (prog := X.prog) (w := X.w) (o := o) hms
  have := dd_len ns
  exact call_len_set (s := { s4 with heap := h' }) ho hx hd hf (by rw [hz]; omega) ⟨.int _, H4, I4.tok _, ⟨_, by rw [hz]⟩, q⟩
end
theorem lookup_relabel_cellX {env : Env} {x : Str} (hk : env.scope.kind = .function) (hx : env.kindOf x = some .cell) : ∀ {names : List (Str × NameKind)}, names.lookup x = some .free → (names.map fun (n, k) => if (k == NameKind.free && env.scope.kind == .function && env.kindOf n == some .cell) then (n, NameKind.cell) else (n, k)).lookup x = some .cell
  | [], h => by cases h
  | (n, k) :: ns, h => by
    rw [List.map_cons]
    by_cases e : x == n
    · have e' : x = n := by simpa using e
      subst e'
      rw [List.lookup_cons, e] at h
      have hk' : k = .free := Option.some.inj h
      subst hk'
      have hb : (NameKind.free == NameKind.free && env.scope.kind == .function && env.kindOf x == some .cell) = true := by rw [hk, hx]; rfl
      show List.lookup x ((if (NameKind.free == NameKind.free && env.scope.kind == .function && env.kindOf x == some .cell) then (x, NameKind.cell) else (x, NameKind.free)) :: _) = _
      rw [if_pos hb, List.lookup_cons, e]
    · have e1 : (x == n) = false := by simpa using e
      rw [List.lookup_cons, e1] at h
      have ih := lookup_relabel_cellX hk hx h
      show List.lookup x ((if (k == NameKind.free && env.scope.kind == .function && env.kindOf n == some .cell) then (n, NameKind.cell) else (n, k)) :: _) = _
      split
      · rw [List.lookup_cons, e1]; exact ih
      · rw [List.lookup_cons, e1]; exact ih
theorem free_in {X : Cx} {xs Nb : List Str} {scope0 : Scope} {cl : List (Str × Addr)} {C : Addr} {s₂ : Shared} {H₂ : Hp} {fp : List Addr} {names L : List (Str × NameKind)} (hk : X.env.scope.kind = .function) (hL : X.env.scope.names = L) (h : ∀ y ∈ names, y.2 = NameKind.free → scope0.names.lookup y.1 = some .free ∧ L.lookup y.1 = some .cell) :
    ∀ y ∈ names, y.2 = NameKind.free → (cxC X xs Nb scope0 cl C s₂ H₂ fp).env.kindOf y.1 = some .cell := fun y hy e => by
  obtain ⟨h1, h2⟩ := h y hy e
  refine lookup_relabel_cellX hk ?_ h1
  show X.env.scope.names.lookup y.1 = _
  rw [hL]; exact h2
end L2
set_option Elab.async false
set_option linter.all false
set_option maxRecDepth 100000
set_option maxHeartbeats 1000000
namespace L2
open PySem PySem.Spec PyProof.Rows
def flp (x : Nat) : Nat := if x % 2 = 0 then x + 1 else x - 1
theorem flp_flp (x : Nat) : flp (flp x) = x := by unfold flp; split <;> split <;> omega
theorem flp_half (x : Nat) : flp x / 2 = x / 2 := by unfold flp; split <;> omega
theorem half_two {x y : Nat} (h : x / 2 = y / 2) : x = y ∨ y = flp x := by unfold flp; split <;> omega
theorem flp_ne (x : Nat) : flp x ≠ x := by unfold flp; split <;> omega
def Clash (h : List Nat) : Prop := ∃ x ∈ h, flp x ∈ h
def Evn (h : List Nat) : Prop := ∃ l, 2 * l ∈ h ∧ ∀ x ∈ h, l ≤ x / 2
def dbl (L : List (Nat × Nat × Bool)) : List (Nat × Nat) := (L.map fun p => [(2 * p.1, 2 * p.2.1 + p.2.2.toNat), (2 * p.1 + 1, 2 * p.2.1 + 1 - p.2.2.toNat)]).flatten
theorem mem_dbl {L : List (Nat × Nat × Bool)} {x y : Nat} : (x, y) ∈ dbl L ↔ ∃ p ∈ L, (x = 2 * p.1 ∧ y = 2 * p.2.1 + p.2.2.toNat) ∨ (x = 2 * p.1 + 1 ∧ y = 2 * p.2.1 + 1 - p.2.2.toNat) := by
  unfold dbl
  simp only [List.mem_flatten, List.mem_map]
  constructor
  · rintro ⟨l, ⟨p, hp, rfl⟩, h⟩
    simp only [List.mem_cons, List.not_mem_nil, or_false, Prod.mk.injEq] at h
    exact ⟨p, hp, h⟩
  · rintro ⟨p, hp, h⟩
    refine ⟨_, ⟨p, hp, rfl⟩, ?_⟩
    simp only [List.mem_cons, List.not_mem_nil, or_false, Prod.mk.injEq]
    exact h
theorem dbl_flp {L : List (Nat × Nat × Bool)} {x y : Nat} (h : (x, y) ∈ dbl L) : (flp x, flp y) ∈ dbl L := by
  obtain ⟨⟨a, b, c⟩, hp, h⟩ := mem_dbl.mp h
  refine mem_dbl.mpr ⟨(a, b, c), hp, ?_⟩
  simp only at h ⊢
  cases c with
  | false =>
    simp only [Bool.toNat_false] at h ⊢
    unfold flp
    rcases h with ⟨rfl, rfl⟩ | ⟨rfl, rfl⟩
    · right; constructor <;> (split <;> omega)
    · left; constructor <;> (split <;> omega)
  | true =>
    simp only [Bool.toNat_true] at h ⊢
    unfold flp
    rcases h with ⟨rfl, rfl⟩ | ⟨rfl, rfl⟩
    · right; constructor <;> (split <;> omega)
    · left; constructor <;> (split <;> omega)
theorem rd_flp {L : List (Nat × Nat × Bool)} {x y : Nat} (h : RD (dirL (dbl L)) x y) : RD (dirL (dbl L)) (flp x) (flp y) := by
  rcases mem_dirL.mp h with q | q
  · exact mem_dirL.mpr (.inl (dbl_flp q))
  · exact mem_dirL.mpr (.inr (dbl_flp q))
theorem conn_flp {L : List (Nat × Nat × Bool)} {x y : Nat} (h : Conn (RD (dirL (dbl L))) x y) : Conn (RD (dirL (dbl L))) (flp x) (flp y) := by
  induction h with
  | refl => exact .refl _
  | step _ r ih => exact .step ih (rd_flp r)
section
variable {L : List (Nat × Nat × Bool)} {n : Nat} {hs : List (List Nat)}
abbrev DP (L : List (Nat × Nat × Bool)) (n : Nat) (hs : List (List Nat)) : Prop := Parts (RD (dirL (dbl L))) (List.range (2 * n)) hs
theorem DP.eq (p : DP L n hs) {h h' : List Nat} (hh : h ∈ hs) (hh' : h' ∈ hs) {x : Nat} (hx : x ∈ h) (hx' : x ∈ h') (y : Nat) : y ∈ h ↔ y ∈ h' := by
  rw [p.class hh hx y, p.class hh' hx' y]
theorem DP.mirror (p : DP L n hs) {h h' : List Nat} (hh : h ∈ hs) (hh' : h' ∈ hs) {x : Nat} (hx : x ∈ h) (hx' : flp x ∈ h') (y : Nat) (hy : y ∈ h) : flp y ∈ h' :=
  (p.class hh' hx' _).mpr (conn_flp ((p.class hh hx y).mp hy))
theorem DP.evn_uni (p : DP L n hs) {h h' : List Nat} (hh : h ∈ hs) (hh' : h' ∈ hs) (e : Evn h) (e' : Evn h') (nc : ¬ Clash h) {x y : Nat} (hx : x ∈ h) (hy : y ∈ h') (q : x / 2 = y / 2) : x = y := by
  rcases half_two q with r | r
  · exact r
  · exfalso
    rw [r] at hy
    obtain ⟨l, hl, ml⟩ := e
    obtain ⟨l', hl', ml'⟩ := e'
    have m1 := p.mirror hh hh' hx hy _ hl
    have m2 := p.mirror hh' hh hy (by rw [flp_flp]; exact hx) _ hl'
    have a1 := ml' _ m1
    have a2 := ml _ m2
    rw [flp_half] at a1 a2
    have : l = l' := by omega
    subst this
    exact nc ⟨x, hx, (p.eq hh hh' hl hl' (flp x)).mpr hy⟩
theorem min_half : ∀ {h : List Nat}, h ≠ [] → ∃ x ∈ h, ∀ y ∈ h, x / 2 ≤ y / 2
  | [], e => absurd rfl e
  | [x], _ => ⟨x, by simp, fun y hy => by simp at hy; rw [hy]; exact Nat.le_refl _⟩
  | x :: y :: h, _ => by
    obtain ⟨z, hz, m⟩ := min_half (h := y :: h) (by simp)
    by_cases c : x / 2 ≤ z / 2
    · exact ⟨x, by simp, fun u hu => by
        rcases List.mem_cons.mp hu with rfl | hu
        · exact Nat.le_refl _
        · exact Nat.le_trans c (m u hu)⟩
    · exact ⟨z, List.mem_cons_of_mem _ hz, fun u hu => by
        rcases List.mem_cons.mp hu with rfl | hu
        · omega
        · exact m u hu⟩
theorem DP.cover (p : DP L n hs) {i : Nat} (hi : i < n) : ∃ h ∈ hs, Evn h ∧ ∃ x ∈ h, x / 2 = i := by
  obtain ⟨h, hh, hx⟩ := p.mem (x := 2 * i) (List.mem_range.mpr (by omega))
  obtain ⟨z, hz, mz⟩ := min_half (p.ne h hh)
  by_cases c : 2 * (z / 2) ∈ h
  · exact ⟨h, hh, ⟨z / 2, c, mz⟩, 2 * i, hx, by omega⟩
  · have ez : z = 2 * (z / 2) + 1 := by
      have : z ≠ 2 * (z / 2) := fun e => c (e ▸ hz)
      omega
    have ef : flp z = 2 * (z / 2) := by unfold flp; rw [if_neg (by omega)]; omega
    have zr : z < 2 * n := List.mem_range.mp (p.perm.subset (List.mem_flatten.mpr ⟨h, hh, hz⟩))
    obtain ⟨h', hh', hx'⟩ := p.mem (x := flp z) (List.mem_range.mpr (by rw [ef]; omega))
    refine ⟨h', hh', ⟨z / 2, ef ▸ hx', fun y hy => ?_⟩, flp (2 * i), p.mirror hh hh' hz hx' _ hx, by rw [flp_half]; omega⟩
    have := mz _ (p.mirror hh' hh hx' (by rw [flp_flp]; exact hz) _ hy)
    rw [flp_half] at this
    exact this
structure MkOk (n : Nat) (hs : List (List Nat)) (M : List Int) : Prop where
  len : M.length = n
  val : ∀ h ∈ hs, Evn h → ∀ x ∈ h, M[x / 2]? = some ((x % 2 : Nat) : Int)
theorem Evn.perm {h h' : List Nat} (e : Evn h) (q : ∀ x, x ∈ h ↔ x ∈ h') : Evn h' := by
  obtain ⟨l, hl, ml⟩ := e
  exact ⟨l, (q _).mp hl, fun x hx => ml x ((q x).mpr hx)⟩
theorem DP.uni (p : DP L n hs) {gs : List (List Nat)} (p' : DP L n gs) {M M' : List Int} (m : MkOk n hs M) (m' : MkOk n gs M') : M = M' := by
  apply List.ext_getElem?
  intro i
  by_cases hi : i < n
  · obtain ⟨h, hh, e, x, hx, rfl⟩ := p.cover hi
    obtain ⟨g, hg, q⟩ := p.same p' List.nodup_range hh
    rw [m.val h hh e x hx, m'.val g hg (e.perm fun z => q.mem_iff) x (q.mem_iff.mp hx)]
  · rw [List.getElem?_eq_none (by rw [m.len]; omega), List.getElem?_eq_none (by rw [m'.len]; omega)]
theorem DP.clash (p : DP L n hs) {gs : List (List Nat)} (p' : DP L n gs) (c : ∃ h ∈ hs, Clash h) : ∃ g ∈ gs, Clash g := by
  obtain ⟨h, hh, x, hx, hf⟩ := c
  obtain ⟨g, hg, q⟩ := p.same p' List.nodup_range hh
  exact ⟨g, hg, x, q.mem_iff.mp hx, q.mem_iff.mp hf⟩
end
def fN (x : Nat) : List Int := [((x / 2 : Nat) : Int), ((x % 2 : Nat) : Int)]
def gN (u : List Int) : Nat := (2 * u.getD 0 0 + u.getD 1 0).toNat
theorem gN_fN (x : Nat) : gN (fN x) = x := by
  show (2 * ((x / 2 : Nat) : Int) + ((x % 2 : Nat) : Int)).toNat = x
  omega
theorem fN_inj {a b : Nat} (h : fN a = fN b) : a = b := by rw [← gN_fN a, ← gN_fN b, h]
theorem parts_back {L : List (Nat × Nat × Bool)} {n : Nat} {ws : List (List (List Int))} (p : Parts (RL ((dbl L).map fun q => (fN q.1, fN q.2))) ((List.range (2 * n)).map fN) ws) : DP L n (ws.map (List.map gN)) ∧ (ws.map (List.map gN)).map (List.map fN) = ws := by
  have inT : ∀ w ∈ ws, ∀ u ∈ w, fN (gN u) = u := fun w hw u hu => by
    obtain ⟨x, _, rfl⟩ := List.mem_map.mp (p.perm.subset (List.mem_flatten.mpr ⟨w, hw, hu⟩))
    rw [gN_fN]
  have rb : ∀ u v, RL ((dbl L).map fun q => (fN q.1, fN q.2)) u v → RD (dirL (dbl L)) (gN u) (gN v) := fun u v r => by
    rcases r with r | r
    · obtain ⟨⟨a, b⟩, m, e⟩ := List.mem_map.mp r
      simp only [Prod.mk.injEq] at e
      rw [← e.1, ← e.2, gN_fN, gN_fN]
      exact mem_dirL.mpr (.inl m)
    · obtain ⟨⟨a, b⟩, m, e⟩ := List.mem_map.mp r
      simp only [Prod.mk.injEq] at e
      rw [← e.1, ← e.2, gN_fN, gN_fN]
      exact mem_dirL.mpr (.inr m)
  have cb : ∀ u v, Conn (RL ((dbl L).map fun q => (fN q.1, fN q.2))) u v → Conn (RD (dirL (dbl L))) (gN u) (gN v) := fun u v c => by
    induction c with
    | refl => exact .refl _
    | step _ r ih => exact .step ih (rb _ _ r)
  refine ⟨⟨?_, fun h hh => ?_, fun h hh x hx y hy => ?_, fun h hh x hx y r => ?_⟩, ?_⟩
  · have := p.perm.map gN
    rw [List.map_map] at this
    have e : (List.range (2 * n)).map (gN ∘ fN) = List.range (2 * n) := by
      conv => rhs; rw [← List.map_id (List.range (2 * n))]
      exact List.map_congr_left fun x _ => gN_fN x
    rw [e, List.map_flatten] at this
    exact this
  · obtain ⟨w, hw, rfl⟩ := List.mem_map.mp hh
    intro z
    exact p.ne w hw (List.map_eq_nil_iff.mp z)
  · obtain ⟨w, hw, rfl⟩ := List.mem_map.mp hh
    obtain ⟨u, hu, rfl⟩ := List.mem_map.mp hx
    obtain ⟨v, hv, rfl⟩ := List.mem_map.mp hy
    exact cb _ _ (p.conn w hw u hu v hv)
  · obtain ⟨w, hw, rfl⟩ := List.mem_map.mp hh
    obtain ⟨u, hu, rfl⟩ := List.mem_map.mp hx
    have : RL ((dbl L).map fun q => (fN q.1, fN q.2)) u (fN y) := by
      rw [← inT w hw u hu]
      rcases mem_dirL.mp r with q | q
      · exact .inl (List.mem_map.mpr ⟨_, q, rfl⟩)
      · exact .inr (List.mem_map.mpr ⟨_, q, rfl⟩)
    exact List.mem_map.mpr ⟨_, p.closed w hw u hu _ this, gN_fN y⟩
  · rw [List.map_map]
    conv => rhs; rw [← List.map_id ws]
    refine List.map_congr_left fun w hw => ?_
    show (w.map gN).map fN = w
    rw [List.map_map]
    conv => rhs; rw [← List.map_id w]
    exact List.map_congr_left fun u hu => inT w hw u hu
theorem dd_lt (ns : List Int) : (dd ns).length < ns.length ↔ ¬ ns.Nodup := by
  have key : ∀ (m : Nat) (ns : List Int), ns.length = m → ((dd ns).length = ns.length ↔ ns.Nodup) := by
    intro m
    induction m with
    | zero => intro ns h; rw [List.length_eq_zero_iff.mp h]; exact ⟨fun _ => List.nodup_nil, fun _ => rfl⟩
    | succ m ih =>
      intro ns h
      rcases List.eq_nil_or_concat ns with rfl | ⟨ms, k, rfl⟩
      · simp at h
      · rw [List.concat_eq_append] at h ⊢
        have hl : ms.length = m := by rw [List.length_append] at h; simpa using h
        have i := ih ms hl
        have l := dd_len ms
        rw [dd_snoc, List.nodup_append]
        unfold ddStep
        by_cases c : k ∈ dd ms
        · rw [if_pos c, List.length_append, List.length_singleton]
          constructor
          · intro z; omega
          · rintro ⟨_, _, d⟩
            exact absurd rfl (d k ((dd_mem ms k).mp c) k (by simp))
        · rw [if_neg c, List.length_append, List.length_append, List.length_singleton]
          constructor
          · intro z
            refine ⟨i.mp (by omega), List.nodup_cons.mpr ⟨by simp, List.nodup_nil⟩, fun a ha b hb => ?_⟩
            rw [List.mem_singleton] at hb
            rw [hb]
            exact fun e => c ((dd_mem ms k).mpr (e ▸ ha))
          · rintro ⟨nd, _, _⟩
            rw [i.mpr nd]
  have k1 := key _ ns rfl
  have := dd_len ns
  constructor
  · intro h nd
    have := k1.mpr nd
    omega
  · intro h
    by_cases c : (dd ns).length = ns.length
    · exact absurd (k1.mp c) h
    · omega
theorem clash_iff {h : List Nat} (nd : h.Nodup) : (dd (h.map fun x => ((x / 2 : Nat) : Int))).length < h.length ↔ Clash h := by
  have e : (h.map fun x => ((x / 2 : Nat) : Int)).length = h.length := List.length_map ..
  rw [← e, dd_lt]
  unfold List.Nodup
  rw [List.pairwise_map]
  constructor
  · intro z
    refine Classical.byContradiction fun c => z (nd.imp_of_mem fun {a b} ha hb ne q => ?_)
    rcases half_two (show a / 2 = b / 2 by omega) with r | r
    · exact ne r
    · exact c ⟨a, ha, r ▸ hb⟩
  · rintro ⟨x, hx, hf⟩ z
    have : ∀ a ∈ h, ∀ b ∈ h, a ≠ b → ((a / 2 : Nat) : Int) ≠ ((b / 2 : Nat) : Int) := by
      intro a ha b hb ne
      exact (List.Pairwise.forall_of_forall_of_flip (l := h) (R := fun a b => a ≠ b → ((a / 2 : Nat) : Int) ≠ ((b / 2 : Nat) : Int)) (fun a _ q => absurd rfl q) (List.Pairwise.imp (fun {a b} q (_ : a ≠ b) => q) z) (List.Pairwise.imp (fun {a b} q (_ : b ≠ a) => fun w => q w.symm) z)) ha hb ne
    exact this x hx (flp x) hf (fun q => flp_ne x q.symm) (by rw [flp_half])
end L2
set_option Elab.async false
set_option linter.all false
set_option maxRecDepth 100000
set_option maxHeartbeats 1000000
set_option Elab.async false
set_option linter.all false
set_option maxRecDepth 100000
set_option maxHeartbeats 1000000
set_option Elab.async false
set_option linter.all false
set_option maxRecDepth 100000
set_option maxHeartbeats 1000000
set_option Elab.async false
set_option linter.all false
set_option maxRecDepth 100000
set_option maxHeartbeats 1000000
set_option Elab.async false
set_option linter.all false
set_option maxRecDepth 100000
set_option maxHeartbeats 1000000
set_option Elab.async false
set_option linter.all false
set_option maxRecDepth 100000
set_option maxHeartbeats 1000000
set_option Elab.async false
set_option linter.all false
set_option maxRecDepth 100000
set_option maxHeartbeats 1000000
set_option Elab.async false
set_option linter.all false
set_option maxRecDepth 100000
set_option maxHeartbeats 1000000
namespace L2
open PySem PySem.Spec PyProof.Rows
theorem compEn {K : PySem.W.Frag} {k : Nat} {a : Addr} {xs : List V} {g : TG} {tt : TT} {te : TE} {Q : VK} {σ : St} {H : Hp} (Pv : Nat → List V → Hp → Prop) (h0 : Pv 0 [] H) (hb : xs.length ≤ 1000) (hz : ∀ i ys H, Pv i ys H → ys.length ≤ i) (hl : ∀ i ys H, i ≤ xs.length → Pv i ys H → SqL K H a xs)
    (hs : ∀ i x ys H (pre : St) (p : Addr), pre.length = k → xs[i]? = some x → Pv i ys H → H p = none → g (.ref p) (pre ++ σ) (upd H p (.tup [.int (i : Int), x])) fun σ' H2 => (∃ pre' : St, σ' = pre' ++ σ ∧ pre'.length = k) ∧ tt σ' H2 fun ok H3 => if ok = true then te σ' H3 fun y H4 => Pv (i + 1) (ys ++ [y]) H4 else Pv (i + 1) ys H3) (hd : ∀ ys H, Pv xs.length ys H → ∀ D, H D = none → Q (.ref D) (upd H D (.lst ys))) : CGo k (Ite K a) g tt te Q σ H := by
  refine ⟨fun i m ys H => m = xs.length - i ∧ i ≤ xs.length ∧ Pv i ys H, ⟨xs.length, by simp, Nat.zero_le _, h0⟩, ?_⟩
  rintro i m ys H ⟨rfl, hi, p⟩
  have q := hl i ys H hi p
  by_cases hlt : i < xs.length
  · refine .inr ⟨⟨xs, xs[i], q, by simp [hlt]⟩, Nat.lt_of_le_of_lt (hz i ys H p) (small1000 (by omega)), Pv (i + 1), fun zs H' p' => ⟨xs.length - (i + 1), by omega, rfl, hlt, p'⟩, fun v H' pre hp y => ?_⟩
    obtain ⟨pp, x, rfl, hq, rfl, e⟩ := y
    exact hs i x ys _ pre pp hp (e xs q) p hq
  · have e : i = xs.length := by omega
    subst e
    exact .inl ⟨⟨xs, q, by simp⟩, hd ys H p⟩
end L2
set_option Elab.async false
set_option linter.all false
set_option maxRecDepth 100000
set_option maxHeartbeats 1000000
namespace L2
open PySem PySem.Spec PyProof.Rows
theorem TuL.get {H : Hp} {xs : List V} {us : List (List Int)} (h : TuL H xs us) {i : Nat} {u : List Int} (e : us[i]? = some u) : ∃ a : Addr, H a = some (.tup (u.map V.int)) ∧ xs[i]? = some (.ref a) := by
  have il : i < xs.length := by rw [h.1]; exact (List.getElem?_eq_some_iff.mp e).1
  obtain ⟨a, ea, ha⟩ := h.2 i _ u (List.getElem?_eq_getElem il) e
  exact ⟨a, ha, by rw [List.getElem?_eq_getElem il, ea]⟩
def spGluedI : Sp := fun vs H Q _ => ∃ (b : Addr) (xs : List V) (S : List (List Int)), vs = [.ref b] ∧ H b = some (.lst xs) ∧ TuL H xs S ∧ ShOk S ∧ ∀ (c : Addr) (zs : List V) (gs : List (List (List Int))) (H' : Hp), Same H H' → H c = none → H' c = some (.lst zs) → LsL H' true zs gs → GlInv (S.length / 2 * 3) (sidesF S) gs → Q (.ref c) H'
end L2
set_option Elab.async false
set_option linter.all false
set_option maxRecDepth 100000
set_option maxHeartbeats 1000000
set_option Elab.async false
set_option linter.all false
set_option maxRecDepth 100000
set_option maxHeartbeats 1000000
set_option Elab.async false
set_option linter.all false
set_option maxRecDepth 100000
set_option maxHeartbeats 1000000
namespace L2
open PySem PySem.Spec PyProof.Rows
def sgn (S : List (List Int)) (u : List Int) : Int := (S.getD (u.getD 0 0).toNat []).getD (u.getD 1 0).toNat 0
def bs2 (S : List (List Int)) (k : Nat) : Bool × Bool := match glueOf (sidesF S) k with | [u, v] => (decide (0 < sgn S u), decide (0 < sgn S v)) | _ => (false, false)
def lkT (S : List (List Int)) : List (Nat × Nat × Bool) := (List.range (S.length / 2 * 3)).map fun k => match glueOf (sidesF S) k with | [u, v] => (atOf u, atOf v, (bs2 S k).1 == (bs2 S k).2) | _ => (0, 0, false)
theorem lkT_len (S : List (List Int)) : (lkT S).length = S.length / 2 * 3 := by unfold lkT; rw [List.length_map, List.length_range]
theorem sgn_at {S : List (List Int)} {i p : Nat} {t : List Int} {s : Int} (h1 : S[i]? = some t) (h2 : t[p]? = some s) : sgn S [(i : Int), (p : Int)] = s := by
  show (S.getD ((i : Int)).toNat []).getD ((p : Int)).toNat 0 = s
  rw [Int.toNat_natCast, Int.toNat_natCast, List.getD_eq_getElem?_getD, List.getD_eq_getElem?_getD, h1]
  show (t[p]?).getD 0 = s
  rw [h2]; rfl
theorem glue_full {S : List (List Int)} (oS : ShOk S) {k : Nat} (hk : k < S.length / 2 * 3) : ∃ (i p i' p' : Nat) (t t' : List Int) (s s' : Int), glueOf (sidesF S) k = [[(i : Int), (p : Int)], [(i' : Int), (p' : Int)]] ∧ S[i]? = some t ∧ t[p]? = some s ∧ S[i']? = some t' ∧ t'[p']? = some s' ∧ absI s = (k : Int) + 1 ∧ absI s' = (k : Int) + 1 ∧ bs2 S k = (decide (0 < s), decide (0 < s')) ∧ (lkT S)[k]? = some (i, i', decide (0 < s) == decide (0 < s')) := by
  obtain ⟨u, v, e⟩ := two2 (glue_two oS hk)
  obtain ⟨i, p, t, s, h1, h2, rfl, h3⟩ := glue_mem (S := S) (k := k) (u := u) (by rw [e]; simp)
  obtain ⟨i', p', t', s', h1', h2', rfl, h3'⟩ := glue_mem (S := S) (k := k) (u := v) (by rw [e]; simp)
  have eb : bs2 S k = (decide (0 < s), decide (0 < s')) := by
    unfold bs2
    rw [e]
    show (decide (0 < sgn S [(i : Int), (p : Int)]), decide (0 < sgn S [(i' : Int), (p' : Int)])) = _
    rw [sgn_at h1 h2, sgn_at h1' h2']
  refine ⟨i, p, i', p', t, t', s, s', e, h1, h2, h1', h2', h3, h3', eb, ?_⟩
  unfold lkT
  rw [List.getElem?_map, List.getElem?_range hk]
  show some (match glueOf (sidesF S) k with | [u, v] => (atOf u, atOf v, (bs2 S k).1 == (bs2 S k).2) | _ => (0, 0, false)) = _
  rw [e, eb]
  rfl
def spLikes : Sp := fun vs H Q _ => ∃ (b : Addr) (xs : List V) (S : List (List Int)), vs = [.ref b] ∧ H b = some (.lst xs) ∧ TuL H xs S ∧ ShOk S ∧ ∀ (c : Addr) (H' : Hp), Same H H' → H c = none → H' c = some (.lst ((lkT S).map fun q => V.bl q.2.2)) → Q (.ref c) H'
def tLikes (K : PySem.W.Frag) : TS := tSeq (tAsg (tCompG 1 (iList K (tCall spGluedI [] E0 (tCons (tVar 0) tNil))) (gName 0) tYes (tCompG 2 (iList K (tVar 0)) (gTup K 2 (gCons (gName 0) (gCons (gName 1) gNil))) tYes (tOp (rI0 fun i j => V.bl (decide (j < i))) (tOp (rIxT K) (tOp (rIxL K) (tVar 3) (tVar 0)) (tVar 1)) (tC (V.int 0))))) (gName 1)) (tRet (tCompG 2 (iList K (tVar 1)) (gLst K 2 (gCons (gName 0) (gCons (gName 1) gNil))) tYes (tOp rEq (tVar 0) (tVar 1))))
def LbL (H : Hp) (S : List (List Int)) (m : Nat) (ys : List V) : Prop := ys.length = m ∧ ∀ (j : Nat) (y : V), ys[j]? = some y → ∃ a : Addr, y = .ref a ∧ H a = some (.lst [.bl (bs2 S j).1, .bl (bs2 S j).2])
theorem LbL.up {H H' : Hp} {S : List (List Int)} {m : Nat} {ys : List V} (h : LbL H S m ys) (s : Same H H') : LbL H' S m ys := ⟨h.1, fun j y e => by
  obtain ⟨a, ea, ha⟩ := h.2 j y e
  exact ⟨a, ea, s _ _ ha⟩⟩
set_option maxHeartbeats 4000000 in
theorem likes_reads {K : PySem.W.Frag} {H : Hp} {Q : VK} {Z : L2.St → Hp → Prop} {b : Addr} {xs : List V} {S : List (List Int)} (hb : H b = some (.lst xs)) (tS : TuL H xs S) (oS : ShOk S)
    (k : ∀ (c : Addr) (H' : Hp), Same H H' → H c = none → H' c = some (.lst ((lkT S).map fun q => V.bl q.2.2)) → Q (.ref c) H') :
    tLikes K { nx := Z, rt := Q } [some (.ref b), none] H := by
  have lS := oS.len
  refine ⟨_, rfl, b, xs, S, rfl, hb, tS, oS, fun c zs gs H1 s1 cf hc lz gi => ?_⟩
  have zl : zs.length = S.length / 2 * 3 := by rw [lz.1, gi.len]
  refine ⟨c, rfl, ⟨_, SqL.of hc⟩, compL (K := K) (a := c) (xs := zs) (fun m ys H' => LbL H' S m ys ∧ Same H1 H') ⟨⟨rfl, fun j y e => (by cases e)⟩, Same.refl _⟩ (by omega) (fun m ys H' h => by rw [h.1.1]; exact Nat.le_refl _) (fun m ys H' _ h => SqL.of (h.2 _ _ hc)) ?_ ?_⟩
  · rintro m y ys H2 pre hpl hy ⟨ty, s2⟩
    have ml : m < S.length / 2 * 3 := by rw [← zl]; exact (List.getElem?_eq_some_iff.mp hy).1
    obtain ⟨i, p, i', p', t, t', s, s', e, h1, h2, h1', h2', _, _, eb, _⟩ := glue_full oS ml
    have eg := gi.val m ml
    rw [e] at eg
    obtain ⟨a, vs, rfl, ha, iv⟩ := (lz.up s2).2 m y _ hy eg
    obtain ⟨v1, v2, rfl⟩ := two2 (show vs.length = 2 from iv.1)
    obtain ⟨q1, rfl, g1⟩ := iv.tu.2 0 v1 _ rfl rfl
    obtain ⟨q2, rfl, g2⟩ := iv.tu.2 1 v2 _ rfl rfl
    have s02 := s1.trans s2
    have hb2 := s02 _ _ hb
    obtain ⟨r1, hr1, ex1⟩ := (tS.up s02.tups).get h1
    obtain ⟨r2, hr2, ex2⟩ := (tS.up s02.tups).get h1'
    rcases pre with _ | ⟨q0, _ | ⟨q3, pre⟩⟩
    · cases hpl
    · refine ⟨⟨[some _], rfl, rfl⟩, ?_⟩
      unfold tYes
      dsimp only
      rw [if_pos (rfl : true = true)]
      refine ⟨_, rfl, a, rfl, ⟨_, SqL.of ha⟩, compL (K := K) (a := a) (xs := [.ref q1, .ref q2]) (fun n ws H' => ws = [V.bl (decide (0 < s)), V.bl (decide (0 < s'))].take n ∧ H2 = H') ⟨rfl, rfl⟩ (by show 2 ≤ 1000; decide) (fun n ws H' h => by rw [h.1, List.length_take]; exact Nat.min_le_left _ _) (fun n ws H' _ h => by rw [← h.2]; exact SqL.of ha) ?_ ?_⟩
      · rintro n z ws H' pre hpl hz ⟨rfl, rfl⟩
        rcases pre with _ | ⟨q0, _ | ⟨q3, _ | ⟨q4, pre⟩⟩⟩
        · cases hpl
        · cases hpl
        · match n, hz with
          | 0, hz =>
            cases hz
            refine ⟨q1, _, rfl, SqT.of g1, rfl, _, _, rfl, _, _, rfl, rfl, ⟨[some _, some _], rfl, rfl⟩, ?_⟩
            dsimp only
            rw [if_pos (rfl : true = true)]
            exact ⟨_, rfl, _, rfl, b, xs, _, _, rfl, rfl, SqL.of hb2, atI_nat ex1, _, rfl, r1, _, _, _, rfl, rfl, SqT.of hr1, atI_nat (by rw [List.getElem?_map, h2]; rfl), _, _, rfl, rfl, rfl, rfl⟩
          | 1, hz =>
            cases hz
            refine ⟨q2, _, rfl, SqT.of g2, rfl, _, _, rfl, _, _, rfl, rfl, ⟨[some _, some _], rfl, rfl⟩, ?_⟩
            dsimp only
            rw [if_pos (rfl : true = true)]
            exact ⟨_, rfl, _, rfl, b, xs, _, _, rfl, rfl, SqL.of hb2, atI_nat ex2, _, rfl, r2, _, _, _, rfl, rfl, SqT.of hr2, atI_nat (by rw [List.getElem?_map, h2']; rfl), _, _, rfl, rfl, rfl, rfl⟩
          | n + 2, hz => cases hz
        · cases hpl
      · rintro ws H' ⟨rfl, rfl⟩ D hD
        have s5 := Same.nw (o := .lst [V.bl (decide (0 < s)), V.bl (decide (0 < s'))]) (Same.refl H2) hD
        refine ⟨⟨by rw [List.length_append, ty.1]; rfl, fun j y' ey => ?_⟩, s2.trans s5⟩
        by_cases jl : j < ys.length
        · rw [List.getElem?_append_left jl] at ey
          exact (ty.up s5).2 j y' ey
        · rw [List.getElem?_append_right (by omega)] at ey
          cases ej : j - ys.length with
          | zero =>
            rw [ej] at ey
            cases ey
            have : j = m := by have := ty.1; omega
            subst this
            rw [eb]
            exact ⟨D, rfl, upd_same⟩
          | succ n => rw [ej] at ey; cases ey
    · cases hpl
  rintro ys H2 ⟨ty, s2⟩ D hD
  rw [zl] at ty
  have s3 := Same.nw (o := .lst ys) (Same.refl H2) hD
  have fD : (upd H2 D (.lst ys)) D = some (.lst ys) := upd_same
  generalize upd H2 D (.lst ys) = H3 at s3 fD ⊢
  have ty3 := ty.up s3
  have s03 := s1.trans (s2.trans s3)
  refine ⟨_, rfl, D, rfl, ⟨_, SqL.of fD⟩, compL (K := K) (a := D) (xs := ys) (fun m ws H' => ws = ((lkT S).take m).map (fun q => V.bl q.2.2) ∧ H3 = H') ⟨rfl, rfl⟩ (by rw [ty.1]; omega) (fun m ws H' h => by rw [h.1, List.length_map, List.length_take]; exact Nat.min_le_left _ _) (fun m ws H' _ h => by rw [← h.2]; exact SqL.of fD) ?_ ?_⟩
  · rintro m y ws H' pre hpl hy ⟨rfl, rfl⟩
    have ml : m < S.length / 2 * 3 := by rw [← ty.1]; exact (List.getElem?_eq_some_iff.mp hy).1
    obtain ⟨i, p, i', p', t, t', s, s', e, h1, h2, h1', h2', _, _, eb, el⟩ := glue_full oS ml
    obtain ⟨a, rfl, ha⟩ := ty3.2 m y hy
    rw [eb] at ha
    rcases pre with _ | ⟨q0, _ | ⟨q3, _ | ⟨q4, pre⟩⟩⟩
    · cases hpl
    · cases hpl
    · refine ⟨a, _, rfl, SqL.of ha, rfl, _, _, rfl, _, _, rfl, rfl, ⟨[some _, some _], rfl, rfl⟩, ?_⟩
      unfold tYes
      dsimp only
      rw [if_pos (rfl : true = true)]
      refine ⟨_, rfl, _, rfl, rfl, ?_, rfl⟩
      rw [take_succ' el, List.map_append]
      show _ ++ [V.bl (decide (V.bl (decide (0 < s)) = V.bl (decide (0 < s'))))] = _ ++ [V.bl (decide (0 < s) == decide (0 < s'))]
      have : decide (V.bl (decide (0 < s)) = V.bl (decide (0 < s'))) = (decide (0 < s) == decide (0 < s')) := by
        cases decide (0 < s) <;> cases decide (0 < s') <;> rfl
      rw [this]
    · cases hpl
  · rintro ws H' ⟨rfl, rfl⟩ E hE
    rw [ty.1, List.take_of_length_le (by rw [lkT_len]; exact Nat.le_refl _)]
    exact k E _ (s03.trans (Same.nw (Same.refl H3) hE)) (s03.free hE) upd_same
end L2
set_option Elab.async false
set_option linter.all false
set_option maxRecDepth 100000
set_option maxHeartbeats 1000000
namespace L2
open PySem PySem.Spec PyProof.Rows
def LtL (H : Hp) (ps : List V) (L : List (Nat × Nat × Bool)) : Prop := ps.length = L.length ∧ ∀ (k : Nat) (y : V) (q : Nat × Nat × Bool), ps[k]? = some y → L[k]? = some q → ∃ a : Addr, y = .ref a ∧ H a = some (.tup [nv q.1, nv q.2.1, .bl q.2.2])
theorem LtL.up {H H' : Hp} {ps : List V} {L : List (Nat × Nat × Bool)} (h : LtL H ps L) (t : Tups H H') : LtL H' ps L := ⟨h.1, fun k y q h1 h2 => by
  obtain ⟨a, e, ha⟩ := h.2 k y q h1 h2
  exact ⟨a, e, t _ _ ha⟩⟩
def spMarked : Sp := fun vs H Q _ => ∃ (l : Addr) (n : Nat) (ps : List V) (L : List (Nat × Nat × Bool)), vs = [nv n, .ref l] ∧ H l = some (.lst ps) ∧ LtL H ps L ∧ n ≤ 12 ∧ L.length ≤ 100 ∧ (∀ q ∈ L, q.1 < n ∧ q.2.1 < n) ∧
  (∀ hs, DP L n hs → (∃ h ∈ hs, Clash h) → ∀ H', Same H H' → Q .non H') ∧ (∀ hs, DP L n hs → (∀ h ∈ hs, ¬ Clash h) → ∀ (M : List Int) (c : Addr) (H' : Hp), MkOk n hs M → Same H H' → H c = none → H' c = some (.lst (M.map V.int)) → Q (.ref c) H')
def tAdd46 (K : PySem.W.Frag) : TS := (tSeq (tDrop (tBM K "list" rAppend (tVar 2) (tCons (tTup (tCons (tOp (rI CMul fun i j => V.int (i * j)) (tC (V.int 2)) (tVar 3)) (tCons (tOp (rI0 fun i j => V.int (i + j)) (tOp (rI CMul fun i j => V.int (i * j)) (tC (V.int 2)) (tVar 4)) (tVar 6)) tNil))) tNil))) (tDrop (tBM K "list" rAppend (tVar 2) (tCons (tTup (tCons (tOp (rI0 fun i j => V.int (i + j)) (tOp (rI CMul fun i j => V.int (i * j)) (tC (V.int 2)) (tVar 3)) (tC (V.int 1))) (tCons (tOp (rI0 fun i j => V.int (i - j)) (tOp (rI0 fun i j => V.int (i + j)) (tOp (rI CMul fun i j => V.int (i * j)) (tC (V.int 2)) (tVar 4)) (tC (V.int 1))) (tVar 6)) tNil))) tNil))))
theorem dbl_snoc (L : List (Nat × Nat × Bool)) (q : Nat × Nat × Bool) : dbl (L ++ [q]) = dbl L ++ [(2 * q.1, 2 * q.2.1 + q.2.2.toNat), (2 * q.1 + 1, 2 * q.2.1 + 1 - q.2.2.toNat)] := by
  unfold dbl
  rw [List.map_append, List.flatten_append]
  simp
theorem dbl_len (L : List (Nat × Nat × Bool)) : (dbl L).length = 2 * L.length := by
  induction L with
  | nil => rfl
  | cons q L ih =>
    have e : dbl (q :: L) = [(2 * q.1, 2 * q.2.1 + q.2.2.toNat), (2 * q.1 + 1, 2 * q.2.1 + 1 - q.2.2.toNat)] ++ dbl L := rfl
    rw [e, List.length_append, ih, List.length_cons]
    simp only [List.length_cons, List.length_nil]
    omega
set_option maxHeartbeats 4000000 in
theorem add46_reads {K : PySem.W.Frag} {H : Hp} {D : Ends} {d : Addr} {n : Nat} {ys : List V} {us : List (List Int)} {i j : Nat} {c : Bool} {x1 x5 x7 x8 x9 : Option V} (hd : H d = some (.lst ys)) (tu : TuL H ys us) (yl : ys.length ≤ 200) (il : i < 100) (jl : j < 100)
    (k : ∀ (ys' : List V) (H' : Hp), (∀ a o, H a = some o → a ≠ d → H' a = some o) → H' d = some (.lst ys') → TuL H' ys' (us ++ [pc (2 * i, 2 * j + c.toNat), pc (2 * i + 1, 2 * j + 1 - c.toNat)]) → D.nx [some (nv n), x1, some (.ref d), some (nv i), some (nv j), x5, some (.int (c.toNat : Int)), x7, x8, x9] H') :
    tAdd46 K D [some (nv n), x1, some (.ref d), some (nv i), some (nv j), x5, some (.int (c.toNat : Int)), x7, x8, x9] H := by
  have c1 : c.toNat ≤ 1 := by cases c <;> decide
  refine ⟨_, rfl, .inl ⟨rfl, _, SqL.of hd⟩, _, rfl, 2, (i : Int), rfl, rfl, .inl ⟨by decide, by decide⟩, _, rfl, 2, (j : Int), rfl, rfl, .inl ⟨by decide, by decide⟩, _, rfl, _, (c.toNat : Int), rfl, rfl, (by show 2 ≤ sizeLine; decide), fun p hp => ?_⟩
  dsimp only [tNil]
  rw [show (2 * (i : Int)) = ((2 * i : Nat) : Int) by omega, show (2 * (j : Int) + (c.toNat : Int)) = ((2 * j + c.toNat : Nat) : Int) by omega]
  have s1 := Same.nw (o := .tup [.int ((2 * i : Nat) : Int), .int ((2 * j + c.toNat : Nat) : Int)]) (Same.refl H) hp
  have f1 : (upd H p (.tup [.int ((2 * i : Nat) : Int), .int ((2 * j + c.toNat : Nat) : Int)])) p = some (.tup ((pc (2 * i, 2 * j + c.toNat)).map V.int)) := upd_same
  generalize upd H p (.tup [.int ((2 * i : Nat) : Int), .int ((2 * j + c.toNat : Nat) : Int)]) = H1 at s1 f1 ⊢
  have hd1 := s1 _ _ hd
  refine ⟨d, ys, .ref p, rfl, rfl, hd1, Nat.lt_of_le_of_lt (show _ ≤ 1000 by omega) (by decide), ?_⟩
  have t2 : Tups H1 (upd H1 d (.lst (ys ++ [.ref p]))) := Tups.lst (Tups.refl _) hd1
  have tu2 : TuL (upd H1 d (.lst (ys ++ [.ref p]))) (ys ++ [.ref p]) (us ++ [pc (2 * i, 2 * j + c.toNat)]) := TuL.up (TuL.snoc (tu.up s1.tups) f1) t2
  have hd2 : (upd H1 d (.lst (ys ++ [.ref p]))) d = some (.lst (ys ++ [.ref p])) := upd_same
  have k2 : ∀ a o, H a = some o → a ≠ d → (upd H1 d (.lst (ys ++ [.ref p]))) a = some o := fun a o e ne => by rw [upd_ne ne]; exact s1 _ _ e
  generalize upd H1 d (.lst (ys ++ [.ref p])) = H2 at t2 tu2 hd2 k2 ⊢
  refine ⟨_, rfl, .inl ⟨rfl, _, SqL.of hd2⟩, _, rfl, 2, (i : Int), rfl, rfl, .inl ⟨by decide, by decide⟩, _, _, rfl, rfl, _, rfl, 2, (j : Int), rfl, rfl, .inl ⟨by decide, by decide⟩, _, _, rfl, rfl, _, rfl, _, (c.toNat : Int), rfl, rfl, (by show 2 ≤ sizeLine; decide), fun p' hp' => ?_⟩
  dsimp only [tNil]
  rw [show (2 * (i : Int) + 1) = ((2 * i + 1 : Nat) : Int) by omega, show (2 * (j : Int) + 1 - (c.toNat : Int)) = ((2 * j + 1 - c.toNat : Nat) : Int) by omega]
  have s3 := Same.nw (o := .tup [.int ((2 * i + 1 : Nat) : Int), .int ((2 * j + 1 - c.toNat : Nat) : Int)]) (Same.refl H2) hp'
  have f3 : (upd H2 p' (.tup [.int ((2 * i + 1 : Nat) : Int), .int ((2 * j + 1 - c.toNat : Nat) : Int)])) p' = some (.tup ((pc (2 * i + 1, 2 * j + 1 - c.toNat)).map V.int)) := upd_same
  generalize upd H2 p' (.tup [.int ((2 * i + 1 : Nat) : Int), .int ((2 * j + 1 - c.toNat : Nat) : Int)]) = H3 at s3 f3 ⊢
  have hd3 := s3 _ _ hd2
  refine ⟨d, _, .ref p', rfl, rfl, hd3, Nat.lt_of_le_of_lt (show _ ≤ 1000 by rw [List.length_append, List.length_singleton]; omega) (by decide), ?_⟩
  have t4 : Tups H3 (upd H3 d (.lst (ys ++ [.ref p] ++ [.ref p']))) := Tups.lst (Tups.refl _) hd3
  refine k _ _ (fun a o e ne => by rw [upd_ne ne]; exact s3 _ _ (k2 a o e ne)) upd_same ?_
  rw [show us ++ [pc (2 * i, 2 * j + c.toNat), pc (2 * i + 1, 2 * j + 1 - c.toNat)] = us ++ [pc (2 * i, 2 * j + c.toNat)] ++ [pc (2 * i + 1, 2 * j + 1 - c.toNat)] by simp]
  exact TuL.up (TuL.snoc (tu2.up s3.tups) f3) t4
def tRoom46 (K : PySem.W.Frag) : TS := (tSeq (tIfS (tTest (tOp (rI0 fun i j => V.bl (decide (i < j))) (tLenC 1 (iList K (tVar 8)) (gName 0) tYes (tOp (rI CDivL fun i j => V.int (i / j)) (tVar 0) (tC (V.int 2)))) (tCB (fun xs H Q => ∃ p ys, xs = [V.ref p] ∧ (SqL K H p ys ∨ SqT K H p ys) ∧ Q (V.int ys.length) H) (tCons (tVar 8) tNil)))) (tRet (tC V.non)) tNext) (tIfS (tTest (tOp rEq (tOp (rI (fun x j => 0 < j) fun i j => V.int (i % j)) (tOp (rIxL K) (tVar 8) (tC (V.int 0))) (tC (V.int 2))) (tC (V.int 0)))) (tFor (iList K (tVar 8)) (gName 9) (tAsg (tOp (rI (fun x j => 0 < j) fun i j => V.int (i % j)) (tVar 9) (tC (V.int 2))) (gSub (tVar 7) (tOp (rI CDivL fun i j => V.int (i / j)) (tVar 9) (tC (V.int 2))) rSetL))) tNext))
theorem evn_head {x : Nat} {t : List Nat} (up : (x :: t).Pairwise (· < ·)) : Evn (x :: t) ↔ x % 2 = 0 := by
  have hm : ∀ y ∈ x :: t, x ≤ y := fun y hy => by
    rcases List.mem_cons.mp hy with rfl | hy
    · exact Nat.le_refl _
    · exact Nat.le_of_lt ((List.pairwise_cons.mp up).1 y hy)
  constructor
  · rintro ⟨l, hl, ml⟩
    have h1 := hm _ hl
    have h2 := ml x (by simp)
    omega
  · intro e
    exact ⟨x / 2, by rw [show 2 * (x / 2) = x by omega]; simp, fun y hy => by have := hm y hy; omega⟩
set_option maxHeartbeats 4000000 in
theorem room46_reads {K : PySem.W.Frag} {H : Hp} {Q : VK} {Zn Zc Zb : L2.St → Hp → Prop} {a c : Addr} {n : Nat} {h : List Nat} {M : List Int} {x1 x2 x3 x4 x5 x6 x9 : Option V} (ha : H a = some (.lst (h.map nv))) (hc : H c = some (.lst (M.map V.int))) (ml : M.length = n) (hl : h.length < 64) (nac : a ≠ c) (ne : h ≠ []) (up : h.Pairwise (· < ·)) (lt : ∀ x ∈ h, x < 2 * n)
    (k1 : Clash h → ∀ H', Same H H' → Q .non H')
    (k2 : ¬ Clash h → ∀ (M' : List Int) (y9 : Option V) (H' : Hp), M'.length = n → (∀ i, (¬ Evn h ∨ ∀ x ∈ h, x / 2 ≠ i) → M'[i]? = M[i]?) → (Evn h → ∀ x ∈ h, M'[x / 2]? = some ((x % 2 : Nat) : Int)) → (∀ b o, H b = some o → b ≠ c → H' b = some o) → H' c = some (.lst (M'.map V.int)) → Zn [some (nv n), x1, x2, x3, x4, x5, x6, some (.ref c), some (.ref a), y9] H') :
    tRoom46 K { nx := Zn, rt := Q, ct := Zc, bk := Zb } [some (nv n), x1, x2, x3, x4, x5, x6, some (.ref c), some (.ref a), x9] H := by
  have nd : h.Nodup := up.imp fun q => Nat.ne_of_lt q
  refine ⟨_, rfl, a, rfl, ⟨_, SqL.of ha⟩, compS (K := K) (a := a) (xs := h.map nv) (fun i ns H' => ns = (h.take i).map (fun x => ((x / 2 : Nat) : Int)) ∧ H = H') ⟨rfl, rfl⟩ (by rw [List.length_map]; exact hl) (fun i ns H' q => by rw [q.1, List.length_map, List.length_take]; exact Nat.min_le_left _ _) (fun i ns H' _ q => by rw [← q.2]; exact SqL.of ha) ?_ ?_⟩
  · rintro i y ns H' pre hpl hy ⟨rfl, rfl⟩
    rw [List.getElem?_map] at hy
    cases ex : h[i]? with
    | none => rw [ex] at hy; cases hy
    | some x =>
      rw [ex] at hy
      cases hy
      rcases pre with _ | ⟨q0, _ | ⟨q3, pre⟩⟩
      · cases hpl
      · refine ⟨⟨[some _], rfl, rfl⟩, ?_⟩
        unfold tYes
        dsimp only
        rw [if_pos (rfl : true = true)]
        refine ⟨_, rfl, (x : Int), 2, rfl, rfl, ⟨by decide, by decide⟩, _, rfl, ?_, rfl⟩
        rw [take_succ' ex, List.map_append]
        show _ ++ [(x : Int) / 2] = _ ++ [((x / 2 : Nat) : Int)]
        rw [show (x : Int) / 2 = ((x / 2 : Nat) : Int) by omega]
      · cases hpl
  rintro ns H' ⟨rfl, rfl⟩
  rw [List.length_map, List.take_length]
  refine ⟨_, rfl, a, _, rfl, .inl (SqL.of ha), _, _, rfl, rfl, _, rfl, ?_⟩
  rw [List.length_map]
  have ci := clash_iff nd
  by_cases cl : Clash h
  · rw [decide_eq_true (by have := ci.mpr cl; omega)]
    exact iteT (k1 cl H (Same.refl H))
  rw [decide_eq_false (fun z => cl (ci.mp (by omega)))]
  refine iteF ?_
  cases h with
  | nil => exact absurd rfl ne
  | cons x0 t =>
    have eh := evn_head up
    refine ⟨_, rfl, a, _, 0, nv x0, rfl, rfl, SqL.of ha, atI_nat (j := 0) (v := nv x0) rfl, (x0 : Int), 2, rfl, rfl, (by show (0 : Int) < 2; decide), rfl, _, rfl, ?_⟩
    by_cases ev : x0 % 2 = 0
    · rw [show decide (V.int ((x0 : Int) % 2) = V.int 0) = true by rw [show (x0 : Int) % 2 = 0 by omega]; rfl]
      have evn := eh.mpr ev
      refine iteT ⟨_, rfl, a, rfl, ⟨_, SqL.of ha⟩, for_list (K := K) (a := a) (xs := (x0 :: t).map nv) (fun i σ H' => ∃ (y9 : Option V) (M' : List Int), σ = [some (nv n), x1, x2, x3, x4, x5, x6, some (.ref c), some (.ref a), y9] ∧ M'.length = n ∧ (∀ i', (∀ x ∈ x0 :: t, x / 2 ≠ i') → M'[i']? = M[i']?) ∧ (∀ x ∈ (x0 :: t).take i, M'[x / 2]? = some ((x % 2 : Nat) : Int)) ∧ (∀ b o, H b = some o → b ≠ c → H' b = some o) ∧ H' c = some (.lst (M'.map V.int))) ⟨_, M, rfl, ml, fun _ _ => rfl, fun x hx => (by cases hx), fun _ _ e _ => e, hc⟩ (fun i σ H' _ q => by obtain ⟨_, _, _, _, _, _, kp, _⟩ := q; exact SqL.of (kp _ _ ha nac)) ?_ ?_⟩
      · rintro i y σ H2 hy ⟨y9, M', rfl, l2, o2, v2, kp2, hc2⟩
        rw [List.getElem?_map] at hy
        cases ex : (x0 :: t)[i]? with
        | none => rw [ex] at hy; cases hy
        | some x =>
          rw [ex] at hy
          cases hy
          have mx : x ∈ x0 :: t := List.mem_of_getElem? ex
          have xl : x / 2 < M'.length := by have := lt x mx; omega
          have ix : ixN (M'.map V.int).length ((x : Int) / 2) = some (x / 2) := by
            rw [show (x : Int) / 2 = ((x / 2 : Nat) : Int) by omega]
            exact ixN_nat (by rw [List.length_map]; exact xl)
          refine ⟨_, rfl, (x : Int), 2, rfl, rfl, (by show (0 : Int) < 2; decide), _, rfl, _, rfl, (x : Int), 2, rfl, rfl, ⟨by decide, by decide⟩, c, _, _, x / 2, rfl, rfl, hc2, ix, ?_⟩
          refine ⟨_, M'.set (x / 2) ((x % 2 : Nat) : Int), rfl, by rw [List.length_set]; exact l2, fun i' h' => ?_, fun x' hx' => ?_, fun b o e nb => ?_, ?_⟩
          · rw [List.getElem?_set_ne (h' x mx)]
            exact o2 i' h'
          · rw [take_succ' ex] at hx'
            by_cases ee : x / 2 = x' / 2
            · rw [← ee, List.getElem?_set_self xl]
              rcases half_two ee with r | r
              · rw [r]
              · refine absurd ⟨x, mx, ?_⟩ cl
                rw [← r]
                rcases List.mem_append.mp hx' with z | z
                · exact List.mem_of_mem_take z
                · rw [List.mem_singleton] at z; rw [z]; exact mx
            · rw [List.getElem?_set_ne ee]
              rcases List.mem_append.mp hx' with z | z
              · exact v2 x' z
              · rw [List.mem_singleton] at z; rw [z] at ee; exact absurd rfl ee
          · rw [upd_ne nb]; exact kp2 b o e nb
          · rw [upd_same, List.map_set]
            dsimp only
            rw [show (x : Int) % 2 = ((x % 2 : Nat) : Int) by omega]
      · rintro σ H2 ⟨y9, M', rfl, l2, o2, v2, kp2, hc2⟩
        rw [List.length_map, List.take_length] at v2
        exact k2 cl M' _ H2 l2 (fun i' q => by
          rcases q with q | q
          · exact absurd evn q
          · exact o2 i' q) (fun _ => v2) kp2 hc2
    · rw [show decide (V.int ((x0 : Int) % 2) = V.int 0) = false by rw [show (x0 : Int) % 2 = 1 by omega]; rfl]
      exact iteF (k2 cl M _ H ml (fun _ _ => rfl) (fun e => absurd (eh.mp e) ev) (fun _ _ e _ => e) hc)
def tRooms46 (K : PySem.W.Frag) : TS := (tSeq (tFor (iList K (tCall spLinked [] E0 (tCons (tOp (rI CMul fun i j => V.int (i * j)) (tC (V.int 2)) (tVar 0)) (tCons (tVar 2) tNil)))) (gName 8) (tRoom46 K)) (tRet (tVar 7)))
set_option maxHeartbeats 4000000 in
theorem rooms46_reads {K : PySem.W.Frag} {H0 H : Hp} {Q : VK} {Z : L2.St → Hp → Prop} {d c : Addr} {n : Nat} {ys : List V} {L : List (Nat × Nat × Bool)} {M : List Int} {x1 x3 x4 x5 x6 x8 x9 : Option V} (hd : H d = some (.lst ys)) (tu : TuL H ys ((dbl L).map pc)) (hc : H c = some (.lst (M.map V.int))) (ml : M.length = n) (nl : n ≤ 12) (ll : L.length ≤ 100) (lt : ∀ q ∈ L, q.1 < n ∧ q.2.1 < n) (s0 : Same H0 H) (cf : H0 c = none)
    (k1 : ∀ hs, DP L n hs → (∃ h ∈ hs, Clash h) → ∀ H', Same H0 H' → Q .non H') (k2 : ∀ hs, DP L n hs → (∀ h ∈ hs, ¬ Clash h) → ∀ (M : List Int) (c : Addr) (H' : Hp), MkOk n hs M → Same H0 H' → H0 c = none → H' c = some (.lst (M.map V.int)) → Q (.ref c) H') :
    tRooms46 K { nx := Z, rt := Q } [some (nv n), x1, some (.ref d), x3, x4, x5, x6, some (.ref c), x8, x9] H := by
  refine ⟨_, rfl, 2, (n : Int), rfl, rfl, .inl ⟨by decide, by decide⟩, _, rfl, d, 2 * n, ys, dbl L, (by show [V.int (2 * (n : Int)), V.ref d] = _; rw [show 2 * (n : Int) = ((2 * n : Nat) : Int) by omega]; rfl), hd, tu, by omega, by rw [dbl_len]; omega, fun p hp => ?_, fun z zs hs b' H1 s1 zf hz lz I1 fr => ?_⟩
  · obtain ⟨u, v⟩ := p
    obtain ⟨⟨a, b, f⟩, hq, h⟩ := mem_dbl.mp hp
    obtain ⟨l1, l2⟩ := lt _ hq
    have f1 : f.toNat ≤ 1 := by cases f <;> decide
    simp only at h l1 l2 ⊢
    omega
  have p := I1.parts
  have ncz : z ≠ c := fun e => by rw [e, hc] at zf; cases zf
  refine ⟨z, rfl, ⟨_, SqL.of hz⟩, for_list (K := K) (a := z) (xs := zs) (fun m σ H' => ∃ (y8 y9 : Option V) (M : List Int), σ = [some (nv n), x1, some (.ref d), x3, x4, x5, x6, some (.ref c), y8, y9] ∧ M.length = n ∧ (∀ h ∈ hs.take m, ¬ Clash h) ∧ (∀ h ∈ hs.take m, Evn h → ∀ x ∈ h, M[x / 2]? = some ((x % 2 : Nat) : Int)) ∧ (∀ b o, H1 b = some o → b ≠ c → H' b = some o) ∧ H' c = some (.lst (M.map V.int))) ⟨_, _, M, rfl, ml, fun h hh => (by cases hh), fun h hh => (by cases hh), fun _ _ e _ => e, s1 _ _ hc⟩ (fun m σ H' _ q => by obtain ⟨_, _, _, _, _, _, _, kp, _⟩ := q; exact SqL.of (kp _ _ hz ncz)) ?_ ?_⟩
  · rintro m y σ H2 hy ⟨y8, y9, M2, rfl, l2, nc2, v2, kp2, hc2⟩
    have mlt : m < hs.length := by have := (List.getElem?_eq_some_iff.mp hy).1; rw [lz.1, List.length_map] at this; exact this
    have eh : hs[m]? = some hs[m] := List.getElem?_eq_getElem mlt
    have mh : hs[m] ∈ hs := List.getElem_mem mlt
    generalize hs[m] = h at eh mh
    obtain ⟨a, vs, rfl, ha, iv⟩ := lz.2 m y (h.map nc) hy (by rw [List.getElem?_map, eh]; rfl)
    have ev := it_nv iv
    subst ev
    have af := fr _ (List.mem_of_getElem? hy) a rfl
    have nac : a ≠ c := fun e => by rw [e, hc] at af; cases af
    have same2 : Same H0 H2 := fun b o e => kp2 b o (s1 _ _ (s0 _ _ e)) (ne_of_none e cf)
    have hlen : h.length ≤ 2 * n := by
      have h1 := (List.sublist_flatten_of_mem mh).length_le
      rw [p.perm.length_eq, List.length_range] at h1
      exact h1
    refine room46_reads (K := K) (kp2 _ _ ha nac) hc2 l2 (by omega) nac (p.ne h mh) (I1.up h mh) (fun x hx => I1.lt x (List.mem_flatten.mpr ⟨h, mh, hx⟩)) (fun cl H' s' => k1 hs p ⟨h, mh, cl⟩ H' (same2.trans s')) fun ncl M' z9 H' l' o' v' kp' hc' => ⟨_, _, M', rfl, l', fun h' hh' => ?_, fun h' hh' e' x' hx' => ?_, fun b o e nb => kp' b o (kp2 b o e nb) nb, hc'⟩
    · rw [take_succ' eh] at hh'
      rcases List.mem_append.mp hh' with q | q
      · exact nc2 h' q
      · rw [List.mem_singleton] at q; rw [q]; exact ncl
    · rw [take_succ' eh] at hh'
      by_cases ce : Evn h ∧ ∃ x ∈ h, x / 2 = x' / 2
      · obtain ⟨eh', x, hx, ex⟩ := ce
        have mh' : h' ∈ hs := by
          rcases List.mem_append.mp hh' with q | q
          · exact List.mem_of_mem_take q
          · rw [List.mem_singleton] at q; rw [q]; exact mh
        have exx := DP.evn_uni p mh mh' eh' e' ncl hx hx' ex
        rw [← exx]
        exact v' eh' x hx
      · rcases List.mem_append.mp hh' with q | q
        · rw [o' (x' / 2) (by
            by_cases e2 : Evn h
            · exact .inr fun x hx ex => ce ⟨e2, x, hx, ex⟩
            · exact .inl e2)]
          exact v2 h' q e' x' hx'
        · rw [List.mem_singleton] at q
          subst q
          exact absurd ⟨e', x', hx', rfl⟩ ce
  · rintro σ H2 ⟨y8, y9, M2, rfl, l2, nc2, v2, kp2, hc2⟩
    have zl : zs.length = hs.length := by rw [lz.1, List.length_map]
    rw [zl, List.take_length] at nc2 v2
    exact ⟨_, rfl, k2 hs p nc2 M2 c H2 ⟨l2, v2⟩ (fun b o e => kp2 b o (s1 _ _ (s0 _ _ e)) (ne_of_none e cf)) cf hc2⟩
def tMarked (K : PySem.W.Frag) : TS := tSeq (tAsg (tLst tNil) (gName 2)) (tSeq (tFor (iList K (tVar 1)) (gTup K 3 (gCons (gName 3) (gCons (gName 4) (gCons (gName 5) gNil)))) (tSeq (tAsg (tIf (tB (tVar 5)) (tC (V.int 1)) (tC (V.int 0))) (gName 6)) (tAdd46 K))) (tSeq (tAsg (tOp rRep (tLst (tCons (tC (V.int 0)) tNil)) (tVar 0)) (gName 7)) (tRooms46 K)))
set_option maxHeartbeats 4000000 in
theorem marked_reads {K : PySem.W.Frag} {H : Hp} {Q : VK} {Z : L2.St → Hp → Prop} {l : Addr} {n : Nat} {ps : List V} {L : List (Nat × Nat × Bool)} (hl : H l = some (.lst ps)) (tl : LtL H ps L) (nl : n ≤ 12) (ll : L.length ≤ 100) (lt : ∀ q ∈ L, q.1 < n ∧ q.2.1 < n)
    (k1 : ∀ hs, DP L n hs → (∃ h ∈ hs, Clash h) → ∀ H', Same H H' → Q .non H') (k2 : ∀ hs, DP L n hs → (∀ h ∈ hs, ¬ Clash h) → ∀ (M : List Int) (c : Addr) (H' : Hp), MkOk n hs M → Same H H' → H c = none → H' c = some (.lst (M.map V.int)) → Q (.ref c) H') :
    tMarked K { nx := Z, rt := Q } [some (nv n), some (.ref l), none, none, none, none, none, none, none, none] H := by
  refine ⟨(by show 0 ≤ sizeLine; decide), fun d hd => ?_⟩
  have s1 := Same.nw (o := .lst []) (Same.refl H) hd
  have fd : (upd H d (.lst [])) d = some (.lst []) := upd_same
  generalize upd H d (.lst []) = H1 at s1 fd ⊢
  refine ⟨_, rfl, l, rfl, ⟨_, SqL.of (s1 _ _ hl)⟩, for_list (K := K) (a := l) (xs := ps) (fun i σ H' => ∃ (x3 x4 x5 x6 : Option V) (ys : List V), σ = [some (nv n), some (.ref l), some (.ref d), x3, x4, x5, x6, none, none, none] ∧ Same H H' ∧ H' d = some (.lst ys) ∧ TuL H' ys ((dbl (L.take i)).map pc)) ⟨_, _, _, _, [], rfl, s1, fd, TuL.nil _⟩ (fun i σ H' _ q => by obtain ⟨_, _, _, _, _, _, s', _⟩ := q; exact SqL.of (s' _ _ hl)) ?_ ?_⟩
  · rintro i y σ H2 hy ⟨x3, x4, x5, x6, ys, rfl, s2, hd2, tu2⟩
    have il : i < L.length := by rw [← tl.1]; exact (List.getElem?_eq_some_iff.mp hy).1
    have eq : L[i]? = some L[i] := List.getElem?_eq_getElem il
    have mq : L[i] ∈ L := List.getElem_mem il
    generalize L[i] = q at eq mq
    obtain ⟨a, rfl, ha⟩ := (tl.up s2.tups).2 i y q hy eq
    obtain ⟨i', j', c⟩ := q
    obtain ⟨l1, l2⟩ := lt _ mq
    have yl : ys.length ≤ 200 := by rw [tu2.1, List.length_map, dbl_len, List.length_take]; omega
    have fin : ∀ (ys' : List V) (H' : Hp), (∀ a o, H2 a = some o → a ≠ d → H' a = some o) → H' d = some (.lst ys') → TuL H' ys' ((dbl (L.take i)).map pc ++ [pc (2 * i', 2 * j' + c.toNat), pc (2 * i' + 1, 2 * j' + 1 - c.toNat)]) → Same H H' ∧ H' d = some (.lst ys') ∧ TuL H' ys' ((dbl (L.take (i + 1))).map pc) := fun ys' H' kp hd' t' => by
      refine ⟨fun b o e => kp b o (s2 _ _ e) (ne_of_none e hd), hd', ?_⟩
      rw [take_succ' eq, dbl_snoc, List.map_append]
      exact t'
    refine ⟨a, _, rfl, SqT.of ha, rfl, _, _, rfl, _, _, rfl, _, _, rfl, rfl, ?_⟩
    cases c with
    | false =>
      refine ⟨_, rfl, _, rfl, iteF ?_⟩
      exact add46_reads (K := K) (c := false) hd2 tu2 yl (by omega) (by omega) fun ys' H' kp hd' t' => ⟨_, _, _, _, ys', rfl, fin ys' H' kp hd' t'⟩
    | true =>
      refine ⟨_, rfl, _, rfl, iteT ?_⟩
      exact add46_reads (K := K) (c := true) hd2 tu2 yl (by omega) (by omega) fun ys' H' kp hd' t' => ⟨_, _, _, _, ys', rfl, fin ys' H' kp hd' t'⟩
  rintro σ H2 ⟨x3, x4, x5, x6, ys, rfl, s2, hd2, tu2⟩
  rw [tl.1, List.take_length] at tu2
  refine ⟨(by show 1 ≤ sizeLine; decide), fun p hp => ?_⟩
  have s3 := Same.nw (o := .lst [.int 0]) (Same.refl H2) hp
  have fp : (upd H2 p (.lst [.int 0])) p = some (.lst [.int 0]) := upd_same
  generalize upd H2 p (.lst [.int 0]) = H3 at s3 fp ⊢
  have en : ((n : Nat) : Int).toNat = n := Int.toNat_natCast n
  refine ⟨_, rfl, p, (n : Int), [.int 0], rfl, rfl, fp, by omega, by omega, Nat.le_trans (show [V.int 0].length * ((n : Nat) : Int).toNat ≤ 1000 by rw [en]; simp; omega) (by decide), fun c hc => ?_⟩
  rw [en, rep_one, show List.replicate n (V.int 0) = (List.replicate n (0 : Int)).map V.int by rw [List.map_replicate]]
  have s4 := Same.nw (o := .lst ((List.replicate n (0 : Int)).map V.int)) (Same.refl H3) hc
  have fc : (upd H3 c (.lst ((List.replicate n (0 : Int)).map V.int))) c = some (.lst ((List.replicate n (0 : Int)).map V.int)) := upd_same
  change tRooms46 K _ _ (upd H3 c (.lst ((List.replicate n (0 : Int)).map V.int)))
  generalize upd H3 c (.lst ((List.replicate n (0 : Int)).map V.int)) = H4 at s4 fc ⊢
  have s24 := s3.trans s4
  have cf : H c = none := (s2.trans s3).free hc
  exact rooms46_reads (K := K) (H0 := H) (s24 _ _ hd2) (tu2.up s24.tups) fc (List.length_replicate ..) nl ll lt (s2.trans s24) cf k1 k2
end L2
set_option Elab.async false
set_option linter.all false
set_option maxRecDepth 100000
set_option maxHeartbeats 1000000
set_option Elab.async false
set_option linter.all false
set_option maxRecDepth 100000
set_option maxHeartbeats 1000000
set_option Elab.async false
set_option linter.all false
set_option maxRecDepth 100000
set_option maxHeartbeats 1000000
namespace L2
open PySem PySem.Spec PyProof.Rows
def spFaces : Sp := fun vs H Q _ => ∃ (b : Addr) (xs : List V) (S : List (List Int)), vs = [.ref b] ∧ H b = some (.lst xs) ∧ TuL H xs S ∧ ShOk S ∧
  (∀ hs, DP (lkT S) S.length hs → (∃ h ∈ hs, Clash h) → ∀ H', Same H H' → Q .non H') ∧ (∀ hs, DP (lkT S) S.length hs → (∀ h ∈ hs, ¬ Clash h) → ∀ (M : List Int) (c : Addr) (H' : Hp), MkOk S.length hs M → Same H H' → H c = none → H' c = some (.lst (M.map V.int)) → Q (.ref c) H')
def tFaces (K : PySem.W.Frag) : TS := tSeq (tAsg (tCall spLikes [] E0 (tCons (tVar 0) tNil)) (gName 1)) (tSeq (tAsg (tCompG 3 (iEnum K (tCons (tCall spGluedI [] E0 (tCons (tVar 0) tNil)) tNil)) (gTup K 2 (gCons (gName 0) (gCons (gLst K 2 (gCons (gName 1) (gCons (gName 2) gNil))) gNil))) tYes (tTup (tCons (tOp (rIxT K) (tVar 1) (tC (V.int 0))) (tCons (tOp (rIxT K) (tVar 2) (tC (V.int 0))) (tCons (tOp (rIxL K) (tVar 4) (tVar 0)) tNil))))) (gName 2)) (tRet (tCall spMarked [] E0 (tCons (tCB (fun xs H Q => ∃ p ys, xs = [V.ref p] ∧ (SqL K H p ys ∨ SqT K H p ys) ∧ Q (V.int ys.length) H) (tCons (tVar 0) tNil)) (tCons (tVar 2) tNil)))))
theorem LtL.snoc {H : Hp} {ps : List V} {L : List (Nat × Nat × Bool)} {a : Addr} {q : Nat × Nat × Bool} (h : LtL H ps L) (ha : H a = some (.tup [nv q.1, nv q.2.1, .bl q.2.2])) : LtL H (ps ++ [.ref a]) (L ++ [q]) := by
  refine ⟨by rw [List.length_append, List.length_append, h.1]; rfl, fun k y r h1 h2 => ?_⟩
  by_cases ck : k < ps.length
  · rw [List.getElem?_append_left ck] at h1
    rw [List.getElem?_append_left (by rw [← h.1]; exact ck)] at h2
    exact h.2 k y r h1 h2
  · rw [List.getElem?_append_right (by omega)] at h1
    rw [List.getElem?_append_right (by rw [← h.1]; omega), ← h.1] at h2
    cases e : k - ps.length with
    | zero =>
      rw [e] at h1 h2
      cases h1
      cases h2
      exact ⟨a, rfl, ha⟩
    | succ n => rw [e] at h1; cases h1
theorem lkT_lt {S : List (List Int)} (oS : ShOk S) : ∀ q ∈ lkT S, q.1 < S.length ∧ q.2.1 < S.length := fun q hq => by
  obtain ⟨k, hk⟩ := List.mem_iff_getElem?.mp hq
  have kl := (List.getElem?_eq_some_iff.mp hk).1
  rw [lkT_len] at kl
  obtain ⟨i, p, i', p', t, t', s, s', e, h1, h2, h1', h2', _, _, eb, el⟩ := glue_full oS kl
  rw [hk] at el
  cases el
  exact ⟨(List.getElem?_eq_some_iff.mp h1).1, (List.getElem?_eq_some_iff.mp h1').1⟩
set_option maxHeartbeats 4000000 in
theorem faces_reads {K : PySem.W.Frag} {H : Hp} {Q : VK} {Z : L2.St → Hp → Prop} {b : Addr} {xs : List V} {S : List (List Int)} (hb : H b = some (.lst xs)) (tS : TuL H xs S) (oS : ShOk S)
    (k1 : ∀ hs, DP (lkT S) S.length hs → (∃ h ∈ hs, Clash h) → ∀ H', Same H H' → Q .non H') (k2 : ∀ hs, DP (lkT S) S.length hs → (∀ h ∈ hs, ¬ Clash h) → ∀ (M : List Int) (c : Addr) (H' : Hp), MkOk S.length hs M → Same H H' → H c = none → H' c = some (.lst (M.map V.int)) → Q (.ref c) H') :
    tFaces K { nx := Z, rt := Q } [some (.ref b), none, none] H := by
  have lS := oS.len
  have lx : xs.length = S.length := tS.1
  refine ⟨_, rfl, b, xs, S, rfl, hb, tS, oS, fun lk H1 s1 lf hlk => ?_⟩
  refine ⟨_, rfl, b, xs, S, rfl, s1 _ _ hb, tS.up s1.tups, oS, fun c zs gs H2 s2 cf hc lz gi => ?_⟩
  have zl : zs.length = S.length / 2 * 3 := by rw [lz.1, gi.len]
  have hlk2 := s2 _ _ hlk
  refine ⟨c, rfl, ⟨_, SqL.of hc⟩, compEn (K := K) (a := c) (xs := zs) (fun m ys H' => LtL H' ys ((lkT S).take m) ∧ Same H2 H') ⟨⟨rfl, fun k y q h => (by cases h)⟩, Same.refl _⟩ (by omega) (fun m ys H' h => by rw [h.1.1, List.length_take]; exact Nat.min_le_left _ _) (fun m ys H' _ h => SqL.of (h.2 _ _ hc)) ?_ ?_⟩
  · rintro m y ys H3 pre pp hpl hy ⟨ty, s3⟩ hpp
    have ml : m < S.length / 2 * 3 := by rw [← zl]; exact (List.getElem?_eq_some_iff.mp hy).1
    obtain ⟨i, p, i', p', t, t', s, s', e, h1, h2, h1', h2', _, _, eb, el⟩ := glue_full oS ml
    have eg := gi.val m ml
    rw [e] at eg
    have s4 := Same.nw (o := .tup [.int (m : Int), y]) (Same.refl H3) hpp
    have fp : (upd H3 pp (.tup [.int (m : Int), y])) pp = some (.tup [.int (m : Int), y]) := upd_same
    generalize upd H3 pp (.tup [.int (m : Int), y]) = H4 at s4 fp ⊢
    have s24 := s3.trans s4
    obtain ⟨a, vs, rfl, ha, iv⟩ := (lz.up s24).2 m y _ hy eg
    obtain ⟨v1, v2, rfl⟩ := two2 (show vs.length = 2 from iv.1)
    obtain ⟨q1, rfl, g1⟩ := iv.tu.2 0 v1 _ rfl rfl
    obtain ⟨q2, rfl, g2⟩ := iv.tu.2 1 v2 _ rfl rfl
    rcases pre with _ | ⟨r0, _ | ⟨r1, _ | ⟨r2, _ | ⟨r3, pre⟩⟩⟩⟩
    · cases hpl
    · cases hpl
    · cases hpl
    · refine ⟨pp, _, rfl, SqT.of fp, rfl, _, _, rfl, _, _, rfl, ⟨a, _, rfl, SqL.of ha, rfl, _, _, rfl, _, _, rfl, rfl, rfl, ⟨[some _, some _, some _], rfl, rfl⟩, ?_⟩⟩
      unfold tYes
      dsimp only
      rw [if_pos (rfl : true = true)]
      refine ⟨_, rfl, q1, _, 0, .int (i : Int), rfl, rfl, SqT.of g1, rfl, _, rfl, q2, _, 0, .int (i' : Int), rfl, rfl, SqT.of g2, rfl, _, rfl, _, rfl, lk, _, _, _, rfl, rfl, SqL.of (s24 _ _ hlk2), atI_nat (by rw [List.getElem?_map, el]; rfl), (by show 3 ≤ sizeLine; decide), fun p2 hp2 => ?_⟩
      have s5 := Same.nw (o := .tup [nv i, nv i', .bl (decide (0 < s) == decide (0 < s'))]) (Same.refl H4) hp2
      have e5 : (upd H4 p2 (.tup [nv i, nv i', .bl (decide (0 < s) == decide (0 < s'))])) p2 = some (.tup [nv i, nv i', .bl (decide (0 < s) == decide (0 < s'))]) := upd_same
      refine ⟨?_, s24.trans s5⟩
      rw [take_succ' el]
      exact LtL.snoc (ty.up (s4.trans s5).tups) e5
    · cases hpl
  rintro ys H3 ⟨ty, s3⟩ D hD
  rw [zl, List.take_of_length_le (by rw [lkT_len]; exact Nat.le_refl _)] at ty
  have s4 := Same.nw (o := .lst ys) (Same.refl H3) hD
  have fD : (upd H3 D (.lst ys)) D = some (.lst ys) := upd_same
  generalize upd H3 D (.lst ys) = H4 at s4 fD ⊢
  have s04 := s1.trans (s2.trans (s3.trans s4))
  refine ⟨_, rfl, b, xs, rfl, .inl (SqL.of (s04 _ _ hb)), _, rfl, D, S.length, ys, lkT S, (by show [V.int ((xs.length : Nat) : Int), V.ref D] = _; rw [lx]; rfl), fD, ty.up s4.tups, by omega, by rw [lkT_len]; omega, lkT_lt oS, fun hs p cl H' s' => k1 hs p cl H' (s04.trans s'), fun hs p ncl M c' H' mk s' cf' hc' => k2 hs p ncl M c' H' mk (s04.trans s') (s04.free cf') hc'⟩
def spRighted : Sp := fun vs H Q _ => ∃ (b : Addr) (xs : List V) (S : List (List Int)), vs = [.ref b] ∧ H b = some (.lst xs) ∧ TuL H xs S ∧ ShOk S ∧ ∀ (c : Addr) (zs : List V) (S' : List (List Int)) (H' : Hp), Same H H' → H c = none → H' c = some (.lst zs) → TuL H' zs S' → ShOk S' → Q (.ref c) H'
def tRighted (K : PySem.W.Frag) : TS := tSeq (tAsg tDNewK (gName 1)) (tSeq (tAsg (tLst tNil) (gName 2)) (tSeq (tFor (iList K (tVar 0)) (gName 3) (tSeq (tAsg (tLst tNil) (gName 4)) (tSeq (tFor (iTup K (tVar 3)) (gName 5) (tSeq (tDrop (tBM K "list" rAppend (tVar 4) (tCons (tOp (rI CMul fun i j => V.int (i * j)) (tCB (fun xs H Q => ∃ i, xs = [V.int i] ∧ Q (V.int (if i < 0 then -i else i)) H) (tCons (tVar 5) tNil)) (tOp (rI0 fun i j => V.int (i - j)) (tC (V.int 1)) (tOp (rI CMul fun i j => V.int (i * j)) (tC (V.int 2)) (tCB (fun xs H Q => (∃ i, xs = [V.int i] ∧ Q (V.int i) H) ∨ ∃ k, xs = [V.bl k] ∧ Q (V.int (if k = true then 1 else 0)) H) (tCons (tDIn (tCB (fun xs H Q => ∃ i, xs = [V.int i] ∧ Q (V.int (if i < 0 then -i else i)) H) (tCons (tVar 5) tNil)) (tVar 1)) tNil))))) tNil))) (sDPut (tVar 1) (tCB (fun xs H Q => ∃ i, xs = [V.int i] ∧ Q (V.int (if i < 0 then -i else i)) H) (tCons (tVar 5) tNil)) (tC (V.bl true))))) (tDrop (tBM K "list" rAppend (tVar 2) (tCons (tCB (fun xs H_1 Q => ∃ p ys, xs = [V.ref p] ∧ ((SqL K H_1 p ys ∧ ∀ (l : Addr), H_1 l = none → Q (V.ref l) (upd H_1 l (HO.tup ys))) ∨ SqT K H_1 p ys ∧ Q (V.ref p) H_1)) (tCons (tVar 4) tNil)) tNil)))))) (tRet (tVar 2))))
theorem absI_sg {s : Int} {c : Bool} : absI ((if s < 0 then -s else s) * (1 - 2 * (if c = true then 1 else 0))) = absI s := by
  unfold absI
  cases c
  · simp only [Bool.false_eq_true, if_false]
    split <;> split <;> omega
  · simp only [if_true]
    split <;> split <;> omega
theorem ShOk.abs {S S' : List (List Int)} (oS : ShOk S) (h : S'.map (List.map absI) = S.map (List.map absI)) : ShOk S' := by
  have hl : S'.length = S.length := by have := congrArg List.length h; rw [List.length_map, List.length_map] at this; exact this
  obtain ⟨m, e1, e2, e3⟩ := oS.even
  refine ⟨⟨m, by omega, e2, e3⟩, fun t ht => ?_, ?_⟩
  · obtain ⟨i, hi⟩ := List.mem_iff_getElem?.mp ht
    have il : i < S.length := by rw [← hl]; exact (List.getElem?_eq_some_iff.mp hi).1
    have e := congrArg (fun l => l[i]?) h
    simp only [List.getElem?_map, hi, List.getElem?_eq_getElem il, Option.map_some, Option.some.injEq] at e
    have := congrArg List.length e
    rw [List.length_map, List.length_map] at this
    rw [this]
    exact oS.three _ (List.getElem_mem il)
  · have e := congrArg List.flatten h
    rw [← List.map_flatten, ← List.map_flatten] at e
    rw [e, hl]
    exact oS.ties
set_option maxHeartbeats 4000000 in
theorem righted_reads {K : PySem.W.Frag} {H : Hp} {Q : VK} {Z : L2.St → Hp → Prop} {b : Addr} {xs : List V} {S : List (List Int)} (hb : H b = some (.lst xs)) (tS : TuL H xs S) (oS : ShOk S)
    (k : ∀ (c : Addr) (zs : List V) (S' : List (List Int)) (H' : Hp), Same H H' → H c = none → H' c = some (.lst zs) → TuL H' zs S' → ShOk S' → Q (.ref c) H') :
    tRighted K { nx := Z, rt := Q } [some (.ref b), none, none, none, none, none] H := by
  have lS := oS.len
  have lx : xs.length = S.length := tS.1
  refine fun e he => ?_
  have s1 := Same.nw (o := .dK []) (Same.refl H) he
  have fe : (upd H e (.dK [])) e = some (.dK []) := upd_same
  change tSeq _ _ _ _ (upd H e (.dK []))
  generalize upd H e (.dK []) = H1 at s1 fe ⊢
  refine ⟨(by show 0 ≤ sizeLine; decide), fun c hc => ?_⟩
  have s2 := Same.nw (o := .lst []) (Same.refl H1) hc
  have fc : (upd H1 c (.lst [])) c = some (.lst []) := upd_same
  have nec : e ≠ c := fun z => by rw [← z, fe] at hc; cases hc
  change tSeq _ _ _ _ (upd H1 c (.lst []))
  generalize upd H1 c (.lst []) = H2 at s2 fc ⊢
  have cf : H c = none := s1.free hc
  refine ⟨_, rfl, b, rfl, ⟨_, SqL.of ((s1.trans s2) _ _ hb)⟩, for_list (K := K) (a := b) (xs := xs) (fun i σ H' => ∃ (x3 x4 x5 : Option V) (kvs : List (Key × V)) (zs : List V) (S' : List (List Int)), σ = [some (.ref b), some (.ref e), some (.ref c), x3, x4, x5] ∧ Same H H' ∧ H' e = some (.dK kvs) ∧ kvs.length ≤ 3 * i ∧ H' c = some (.lst zs) ∧ TuL H' zs S' ∧ S'.map (List.map absI) = (S.take i).map (List.map absI)) ⟨_, _, _, [], [], [], rfl, s1.trans s2, s2 _ _ fe, Nat.zero_le _, fc, TuL.nil _, rfl⟩ (fun i σ H' _ q => by obtain ⟨_, _, _, _, _, _, _, s', _⟩ := q; exact SqL.of (s' _ _ hb)) ?_ ?_⟩
  · rintro i y σ H3 hy ⟨x3, x4, x5, kvs, zs, S', rfl, s3, he3, kl, hc3, tz, eS⟩
    obtain ⟨t, q, et, rfl, hq⟩ := (tS.up s3.tups).take hy
    have mt : t ∈ S := List.mem_of_getElem? et
    have il : i < S.length := (List.getElem?_eq_some_iff.mp et).1
    have t3 := oS.three t mt
    refine ⟨(by show 0 ≤ sizeLine; decide), fun r hr => ?_⟩
    have s4 := Same.nw (o := .lst []) (Same.refl H3) hr
    have fr : (upd H3 r (.lst [])) r = some (.lst (([] : List Int).map V.int)) := upd_same
    have nre : r ≠ e := fun z => by rw [z, he3] at hr; cases hr
    have nrc : r ≠ c := fun z => by rw [z, hc3] at hr; cases hr
    have nrq : q ≠ r := fun z => by rw [z, hr] at hq; cases hq
    have neq : q ≠ e := fun z => by rw [z, he3] at hq; cases hq
    change tSeq _ _ _ _ (upd H3 r (.lst []))
    generalize upd H3 r (.lst []) = H4 at s4 fr ⊢
    have rf : H r = none := s3.free hr
    refine ⟨_, rfl, q, rfl, ⟨_, SqT.of (s4 _ _ hq)⟩, for_tup (K := K) (a := q) (xs := t.map V.int) (fun j σ H' => ∃ (x5 : Option V) (kvs : List (Key × V)) (us : List Int), σ = [some (.ref b), some (.ref e), some (.ref c), some (.ref q), some (.ref r), x5] ∧ (∀ a o, H3 a = some o → a ≠ e → H' a = some o) ∧ H' e = some (.dK kvs) ∧ kvs.length ≤ 3 * i + j ∧ H' r = some (.lst (us.map V.int)) ∧ us.map absI = (t.take j).map absI) ⟨_, kvs, [], rfl, fun a o ea _ => s4 _ _ ea, s4 _ _ he3, kl, fr, rfl⟩ (fun j σ H' _ z => by obtain ⟨_, _, _, _, kp, _⟩ := z; exact SqT.of (kp _ _ hq neq)) ?_ ?_⟩
    · rintro j y σ H5 hy5 ⟨x5, kvs5, us, rfl, kp5, he5, kl5, hr5, eu⟩
      rw [List.getElem?_map] at hy5
      cases es : t[j]? with
      | none => rw [es] at hy5; cases hy5
      | some sd =>
        rw [es] at hy5
        cases hy5
        have jl : j < 3 := by rw [← t3]; exact (List.getElem?_eq_some_iff.mp es).1
        have ul : us.length ≤ 3 := by have := congrArg List.length eu; rw [List.length_map, List.length_map, List.length_take] at this; omega
        refine ⟨_, rfl, .inl ⟨rfl, _, SqL.of hr5⟩, _, rfl, sd, rfl, _, rfl, sd, rfl, _, rfl, e, _, rfl, DGet.k (k := .inl (if sd < 0 then -sd else sd)) he5, .inr ⟨_, rfl, 2, _, rfl, rfl, .inl ⟨by decide, by decide⟩, 1, _, rfl, rfl, _, _, rfl, rfl, .inr ?_, r, _, _, rfl, rfl, hr5, Nat.lt_of_le_of_lt (show _ ≤ 1000 by rw [List.length_map]; omega) (by decide), ?_⟩⟩
        · generalize (valV kvs5 (Sum.inl (if sd < 0 then -sd else sd))).isSome = bt
          cases bt <;> exact ⟨by decide, by decide⟩
        generalize (valV kvs5 (Sum.inl (if sd < 0 then -sd else sd))).isSome = bt
        have f6 : (upd H5 r (.lst (us.map V.int ++ [.int ((if sd < 0 then -sd else sd) * (1 - 2 * (if bt = true then 1 else 0)))]))) r = some (.lst ((us ++ [(if sd < 0 then -sd else sd) * (1 - 2 * (if bt = true then 1 else 0))]).map V.int)) := by rw [upd_same, List.map_append]; rfl
        have e6 : (upd H5 r (.lst (us.map V.int ++ [.int ((if sd < 0 then -sd else sd) * (1 - 2 * (if bt = true then 1 else 0)))]))) e = some (.dK kvs5) := (upd_ne (Ne.symm nre)).trans he5
        have kp6 : ∀ a o, H3 a = some o → a ≠ e → (upd H5 r (.lst (us.map V.int ++ [.int ((if sd < 0 then -sd else sd) * (1 - 2 * (if bt = true then 1 else 0)))]))) a = some o := fun a o ea ne => by rw [upd_ne (fun z => by rw [z, hr] at ea; cases ea)]; exact kp5 a o ea ne
        dsimp only
        generalize upd H5 r (.lst (us.map V.int ++ [.int ((if sd < 0 then -sd else sd) * (1 - 2 * (if bt = true then 1 else 0)))])) = H6 at f6 e6 kp6 ⊢
        refine ⟨_, rfl, _, rfl, sd, rfl, e, _, rfl, DPut.k (k := .inl (if sd < 0 then -sd else sd)) e6 (Nat.lt_of_le_of_lt (show _ ≤ 1000 by omega) (by decide)), ?_⟩
        refine ⟨_, _, us ++ [(if sd < 0 then -sd else sd) * (1 - 2 * (if bt = true then 1 else 0))], rfl, fun a o ea ne => by rw [upd_ne ne]; exact kp6 a o ea ne, upd_same, ?_, (upd_ne nre).trans f6, ?_⟩
        · have := length_putK kvs5 (Sum.inl (if sd < 0 then -sd else sd)) (V.bl true)
          omega
        · rw [take_succ' es, List.map_append, List.map_append, eu]
          show _ ++ [absI _] = _ ++ [absI sd]
          rw [absI_sg]
    · rintro σ H5 ⟨x5, kvs5, us, rfl, kp5, he5, kl5, hr5, eu⟩
      rw [List.length_map, List.take_length] at eu
      have hc5 := kp5 _ _ hc3 (Ne.symm nec)
      have zl : zs.length ≤ 12 := by rw [tz.1]; have := congrArg List.length eS; rw [List.length_map, List.length_map, List.length_take] at this; omega
      refine ⟨_, rfl, .inl ⟨rfl, _, SqL.of hc5⟩, _, rfl, r, _, rfl, .inl ⟨SqL.of hr5, fun tp htp => ?_⟩⟩
      dsimp only [tNil]
      have s6 := Same.nw (o := .tup (us.map V.int)) (Same.refl H5) htp
      have f6 : (upd H5 tp (.tup (us.map V.int))) tp = some (.tup (us.map V.int)) := upd_same
      generalize upd H5 tp (.tup (us.map V.int)) = H6 at s6 f6 ⊢
      have hc6 := s6 _ _ hc5
      refine ⟨c, zs, .ref tp, rfl, rfl, hc6, Nat.lt_of_le_of_lt (show _ ≤ 1000 by omega) (by decide), ?_⟩
      have t7 : Tups H6 (upd H6 c (.lst (zs ++ [.ref tp]))) := Tups.lst (Tups.refl _) hc6
      have t36 : Tups H3 H6 := fun a ts ea => s6 _ _ (kp5 a _ ea fun z => by rw [z, he3] at ea; cases ea)
      refine ⟨_, _, _, kvs5, zs ++ [.ref tp], S' ++ [us], rfl, fun a o ea => ?_, (upd_ne nec).trans (s6 _ _ he5), ?_, upd_same, TuL.up (TuL.snoc (tz.up t36) f6) t7, ?_⟩
      · rw [upd_ne (ne_of_none ea cf)]
        exact s6 _ _ (kp5 a o (s3 _ _ ea) (ne_of_none ea he))
      · rw [List.length_map, t3] at kl5; omega
      · rw [take_succ' et, List.map_append, List.map_append, eS]
        show _ ++ [us.map absI] = _ ++ [t.map absI]
        rw [eu]
  · rintro σ H3 ⟨x3, x4, x5, kvs, zs, S', rfl, s3, he3, kl, hc3, tz, eS⟩
    rw [lx, List.take_length] at eS
    exact ⟨_, rfl, k c zs S' H3 s3 cf hc3 tz (oS.abs eS)⟩
end L2
set_option Elab.async false
set_option linter.all false
set_option maxRecDepth 100000
set_option maxHeartbeats 1000000
namespace L2
open PySem PySem.Spec PyProof.Rows
theorem glue_flat (Ps : List (List (List Int × Int))) (k : Nat) : glueOf Ps.flatten k = (Ps.map fun P => glueOf P k).flatten := by
  induction Ps with
  | nil => rfl
  | cons P Ps ih => rw [List.flatten_cons, glue_app, ih]; rfl
theorem sd_all {S : List (List Int)} (h3 : ∀ t ∈ S, t.length = 3) (k : Nat) : sdL S ((k : Int) + 1) = (glueOf (sidesF S) k).map fun u => [u.getD 0 0, sgn S u] := by
  unfold sdL sidesF
  rw [glue_flat, List.map_map, List.map_flatten, List.map_map]
  congr 1
  refine List.map_congr_left fun i hi => ?_
  have hi := List.mem_range.mp hi
  obtain ⟨a, b, c, e⟩ := three3 (h3 _ (List.getElem_mem hi))
  have eg : S.getD i [] = [a, b, c] := by rw [List.getD_eq_getElem?_getD, List.getElem?_eq_getElem hi, e]; rfl
  have e0 : sgn S [(i : Int), ((0 : Nat) : Int)] = a := by show (S.getD ((i : Int)).toNat []).getD 0 0 = a; rw [Int.toNat_natCast, eg]; rfl
  have e1 : sgn S [(i : Int), ((1 : Nat) : Int)] = b := by show (S.getD ((i : Int)).toNat []).getD 1 0 = b; rw [Int.toNat_natCast, eg]; rfl
  have e2 : sgn S [(i : Int), ((2 : Nat) : Int)] = c := by show (S.getD ((i : Int)).toNat []).getD 2 0 = c; rw [Int.toNat_natCast, eg]; rfl
  show sdT i (S.getD i []) _ = ((glueOf (sideT i (S.getD i [])) k).map _)
  rw [eg]
  have es : sideT i [a, b, c] = [([(i : Int), ((0 : Nat) : Int)], absI a), ([(i : Int), ((1 : Nat) : Int)], absI b), ([(i : Int), ((2 : Nat) : Int)], absI c)] := rfl
  rw [es]
  unfold sdT glueOf
  by_cases h1 : absI a = (k : Int) + 1 <;> by_cases h2 : absI b = (k : Int) + 1 <;> by_cases h3 : absI c = (k : Int) + 1 <;> simp only [List.filter_cons, List.filter_nil, h1, h2, h3, decide_true, decide_false, if_true, if_false, Bool.false_eq_true, List.map_cons, List.map_nil, e0, e1, e2] <;> rfl
theorem sg_eq {s s' : Int} {k : Nat} (h : absI s = (k : Int) + 1) (h' : absI s' = (k : Int) + 1) : (decide (0 < s) == decide (0 < s')) = decide (s = s') := by
  unfold absI at h h'
  rw [Bool.eq_iff_iff, beq_iff_eq, decide_eq_true_eq]
  constructor
  · intro e
    have : 0 < s ↔ 0 < s' := by rw [← decide_eq_true_eq (p := 0 < s), e, decide_eq_true_eq]
    split at h <;> split at h' <;> omega
  · intro e; rw [e]
theorem sd_twoT {S : List (List Int)} (oS : ShOk S) {k : Nat} (hk : k < S.length / 2 * 3) : ∃ (i i' : Nat) (s s' : Int), sdL S ((k : Int) + 1) = [[(i : Int), s], [(i' : Int), s']] ∧ (lkT S)[k]? = some (i, i', decide (s = s')) := by
  obtain ⟨i, p, i', p', t, t', s, s', e, h1, h2, h1', h2', a1, a2, eb, el⟩ := glue_full oS hk
  refine ⟨i, i', s, s', ?_, by rw [el, sg_eq a1 a2]⟩
  rw [sd_all oS.three, e]
  show [[(i : Int), sgn S [(i : Int), (p : Int)]], [(i' : Int), sgn S [(i' : Int), (p' : Int)]]] = _
  rw [sgn_at h1 h2, sgn_at h1' h2']
def PrT (H : Hp) (zs : List V) (L : List (Nat × Nat × Bool)) : Prop := zs.length = L.length ∧ ∀ (k : Nat) (y : V) (p : Nat × Nat × Bool), zs[k]? = some y → L[k]? = some p → ∃ (q q1 q2 : Addr) (s1 s2 : Int), y = .ref q ∧ H q = some (.tup [.ref q1, .ref q2]) ∧ H q1 = some (.tup [.int (p.1 : Int), .int s1]) ∧ H q2 = some (.tup [.int (p.2.1 : Int), .int s2]) ∧ decide (s1 = s2) = p.2.2
theorem PrT.up {H H' : Hp} {zs : List V} {L : List (Nat × Nat × Bool)} (h : PrT H zs L) (t : Tups H H') : PrT H' zs L := ⟨h.1, fun k y p h1 h2 => by
  obtain ⟨q, q1, q2, s1, s2, e, a, b, c, d⟩ := h.2 k y p h1 h2
  exact ⟨q, q1, q2, s1, s2, e, t _ _ a, t _ _ b, t _ _ c, d⟩⟩
def spLGluedT : Sp := fun vs H Q _ => ∃ (b : Addr) (xs : List V) (S : List (List Int)), vs = [.ref b] ∧ H b = some (.lst xs) ∧ TuL H xs S ∧ ShOk S ∧ ∀ (c : Addr) (zs : List V) (H' : Hp), Same H H' → H c = none → H' c = some (.lst zs) → PrT H' zs (lkT S) → Q (.ref c) H'
def tLGluedT (K : PySem.W.Frag) : TS := tSeq (tAsg (tLst tNil) (gName 1)) (tSeq (tFor (iRng2 (tCons (tC (V.int 1)) (tCons (tOp (rI0 fun i j => V.int (i + j)) (tOp (rI CDivL fun i j => V.int (i / j)) (tOp (rI CMul fun i j => V.int (i * j)) (tCB (fun xs H Q => ∃ p ys, xs = [V.ref p] ∧ (SqL K H p ys ∨ SqT K H p ys) ∧ Q (V.int ys.length) H) (tCons (tVar 0) tNil)) (tC (V.int 3))) (tC (V.int 2))) (tC (V.int 1))) tNil))) (gName 2) (tSeq (tAsg (tLst tNil) (gName 3)) (tSeq (tFor (iEnum K (tCons (tVar 0) tNil)) (gTup K 2 (gCons (gName 4) (gCons (gName 5) gNil))) (tAsg (tOp rCat (tVar 3) (tCompG 1 (iTup K (tVar 5)) (gName 0) (tTest (tOp rEq (tCB (fun xs H Q => ∃ i, xs = [V.int i] ∧ Q (V.int (if i < 0 then -i else i)) H) (tCons (tVar 0) tNil)) (tVar 3))) (tTup (tCons (tVar 5) (tCons (tVar 0) tNil))))) (gName 3))) (tDrop (tBM K "list" rAppend (tVar 1) (tCons (tTup (tCons (tOp (rIxL K) (tVar 3) (tC (V.int 0))) (tCons (tOp (rIxL K) (tVar 3) (tC (V.int 1))) tNil))) tNil)))))) (tRet (tVar 1)))
set_option maxHeartbeats 4000000 in
theorem lgluedT_reads {K : PySem.W.Frag} {H : Hp} {Q : VK} {Z : L2.St → Hp → Prop} {b : Addr} {xs : List V} {S : List (List Int)} (hb : H b = some (.lst xs)) (tS : TuL H xs S) (oS : ShOk S)
    (k : ∀ (c : Addr) (zs : List V) (H' : Hp), Same H H' → H c = none → H' c = some (.lst zs) → PrT H' zs (lkT S) → Q (.ref c) H') : tLGluedT K { nx := Z, rt := Q } [some (.ref b), none, none, none, none, none] H := by
  have lS := oS.len
  have lx : xs.length = S.length := tS.1
  refine ⟨(by show 0 ≤ sizeLine; decide), fun c hc => ?_⟩
  have s1 := Same.nw (o := .lst []) (Same.refl H) hc
  have fc : (upd H c (.lst [])) c = some (.lst []) := upd_same
  generalize upd H c (.lst []) = H1 at s1 fc ⊢
  have en : ((((xs.length : Nat) : Int) * 3 / 2 + 1) - 1).toNat = S.length / 2 * 3 := by rw [lx]; omega
  refine ⟨_, rfl, b, xs, rfl, .inl (SqL.of (s1 _ _ hb)), _, 3, rfl, rfl, .inr ⟨by decide, by decide⟩, _, 2, rfl, rfl, ⟨by decide, by decide⟩, _, _, rfl, rfl, 1, _, rfl, ⟨by decide, by decide, by omega, by omega⟩, for_range (lo := 1) (n := ((((xs.length : Nat) : Int) * 3 / 2 + 1) - 1).toNat) (fun i σ H' => ∃ (x2 x3 x4 x5 : Option V) (zs : List V), σ = [some (.ref b), some (.ref c), x2, x3, x4, x5] ∧ Same H H' ∧ H' c = some (.lst zs) ∧ PrT H' zs ((lkT S).take i)) ⟨_, _, _, _, [], rfl, s1, fc, rfl, fun k y p h => (by cases h)⟩ ?_ ?_⟩
  · rintro i σ H2 hi ⟨x2, x3, x4, x5, zs, rfl, s2, hc2, pr⟩
    rw [en] at hi
    refine ⟨(by show 0 ≤ sizeLine; decide), fun d hd => ?_⟩
    have s3 := Same.nw (o := .lst []) (Same.refl H2) hd
    have fd : (upd H2 d (.lst [])) d = some (.lst []) := upd_same
    generalize upd H2 d (.lst []) = H3 at s3 fd ⊢
    have s03 := s2.trans s3
    refine ⟨_, rfl, b, rfl, ⟨_, SqL.of (s03 _ _ hb)⟩, for_enum (K := K) (a := b) (xs := xs) (fun j σ H' => ∃ (d : Addr) (x4 x5 : Option V) (ys : List V), σ = [some (.ref b), some (.ref c), some (.int (1 + (i : Int))), some (.ref d), x4, x5] ∧ Same H3 H' ∧ H' d = some (.lst ys) ∧ TuL H' ys (sdL (S.take j) (1 + (i : Int)))) ⟨d, _, _, [], rfl, Same.refl _, fd, TuL.nil _⟩ (fun j σ H' _ h => by obtain ⟨_, _, _, _, _, s', _⟩ := h; exact SqL.of (s' _ _ (s03 _ _ hb))) ?_ ?_⟩
    · rintro j y σ H4 p hy ⟨d, x4, x5, ys, rfl, s4, hd4, t4⟩ hp
      have s5 := Same.nw (o := .tup [.int (j : Int), y]) (Same.refl H4) hp
      have fp : (upd H4 p (.tup [.int (j : Int), y])) p = some (.tup [.int (j : Int), y]) := upd_same
      generalize upd H4 p (.tup [.int (j : Int), y]) = H5 at s5 fp ⊢
      have s35 := s4.trans s5
      have hd5 := s5 _ _ hd4
      have t5 := t4.up s5.tups
      obtain ⟨t, q, et, rfl, hq⟩ := (tS.up (s03.trans s35).tups).take hy
      have mt : t ∈ S := List.mem_of_getElem? et
      have jl : j < S.length := (List.getElem?_eq_some_iff.mp et).1
      have t3 := oS.three t mt
      have yl : ys.length ≤ 36 := by
        rw [t4.1]
        have key : ∀ (n : Nat) (T : List (List Int)), T.length = n → (∀ t ∈ T, t.length = 3) → (sdL T (1 + (i : Int))).length ≤ 3 * n := by
          intro n
          induction n with
          | zero => intro T hT _; rw [List.length_eq_zero_iff.mp hT]; exact Nat.zero_le _
          | succ n ih =>
            intro T hT h3
            rcases List.eq_nil_or_concat T with rfl | ⟨T', u, rfl⟩
            · simp at hT
            · rw [List.concat_eq_append] at hT h3 ⊢
              rw [List.length_append] at hT
              have := ih T' (by simpa using hT) fun t ht => h3 t (List.mem_append_left _ ht)
              rw [sdL_snoc, List.length_append]
              have : (sdT T'.length u (1 + (i : Int))).length ≤ 3 := by
                unfold sdT
                rw [List.length_map]
                exact Nat.le_trans (List.length_filter_le _ _) (by rw [h3 u (by simp)]; exact Nat.le_refl _)
              omega
        have := key _ (S.take j) rfl fun t ht => oS.three t (List.mem_of_mem_take ht)
        rw [List.length_take] at this
        omega
      refine ⟨p, _, rfl, SqT.of fp, rfl, _, _, rfl, _, _, rfl, rfl, ?_⟩
      refine ⟨_, rfl, _, rfl, q, rfl, ⟨_, SqT.of hq⟩, compT (K := K) (a := q) (xs := t.map V.int) (fun m vs H' => TuL H' vs (sdT j (t.take m) (1 + (i : Int))) ∧ Same H5 H') ⟨TuL.nil _, Same.refl _⟩ (by rw [List.length_map]; omega) (fun m vs H' h => by
        rw [h.1.1]
        unfold sdT
        rw [List.length_map]
        refine Nat.le_trans (List.length_filter_le _ _) ?_
        rw [List.length_take]
        exact Nat.min_le_left _ _) (fun m vs H' _ h => SqT.of (h.2 _ _ hq)) ?_ ?_⟩
      · rintro m z vs H6 pre hpl hz ⟨tv, s6⟩
        rw [List.getElem?_map] at hz
        cases ez : t[m]? with
        | none => rw [ez] at hz; cases hz
        | some sd =>
          rw [ez] at hz
          cases hz
          rcases pre with _ | ⟨q0, _ | ⟨q1, pre⟩⟩
          · cases hpl
          · refine ⟨⟨[some _], rfl, rfl⟩, ?_⟩
            refine ⟨_, rfl, sd, rfl, _, rfl, rfl, _, rfl, ?_⟩
            have es : sdT j (t.take (m + 1)) (1 + (i : Int)) = sdT j (t.take m) (1 + (i : Int)) ++ (if absI sd = 1 + (i : Int) then [[(j : Int), sd]] else []) := by
              unfold sdT
              rw [take_succ' ez, List.filter_append, List.map_append]
              congr 1
              by_cases c : absI sd = 1 + (i : Int) <;> simp [c]
            have dc : decide (V.int (if sd < 0 then -sd else sd) = V.int (1 + (i : Int))) = decide (absI sd = 1 + (i : Int)) := by
              unfold absI
              simp
            rw [dc, es]
            by_cases c : absI sd = 1 + (i : Int)
            · rw [decide_eq_true c, if_pos c]
              refine iteT ⟨_, rfl, _, rfl, (by show 2 ≤ sizeLine; decide), fun p2 hp2 => ?_⟩
              have s7 := Same.nw (o := .tup [.int (j : Int), .int sd]) (Same.refl H6) hp2
              have e7 : (upd H6 p2 (.tup [.int (j : Int), .int sd])) p2 = some (.tup ([(j : Int), sd].map V.int)) := upd_same
              exact ⟨TuL.snoc (tv.up s7.tups) e7, s6.trans s7⟩
            · rw [decide_eq_false c, if_neg c, List.append_nil]
              exact iteF ⟨tv, s6⟩
          · cases hpl
      · rintro vs H6 ⟨tv, s6⟩ D hD
        rw [List.length_map, List.take_of_length_le (Nat.le_refl _)] at tv
        have s7 := Same.nw (o := .lst vs) (Same.refl H6) hD
        have fD : (upd H6 D (.lst vs)) D = some (.lst vs) := upd_same
        generalize upd H6 D (.lst vs) = H7 at s7 fD ⊢
        have s57 := s6.trans s7
        have vl : vs.length ≤ 3 := by
          rw [tv.1]
          unfold sdT
          rw [List.length_map]
          exact Nat.le_trans (List.length_filter_le _ _) (by omega)
        refine ⟨d, D, ys, vs, rfl, rfl, s57 _ _ hd5, fD, Nat.le_trans (show ys.length + vs.length ≤ 1000 by omega) (by decide), fun d2 hd2 => ?_⟩
        have s8 := Same.nw (o := .lst (ys ++ vs)) (Same.refl H7) hd2
        refine ⟨d2, _, _, ys ++ vs, rfl, s35.trans (s57.trans s8), upd_same, ?_⟩
        rw [take_succ' et, sdL_snoc, List.length_take, Nat.min_eq_left (by omega)]
        exact (ItL.append ((t5.up s57.tups).up s8.tups).it ((tv.up s7.tups).up s8.tups).it).tu
    · rintro σ H4 ⟨d, x4, x5, ys, rfl, s4, hd4, t4⟩
      rw [List.take_of_length_le (by omega)] at t4
      obtain ⟨i1, i2, a1, a2, es, el⟩ := sd_twoT oS hi
      rw [show ((i : Int) + 1) = 1 + (i : Int) by omega] at es
      rw [es] at t4
      obtain ⟨v1, v2, rfl⟩ := two2 (show ys.length = 2 from t4.1)
      obtain ⟨q1, rfl, h1⟩ := t4.2 0 v1 _ rfl rfl
      obtain ⟨q2, rfl, h2⟩ := t4.2 1 v2 _ rfl rfl
      have hc4 := (s3.trans s4) _ _ hc2
      have zl : zs.length ≤ 18 := by rw [pr.1, List.length_take]; omega
      refine ⟨_, rfl, .inl ⟨rfl, _, SqL.of hc4⟩, _, rfl, d, _, 0, .ref q1, rfl, rfl, SqL.of hd4, rfl, _, rfl, d, _, 1, .ref q2, rfl, rfl, SqL.of hd4, rfl, (by show 2 ≤ sizeLine; decide), fun p hp => ?_⟩
      have s5 := Same.nw (o := .tup [.ref q1, .ref q2]) (Same.refl H4) hp
      have fp : (upd H4 p (.tup [.ref q1, .ref q2])) p = some (.tup [.ref q1, .ref q2]) := upd_same
      generalize upd H4 p (.tup [.ref q1, .ref q2]) = H5 at s5 fp ⊢
      have hc5 := s5 _ _ hc4
      refine ⟨c, zs, .ref p, rfl, rfl, hc5, Nat.lt_of_le_of_lt (show zs.length ≤ 18 from zl) (by decide), ?_⟩
      have tl : Tups H5 (upd H5 c (.lst (zs ++ [.ref p]))) := Tups.lst (Tups.refl H5) hc5
      have t25 : Tups H2 (upd H5 c (.lst (zs ++ [.ref p]))) := ((s3.trans s4).trans s5).tups.trans tl
      refine ⟨_, _, _, _, zs ++ [.ref p], rfl, (s03.trans (s4.trans s5)).ow hc, upd_same, ?_⟩
      have pr2 := pr.up t25
      have g0 := tl _ _ fp
      have g1 := tl _ _ (s5 _ _ h1)
      have g2 := tl _ _ (s5 _ _ h2)
      rw [take_succ' el]
      refine ⟨by rw [List.length_append, List.length_append, pr.1]; rfl, fun kk y pq h5 h6 => ?_⟩
      by_cases ck : kk < zs.length
      · rw [List.getElem?_append_left ck] at h5
        rw [List.getElem?_append_left (by rw [← pr.1]; exact ck)] at h6
        exact pr2.2 kk y pq h5 h6
      · rw [List.getElem?_append_right (by omega)] at h5
        rw [List.getElem?_append_right (by rw [← pr.1]; omega), ← pr.1] at h6
        have : kk - zs.length = 0 := by
          have := (List.getElem?_eq_some_iff.mp h5).1
          simp at this
          omega
        rw [this] at h5 h6
        cases h5
        cases h6
        exact ⟨p, q1, q2, a1, a2, rfl, g0, g1, g2, rfl⟩
  · rintro σ H2 ⟨x2, x3, x4, x5, zs, rfl, s2, hc2, pr⟩
    rw [en, List.take_of_length_le (by rw [lkT_len]; exact Nat.le_refl _)] at pr
    exact ⟨_, rfl, k c zs H2 s2 hc hc2 pr⟩
def spHeapsT : Sp := fun vs H Q _ => ∃ (a b : Addr) (xs ps : List V) (ts : List (List Int)) (L : List (List Int × List Int)), vs = [.ref a, .ref b] ∧ H a = some (.lst xs) ∧ ItL H true xs ts ∧ H b = some (.lst ps) ∧ PaL H true ps L ∧ ts.Nodup ∧ ts.length ≤ 1000 ∧ (∀ p ∈ L, p.1 ∈ ts ∧ p.2 ∈ ts) ∧ ∀ (c : Addr) (zs : List V) (hs : List (List (List Int))) (H' : Hp), Same H H' → H c = none → H' c = some (.lst zs) → LsL H' true zs hs → Parts (RL L) ts hs → Q (.ref c) H'
def spDouble : Sp := fun vs H Q _ => ∃ (b : Addr) (xs : List V) (S : List (List Int)), vs = [.ref b] ∧ H b = some (.lst xs) ∧ TuL H xs S ∧ ShOk S ∧ ∀ (c : Addr) (zs : List V) (gs : List (List Nat)) (H' : Hp), Same H H' → H c = none → H' c = some (.lst zs) → LsL H' true zs (gs.map (List.map fN)) → DP (lkT S) S.length gs → Q (.ref c) H'
def tDouble (K : PySem.W.Frag) : TS := tSeq (tAsg (tLst tNil) (gName 1)) (tSeq (tFor (iList K (tCall spLGluedT [] E0 (tCons (tVar 0) tNil))) (gTup K 2 (gCons (gName 2) (gCons (gName 3) gNil))) (tFor (iRng1 (tCons (tC (V.int 2)) tNil)) (gName 4) (tSeq (tAsg (tOp (rI (fun x j => 0 < j) fun i j => V.int (i % j)) (tOp (rI0 fun i j => V.int (i + j)) (tVar 4) (tCB (fun xs H Q => (∃ i, xs = [V.int i] ∧ Q (V.int i) H) ∨ ∃ k, xs = [V.bl k] ∧ Q (V.int (if k = true then 1 else 0)) H) (tCons (tOp rEq (tOp (rIxT K) (tVar 2) (tC (V.int 1))) (tOp (rIxT K) (tVar 3) (tC (V.int 1)))) tNil))) (tC (V.int 2))) (gName 5)) (tDrop (tBM K "list" rAppend (tVar 1) (tCons (tTup (tCons (tTup (tCons (tOp (rIxT K) (tVar 2) (tC (V.int 0))) (tCons (tVar 4) tNil))) (tCons (tTup (tCons (tOp (rIxT K) (tVar 3) (tC (V.int 0))) (tCons (tVar 5) tNil))) tNil))) tNil)))))) (tSeq (tAsg (tCompG 1 (iRng1 (tCons (tOp (rI CMul fun i j => V.int (i * j)) (tC (V.int 2)) (tCB (fun xs H Q => ∃ p ys, xs = [V.ref p] ∧ (SqL K H p ys ∨ SqT K H p ys) ∧ Q (V.int ys.length) H) (tCons (tVar 0) tNil))) tNil)) (gName 0) tYes (tTup (tCons (tOp (rI CDivL fun i j => V.int (i / j)) (tVar 0) (tC (V.int 2))) (tCons (tOp (rI (fun x j => 0 < j) fun i j => V.int (i % j)) (tVar 0) (tC (V.int 2))) tNil)))) (gName 6)) (tRet (tCall spHeapsT [] E0 (tCons (tVar 6) (tCons (tVar 1) tNil))))))
def two2' (q : Nat × Nat × Bool) : List (Nat × Nat) := [(2 * q.1, 2 * q.2.1 + q.2.2.toNat), (2 * q.1 + 1, 2 * q.2.1 + 1 - q.2.2.toNat)]
def pF (q : Nat × Nat) : List Int × List Int := (fN q.1, fN q.2)
theorem two_at (q : Nat × Nat × Bool) {w : Nat} (h : w < 2) : (two2' q)[w]? = some (2 * q.1 + w, 2 * q.2.1 + (w + q.2.2.toNat) % 2) := by
  obtain ⟨a, b, c⟩ := q
  have hw : w = 0 ∨ w = 1 := by omega
  rcases hw with rfl | rfl <;> cases c <;> simp [two2']
set_option maxHeartbeats 4000000 in
theorem double_reads {K : PySem.W.Frag} {H : Hp} {Q : VK} {Z : L2.St → Hp → Prop} {b : Addr} {xs : List V} {S : List (List Int)} (hb : H b = some (.lst xs)) (tS : TuL H xs S) (oS : ShOk S)
    (k : ∀ (c : Addr) (zs : List V) (gs : List (List Nat)) (H' : Hp), Same H H' → H c = none → H' c = some (.lst zs) → LsL H' true zs (gs.map (List.map fN)) → DP (lkT S) S.length gs → Q (.ref c) H') :
    tDouble K { nx := Z, rt := Q } [some (.ref b), none, none, none, none, none, none] H := by
  have lS := oS.len
  have lx : xs.length = S.length := tS.1
  refine ⟨(by show 0 ≤ sizeLine; decide), fun c hc => ?_⟩
  have s1 := Same.nw (o := .lst []) (Same.refl H) hc
  have fc : (upd H c (.lst [])) c = some (.lst []) := upd_same
  change tSeq _ _ _ _ (upd H c (.lst []))
  generalize upd H c (.lst []) = H1 at s1 fc ⊢
  refine ⟨_, rfl, b, xs, S, rfl, s1 _ _ hb, tS.up s1.tups, oS, fun g zs H2 s2 gf hg pr => ?_⟩
  have ngc : g ≠ c := fun z => by rw [z, fc] at gf; cases gf
  have ll := lkT_len S
  refine ⟨g, rfl, ⟨_, SqL.of hg⟩, for_list (K := K) (a := g) (xs := zs) (fun i σ H' => ∃ (x2 x3 x4 x5 : Option V) (ps : List V), σ = [some (.ref b), some (.ref c), x2, x3, x4, x5, none] ∧ (∀ a o, H2 a = some o → a ≠ c → H' a = some o) ∧ H' c = some (.lst ps) ∧ PaL H' true ps ((dbl ((lkT S).take i)).map pF)) ⟨_, _, _, _, [], rfl, fun _ _ e _ => e, s2 _ _ fc, PaL.nil _ _⟩ (fun i σ H' _ z => by obtain ⟨_, _, _, _, _, _, kp, _⟩ := z; exact SqL.of (kp _ _ hg ngc)) ?_ ?_⟩
  · rintro i y σ H3 hy ⟨x2, x3, x4, x5, ps, rfl, kp3, hc3, pa3⟩
    have il : i < (lkT S).length := by rw [← pr.1]; exact (List.getElem?_eq_some_iff.mp hy).1
    have eq : (lkT S)[i]? = some (lkT S)[i] := List.getElem?_eq_getElem il
    generalize (lkT S)[i] = q at eq
    have t23 : Tups H2 H3 := fun a ts ea => kp3 a _ ea fun z => by rw [z, s2 _ _ fc] at ea; cases ea
    obtain ⟨p, q1, q2, sa, sb, rfl, hp, h1, h2, ed⟩ := (pr.up t23).2 i y q hy eq
    refine ⟨p, _, rfl, SqT.of hp, rfl, _, _, rfl, _, _, rfl, rfl, ?_⟩
    refine ⟨2, rfl, by decide, by decide, for_range (n := 2) (fun w σ H' => ∃ (x4 x5 : Option V) (ps : List V), σ = [some (.ref b), some (.ref c), some (.ref q1), some (.ref q2), x4, x5, none] ∧ (∀ a o, H2 a = some o → a ≠ c → H' a = some o) ∧ Tups H3 H' ∧ H' c = some (.lst ps) ∧ PaL H' true ps ((dbl ((lkT S).take i) ++ (two2' q).take w).map pF)) ⟨_, _, ps, rfl, kp3, Tups.refl _, hc3, by rw [List.take_zero, List.append_nil]; exact pa3⟩ ?_ ?_⟩
    · rintro w σ H4 hw ⟨x4, x5, ps4, rfl, kp4, t4, hc4, pa4⟩
      have g1 := t4 _ _ h1
      have g2 := t4 _ _ h2
      have pl : ps4.length ≤ 100 := by rw [pa4.1, List.length_map, List.length_append, dbl_len, List.length_take, List.length_take]; omega
      refine ⟨_, rfl, _, rfl, q1, _, 1, .int sa, rfl, rfl, SqT.of g1, rfl, _, rfl, q2, _, 1, .int sb, rfl, rfl, SqT.of g2, rfl, rfl, .inr ⟨_, rfl, _, _, rfl, rfl, _, 2, rfl, rfl, (by show (0 : Int) < 2; decide), ?_⟩⟩
      dsimp only
      rw [show (0 + (w : Int) + (if decide (V.int sa = V.int sb) = true then 1 else 0)) % 2 = (((w + q.2.2.toNat) % 2 : Nat) : Int) by
        rw [show decide (V.int sa = V.int sb) = decide (sa = sb) by simp, ed]
        cases q.2.2 <;> simp <;> omega, show (0 : Int) + (w : Int) = ((w : Nat) : Int) by omega]
      refine ⟨_, rfl, .inl ⟨rfl, _, SqL.of hc4⟩, _, rfl, q1, _, 0, .int (q.1 : Int), rfl, rfl, SqT.of g1, rfl, _, rfl, (by show 2 ≤ sizeLine; decide), fun p1 hp1 => ?_⟩
      have f1 : fN (2 * q.1 + w) = [(q.1 : Int), (w : Int)] := by unfold fN; rw [show (2 * q.1 + w) / 2 = q.1 by omega, show (2 * q.1 + w) % 2 = w by omega]
      have f2 : fN (2 * q.2.1 + (w + q.2.2.toNat) % 2) = [(q.2.1 : Int), (((w + q.2.2.toNat) % 2 : Nat) : Int)] := by unfold fN; rw [show (2 * q.2.1 + (w + q.2.2.toNat) % 2) / 2 = q.2.1 by omega, show (2 * q.2.1 + (w + q.2.2.toNat) % 2) % 2 = (w + q.2.2.toNat) % 2 by omega]
      have s5 := Same.nw (o := .tup [.int (q.1 : Int), .int (w : Int)]) (Same.refl H4) hp1
      have e5 : (upd H4 p1 (.tup [.int (q.1 : Int), .int (w : Int)])) p1 = some (.tup ((fN (2 * q.1 + w)).map V.int)) := by rw [f1]; exact upd_same
      try dsimp only [tNil]
      generalize upd H4 p1 (.tup [.int (q.1 : Int), .int (w : Int)]) = H5 at s5 e5 ⊢
      refine ⟨_, rfl, q2, _, 0, .int (q.2.1 : Int), rfl, rfl, SqT.of (s5 _ _ g2), rfl, _, rfl, (by show 2 ≤ sizeLine; decide), fun p2 hp2 => ?_⟩
      have s6 := Same.nw (o := .tup [.int (q.2.1 : Int), .int (((w + q.2.2.toNat) % 2 : Nat) : Int)]) (Same.refl H5) hp2
      have e6 : (upd H5 p2 (.tup [.int (q.2.1 : Int), .int (((w + q.2.2.toNat) % 2 : Nat) : Int)])) p2 = some (.tup ((fN (2 * q.2.1 + (w + q.2.2.toNat) % 2)).map V.int)) := by rw [f2]; exact upd_same
      try dsimp only [tNil]
      generalize upd H5 p2 (.tup [.int (q.2.1 : Int), .int (((w + q.2.2.toNat) % 2 : Nat) : Int)]) = H6 at s6 e6 ⊢
      refine ⟨(by show 2 ≤ sizeLine; decide), fun p3 hp3 => ?_⟩
      have s7 := Same.nw (o := .tup [.ref p1, .ref p2]) (Same.refl H6) hp3
      have e7 : (upd H6 p3 (.tup [.ref p1, .ref p2])) p3 = some (.tup [.ref p1, .ref p2]) := upd_same
      try dsimp only [tNil]
      generalize upd H6 p3 (.tup [.ref p1, .ref p2]) = H7 at s7 e7 ⊢
      have s47 := s5.trans (s6.trans s7)
      have hc7 := s47 _ _ hc4
      refine ⟨c, ps4, .ref p3, rfl, rfl, hc7, Nat.lt_of_le_of_lt (show _ ≤ 1000 by omega) (by decide), ?_⟩
      have t8 : Tups H7 (upd H7 c (.lst (ps4 ++ [.ref p3]))) := Tups.lst (Tups.refl _) hc7
      refine ⟨_, _, ps4 ++ [.ref p3], rfl, fun a o ea ne => by rw [upd_ne ne]; exact s47 _ _ (kp4 a o ea ne), (t4.trans s47.tups).trans t8, upd_same, ?_⟩
      rw [take_succ' (two_at q hw), ← List.append_assoc, List.map_append]
      exact PaL.up (PaL.snoc (pa4.up s47.tups) e7 (.tup (s7 _ _ (s6 _ _ e5))) (.tup (s7 _ _ e6))) t8
    · rintro σ H4 ⟨x4, x5, ps4, rfl, kp4, t4, hc4, pa4⟩
      refine ⟨_, _, _, _, ps4, rfl, kp4, hc4, ?_⟩
      rw [take_succ' eq, dbl_snoc]
      exact pa4
  rintro σ H3 ⟨x2, x3, x4, x5, ps, rfl, kp3, hc3, pa3⟩
  rw [pr.1, List.take_length] at pa3
  have s03 : Same H H3 := fun a o ea => kp3 a o (s2 _ _ (s1 _ _ ea)) (ne_of_none ea hc)
  have e2n : (2 * ((xs.length : Nat) : Int)).toNat = 2 * S.length := by rw [lx]; omega
  refine ⟨_, rfl, b, xs, rfl, .inl (SqL.of (s03 _ _ hb)), 2, _, rfl, rfl, .inl ⟨by decide, by decide⟩, 2 * ((xs.length : Nat) : Int), rfl, by omega, by omega, ?_⟩
  rw [e2n]
  refine compR (lo := 0) (n := 2 * S.length) (fun m ys H' => TuL H' ys ((List.range m).map fN) ∧ Same H3 H') ⟨TuL.nil _, Same.refl _⟩ (by omega) (fun m ys H' h => by rw [h.1.1, List.length_map, List.length_range]; exact Nat.le_refl _) ?_ ?_
  · rintro m ys H4 pre hpl hm ⟨ty, s4⟩
    rcases pre with _ | ⟨q0, _ | ⟨q3, pre⟩⟩
    · cases hpl
    · refine ⟨⟨[some _], rfl, rfl⟩, ?_⟩
      unfold tYes
      dsimp only
      rw [if_pos (rfl : true = true)]
      refine ⟨_, rfl, _, 2, rfl, rfl, ⟨by decide, by decide⟩, _, rfl, _, 2, rfl, rfl, (by show (0 : Int) < 2; decide), (by show 2 ≤ sizeLine; decide), fun p hp => ?_⟩
      have s5 := Same.nw (o := .tup ((fN m).map V.int)) (Same.refl H4) hp
      have e5 : (upd H4 p (.tup ((fN m).map V.int))) p = some (.tup ((fN m).map V.int)) := upd_same
      have ef : [V.int ((0 + (m : Int)) / 2), V.int ((0 + (m : Int)) % 2)] = (fN m).map V.int := by
        unfold fN
        rw [show (0 + (m : Int)) / 2 = ((m / 2 : Nat) : Int) by omega, show (0 + (m : Int)) % 2 = ((m % 2 : Nat) : Int) by omega]
        rfl
      try dsimp only [tNil]
      rw [ef]
      refine ⟨?_, s4.trans s5⟩
      rw [List.range_succ, List.map_append]
      exact TuL.snoc (ty.up s5.tups) e5
    · cases hpl
  · rintro ys H4 ⟨ty, s4⟩ E hE
    have s5 := Same.nw (o := .lst ys) (Same.refl H4) hE
    have fE : (upd H4 E (.lst ys)) E = some (.lst ys) := upd_same
    generalize upd H4 E (.lst ys) = H5 at s5 fE ⊢
    have s35 := s4.trans s5
    have s05 := s03.trans s35
    refine ⟨_, rfl, _, rfl, E, c, ys, ps, _, _, rfl, fE, (ty.up s5.tups).it, s35 _ _ hc3, pa3.up s35.tups, ?_, by rw [List.length_map, List.length_range]; omega, fun pp hpp => ?_, fun c' zs' hs H' s' cf' hc' lz' p' => ?_⟩
    · unfold List.Nodup
      rw [List.pairwise_map]
      exact List.nodup_range.imp fun {x y} ne e => ne (fN_inj e)
    · obtain ⟨⟨u, v⟩, m, rfl⟩ := List.mem_map.mp hpp
      obtain ⟨⟨a, b', f⟩, hq, h⟩ := mem_dbl.mp m
      obtain ⟨l1, l2⟩ := lkT_lt oS _ hq
      have f1 : f.toNat ≤ 1 := by cases f <;> decide
      simp only at h l1 l2
      exact ⟨List.mem_map.mpr ⟨u, List.mem_range.mpr (by omega), rfl⟩, List.mem_map.mpr ⟨v, List.mem_range.mpr (by omega), rfl⟩⟩
    · obtain ⟨dp, ew⟩ := parts_back (L := lkT S) (n := S.length) (ws := hs) p'
      exact k c' zs' _ H' (s05.trans s') (s05.free cf') hc' (by rw [ew]; exact lz') dp
end L2
set_option Elab.async false
set_option linter.all false
set_option maxRecDepth 100000
set_option maxHeartbeats 1000000
namespace L2
open PySem PySem.Spec PyProof.Rows
section
variable {X : Cx}
theorem call_minN (hc : X.calm = true) : CallR X (.builtin "min") (fun xs H Q => ∃ (p : Addr) (ns : List Int), xs = [.ref p] ∧ SqL X.K H p (ns.map V.int) ∧ ns ≠ [] ∧ ∀ m ∈ ns, (∀ n ∈ ns, m ≤ n) → Q (.int m) H) := by
  intro pins s σ H xs us Q I r h
  obtain ⟨p, ns, rfl, hq, ne, q⟩ := h
  obtain ⟨u, rfl, rx⟩ := vals1 r
  cases rx
  obtain ⟨its, rv, pl, hz⟩ := I.list hq
  obtain ⟨ps, rfl, e⟩ := int_items rv
  have hl := pl.isList
  have ei : (ps.map (fun p => Value.int p.1 p.2)).toArray = intItems ps.toArray := by simp [intItems]
  rw [ei] at hl
  have pn : 0 < ps.length := by
    cases ps with
    | nil => exact absurd e.symm ne
    | cons a b => simp
  have at1 : ∀ j, j < ps.length → ns[j]? = some (numAt ps.toArray j) := fun j hj => by
    rw [← e, List.getElem?_map, List.getElem?_eq_getElem hj]
    simp [numAt, hj]
  refine min_intList (I.ok.hd hc) hl (by simpa using pn) fun v h' tk hv hk => ?_
  obtain ⟨t, rfl⟩ := intItems_at hv
  obtain ⟨b1, b2⟩ := argBest_lt (numAt ps.toArray) (ps.toArray.size - 1)
  generalize argBest (fun i' j' => decide (numAt ps.toArray i' < numAt ps.toArray j')) (ps.toArray.size - 1) = k at b1 b2 ⊢
  rw [List.size_toArray] at b1 b2
  refine ⟨.int _, H, I.kept hk, ⟨t, rfl⟩, q _ (List.mem_of_getElem? (at1 k (by omega))) fun n hn => ?_⟩
  obtain ⟨j, hj⟩ := List.mem_iff_getElem?.mp hn
  have jl : j < ps.length := by
    have := (List.getElem?_eq_some_iff.mp hj).1
    rw [← e, List.length_map] at this
    exact this
  rw [at1 j jl] at hj
  cases hj
  exact b2 j (by omega)
end
end L2
set_option Elab.async false
set_option linter.all false
set_option maxRecDepth 100000
set_option maxHeartbeats 1000000
namespace L2
open PySem PySem.Spec PyProof.Rows
inductive DueF (H : Hp) (S : List (List Int)) : V → Prop where
  | no : (∀ hs, DP (lkT S) S.length hs → ∃ h ∈ hs, Clash h) → DueF H S .non
  | yes {c : Addr} {M : List Int} : (∀ hs, DP (lkT S) S.length hs → (∀ h ∈ hs, ¬ Clash h) ∧ MkOk S.length hs M) → H c = some (.lst (M.map V.int)) → DueF H S (.ref c)
theorem DueF.up {H H' : Hp} {S : List (List Int)} {x : V} (h : DueF H S x) (s : Same H H') : DueF H' S x := by
  cases h with
  | no h => exact .no h
  | yes h e => exact .yes h (s _ _ e)
theorem lay_noneX : PyData.none.canLay0 = true := by decide +kernel
theorem kit_llX {K : PySem.W.Frag} : PySem.W.kitOne K (.type "list") (.type "list") = some true := by with_unfolding_all rfl
def tEnd46 (K : PySem.W.Frag) : TS := (tSeq (tAsg (tCB (fun xs H_1 Q => ∃ p ys, xs = [V.ref p] ∧ (SqL K H_1 p ys ∨ SqT K H_1 p ys) ∧ ∀ (l : Addr), H_1 l = none → Q (V.ref l) (upd H_1 l (HO.lst ys))) (tCons (tVar 2) tNil)) (gName 9)) (tSeq (tFor (iRng1 (tCons (tC (V.int 2)) tNil)) (gName 10) (tSeq (tAsg (tCall spFaces [] E0 (tCons (tVar 9) tNil)) (gName 11)) (tSeq (tIfS (tOr (tTest (tOp (rEqD K fun b => !b) (tVar 11) (tVar 5))) (tTest (tOp (rEqD K fun b => !b) (tVar 9) (tVar 2)))) (tRet (tC (V.bl false))) tNext) (tIfS (tB (tNotN (tVar 11))) (tSeq (tIfS (tOr (tNot (tB (tCB (fun xs H Q => ∃ x t b, xs = [x, V.ty "list"] ∧ TyOf K H x t ∧ W.kitOne K t (Value.type "list") = some b ∧ Q (V.bl b) H) (tCons (tVar 11) (tCons (tC (V.ty "list")) tNil))))) (tTest (tOp (rEqD K fun b => !b) (tCompG 1 (iList K (tVar 11)) (gName 0) (tB (tCB (fun xs H Q => ∃ x t b, xs = [x, V.ty "bool"] ∧ TyOf K H x t ∧ W.kitOne K t (Value.type "bool") = some b ∧ Q (V.bl b) H) (tCons (tVar 0) (tCons (tC (V.ty "bool")) tNil)))) (tVar 0)) (tLst tNil)))) (tRet (tC (V.bl false))) tNext) (tDrop (tBM K "list" rAppend (tVar 11) (tCons (tC (V.int 1)) tNil)))) tNext)))) (tRet (tC (V.bl true)))))
set_option maxHeartbeats 4000000 in
theorem end46_reads {K : PySem.W.Frag} {H : Hp} {Q : VK} {Z : L2.St → Hp → Prop} {b : Addr} {xs : List V} {S : List (List Int)} {du : V} {x0 x1 x3 x4 x6 x7 x8 x9 x10 x11 : Option V} (hb : H b = some (.lst xs)) (tS : TuL H xs S) (oS : ShOk S) (hd : DueF H S du) (k : ∀ H', Q (.bl true) H') :
    tEnd46 K { nx := Z, rt := Q } [x0, x1, some (.ref b), x3, x4, some du, x6, x7, x8, x9, x10, x11] H := by
  have lS := oS.len
  refine ⟨_, rfl, b, xs, rfl, .inl (SqL.of hb), fun l hl => ?_⟩
  have s1 := Same.nw (o := .lst xs) (Same.refl H) hl
  have fl : (upd H l (.lst xs)) l = some (.lst xs) := upd_same
  change tSeq _ _ _ _ (upd H l (.lst xs))
  generalize upd H l (.lst xs) = H1 at s1 fl ⊢
  have hb1 := s1 _ _ hb
  have tS1 := tS.up s1.tups
  have hd1 := hd.up s1
  refine ⟨2, rfl, by decide, by decide, for_range (n := 2) (fun i σ H' => ∃ (x10 x11 : Option V), σ = [x0, x1, some (.ref b), x3, x4, some du, x6, x7, x8, some (.ref l), x10, x11] ∧ Same H1 H') ⟨_, _, rfl, Same.refl _⟩ ?_ ?_⟩
  · rintro i σ H2 hi ⟨x10, x11, rfl, s2⟩
    have hd2 := hd1.up s2
    refine ⟨_, rfl, l, xs, S, rfl, s2 _ _ fl, tS1.up s2.tups, oS, fun hs p cl H3 s3 => ?_, fun hs p ncl M c H3 mk s3 cf hc => ?_⟩
    · have s13 := s2.trans s3
      cases hd2 with
      | yes h _ => obtain ⟨g, hg, z⟩ := cl; exact absurd z ((h hs p).1 g hg)
      | no h =>
        refine ⟨_, rfl, _, rfl, _, _, .non, .non, lay_noneX, lay_noneX, (by show 0 ≤ 60; decide), _, rfl, ?_⟩
        rw [SeqAt.eqv_refl _ lay_noneX]
        refine iteF ⟨_, rfl, _, rfl, _, _, (tS1.up s13.tups).di (SqL.of (s13 _ _ fl)), (tS1.up s13.tups).di (SqL.of (s13 _ _ hb1)), lay_dTs _, lay_dTs _, dep_dTs _, _, rfl, ?_⟩
        rw [SeqAt.eqv_refl _ (lay_dTs _)]
        exact iteF ⟨_, rfl, _, rfl, iteF ⟨_, _, rfl, s13⟩⟩
    · have s13 := s2.trans s3
      cases hd2 with
      | no h => obtain ⟨g, hg, z⟩ := h hs p; exact absurd z (ncl g hg)
      | yes h hc0 =>
        rename_i c0 M0
        have eM : M = M0 := DP.uni p p mk (h hs p).2
        subst eM
        refine ⟨_, rfl, _, rfl, _, _, di_lst (SqL.of hc), di_lst (SqL.of (s3 _ _ hc0)), lay_dI _, lay_dI _, dep_dI _, _, rfl, ?_⟩
        rw [eqv_dI, decide_eq_true rfl]
        refine iteF ⟨_, rfl, _, rfl, _, _, (tS1.up s13.tups).di (SqL.of (s13 _ _ fl)), (tS1.up s13.tups).di (SqL.of (s13 _ _ hb1)), lay_dTs _, lay_dTs _, dep_dTs _, _, rfl, ?_⟩
        rw [SeqAt.eqv_refl _ (lay_dTs _)]
        refine iteF ⟨_, rfl, _, rfl, iteT ?_⟩
        refine ⟨_, rfl, .ref c, _, _, rfl, .lst hc, kit_llX, _, rfl, iteF ?_⟩
        have ml := mk.len
        refine ⟨_, rfl, c, rfl, ⟨_, SqL.of hc⟩, compL (K := K) (a := c) (xs := M.map V.int) (fun m ws H' => ws = [] ∧ H3 = H') ⟨rfl, rfl⟩ (by rw [List.length_map]; omega) (fun m ws H' h => by rw [h.1]; exact Nat.zero_le _) (fun m ws H' _ h => by rw [← h.2]; exact SqL.of hc) ?_ ?_⟩
        · rintro m y ws H' pre hpl hy ⟨rfl, rfl⟩
          rw [List.getElem?_map] at hy
          cases ey : M[m]? with
          | none => rw [ey] at hy; cases hy
          | some v =>
            rw [ey] at hy
            cases hy
            rcases pre with _ | ⟨q0, _ | ⟨q3, pre⟩⟩
            · cases hpl
            · exact ⟨⟨[some _], rfl, rfl⟩, _, rfl, .int v, _, _, rfl, .int v, kit_ib, _, rfl, iteF ⟨rfl, rfl⟩⟩
            · cases hpl
        · rintro ws H' ⟨rfl, rfl⟩ E hE
          have s4 := Same.nw (o := .lst []) (Same.refl H3) hE
          have fE : (upd H3 E (.lst [])) E = some (.lst (([] : List Int).map V.int)) := upd_same
          generalize upd H3 E (.lst []) = H4 at s4 fE ⊢
          refine ⟨(by show 0 ≤ sizeLine; decide), fun F hF => ?_⟩
          have s5 := Same.nw (o := .lst ([] : List V)) (Same.refl H4) hF
          have fF : (upd H4 F (.lst [])) F = some (.lst (([] : List Int).map V.int)) := upd_same
          change rEqD K _ _ _ (upd H4 F (.lst [])) _
          generalize upd H4 F (.lst []) = H5 at s5 fF ⊢
          refine ⟨_, _, di_lst (SqL.of (s5 _ _ fE)), di_lst (SqL.of fF), lay_dI _, lay_dI _, dep_dI _, _, rfl, ?_⟩
          rw [eqv_dI, decide_eq_true rfl]
          have hc5 := (s4.trans s5) _ _ hc
          refine iteF ⟨_, rfl, .inl ⟨rfl, _, SqL.of hc5⟩, c, _, _, rfl, rfl, hc5, Nat.lt_of_le_of_lt (show _ ≤ 1000 by rw [List.length_map]; omega) (by decide), ?_⟩
          exact ⟨_, _, rfl, fun a o ea => by rw [upd_ne (ne_of_none (s2 _ _ ea) cf)]; exact (s13.trans (s4.trans s5)) _ _ ea⟩
  · rintro σ H2 ⟨x10, x11, rfl, s2⟩
    exact k _
def tThing46 (K : PySem.W.Frag) : TS := (tIfS (tTest (tOp (rInC K true) (tTup (tCons (tOp (rIxT K) (tVar 8) (tC (V.int 0))) (tCons (tOp (rI0 fun i j => V.int (i - j)) (tC (V.int 1)) (tOp (rIxT K) (tVar 8) (tC (V.int 1)))) tNil))) (tVar 6))) (tAsg (tC V.non) (gName 5)) (tIfS (tAnd (tB (tNotN (tVar 5))) (tTest (tOp (rInC K true) (tTup (tCons (tVar 7) (tCons (tC (V.int 0)) tNil))) (tVar 6)))) (tAsg (tOp (rIxT K) (tVar 8) (tC (V.int 1))) (gSub (tVar 5) (tOp (rIxT K) (tVar 8) (tC (V.int 0))) rSetL)) tNext))
def DuJ (H : Hp) (D : Addr) (n : Nat) (gs : List (List Nat)) (g ts : List Nat) (dv : V) : Prop :=
  (dv = .non ∧ ((∃ g' ∈ gs, Clash g') ∨ Clash g)) ∨ (dv = .ref D ∧ ∃ M : List Int, H D = some (.lst (M.map V.int)) ∧ M.length = n ∧ (∀ g' ∈ gs, ¬ Clash g' ∧ (Evn g' → ∀ x ∈ g', M[x / 2]? = some ((x % 2 : Nat) : Int))) ∧ (∀ x ∈ ts, flp x ∉ g) ∧ (Evn g → ∀ x ∈ ts, M[x / 2]? = some ((x % 2 : Nat) : Int)))
theorem mem_fN {g : List Nat} {x : Nat} : fN x ∈ g.map fN ↔ x ∈ g := ⟨fun h => by
  obtain ⟨y, hy, e⟩ := List.mem_map.mp h
  rw [← fN_inj e]; exact hy, fun h => List.mem_map.mpr ⟨x, h, rfl⟩⟩
theorem fN_flp (x : Nat) : [V.int ((x / 2 : Nat) : Int), V.int (1 - ((x % 2 : Nat) : Int))] = (fN (flp x)).map V.int := by
  show _ = [V.int ((flp x / 2 : Nat) : Int), V.int ((flp x % 2 : Nat) : Int)]
  rw [flp_half, show ((flp x % 2 : Nat) : Int) = 1 - ((x % 2 : Nat) : Int) by unfold flp; split <;> omega]
theorem fN_two (l : Nat) : [V.int (l : Int), V.int 0] = (fN (2 * l)).map V.int := by
  show _ = [V.int ((2 * l / 2 : Nat) : Int), V.int ((2 * l % 2 : Nat) : Int)]
  rw [show 2 * l / 2 = l by omega, show 2 * l % 2 = 0 by omega]
  rfl
set_option maxHeartbeats 4000000 in
theorem thing46_reads {K : PySem.W.Frag} {H : Hp} {E : Ends} {D a p : Addr} {n l x : Nat} {L : List (Nat × Nat × Bool)} {hs gs : List (List Nat)} {g ts : List Nat} {vs : List V} {dv : V} {x0 x1 x2 x3 x4 x9 x10 x11 : Option V} (dp : DP L n hs) (gsub : ∀ g' ∈ gs, g' ∈ hs) (gm : g ∈ hs) (hl : ∀ y ∈ g, l ≤ y / 2) (hl2 : ∃ y ∈ g, y / 2 = l) (hx : x ∈ g) (tsub : ∀ y ∈ ts, y ∈ g) (ha : H a = some (.lst vs)) (iv : ItL H true vs (g.map fN)) (hp : H p = some (.tup ((fN x).map V.int))) (du : DuJ H D n gs g ts dv)
    (k : ∀ (dv' : V) (H' : Hp), (∀ b o, H b = some o → b ≠ D → H' b = some o) → DuJ H' D n gs g (ts ++ [x]) dv' → E.nx [x0, x1, x2, x3, x4, some dv', some (.ref a), some (.int (l : Int)), some (.ref p), x9, x10, x11] H') :
    tThing46 K E [x0, x1, x2, x3, x4, some dv, some (.ref a), some (.int (l : Int)), some (.ref p), x9, x10, x11] H := by
  have evl : Evn g ↔ 2 * l ∈ g := by
    constructor
    · rintro ⟨l', h1, h2⟩
      obtain ⟨y, hy, e⟩ := hl2
      have := h2 y hy
      have := hl _ h1
      rw [show l = l' by omega]; exact h1
    · intro h; exact ⟨l, h, hl⟩
  have xn : x / 2 < n := by
    have := List.mem_range.mp (dp.perm.subset (List.mem_flatten.mpr ⟨g, gm, hx⟩))
    omega
  refine ⟨_, rfl, p, _, 0, .int ((x / 2 : Nat) : Int), rfl, rfl, SqT.of hp, rfl, _, rfl, p, _, 1, .int ((x % 2 : Nat) : Int), rfl, rfl, SqT.of hp, rfl, 1, _, rfl, rfl, (by show 2 ≤ sizeLine; decide), fun tp htp => ?_⟩
  try dsimp only [tNil]
  rw [fN_flp]
  have s1 := Same.nw (o := .tup ((fN (flp x)).map V.int)) (Same.refl H) htp
  have f1 : (upd H tp (.tup ((fN (flp x)).map V.int))) tp = some (.tup ((fN (flp x)).map V.int)) := upd_same
  generalize upd H tp (.tup ((fN (flp x)).map V.int)) = H1 at s1 f1 ⊢
  refine ⟨_, rfl, a, vs, fN (flp x), g.map fN, rfl, SqL.of (s1 _ _ ha), .tup f1, iv.up s1.tups, _, rfl, ?_⟩
  have ifx : decide (fN (flp x) ∈ g.map fN) = decide (flp x ∈ g) := by rw [Bool.eq_iff_iff, decide_eq_true_eq, decide_eq_true_eq, mem_fN]
  rw [ifx]
  by_cases cf : flp x ∈ g
  · rw [decide_eq_true cf]
    refine iteT (k .non H1 (fun b o e _ => s1 _ _ e) (.inl ⟨rfl, .inr ⟨x, hx, cf⟩⟩))
  rw [decide_eq_false cf]
  refine iteF ?_
  rcases du with ⟨rfl, why⟩ | ⟨rfl, M, hM, lM, prev, nts, ok⟩
  · exact ⟨_, rfl, _, rfl, iteF (iteF (k .non H1 (fun b o e _ => s1 _ _ e) (.inl ⟨rfl, why⟩)))⟩
  refine ⟨_, rfl, _, rfl, iteT ?_⟩
  refine ⟨_, rfl, (by show 2 ≤ sizeLine; decide), fun tq htq => ?_⟩
  try dsimp only [tNil]
  rw [fN_two]
  have s2 := Same.nw (o := .tup ((fN (2 * l)).map V.int)) (Same.refl H1) htq
  have f2 : (upd H1 tq (.tup ((fN (2 * l)).map V.int))) tq = some (.tup ((fN (2 * l)).map V.int)) := upd_same
  generalize upd H1 tq (.tup ((fN (2 * l)).map V.int)) = H2 at s2 f2 ⊢
  have s02 := s1.trans s2
  refine ⟨_, rfl, a, vs, fN (2 * l), g.map fN, rfl, SqL.of (s02 _ _ ha), .tup f2, iv.up s02.tups, _, rfl, ?_⟩
  have ifl : decide (fN (2 * l) ∈ g.map fN) = decide (2 * l ∈ g) := by rw [Bool.eq_iff_iff, decide_eq_true_eq, decide_eq_true_eq, mem_fN]
  rw [ifl]
  have nts' : ∀ y ∈ ts ++ [x], flp y ∉ g := fun y hy => by
    rcases List.mem_append.mp hy with z | z
    · exact nts y z
    · rw [List.mem_singleton] at z; rw [z]; exact cf
  by_cases c2 : 2 * l ∈ g
  · rw [decide_eq_true c2]
    have evg := evl.mpr c2
    have ix : ixN (M.map V.int).length ((x / 2 : Nat) : Int) = some (x / 2) := ixN_nat (by rw [List.length_map, lM]; exact xn)
    refine iteT ⟨_, rfl, p, _, 1, .int ((x % 2 : Nat) : Int), rfl, rfl, SqT.of (s02 _ _ hp), rfl, _, rfl, _, rfl, p, _, 0, .int ((x / 2 : Nat) : Int), rfl, rfl, SqT.of (s02 _ _ hp), rfl, D, _, _, x / 2, rfl, rfl, s02 _ _ hM, ix, ?_⟩
    refine k (.ref D) _ (fun b o e ne => by rw [upd_ne ne]; exact s02 _ _ e) (.inr ⟨rfl, M.set (x / 2) ((x % 2 : Nat) : Int), by rw [upd_same, List.map_set], by rw [List.length_set]; exact lM, fun g' hg' => ⟨(prev g' hg').1, fun e' x' hx' => ?_⟩, nts', fun _ x' hx' => ?_⟩)
    · by_cases ee : x / 2 = x' / 2
      · have := DP.evn_uni dp (gsub g' hg') gm e' evg (prev g' hg').1 hx' hx ee.symm
        rw [← ee, List.getElem?_set_self (by rw [lM]; exact xn), this]
      · rw [List.getElem?_set_ne ee]
        exact (prev g' hg').2 e' x' hx'
    · by_cases ee : x / 2 = x' / 2
      · rw [← ee, List.getElem?_set_self (by rw [lM]; exact xn)]
        rcases half_two ee with r | r
        · rw [r]
        · exfalso
          rcases List.mem_append.mp hx' with z | z
          · exact cf (r ▸ tsub x' z)
          · rw [List.mem_singleton] at z; rw [z] at r; exact flp_ne x r.symm
      · rw [List.getElem?_set_ne ee]
        rcases List.mem_append.mp hx' with z | z
        · exact ok evg x' z
        · rw [List.mem_singleton] at z; rw [z] at ee; exact absurd rfl ee
  · rw [decide_eq_false c2]
    exact iteF (k (.ref D) H2 (fun b o e _ => s02 _ _ e) (.inr ⟨rfl, M, s02 _ _ hM, lM, prev, nts', fun e => absurd (evl.mp e) c2⟩))
end L2
set_option Elab.async false
set_option linter.all false
set_option maxRecDepth 100000
set_option maxHeartbeats 1000000
namespace L2
open PySem PySem.Spec PyProof.Rows
def tHeap46 (K : PySem.W.Frag) : TS := (tFor (iList K (tVar 6)) (gName 8) (tThing46 K))
def tMid46 (K : PySem.W.Frag) : TS := (tSeq (tAsg (tCall spDouble [] E0 (tCons (tVar 2) tNil)) (gName 4)) (tSeq (tAsg (tCompG 1 (iList K (tVar 2)) (gName 0) tYes (tC (V.int 0))) (gName 5)) (tSeq (tFor (iList K (tVar 4)) (gName 6) (tSeq (tAsg (tCB (fun xs H_1 Q => ∃ p ns, xs = [V.ref p] ∧ SqL K H_1 p (List.map V.int ns) ∧ ns ≠ [] ∧ ∀ (m : Int), m ∈ ns → (∀ (n : Int), n ∈ ns → m ≤ n) → Q (V.int m) H_1) (tCons (tCompG 1 (iList K (tVar 6)) (gName 0) tYes (tOp (rIxT K) (tVar 0) (tC (V.int 0)))) tNil)) (gName 7)) (tHeap46 K))) (tEnd46 K))))
def DuI (H : Hp) (D : Addr) (n : Nat) (gs : List (List Nat)) (dv : V) : Prop :=
  (dv = .non ∧ ∃ g' ∈ gs, Clash g') ∨ (dv = .ref D ∧ ∃ M : List Int, H D = some (.lst (M.map V.int)) ∧ M.length = n ∧ ∀ g' ∈ gs, ¬ Clash g' ∧ (Evn g' → ∀ x ∈ g', M[x / 2]? = some ((x % 2 : Nat) : Int)))
theorem DuI.due {H : Hp} {D : Addr} {S : List (List Int)} {gs : List (List Nat)} {dv : V} (dp : DP (lkT S) S.length gs) (h : DuI H D S.length gs dv) : DueF H S dv := by
  rcases h with ⟨rfl, c⟩ | ⟨rfl, M, hM, lM, ok⟩
  · exact .no fun hs p => DP.clash dp p c
  · refine .yes (M := M) (fun hs p => ⟨fun h hh cl => ?_, lM, fun h hh e x hx => ?_⟩) hM
    · obtain ⟨g, hg, z⟩ := DP.clash p dp ⟨h, hh, cl⟩
      exact (ok g hg).1 z
    · obtain ⟨g, hg, q⟩ := p.same dp List.nodup_range hh
      exact (ok g hg).2 (e.perm fun z => q.mem_iff) x (q.mem_iff.mp hx)
set_option maxHeartbeats 4000000 in
theorem mid46_reads {K : PySem.W.Frag} {H : Hp} {Q : VK} {Z : L2.St → Hp → Prop} {b : Addr} {xs : List V} {S : List (List Int)} {x0 x1 x3 x4 x5 x6 x7 x8 x9 x10 x11 : Option V} (hb : H b = some (.lst xs)) (tS : TuL H xs S) (oS : ShOk S) (k : ∀ H', Q (.bl true) H') :
    tMid46 K { nx := Z, rt := Q } [x0, x1, some (.ref b), x3, x4, x5, x6, x7, x8, x9, x10, x11] H := by
  have lS := oS.len
  have lx : xs.length = S.length := tS.1
  refine ⟨_, rfl, b, xs, S, rfl, hb, tS, oS, fun c zs gs H1 s1 cf hc lz dp => ?_⟩
  have hb1 := s1 _ _ hb
  refine ⟨_, rfl, b, rfl, ⟨_, SqL.of hb1⟩, compL (K := K) (a := b) (xs := xs) (fun m ws H' => ws = (List.replicate m (0 : Int)).map V.int ∧ H1 = H') ⟨rfl, rfl⟩ (by omega) (fun m ws H' h => by rw [h.1, List.length_map, List.length_replicate]; exact Nat.le_refl _) (fun m ws H' _ h => by rw [← h.2]; exact SqL.of hb1) ?_ ?_⟩
  · rintro m y ws H' pre hpl hy ⟨rfl, rfl⟩
    rcases pre with _ | ⟨q0, _ | ⟨q3, pre⟩⟩
    · cases hpl
    · refine ⟨⟨[some _], rfl, rfl⟩, ?_⟩
      unfold tYes
      dsimp only
      rw [if_pos (rfl : true = true)]
      refine ⟨?_, rfl⟩
      rw [List.replicate_succ', List.map_append]
      rfl
    · cases hpl
  rintro ws H' ⟨rfl, rfl⟩ D hD
  rw [lx]
  have s2 := Same.nw (o := .lst ((List.replicate S.length (0 : Int)).map V.int)) (Same.refl H1) hD
  have fD : (upd H1 D (.lst ((List.replicate S.length (0 : Int)).map V.int))) D = some (.lst ((List.replicate S.length (0 : Int)).map V.int)) := upd_same
  have ncD : c ≠ D := fun z => by rw [z, hD] at hc; cases hc
  have nbD : b ≠ D := fun z => by rw [z, hD] at hb1; cases hb1
  change tSeq _ _ _ _ (upd H1 D (.lst ((List.replicate S.length (0 : Int)).map V.int)))
  generalize upd H1 D (.lst ((List.replicate S.length (0 : Int)).map V.int)) = H2 at s2 fD ⊢
  have zl : zs.length = gs.length := by rw [lz.1, List.length_map]
  refine ⟨_, rfl, c, rfl, ⟨_, SqL.of (s2 _ _ hc)⟩, for_list (K := K) (D := { nx := tEnd46 K { nx := Z, rt := Q }, rt := Q }) (a := c) (xs := zs) (fun m σ H' => ∃ (x6 x7 x8 : Option V) (dv : V), σ = [x0, x1, some (.ref b), x3, some (.ref c), some dv, x6, x7, x8, x9, x10, x11] ∧ (∀ a o, H1 a = some o → a ≠ D → H' a = some o) ∧ DuI H' D S.length (gs.take m) dv) ⟨_, _, _, .ref D, rfl, fun a o e _ => s2 _ _ e, .inr ⟨rfl, _, fD, List.length_replicate .., fun g hg => (by cases hg)⟩⟩ (fun m σ H' _ q => by obtain ⟨_, _, _, _, _, kp, _⟩ := q; exact SqL.of (kp _ _ hc ncD)) ?_ ?_⟩
  · rintro m y σ H3 hy ⟨x6, x7, x8, dv, rfl, kp3, du3⟩
    have mlt : m < gs.length := by have := (List.getElem?_eq_some_iff.mp hy).1; omega
    have eg : gs[m]? = some gs[m] := List.getElem?_eq_getElem mlt
    have mg : gs[m] ∈ gs := List.getElem_mem mlt
    generalize gs[m] = g at eg mg
    obtain ⟨a, vs, rfl, ha1, iv1⟩ := lz.2 m y (g.map fN) hy (by rw [List.getElem?_map, eg]; rfl)
    have naD : a ≠ D := fun z => by rw [z, hD] at ha1; cases ha1
    have t13 : Tups H1 H3 := fun q ts e => kp3 q _ e fun z => by rw [z, hD] at e; cases e
    have ha3 := kp3 _ _ ha1 naD
    have iv3 := iv1.up t13
    have vl : vs.length = g.length := by rw [iv1.1, List.length_map]
    have gl : g.length ≤ 24 := by
      have h1 := (List.sublist_flatten_of_mem mg).length_le
      rw [dp.perm.length_eq, List.length_range] at h1
      omega
    refine ⟨_, rfl, a, rfl, ⟨_, SqL.of ha3⟩, compL (K := K) (a := a) (xs := vs) (fun j ws H' => ws = ((g.take j).map (fun x => ((x / 2 : Nat) : Int))).map V.int ∧ H3 = H') ⟨rfl, rfl⟩ (by omega) (fun j ws H' h => by rw [h.1, List.length_map, List.length_map, List.length_take]; exact Nat.min_le_left _ _) (fun j ws H' _ h => by rw [← h.2]; exact SqL.of ha3) ?_ ?_⟩
    · rintro j y ws H' pre hpl hyj ⟨rfl, rfl⟩
      have jl : j < g.length := by rw [← vl]; exact (List.getElem?_eq_some_iff.mp hyj).1
      have ex : g[j]? = some g[j] := List.getElem?_eq_getElem jl
      obtain ⟨p, rfl, hp⟩ := iv3.tu.2 j y (fN g[j]) hyj (by rw [List.getElem?_map, ex]; rfl)
      rcases pre with _ | ⟨q0, _ | ⟨q3, pre⟩⟩
      · cases hpl
      · refine ⟨⟨[some _], rfl, rfl⟩, ?_⟩
        unfold tYes
        dsimp only
        rw [if_pos (rfl : true = true)]
        refine ⟨_, rfl, p, _, 0, .int ((g[j] / 2 : Nat) : Int), rfl, rfl, SqT.of hp, rfl, ?_, rfl⟩
        rw [take_succ' ex, List.map_append, List.map_append]
        rfl
      · cases hpl
    rintro ws H' ⟨rfl, rfl⟩ E hE
    rw [vl, List.take_length]
    have s4 := Same.nw (o := .lst ((g.map (fun x => ((x / 2 : Nat) : Int))).map V.int)) (Same.refl H3) hE
    have fE : (upd H3 E (.lst ((g.map (fun x => ((x / 2 : Nat) : Int))).map V.int))) E = some (.lst ((g.map (fun x => ((x / 2 : Nat) : Int))).map V.int)) := upd_same
    generalize upd H3 E (.lst ((g.map (fun x => ((x / 2 : Nat) : Int))).map V.int)) = H4 at s4 fE ⊢
    refine ⟨E, _, rfl, SqL.of fE, fun z => dp.ne g mg (List.map_eq_nil_iff.mp z), fun mn hmn hle => ?_⟩
    obtain ⟨y0, hy0, rfl⟩ := List.mem_map.mp hmn
    have hl : ∀ y ∈ g, y0 / 2 ≤ y / 2 := fun y hy => by
      have := hle _ (List.mem_map.mpr ⟨y, hy, rfl⟩)
      omega
    have kp4 : ∀ a o, H1 a = some o → a ≠ D → H4 a = some o := fun q o e ne => s4 _ _ (kp3 q o e ne)
    have du4 : DuJ H4 D S.length (gs.take m) g [] dv := by
      rcases du3 with ⟨e, why⟩ | ⟨e, M, hM, lM, ok⟩
      · exact .inl ⟨e, .inl why⟩
      · exact .inr ⟨e, M, s4 _ _ hM, lM, ok, fun x hx => (by cases hx), fun _ x hx => (by cases hx)⟩
    refine ⟨_, rfl, a, rfl, ⟨_, SqL.of (kp4 _ _ ha1 naD)⟩, for_list (K := K) (a := a) (xs := vs) (fun j σ H' => ∃ (x8 : Option V) (dv : V), σ = [x0, x1, some (.ref b), x3, some (.ref c), some dv, some (.ref a), some (.int ((y0 / 2 : Nat) : Int)), x8, x9, x10, x11] ∧ (∀ a o, H1 a = some o → a ≠ D → H' a = some o) ∧ DuJ H' D S.length (gs.take m) g (g.take j) dv) ⟨_, dv, rfl, kp4, du4⟩ (fun j σ H' _ q => by obtain ⟨_, _, _, kp, _⟩ := q; exact SqL.of (kp _ _ ha1 naD)) ?_ ?_⟩
    · rintro j y σ H5 hyj ⟨x8', dv5, rfl, kp5, du5⟩
      have jl : j < g.length := by rw [← vl]; exact (List.getElem?_eq_some_iff.mp hyj).1
      have ex : g[j]? = some g[j] := List.getElem?_eq_getElem jl
      have mx : g[j] ∈ g := List.getElem_mem jl
      generalize g[j] = x at ex mx
      have t15 : Tups H1 H5 := fun q ts e => kp5 q _ e fun z => by rw [z, hD] at e; cases e
      obtain ⟨p, rfl, hp⟩ := (iv1.up t15).tu.2 j y (fN x) hyj (by rw [List.getElem?_map, ex]; rfl)
      refine thing46_reads (K := K) (hs := gs) (l := y0 / 2) dp (fun g' hg' => List.mem_of_mem_take hg') mg hl ⟨y0, hy0, rfl⟩ mx (fun y hy => List.mem_of_mem_take hy) (kp5 _ _ ha1 naD) (iv1.up t15) hp du5 fun dv' H' kp' du' => ⟨_, dv', rfl, fun q o e ne => kp' q o (kp5 q o e ne) ne, ?_⟩
      rw [take_succ' ex]
      exact du'
    · rintro σ H5 ⟨x8', dv5, rfl, kp5, du5⟩
      rw [vl, List.take_length] at du5
      refine ⟨_, _, _, dv5, rfl, kp5, ?_⟩
      rcases du5 with ⟨e, why⟩ | ⟨e, M, hM, lM, ok, nf, okg⟩
      · refine .inl ⟨e, ?_⟩
        rw [take_succ' eg]
        rcases why with ⟨g', hg', z⟩ | z
        · exact ⟨g', List.mem_append_left _ hg', z⟩
        · exact ⟨g, List.mem_append_right _ (by simp), z⟩
      · refine .inr ⟨e, M, hM, lM, fun g' hg' => ?_⟩
        rw [take_succ' eg] at hg'
        rcases List.mem_append.mp hg' with z | z
        · exact ok g' z
        · rw [List.mem_singleton] at z
          subst z
          exact ⟨fun ⟨x, hx, hf⟩ => nf x hx hf, okg⟩
  · rintro σ H3 ⟨x6, x7, x8, dv, rfl, kp3, du3⟩
    rw [zl, List.take_length] at du3
    have t13 : Tups H1 H3 := fun q ts e => kp3 q _ e fun z => by rw [z, hD] at e; cases e
    exact end46_reads (K := K) (kp3 _ _ hb1 nbD) ((tS.up s1.tups).up t13) oS (du3.due dp) k
end L2
set_option Elab.async false
set_option linter.all false
set_option maxRecDepth 100000
set_option maxHeartbeats 1000000
namespace Toy
open PySem L2 PyProof.Rows
structure Gb (mg : Str → Option Value) : Prop where
  ab : mg "abs" = none
  zp : mg "zip" = none
  en : mg "enumerate" = none
end Toy
namespace Toy
open PySem L2 PyProof.Rows
section
variable {P : Program} {w : World} {K : PySem.W.Frag} {mg : Str → Option Value} {base : Heap}
abbrev s_many_ties : Stmt := top 5
theorem sc_many_ties : FnScope ["sheet"] ["sheet"] (defScope s_many_ties) := ⟨rfl, rfl, rfl, by decide +kernel, rfl, by decide +kernel, by decide +kernel⟩
theorem ok_ties {f : Addr} {fd : FuncData} (F : Fun K "many_ties" "many_ties" s_many_ties f fd) (M : Txt mg) : FnOk P w K mg base CX0 1 f fd ["sheet"] (spTiesZ K) := by
  have sc := sc_many_ties
  refine F.ok sc (fun vs H Q E h => ?_) (fun cdv A outer s H vs Q E hr h => ?_)
  · obtain ⟨a, xs, rfl, _⟩ := h
    rfl
  · obtain ⟨a, xs, rfl, ha, k⟩ := h
    refine ⟨_, (pss_one (ps_ret (pe_op op_mul (pe_op op_fdivL (pe_callB (call_lenK (K := K)) (by rfl) M.len PySem.boot_len (pa_Name (pv 0) pa_nil)) pe_int) pe_int))), ?_⟩
    refine ⟨_, rfl, a, _, rfl, .inl ha, _, _, rfl, rfl, ⟨by decide, by decide⟩, ((xs.length : Nat) : Int) / 2, 3, rfl, rfl, .inr ⟨by decide, by decide⟩, ?_⟩
    have e : ((xs.length : Nat) : Int) / 2 * 3 = ((xs.length / 2 * 3 : Nat) : Int) := by omega
    show Q (V.int (((xs.length : Nat) : Int) / 2 * 3)) H
    rw [e]
    exact k
abbrev s_beside_each : Stmt := top 1
theorem sc_beside_each : FnScope ["n", "links", "beside", "one", "other"] ["n", "links"] (defScope s_beside_each) := ⟨rfl, rfl, rfl, by decide +kernel, rfl, by decide +kernel, by decide +kernel⟩
theorem ok_beside {f : Addr} {fd : FuncData} (F : Fun K "beside_each" "beside_each" s_beside_each f fd) (M : Txt mg) : FnOk P w K mg base CX0 1 f fd ["n", "links"] spBeside := by
  have sc := sc_beside_each
  refine F.ok sc (fun vs H Q E h => ?_) (fun cdv A outer s H vs Q E hr h => ?_)
  · obtain ⟨b, n, ps, L, rfl, _⟩ := h
    rfl
  · obtain ⟨b, n, ps, L, rfl, hb, tL, h1, h2, h3, k⟩ := h
    refine ⟨_, (pss_cons (ps_compG (xs := ["place"]) (Nb := ["n", "links", "beside", "one", "other"]) (pg_name (i := 2) sc.nd rfl (Or.inl rfl)) rfl rfl (pi_range1 rfl M.range (pa_Name (pv 0) pa_nil)) rfl (by show ∀ p ∈ (List.zip ["n", "links", "beside", "one", "other"] ["n", "links", "beside", "one", "other"] : List (Str × Str)), _; decide +kernel) (by decide +kernel) (fun cl C s₂ H₂ fp => (pg_name (i := 0) (by show List.Nodup (["place", "n", "links", "beside", "one", "other"] : List Str); decide +kernel) rfl (Or.inl (lookup_relabel_local rfl)) (Or.inr (lookup_relabel_local rfl)))) (fun cl C s₂ H₂ fp => pif_nil) (fun cl C s₂ H₂ fp => (pe_lst pa_nil)) (by decide +kernel) rfl (by decide +kernel) (by show ∀ y ∈ (_ : List (Str × NameKind)), y.2 = NameKind.free → (defScope s_beside_each).names.lookup y.1 = some .cell; decide +kernel))
      (pss_cons (ps_for PassesOwn.never rfl (pi_list (pv 1)) (pg_tup rfl (pgs_cons (pg_name (i := 3) sc.nd rfl (Or.inl rfl)) (pgs_cons (pg_name (i := 4) sc.nd rfl (Or.inl rfl)) pgs_nil)))
      (pss_cons (ps_expr (pe_bm PySem.F.plainAttrs_list PySem.F.slot_list_append PySem.F.type_list_append mt_append (pe_ix (ix_listK (K := K)) (pv 2) (pv 3) (fun _ _ => rfl)) (pa_Name (pv 4) pa_nil)))
      (pss_one (ps_expr (pe_bm PySem.F.plainAttrs_list PySem.F.slot_list_append PySem.F.type_list_append mt_append (pe_ix (ix_listK (K := K)) (pv 2) (pv 4) (fun _ _ => rfl)) (pa_Name (pv 3) pa_nil))))))
      (pss_one (ps_ret (pv 2))))), ?_⟩
    exact beside_reads (K := K) hb tL h1 h2 h3 k
abbrev s_room_from : Stmt := top 2
theorem sc_room_from : FnScope ["start", "beside", "is_seen", "room", "ahead", "place", "goal"] ["start", "beside", "is_seen"] (defScope s_room_from) := ⟨rfl, rfl, rfl, by decide +kernel, rfl, by decide +kernel, by decide +kernel⟩
theorem ok_room {f : Addr} {fd : FuncData} (F : Fun K "room_from" "room_from" s_room_from f fd) (M : Txt mg) : FnOk P w K mg base CX0 1 f fd ["start", "beside", "is_seen"] spRoom := by
  have sc := sc_room_from
  refine F.ok sc (fun vs H Q E h => ?_) (fun cdv A outer s H vs Q E hr h => ?_)
  · obtain ⟨bd, sn, n, i, zs, gs, D, b0, rfl, _⟩ := h
    rfl
  · obtain ⟨bd, sn, n, i, zs, gs, D, b0, rfl, h1, h2, h3, h4, h5, h6, h7, h8, h9, h10, h11, k⟩ := h
    refine ⟨_, (pss_cons (ps_asg pe_bl (pg_sub (pv 2) (pv 0) set_list))
      (pss_cons (ps_set (i := 3) sc.nd rfl (Or.inl rfl) (pe_lst (pa_Name (pv 0) pa_nil)))
      (pss_cons (ps_set (i := 4) sc.nd rfl (Or.inl rfl) (pe_lst (pa_Name (pv 0) pa_nil)))
      (pss_cons (ps_while PassesOwn.never (pt_truth (pv 4) (fun _ => rfl)) (pss_cons (ps_set (i := 5) sc.nd rfl (Or.inl rfl) (pe_bm0 PySem.F.plainAttrs_list PySem.F.slot_list_pop PySem.F.type_list_pop mt_pop (pv 4)))
      (pss_one (ps_for PassesOwn.never rfl (pi_list (pe_ix (ix_listK (K := K)) (pv 1) (pv 5) (fun _ _ => rfl))) (pg_name (i := 6) sc.nd rfl (Or.inl rfl))
      (pss_one (ps_if (pt_not (pt_val (pe_ix (ix_listK (K := K)) (pv 2) (pv 6) (fun _ _ => rfl)))) (pss_cons (ps_asg pe_bl (pg_sub (pv 2) (pv 6) set_list))
      (pss_cons (ps_expr (pe_bm PySem.F.plainAttrs_list PySem.F.slot_list_append PySem.F.type_list_append mt_append (pv 3) (pa_Name (pv 6) pa_nil)))
      (pss_one (ps_expr (pe_bm PySem.F.plainAttrs_list PySem.F.slot_list_append PySem.F.type_list_append mt_append (pv 4) (pa_Name (pv 6) pa_nil)))))) pss_nil))))))
      (pss_one (ps_ret (pe_callB call_sorted (by rfl) M.sorted boot_sorted (pa_Name (pv 3) pa_nil)))))))), ?_⟩
    exact room_reads (K := K) h1 h2 h3 h4 h5 h6 h7 h8 h9 h10 h11 k
abbrev s_linked : Stmt := top 3
theorem sc_linked : FnScope ["n", "links", "beside", "is_seen", "found", "place"] ["n", "links"] (defScope s_linked) := ⟨rfl, rfl, rfl, by decide +kernel, rfl, by decide +kernel, by decide +kernel⟩
theorem ok_linked {f : Addr} {fd : FuncData} (F : Fun K "linked" "linked" s_linked f fd) (M : Txt mg) (Gbeside_each : Kn P w K mg base "beside_each" 1 ["n", "links"] spBeside) (Groom_from : Kn P w K mg base "room_from" 1 ["start", "beside", "is_seen"] spRoom) : FnOk P w K mg base CX0 2 f fd ["n", "links"] spLinked := by
  have sc := sc_linked
  refine F.ok sc (fun vs H Q E h => ?_) (fun cdv A outer s H vs Q E hr h => ?_)
  · obtain ⟨b, n, ps, L, rfl, _⟩ := h
    rfl
  · obtain ⟨b, n, ps, L, rfl, hb, tL, h1, h2, h3, k⟩ := h
    refine ⟨_, (pss_cons (ps_set (i := 2) sc.nd rfl (Or.inl rfl) (pe_callD Gbeside_each hr rfl (pa_Name (pv 0) (pa_Name (pv 1) pa_nil))))
      (pss_cons (ps_set (i := 3) sc.nd rfl (Or.inl rfl) (pe_op op_rep (pe_lst (pa_Constant pe_bl pa_nil)) (pv 0)))
      (pss_cons (ps_set (i := 4) sc.nd rfl (Or.inl rfl) (pe_lst pa_nil))
      (pss_cons (ps_for PassesOwn.never rfl (pi_range1 rfl M.range (pa_Name (pv 0) pa_nil)) (pg_name (i := 5) sc.nd rfl (Or.inl rfl))
      (pss_one (ps_if (pt_not (pt_val (pe_ix (ix_listK (K := K)) (pv 3) (pv 5) (fun _ _ => rfl)))) (pss_one (ps_expr (pe_bm PySem.F.plainAttrs_list PySem.F.slot_list_append PySem.F.type_list_append mt_append (pv 4) (pa_Call (pe_callD Groom_from hr rfl (pa_Name (pv 5) (pa_Name (pv 2) (pa_Name (pv 3) pa_nil)))) pa_nil)))) pss_nil)))
      (pss_one (ps_ret (pv 4))))))), ?_⟩
    exact linked_reads (K := K) hb tL h1 h2 h3 k
abbrev s_glued_sides : Stmt := top 6
theorem sc_glued_sides : FnScope ["sheet", "glued", "at", "triangle", "place", "side"] ["sheet"] (defScope s_glued_sides) := ⟨rfl, rfl, rfl, by decide +kernel, rfl, by decide +kernel, by decide +kernel⟩
theorem ok_glued {f : Addr} {fd : FuncData} (F : Fun K "glued_sides" "glued_sides" s_glued_sides f fd) (M : Txt mg) (Gmany_ties : Kn P w K mg base "many_ties" 1 ["sheet"] (spTiesZ K)) (B : Gb mg) : FnOk P w K mg base CX0 2 f fd ["sheet"] spGluedI := by
  have sc := sc_glued_sides
  refine F.ok sc (fun vs H Q E h => ?_) (fun cdv A outer s H vs Q E hr h => ?_)
  · obtain ⟨b, xs, S, rfl, _⟩ := h
    rfl
  · obtain ⟨b, xs, S, rfl, hb, tS, oS, k⟩ := h
    refine ⟨_, (pss_cons (ps_compG (xs := ["tie"]) (Nb := ["sheet", "glued", "at", "triangle", "place", "side"]) (pg_name (i := 1) sc.nd rfl (Or.inl rfl)) rfl rfl (pi_range1 rfl M.range (pa_Call (pe_callD Gmany_ties hr rfl (pa_Name (pv 0) pa_nil)) pa_nil)) rfl (by show ∀ p ∈ (List.zip ["sheet", "glued", "at", "triangle", "place", "side"] ["sheet", "glued", "at", "triangle", "place", "side"] : List (Str × Str)), _; decide +kernel) (by decide +kernel) (fun cl C s₂ H₂ fp => (pg_name (i := 0) (by show List.Nodup (["tie", "sheet", "glued", "at", "triangle", "place", "side"] : List Str); decide +kernel) rfl (Or.inl (lookup_relabel_local rfl)) (Or.inr (lookup_relabel_local rfl)))) (fun cl C s₂ H₂ fp => pif_nil) (fun cl C s₂ H₂ fp => (pe_lst pa_nil)) (by decide +kernel) rfl (by decide +kernel) (by show ∀ y ∈ (_ : List (Str × NameKind)), y.2 = NameKind.free → (defScope s_glued_sides).names.lookup y.1 = some .cell; decide +kernel))
      (pss_cons (ps_for PassesOwn.never rfl (pi_enum rfl B.en (pa_Name (pv 0) pa_nil)) (pg_tup rfl (pgs_cons (pg_name (i := 2) sc.nd rfl (Or.inl rfl)) (pgs_cons (pg_name (i := 3) sc.nd rfl (Or.inl rfl)) pgs_nil)))
      (pss_one (ps_for PassesOwn.never rfl (pi_enumT rfl B.en (pa_Name (pv 3) pa_nil)) (pg_tup rfl (pgs_cons (pg_name (i := 4) sc.nd rfl (Or.inl rfl)) (pgs_cons (pg_name (i := 5) sc.nd rfl (Or.inl rfl)) pgs_nil)))
      (pss_one (ps_expr (pe_bm PySem.F.plainAttrs_list PySem.F.slot_list_append PySem.F.type_list_append mt_append (pe_ix (ix_listK (K := K)) (pv 1) (pe_op op_sub (pe_callB call_abs (by rfl) B.ab boot_abs (pa_Name (pv 5) pa_nil)) pe_int) (fun _ _ => rfl)) (pa_Tuple (pe_tup (pa_o2 (pv 2) (pv 4) pa_nil)) pa_nil)))))))
      (pss_one (ps_ret (pv 1))))), ?_⟩
    have lS := oS.len
    have lx : xs.length = S.length := tS.1
    have e7 : (((xs.length / 2 * 3 : Nat) : Int)).toNat = S.length / 2 * 3 := by rw [lx]; omega
    refine ⟨_, rfl, b, xs, rfl, SqL.of hb, ((xs.length / 2 * 3 : Nat) : Int), rfl, by omega, by omega, compR (lo := 0) (n := (((xs.length / 2 * 3 : Nat) : Int)).toNat) (fun i ys H' => LsL H' true ys (List.replicate i []) ∧ ys.Nodup ∧ Same H H' ∧ ∀ y ∈ ys, ∀ a, y = .ref a → H a = none) ⟨LsL.nil _ _, List.nodup_nil, Same.refl H, fun y hy => (by cases hy)⟩ (by omega) (fun i ys H' h => by rw [h.1.1, List.length_replicate]; exact Nat.le_refl _) ?_ ?_⟩
    · rintro i ys H1 pre hpre hi ⟨l1, nd1, s1, f1⟩
      rcases pre with _ | ⟨q0, _ | ⟨q1, pre⟩⟩
      · cases hpre
      · refine ⟨⟨[some _], rfl, rfl⟩, ?_⟩
        unfold tYes
        dsimp only
        rw [if_pos (rfl : true = true)]
        refine ⟨(by show 0 ≤ sizeLine; decide), fun p hp => ?_⟩
        have s2 := Same.nw (o := .lst []) (Same.refl H1) hp
        refine ⟨?_, ?_, s1.trans s2, fun y hy a e => ?_⟩
        · rw [List.replicate_succ']
          exact LsL.snoc (l1.up s2) upd_same (ItL.nil _ _)
        · rw [List.nodup_append]
          refine ⟨nd1, by simp, fun y hy z hz e => ?_⟩
          rw [List.mem_singleton.mp hz] at e
          obtain ⟨j, hj⟩ := List.mem_iff_getElem?.mp hy
          have jl := (List.getElem?_eq_some_iff.mp hj).1
          obtain ⟨a, xs', ea, ha, _⟩ := l1.2 j y _ hj (List.getElem?_eq_getElem (by rw [← l1.1]; exact jl))
          rw [ea] at e
          cases e
          rw [hp] at ha
          cases ha
        · rcases List.mem_append.mp hy with z | z
          · exact f1 y z a e
          · rw [List.mem_singleton.mp z] at e
            cases e
            exact s1.free hp
      · cases hpre
    rintro zs H1 ⟨l1, nd1, s1, f1⟩ c hc
    rw [e7] at l1
    have s2 := Same.nw (o := .lst zs) (Same.refl H1) hc
    have fc : (upd H1 c (.lst zs)) c = some (.lst zs) := upd_same
    have cf : H c = none := s1.free hc
    have zc : ∀ y ∈ zs, y ≠ .ref c := fun y hy e => by
      obtain ⟨j, hj⟩ := List.mem_iff_getElem?.mp hy
      have jl := (List.getElem?_eq_some_iff.mp hj).1
      obtain ⟨a, xs', ea, ha, _⟩ := l1.2 j y _ hj (List.getElem?_eq_getElem (by rw [← l1.1]; exact jl))
      rw [ea] at e
      cases e
      rw [hc] at ha
      cases ha
    generalize upd H1 c (.lst zs) = H2 at s2 fc ⊢
    have zl : zs.length = S.length / 2 * 3 := by rw [l1.1, List.length_replicate]
    have step : ∀ (H' : Hp) (gs : List (List (List Int))) (P : List (List Int × Int)) (at' pl : Nat) (sd : Int), 1 ≤ absI sd → absI sd ≤ ((S.length / 2 * 3 : Nat) : Int) → GlInv (S.length / 2 * 3) P gs → GlInv (S.length / 2 * 3) (P ++ [([(at' : Int), (pl : Int)], absI sd)]) (gs.set (absI sd - 1).toNat (glueOf P (absI sd - 1).toNat ++ [[(at' : Int), (pl : Int)]])) := fun H' gs P at' pl sd h1 h2 g => by
      have := g.put (u := [(at' : Int), (pl : Int)]) (k := (absI sd - 1).toNat) (by omega)
      rw [show (((absI sd - 1).toNat : Nat) : Int) + 1 = absI sd by omega] at this
      exact this
    refine ⟨_, rfl, b, rfl, ⟨_, SqL.of ((s1.trans s2) _ _ hb)⟩, for_enum (K := K) (a := b) (xs := xs) (fun i σ H' => ∃ (x2 x3 x4 x5 : Option V) (gs : List (List (List Int))), σ = [some (.ref b), some (.ref c), x2, x3, x4, x5] ∧ Same H H' ∧ H' c = some (.lst zs) ∧ LsL H' true zs gs ∧ GlInv (S.length / 2 * 3) (sidesF (S.take i)) gs) ⟨_, _, _, _, _, rfl, s1.trans s2, fc, l1.up s2, ⟨by rw [List.length_replicate], fun j hj => by rw [List.getElem?_replicate, if_pos hj]; rfl⟩⟩ (fun i σ H' _ h => by obtain ⟨_, _, _, _, _, _, s', _⟩ := h; exact SqL.of (s' _ _ hb)) ?_ ?_⟩
    · rintro i y σ H3 p hy ⟨x2, x3, x4, x5, gs, rfl, s3, hc3, l3, g3⟩ hp
      have s4 := Same.nw (o := .tup [.int (i : Int), y]) (Same.refl H3) hp
      have fp : (upd H3 p (.tup [.int (i : Int), y])) p = some (.tup [.int (i : Int), y]) := upd_same
      generalize upd H3 p (.tup [.int (i : Int), y]) = H4 at s4 fp ⊢
      have s04 := s3.trans s4
      obtain ⟨t, q, et, rfl, hq⟩ := (tS.up s04.tups).take hy
      have mt : t ∈ S := List.mem_of_getElem? et
      have t3 := oS.three t mt
      have il : i < S.length := (List.getElem?_eq_some_iff.mp et).1
      refine ⟨p, _, rfl, SqT.of fp, rfl, _, _, rfl, _, _, rfl, rfl, ?_⟩
      have pl36 : (sidesF (S.take i)).length ≤ 36 := by
        have h1 := congrArg List.length (sidesF_ties _ (S.take i) rfl)
        rw [List.length_map, List.length_map] at h1
        have h2 : ((S.take i).flatten).length ≤ S.flatten.length := by
          have := congrArg (fun l => (List.flatten l).length) (List.take_append_drop i S)
          simp only [List.flatten_append, List.length_append] at this
          omega
        have h3 := oS.ties.length_eq
        rw [List.length_map, pool_len] at h3
        omega
      refine ⟨_, rfl, q, rfl, ⟨_, SqT.of hq⟩, for_enumT (K := K) (a := q) (xs := t.map V.int) (fun j σ H' => ∃ (x4 x5 : Option V) (gs : List (List (List Int))), σ = [some (.ref b), some (.ref c), some (.int (i : Int)), some (.ref q), x4, x5] ∧ Same H H' ∧ Tups H4 H' ∧ H' c = some (.lst zs) ∧ LsL H' true zs gs ∧ GlInv (S.length / 2 * 3) (sidesF (S.take i) ++ (sideT i t).take j) gs) ⟨_, _, gs, rfl, s04, Tups.refl _, s4 _ _ hc3, l3.up s4, by rw [List.take_zero, List.append_nil]; exact g3⟩ (fun j σ H' _ h => by obtain ⟨_, _, _, _, _, t', _⟩ := h; exact SqT.of (t' _ _ hq)) ?_ ?_⟩
      · rintro j y' σ H5 p2 hy' ⟨x4, x5, gs, rfl, s5, t5, hc5, l5, g5⟩ hp2
        rw [List.getElem?_map] at hy'
        cases es : t[j]? with
        | none => rw [es] at hy'; cases hy'
        | some sd =>
          rw [es] at hy'
          cases hy'
          have sb := oS.side mt (List.mem_of_getElem? es)
          have s6 := Same.nw (o := .tup [.int (j : Int), .int sd]) (Same.refl H5) hp2
          have fp2 : (upd H5 p2 (.tup [.int (j : Int), .int sd])) p2 = some (.tup [.int (j : Int), .int sd]) := upd_same
          generalize upd H5 p2 (.tup [.int (j : Int), .int sd]) = H6 at s6 fp2 ⊢
          refine ⟨p2, _, rfl, SqT.of fp2, rfl, _, _, rfl, _, _, rfl, rfl, ?_⟩
          obtain ⟨kk, hkk⟩ : ∃ kk : Nat, absI sd - 1 = (kk : Int) := ⟨(absI sd - 1).toNat, by omega⟩
          have kz : kk < zs.length := by omega
          have ez : zs[kk]? = some zs[kk] := List.getElem?_eq_getElem kz
          have eg := g5.val kk (by omega)
          have l6 := l5.up s6
          obtain ⟨a, ax, ea, ha, ia⟩ := l6.2 kk _ _ ez eg
          rw [ea] at ez
          have nac : a ≠ c := fun z => zc _ (List.mem_of_getElem? ez) (by rw [z])
          have af : H a = none := f1 _ (List.mem_of_getElem? ez) a rfl
          have hc6 := s6 _ _ hc5
          have a1 : atI zs (absI sd - 1) = some (.ref a) := by rw [hkk]; exact atI_nat ez
          refine ⟨_, rfl, _, rfl, sd, rfl, _, _, rfl, rfl, c, zs, _, .ref a, rfl, rfl, SqL.of hc6, a1, .inl ⟨rfl, _, SqL.of ha⟩, _, rfl, _, rfl, (by show 2 ≤ sizeLine; decide), fun p3 hp3 => ?_⟩
          have s7 := Same.nw (o := .tup [.int (i : Int), .int (j : Int)]) (Same.refl H6) hp3
          have fp3 : (upd H6 p3 (.tup [.int (i : Int), .int (j : Int)])) p3 = some (.tup ([(i : Int), (j : Int)].map V.int)) := upd_same
          generalize upd H6 p3 (.tup [.int (i : Int), .int (j : Int)]) = H7 at s7 fp3 ⊢
          have ha7 := s7 _ _ ha
          have alen : ax.length ≤ 1000 := by
            rw [ia.1]
            unfold glueOf
            rw [List.length_map]
            refine Nat.le_trans (List.length_filter_le _ _) ?_
            rw [List.length_append, List.length_take, sideT_len]
            omega
          refine ⟨a, ax, _, rfl, rfl, ha7, Nat.lt_of_le_of_lt alen (by decide), ?_⟩
          have t67 : Tups H5 (upd H7 a (.lst (ax ++ [.ref p3]))) := (s6.trans s7).tups.trans (Tups.lst (Tups.refl H7) ha7)
          refine ⟨_, _, gs.set kk (glueOf (sidesF (S.take i) ++ (sideT i t).take j) kk ++ [[(i : Int), (j : Int)]]), rfl, (s5.trans (s6.trans s7)).ow af, t5.trans t67, by rw [upd_ne (Ne.symm nac)]; exact s7 _ _ hc6, LsL.put (l6.up s7) nd1 ez eg ha7 (.tup fp3), ?_⟩
          rw [take_succ' (sideT_at (i := i) es), ← List.append_assoc]
          have := step H7 gs _ i j sd sb.1 sb.2 g5
          rw [show (absI sd - 1).toNat = kk by omega] at this
          exact this
      · rintro σ H5 ⟨x4, x5, gs, rfl, s5, t5, hc5, l5, g5⟩
        refine ⟨_, _, _, _, gs, rfl, s5, hc5, l5, ?_⟩
        rw [take_succ' et, sidesF_snoc, List.length_take, Nat.min_eq_left (by omega)]
        rw [List.length_map, List.take_of_length_le (l := sideT i t) (by rw [sideT_len]; exact Nat.le_refl _)] at g5
        exact g5
    · rintro σ H3 ⟨x2, x3, x4, x5, gs, rfl, s3, hc3, l3, g3⟩
      rw [List.take_of_length_le (by omega)] at g3
      exact ⟨_, rfl, k c zs gs H3 s3 cf hc3 l3 g3⟩
abbrev s__law_heaps : Stmt := top 15
theorem sc__law_heaps : FnScope ["_law_things", "_law_pairs", "_law_heaps_here", "_law_left_out", "_law_heap", "_law_at", "_law_one", "_law_other", "_law_here", "_law_there"] ["_law_things", "_law_pairs"] (defScope s__law_heaps) := ⟨rfl, rfl, rfl, by decide +kernel, rfl, by decide +kernel, by decide +kernel⟩
theorem ok_heaps {f : Addr} {fd : FuncData} (F : Fun K "_law_heaps" "_law_heaps" s__law_heaps f fd) (M : Txt mg) : FnOk P w K mg base CX0 2 f fd ["_law_things", "_law_pairs"] spHeapsT := by
  have sc := sc__law_heaps
  refine F.ok sc (fun vs H Q E h => ?_) (fun cdv A outer s H vs Q E hr h => ?_)
  · obtain ⟨a, b, xs, ps, ts, L, rfl, _⟩ := h
    rfl
  · obtain ⟨a, b, xs, ps, ts, L, rfl, ha, iT, hb, iP, nd, sz, inT, k⟩ := h
    refine ⟨_, (pss_cons (ps_set (i := 2) sc.nd rfl (Or.inl rfl) (pe_lst pa_nil))
      (pss_cons (ps_set (i := 3) sc.nd rfl (Or.inl rfl) (pe_callTy call_list_of (by rfl) M.list boot_list (pa_Name (pv 0) pa_nil)))
      (pss_cons (ps_while PassesOwn.never (pt_cmpR (op_neD hr) (pv 3) (pe_lst pa_nil) (nomark _)) (pss_cons (ps_set (i := 4) sc.nd rfl (Or.inl rfl) (pe_lst (pa_Call (pe_bm PySem.F.plainAttrs_list PySem.F.slot_list_pop PySem.F.type_list_pop mt_popAt (pv 3) (pa_Constant pe_int pa_nil)) pa_nil)))
      (pss_cons (ps_set (i := 5) sc.nd rfl (Or.inl rfl) pe_int)
      (pss_cons (ps_while PassesOwn.never (pt_cmpR op_lt (pv 5) (pe_callB (call_lenK (K := K)) (by rfl) M.len PySem.boot_len (pa_Name (pv 4) pa_nil)) (nomark _)) (pss_cons (ps_for PassesOwn.never rfl (pi_list (pv 1)) (pg_tup rfl (pgs_cons (pg_name (i := 6) sc.nd rfl (Or.inl rfl)) (pgs_cons (pg_name (i := 7) sc.nd rfl (Or.inl rfl)) pgs_nil)))
      (pss_one (ps_for PassesOwn.never rfl (pi_tup (pe_tup (pa_o2 (pe_tup (pa_o2 (pv 6) (pv 7) pa_nil)) (pe_tup (pa_o2 (pv 7) (pv 6) pa_nil)) pa_nil))) (pg_tup rfl (pgs_cons (pg_name (i := 8) sc.nd rfl (Or.inl rfl)) (pgs_cons (pg_name (i := 9) sc.nd rfl (Or.inl rfl)) pgs_nil)))
      (pss_one (ps_if (PW.pt (pw_and (pt_cmpR (op_eqD hr) (pv 8) (pe_ix (ix_listK (K := K)) (pv 4) (pv 5) (fun _ _ => rfl)) (nomark _)) (pw_and1 (pt_cmpR (op_inC true hr) (pv 9) (pv 3) rfl)))) (pss_cons (ps_expr (pe_bm PySem.F.plainAttrs_list PySem.F.slot_list_remove PySem.F.type_list_remove (mt_remC true hr) (pv 3) (pa_Name (pv 9) pa_nil)))
      (pss_one (ps_expr (pe_bm PySem.F.plainAttrs_list PySem.F.slot_list_append PySem.F.type_list_append mt_append (pv 4) (pa_Name (pv 9) pa_nil))))) pss_nil)))))
      (pss_one (ps_set (i := 5) sc.nd rfl (Or.inl rfl) (pe_op op_add (pv 5) pe_int)))))
      (pss_one (ps_expr (pe_bm PySem.F.plainAttrs_list PySem.F.slot_list_append PySem.F.type_list_append mt_append (pv 2) (pa_Name (pv 4) pa_nil))))))))
      (pss_one (ps_ret (pv 2)))))), ?_⟩
    exact heaps_reads ha iT hb iP nd sz inT k
end
end Toy
set_option Elab.async false
set_option linter.all false
set_option maxRecDepth 100000
set_option maxHeartbeats 1000000
namespace Toy
open PySem L2 PyProof.Rows
section
variable {P : Program} {w : World} {K : PySem.W.Frag} {mg : Str → Option Value} {base : Heap}
abbrev s_like_signs : Stmt := top 7
theorem sc_like_signs : FnScope ["sheet", "signs"] ["sheet"] (defScope s_like_signs) := ⟨rfl, rfl, rfl, by decide +kernel, rfl, by decide +kernel, by decide +kernel⟩
set_option maxHeartbeats 4000000 in
theorem ok_likes {f : Addr} {fd : FuncData} (F : Fun K "like_signs" "like_signs" s_like_signs f fd) (M : Txt mg) (Gglued_sides : Kn P w K mg base "glued_sides" 2 ["sheet"] spGluedI) : FnOk P w K mg base CX0 3 f fd ["sheet"] spLikes := by
  have sc := sc_like_signs
  refine F.ok sc (fun vs H Q E h => ?_) (fun cdv A outer s H vs Q E hr h => ?_)
  · obtain ⟨b, xs, S, rfl, _⟩ := h
    rfl
  · obtain ⟨b, xs, S, rfl, h1, h2, h3, k⟩ := h
    refine ⟨_, (pss_cons (ps_compG (xs := ["both"]) (Nb := ["sheet", "signs"]) (pg_name (i := 1) sc.nd rfl (Or.inl rfl)) rfl rfl (pi_list (pe_callD Gglued_sides hr rfl (pa_Name (pv 0) pa_nil))) rfl (by show ∀ p ∈ (List.zip ["sheet", "signs"] ["sheet", "signs"] : List (Str × Str)), _; decide +kernel) (by decide +kernel) (fun cl C s₂ H₂ fp => (pg_name (i := 0) (by show List.Nodup (["both", "sheet", "signs"] : List Str); decide +kernel) rfl (Or.inl (lookup_relabel_local rfl)) (Or.inr (lookup_relabel_local rfl)))) (fun cl C s₂ H₂ fp => pif_nil) (fun cl C s₂ H₂ fp => (pe_compG (xs := ["at", "place"]) (Nb := ["both", "sheet", "signs"]) rfl (pi_listK (K := K) (pv 0)) rfl (by show ∀ p ∈ (List.zip ["both", "sheet", "signs"] ["both", "sheet", "signs"] : List (Str × Str)), _; decide +kernel) (by decide +kernel) (fun cl C s₂ H₂ fp => (pg_tupK (K := K) (n := 2) rfl (pgs_cons (pg_name (i := 0) (by show List.Nodup (["at", "place", "both", "sheet", "signs"] : List Str); decide +kernel) rfl (Or.inl (lookup_relabel_local rfl)) (Or.inr (lookup_relabel_local rfl))) (pgs_cons (pg_name (i := 1) (by show List.Nodup (["at", "place", "both", "sheet", "signs"] : List Str); decide +kernel) rfl (Or.inl (lookup_relabel_local rfl)) (Or.inr (lookup_relabel_local rfl))) pgs_nil)))) (fun cl C s₂ H₂ fp => pif_nil) (fun cl C s₂ H₂ fp => (pe_cmpR op_gt (pe_ix (ix_tupK (K := K)) (pe_ix (ix_listK (K := K)) (pv 3) (pv 0) (fun _ _ => rfl)) (pv 1) (fun _ _ => rfl)) pe_int (nomark _))) (by decide +kernel) rfl (by decide +kernel) (free_in (L := (defScope s_like_signs).names) rfl rfl (by decide +kernel)))) (by decide +kernel) rfl (by decide +kernel) (by show ∀ y ∈ (_ : List (Str × NameKind)), y.2 = NameKind.free → (defScope s_like_signs).names.lookup y.1 = some .cell; decide +kernel))
      (pss_one (ps_ret (pe_compG (xs := ["one", "other"]) (Nb := ["sheet", "signs"]) rfl (pi_list (pv 1)) rfl (by show ∀ p ∈ (List.zip ["sheet", "signs"] ["sheet", "signs"] : List (Str × Str)), _; decide +kernel) (by decide +kernel) (fun cl C s₂ H₂ fp => (pg_lstK (K := K) (n := 2) rfl (pgs_cons (pg_name (i := 0) (by show List.Nodup (["one", "other", "sheet", "signs"] : List Str); decide +kernel) rfl (Or.inl (lookup_relabel_local rfl)) (Or.inr (lookup_relabel_local rfl))) (pgs_cons (pg_name (i := 1) (by show List.Nodup (["one", "other", "sheet", "signs"] : List Str); decide +kernel) rfl (Or.inl (lookup_relabel_local rfl)) (Or.inr (lookup_relabel_local rfl))) pgs_nil)))) (fun cl C s₂ H₂ fp => pif_nil) (fun cl C s₂ H₂ fp => (pe_cmpR op_eq (pv 0) (pv 1) (nomark _))) (by decide +kernel) rfl (by decide +kernel) (by show ∀ y ∈ (_ : List (Str × NameKind)), y.2 = NameKind.free → (defScope s_like_signs).names.lookup y.1 = some .cell; decide +kernel))))), ?_⟩
    exact likes_reads (K := K) h1 h2 h3 k
abbrev s_marked : Stmt := top 8
theorem sc_marked : FnScope ["n", "links", "both", "one", "other", "are_unlike", "change", "marks", "room", "place"] ["n", "links"] (defScope s_marked) := ⟨rfl, rfl, rfl, by decide +kernel, rfl, by decide +kernel, by decide +kernel⟩
set_option maxHeartbeats 4000000 in
theorem ok_marked {f : Addr} {fd : FuncData} (F : Fun K "marked" "marked" s_marked f fd) (M : Txt mg) (Glinked : Kn P w K mg base "linked" 2 ["n", "links"] spLinked) : FnOk P w K mg base CX0 3 f fd ["n", "links"] spMarked := by
  have sc := sc_marked
  refine F.ok sc (fun vs H Q E h => ?_) (fun cdv A outer s H vs Q E hr h => ?_)
  · obtain ⟨l, n, ps, L, rfl, _⟩ := h
    rfl
  · obtain ⟨l, n, ps, L, rfl, h1, h2, h3, h4, h5, k1, k2⟩ := h
    refine ⟨_, (pss_cons (ps_set (i := 2) sc.nd rfl (Or.inl rfl) (pe_lst pa_nil))
      (pss_cons (ps_for PassesOwn.never rfl (pi_list (pv 1)) (pg_tup rfl (pgs_cons (pg_name (i := 3) sc.nd rfl (Or.inl rfl)) (pgs_cons (pg_name (i := 4) sc.nd rfl (Or.inl rfl)) (pgs_cons (pg_name (i := 5) sc.nd rfl (Or.inl rfl)) pgs_nil))))
      (pss_cons (ps_set (i := 6) sc.nd rfl (Or.inl rfl) (pe_ifExp (pt_val (pv 5)) pe_int pe_int))
      (pss_cons (ps_expr (pe_bm PySem.F.plainAttrs_list PySem.F.slot_list_append PySem.F.type_list_append mt_append (pv 2) (pa_Tuple (pe_tup (pa_o2 (pe_op op_mul pe_int (pv 3)) (pe_op op_add (pe_op op_mul pe_int (pv 4)) (pv 6)) pa_nil)) pa_nil)))
      (pss_one (ps_expr (pe_bm PySem.F.plainAttrs_list PySem.F.slot_list_append PySem.F.type_list_append mt_append (pv 2) (pa_Tuple (pe_tup (pa_o2 (pe_op op_add (pe_op op_mul pe_int (pv 3)) pe_int) (pe_op op_sub (pe_op op_add (pe_op op_mul pe_int (pv 4)) pe_int) (pv 6)) pa_nil)) pa_nil)))))))
      (pss_cons (ps_set (i := 7) sc.nd rfl (Or.inl rfl) (pe_op op_rep (pe_lst (pa_Constant pe_int pa_nil)) (pv 0)))
      (pss_cons (ps_for PassesOwn.never rfl (pi_list (pe_callD Glinked hr rfl (pa_BinOp (pe_op op_mul pe_int (pv 0)) (pa_Name (pv 2) pa_nil)))) (pg_name (i := 8) sc.nd rfl (Or.inl rfl))
      (pss_cons (ps_if (pt_cmpR op_lt (pe_lenComp rfl M.len (xs := ["place"]) (Nb := ["n", "links", "both", "one", "other", "are_unlike", "change", "marks", "room", ""]) rfl (pi_list (pv 8)) rfl (by show ∀ p ∈ (List.zip ["n", "links", "both", "one", "other", "are_unlike", "change", "marks", "room", ""] ["n", "links", "both", "one", "other", "are_unlike", "change", "marks", "room", "place"] : List (Str × Str)), _; decide +kernel) (by decide +kernel) (fun cl C s₂ H₂ fp => (pg_name (i := 0) (by show List.Nodup (["place", "n", "links", "both", "one", "other", "are_unlike", "change", "marks", "room", ""] : List Str); decide +kernel) rfl (Or.inl (lookup_relabel_local rfl)) (Or.inr (lookup_relabel_local rfl)))) (fun cl C s₂ H₂ fp => pif_nil) (fun cl C s₂ H₂ fp => (pe_op op_fdivL (pv 0) pe_int)) (by decide +kernel) rfl (by decide +kernel) (by show ∀ y ∈ (_ : List (Str × NameKind)), y.2 = NameKind.free → (defScope s_marked).names.lookup y.1 = some .cell; decide +kernel)) (pe_callB (call_lenK (K := K)) (by rfl) M.len PySem.boot_len (pa_Name (pv 8) pa_nil)) (nomark _)) (pss_one (ps_ret pe_non)) pss_nil)
      (pss_one (ps_if (pt_cmpR op_eq (pe_op op_mod (pe_ix (ix_listK (K := K)) (pv 8) pe_int (fun _ _ => rfl)) pe_int) pe_int (nomark _)) (pss_one (ps_for PassesOwn.never rfl (pi_list (pv 8)) (pg_name (i := 9) sc.nd rfl (Or.inl rfl))
      (pss_one (ps_asg (pe_op op_mod (pv 9) pe_int) (pg_sub (pv 7) (pe_op op_fdivL (pv 9) pe_int) set_list))))) pss_nil))))
      (pss_one (ps_ret (pv 7))))))), ?_⟩
    exact marked_reads (K := K) h1 h2 h3 h4 h5 k1 k2
abbrev s_faces : Stmt := top 9
theorem sc_faces : FnScope ["sheet", "likes", "links"] ["sheet"] (defScope s_faces) := ⟨rfl, rfl, rfl, by decide +kernel, rfl, by decide +kernel, by decide +kernel⟩
set_option maxHeartbeats 4000000 in
theorem ok_faces {f : Addr} {fd : FuncData} (F : Fun K "faces" "faces" s_faces f fd) (M : Txt mg) (Glike_signs : Kn P w K mg base "like_signs" 3 ["sheet"] spLikes) (Gglued_sides : Kn P w K mg base "glued_sides" 2 ["sheet"] spGluedI) (Gmarked : Kn P w K mg base "marked" 3 ["n", "links"] spMarked) (B : Gb mg) : FnOk P w K mg base CX0 4 f fd ["sheet"] spFaces := by
  have sc := sc_faces
  refine F.ok sc (fun vs H Q E h => ?_) (fun cdv A outer s H vs Q E hr h => ?_)
  · obtain ⟨b, xs, S, rfl, _⟩ := h
    rfl
  · obtain ⟨b, xs, S, rfl, h1, h2, h3, k1, k2⟩ := h
    refine ⟨_, (pss_cons (ps_set (i := 1) sc.nd rfl (Or.inr rfl) (pe_callD Glike_signs hr rfl (pa_Name (pv 0) pa_nil)))
      (pss_cons (ps_compG (xs := ["at", "one", "other"]) (Nb := ["sheet", "likes", "links"]) (pg_name (i := 2) sc.nd rfl (Or.inl rfl)) rfl rfl (pi_enum rfl B.en (pa_Call (pe_callD Gglued_sides hr rfl (pa_Name (pv 0) pa_nil)) pa_nil)) rfl (by show ∀ p ∈ (List.zip ["sheet", "likes", "links"] ["sheet", "likes", "links"] : List (Str × Str)), _; decide +kernel) (by decide +kernel) (fun cl C s₂ H₂ fp => (pg_tupK (K := K) (n := 2) rfl (pgs_cons (pg_name (i := 0) (by show List.Nodup (["at", "one", "other", "sheet", "likes", "links"] : List Str); decide +kernel) rfl (Or.inl (lookup_relabel_local rfl)) (Or.inr (lookup_relabel_local rfl))) (pgs_cons (pg_lstK (K := K) (n := 2) rfl (pgs_cons (pg_name (i := 1) (by show List.Nodup (["at", "one", "other", "sheet", "likes", "links"] : List Str); decide +kernel) rfl (Or.inl (lookup_relabel_local rfl)) (Or.inr (lookup_relabel_local rfl))) (pgs_cons (pg_name (i := 2) (by show List.Nodup (["at", "one", "other", "sheet", "likes", "links"] : List Str); decide +kernel) rfl (Or.inl (lookup_relabel_local rfl)) (Or.inr (lookup_relabel_local rfl))) pgs_nil))) pgs_nil)))) (fun cl C s₂ H₂ fp => pif_nil) (fun cl C s₂ H₂ fp => (pe_tup (pa_o3 (pe_ix (ix_tupK (K := K)) (pv 1) pe_int (fun _ _ => rfl)) (pe_ix (ix_tupK (K := K)) (pv 2) pe_int (fun _ _ => rfl)) (pe_ix (ix_listK (K := K)) (pv 4) (pv 0) (fun _ _ => rfl)) pa_nil))) (by decide +kernel) rfl (by decide +kernel) (by show ∀ y ∈ (_ : List (Str × NameKind)), y.2 = NameKind.free → (defScope s_faces).names.lookup y.1 = some .cell; decide +kernel))
      (pss_one (ps_ret (pe_callD Gmarked hr rfl (pa_Call (pe_callB (call_lenK (K := K)) (by rfl) M.len PySem.boot_len (pa_Name (pv 0) pa_nil)) (pa_Name (pv 2) pa_nil))))))), ?_⟩
    exact faces_reads (K := K) h1 h2 h3 k1 k2
abbrev s__law_glued : Stmt := top 16
theorem sc__law_glued : FnScope ["_law_sheet_here", "_law_found", "_law_tie", "_law_sides", "_law_at", "_law_triangle"] ["_law_sheet_here"] (defScope s__law_glued) := ⟨rfl, rfl, rfl, by decide +kernel, rfl, by decide +kernel, by decide +kernel⟩
set_option maxHeartbeats 4000000 in
theorem ok_lglued {f : Addr} {fd : FuncData} (F : Fun K "_law_glued" "_law_glued" s__law_glued f fd) (M : Txt mg) (B : Gb mg) : FnOk P w K mg base CX0 1 f fd ["_law_sheet_here"] spLGluedT := by
  have sc := sc__law_glued
  refine F.ok sc (fun vs H Q E h => ?_) (fun cdv A outer s H vs Q E hr h => ?_)
  · obtain ⟨b, xs, S, rfl, _⟩ := h
    rfl
  · obtain ⟨b, xs, S, rfl, h1, h2, h3, k⟩ := h
    refine ⟨_, (pss_cons (ps_set (i := 1) sc.nd rfl (Or.inl rfl) (pe_lst pa_nil))
      (pss_cons (ps_for PassesOwn.never rfl (pi_range2 rfl M.range (pa_Constant pe_int (pa_BinOp (pe_op op_add (pe_op op_fdivL (pe_op op_mul (pe_callB (call_lenK (K := K)) (by rfl) M.len PySem.boot_len (pa_Name (pv 0) pa_nil)) pe_int) pe_int) pe_int) pa_nil))) (pg_name (i := 2) sc.nd rfl (Or.inr rfl))
      (pss_cons (ps_set (i := 3) sc.nd rfl (Or.inl rfl) (pe_lst pa_nil))
      (pss_cons (ps_for PassesOwn.never rfl (pi_enum rfl B.en (pa_Name (pv 0) pa_nil)) (pg_tup rfl (pgs_cons (pg_name (i := 4) sc.nd rfl (Or.inr rfl)) (pgs_cons (pg_name (i := 5) sc.nd rfl (Or.inl rfl)) pgs_nil)))
      (pss_one (ps_set (i := 3) sc.nd rfl (Or.inl rfl) (pe_op op_cat (pv 3) (pe_compG (xs := ["_law_side"]) (Nb := ["_law_sheet_here", "_law_found", "_law_tie", "_law_sides", "_law_at", "_law_triangle"]) rfl (pi_tup (pv 5)) rfl (by show ∀ p ∈ (List.zip ["_law_sheet_here", "_law_found", "_law_tie", "_law_sides", "_law_at", "_law_triangle"] ["_law_sheet_here", "_law_found", "_law_tie", "_law_sides", "_law_at", "_law_triangle"] : List (Str × Str)), _; decide +kernel) (by decide +kernel) (fun cl C s₂ H₂ fp => (pg_name (i := 0) (by show List.Nodup (["_law_side", "_law_sheet_here", "_law_found", "_law_tie", "_law_sides", "_law_at", "_law_triangle"] : List Str); decide +kernel) rfl (Or.inl (lookup_relabel_local rfl)) (Or.inr (lookup_relabel_local rfl)))) (fun cl C s₂ H₂ fp => (pif_one (pt_cmpR op_eq (pe_callB call_abs (by rfl) B.ab boot_abs (pa_Name (pv 0) pa_nil)) (pv 3) (nomark _)))) (fun cl C s₂ H₂ fp => (pe_tup (pa_o2 (pv 5) (pv 0) pa_nil))) (by decide +kernel) rfl (by decide +kernel) (by show ∀ y ∈ (_ : List (Str × NameKind)), y.2 = NameKind.free → (defScope s__law_glued).names.lookup y.1 = some .cell; decide +kernel))))))
      (pss_one (ps_expr (pe_bm PySem.F.plainAttrs_list PySem.F.slot_list_append PySem.F.type_list_append mt_append (pv 1) (pa_Tuple (pe_tup (pa_o2 (pe_ix (ix_listK (K := K)) (pv 3) pe_int (fun _ _ => rfl)) (pe_ix (ix_listK (K := K)) (pv 3) pe_int (fun _ _ => rfl)) pa_nil)) pa_nil)))))))
      (pss_one (ps_ret (pv 1))))), ?_⟩
    exact lgluedT_reads (K := K) h1 h2 h3 k
abbrev s__law_righted : Stmt := top 18
theorem sc__law_righted : FnScope ["_law_sheet_here", "_law_seen", "_law_made", "_law_triangle", "_law_row", "_law_side"] ["_law_sheet_here"] (defScope s__law_righted) := ⟨rfl, rfl, rfl, by decide +kernel, rfl, by decide +kernel, by decide +kernel⟩
set_option maxHeartbeats 4000000 in
theorem ok_righted {f : Addr} {fd : FuncData} (F : Fun K "_law_righted" "_law_righted" s__law_righted f fd) (M : Txt mg) (B : Gb mg) : FnOk P w K mg base CX0 1 f fd ["_law_sheet_here"] spRighted := by
  have sc := sc__law_righted
  refine F.ok sc (fun vs H Q E h => ?_) (fun cdv A outer s H vs Q E hr h => ?_)
  · obtain ⟨b, xs, S, rfl, _⟩ := h
    rfl
  · obtain ⟨b, xs, S, rfl, h1, h2, h3, k⟩ := h
    refine ⟨_, (pss_cons (ps_set (i := 1) sc.nd rfl (Or.inl rfl) pe_dnewK)
      (pss_cons (ps_set (i := 2) sc.nd rfl (Or.inl rfl) (pe_lst pa_nil))
      (pss_cons (ps_for PassesOwn.never rfl (pi_list (pv 0)) (pg_name (i := 3) sc.nd rfl (Or.inl rfl))
      (pss_cons (ps_set (i := 4) sc.nd rfl (Or.inl rfl) (pe_lst pa_nil))
      (pss_cons (ps_for PassesOwn.never rfl (pi_tup (pv 3)) (pg_name (i := 5) sc.nd rfl (Or.inl rfl))
      (pss_cons (ps_expr (pe_bm PySem.F.plainAttrs_list PySem.F.slot_list_append PySem.F.type_list_append mt_append (pv 4) (pa_BinOp (pe_op op_mul (pe_callB call_abs (by rfl) B.ab boot_abs (pa_Name (pv 5) pa_nil)) (pe_op op_sub pe_int (pe_op op_mul pe_int (pe_callTy call_int1 (by rfl) M.int boot_int (pa_cons (pe_cmp (pc_din (hu_of hr) (pe_callB call_abs (by rfl) B.ab boot_abs (pa_Name (pv 5) pa_nil)) (pv 1))) pa_nil))))) pa_nil)))
      (pss_one (ps_dput (hu_of hr) (pv 1) (pe_callB call_abs (by rfl) B.ab boot_abs (pa_Name (pv 5) pa_nil)) pe_bl rfl))))
      (pss_one (ps_expr (pe_bm PySem.F.plainAttrs_list PySem.F.slot_list_append PySem.F.type_list_append mt_append (pv 2) (pa_Call (pe_callTy call_tuple_of (by rfl) M.tuple boot_tuple (pa_Name (pv 4) pa_nil)) pa_nil)))))))
      (pss_one (ps_ret (pv 2)))))), ?_⟩
    exact righted_reads (K := K) h1 h2 h3 k
abbrev s__law_double : Stmt := top 19
theorem sc__law_double : FnScope ["_law_sheet_here", "_law_pairs", "_law_one", "_law_two", "_law_way", "_law_far", "_law_things"] ["_law_sheet_here"] (defScope s__law_double) := ⟨rfl, rfl, rfl, by decide +kernel, rfl, by decide +kernel, by decide +kernel⟩
set_option maxHeartbeats 4000000 in
theorem ok_double {f : Addr} {fd : FuncData} (F : Fun K "_law_double" "_law_double" s__law_double f fd) (M : Txt mg) (G_law_glued : Kn P w K mg base "_law_glued" 1 ["_law_sheet_here"] spLGluedT) (G_law_heaps : Kn P w K mg base "_law_heaps" 2 ["_law_things", "_law_pairs"] spHeapsT) : FnOk P w K mg base CX0 3 f fd ["_law_sheet_here"] spDouble := by
  have sc := sc__law_double
  refine F.ok sc (fun vs H Q E h => ?_) (fun cdv A outer s H vs Q E hr h => ?_)
  · obtain ⟨b, xs, S, rfl, _⟩ := h
    rfl
  · obtain ⟨b, xs, S, rfl, h1, h2, h3, k⟩ := h
    refine ⟨_, (pss_cons (ps_set (i := 1) sc.nd rfl (Or.inl rfl) (pe_lst pa_nil))
      (pss_cons (ps_for PassesOwn.never rfl (pi_list (pe_callD G_law_glued hr rfl (pa_Name (pv 0) pa_nil))) (pg_tup rfl (pgs_cons (pg_name (i := 2) sc.nd rfl (Or.inl rfl)) (pgs_cons (pg_name (i := 3) sc.nd rfl (Or.inl rfl)) pgs_nil)))
      (pss_one (ps_for PassesOwn.never rfl (pi_range1 rfl M.range (pa_Constant pe_int pa_nil)) (pg_name (i := 4) sc.nd rfl (Or.inl rfl))
      (pss_cons (ps_set (i := 5) sc.nd rfl (Or.inl rfl) (pe_op op_mod (pe_op op_add (pv 4) (pe_callTy call_int1 (by rfl) M.int boot_int (pa_cons (pe_cmpR op_eq (pe_ix (ix_tupK (K := K)) (pv 2) pe_int (fun _ _ => rfl)) (pe_ix (ix_tupK (K := K)) (pv 3) pe_int (fun _ _ => rfl)) (nomark _)) pa_nil))) pe_int))
      (pss_one (ps_expr (pe_bm PySem.F.plainAttrs_list PySem.F.slot_list_append PySem.F.type_list_append mt_append (pv 1) (pa_Tuple (pe_tup (pa_o2 (pe_tup (pa_o2 (pe_ix (ix_tupK (K := K)) (pv 2) pe_int (fun _ _ => rfl)) (pv 4) pa_nil)) (pe_tup (pa_o2 (pe_ix (ix_tupK (K := K)) (pv 3) pe_int (fun _ _ => rfl)) (pv 5) pa_nil)) pa_nil)) pa_nil))))))))
      (pss_cons (ps_compG (xs := ["_law_k"]) (Nb := ["_law_sheet_here", "_law_pairs", "_law_one", "_law_two", "_law_way", "_law_far", "_law_things"]) (pg_name (i := 6) sc.nd rfl (Or.inl rfl)) rfl rfl (pi_range1 rfl M.range (pa_BinOp (pe_op op_mul pe_int (pe_callB (call_lenK (K := K)) (by rfl) M.len PySem.boot_len (pa_Name (pv 0) pa_nil))) pa_nil)) rfl (by show ∀ p ∈ (List.zip ["_law_sheet_here", "_law_pairs", "_law_one", "_law_two", "_law_way", "_law_far", "_law_things"] ["_law_sheet_here", "_law_pairs", "_law_one", "_law_two", "_law_way", "_law_far", "_law_things"] : List (Str × Str)), _; decide +kernel) (by decide +kernel) (fun cl C s₂ H₂ fp => (pg_name (i := 0) (by show List.Nodup (["_law_k", "_law_sheet_here", "_law_pairs", "_law_one", "_law_two", "_law_way", "_law_far", "_law_things"] : List Str); decide +kernel) rfl (Or.inl (lookup_relabel_local rfl)) (Or.inr (lookup_relabel_local rfl)))) (fun cl C s₂ H₂ fp => pif_nil) (fun cl C s₂ H₂ fp => (pe_tup (pa_o2 (pe_op op_fdivL (pv 0) pe_int) (pe_op op_mod (pv 0) pe_int) pa_nil))) (by decide +kernel) rfl (by decide +kernel) (by show ∀ y ∈ (_ : List (Str × NameKind)), y.2 = NameKind.free → (defScope s__law_double).names.lookup y.1 = some .cell; decide +kernel))
      (pss_one (ps_ret (pe_callD G_law_heaps hr rfl (pa_Name (pv 6) (pa_Name (pv 1) pa_nil)))))))), ?_⟩
    exact double_reads (K := K) h1 h2 h3 k
end
end Toy
set_option Elab.async false
set_option linter.all false
set_option maxRecDepth 100000
set_option maxHeartbeats 1000000
namespace Toy
open PySem L2 PyProof.Rows
def tLBeside (K : PySem.W.Frag) : TS := tSeq (tAsg (tOp (rI CDivL fun i j => V.int (i / j)) (tOp (rI CMul fun i j => V.int (i * j)) (tCB (fun xs H Q => ∃ p ys, xs = [V.ref p] ∧ (SqL K H p ys ∨ SqT K H p ys) ∧ Q (V.int ys.length) H) (tCons (tVar 0) tNil)) (tC (V.int 3))) (tC (V.int 2))) (gName 2)) (tSeq (tAsg (tCB (fun xs H_1 Q => ∃ p ys, xs = [V.ref p] ∧ (SqL K H_1 p ys ∨ SqT K H_1 p ys) ∧ ∀ (l : Addr), H_1 l = none → Q (V.ref l) (upd H_1 l (HO.lst ys))) (tCons (tVar 0) tNil)) (gName 3)) (tSeq (tFor (iList K (tVar 1)) (gName 4) (tDrop (tBM K "list" rAppend (tVar 3) (tCons (tCB (fun xs H_1 Q => ∃ p ys, xs = [V.ref p] ∧ ((SqL K H_1 p ys ∧ ∀ (l : Addr), H_1 l = none → Q (V.ref l) (upd H_1 l (HO.tup ys))) ∨ SqT K H_1 p ys ∧ Q (V.ref p) H_1)) (tCons (tCompG 1 (iTup K (tVar 4)) (gName 0) tYes (tOp (rI0 fun i j => V.int (i + j)) (tVar 0) (tOp (rI CMul fun i j => V.int (i * j)) (tVar 3) (tOp (rI0 fun i j => V.int (i - j)) (tC (V.int 1)) (tOp (rI CMul fun i j => V.int (i * j)) (tC (V.int 2)) (tCB (fun xs H Q => (∃ i, xs = [V.int i] ∧ Q (V.int i) H) ∨ ∃ k, xs = [V.bl k] ∧ Q (V.int (if k = true then 1 else 0)) H) (tCons (tOp (rI0 fun i j => V.bl (decide (i < j))) (tVar 0) (tC (V.int 0))) tNil))))))) tNil)) tNil)))) (tRet (tVar 3))))
def spLBeside : Sp := fun vs H Q _ => ∃ (b b2 : Addr) (xs ys : List V) (S T : List (List Int)), vs = [.ref b, .ref b2] ∧ H b = some (.lst xs) ∧ TuL H xs S ∧ ShOk S ∧ H b2 = some (.lst ys) ∧ TuL H ys T ∧ ShOk T ∧ ∀ (c : Addr) (zs : List V) (H' : Hp), Same H H' → H c = none → H' c = some (.lst zs) → TuL H' zs (bothS S T) → Q (.ref c) H'
set_option maxHeartbeats 4000000 in
theorem lbeside_reads {K : PySem.W.Frag} {H : Hp} {Q : VK} {Z : L2.St → Hp → Prop} {b b2 : Addr} {xs ys : List V} {S T : List (List Int)} (hb : H b = some (.lst xs)) (tS : TuL H xs S) (oS : ShOk S) (hb2 : H b2 = some (.lst ys)) (tT : TuL H ys T) (oT : ShOk T)
    (k : ∀ (c : Addr) (zs : List V) (H' : Hp), Same H H' → H c = none → H' c = some (.lst zs) → TuL H' zs (bothS S T) → Q (.ref c) H') : tLBeside K { nx := Z, rt := Q } [some (.ref b), some (.ref b2), none, none, none] H := by
  have lS := oS.len
  have lT := oT.len
  have lx : xs.length = S.length := tS.1
  have ly : ys.length = T.length := tT.1
  have ef : ((xs.length : Nat) : Int) * 3 / 2 = ((S.length / 2 * 3 : Nat) : Int) := by rw [lx]; omega
  refine ⟨_, rfl, b, xs, rfl, .inl (SqL.of hb), _, 3, rfl, rfl, .inr ⟨by decide, by decide⟩, _, 2, rfl, rfl, ⟨by decide, by decide⟩, _, rfl, b, xs, rfl, .inl (SqL.of hb), fun l hl => ?_⟩
  have s1 := Same.nw (o := .lst xs) (Same.refl H) hl
  have fl : (upd H l (.lst xs)) l = some (.lst xs) := upd_same
  generalize upd H l (.lst xs) = H1 at s1 fl ⊢
  refine ⟨_, rfl, b2, rfl, ⟨_, SqL.of (s1 _ _ hb2)⟩, for_list (K := K) (a := b2) (xs := ys) (fun i σ H' => ∃ (x4 : Option V) (zs : List V), σ = [some (.ref b), some (.ref b2), some (.int (((xs.length : Nat) : Int) * 3 / 2)), some (.ref l), x4] ∧ Same H H' ∧ H' l = some (.lst zs) ∧ TuL H' zs (S ++ (T.take i).map (List.map (shiftS (((xs.length : Nat) : Int) * 3 / 2))))) ⟨_, xs, rfl, s1, fl, by simpa using tS.up s1.tups⟩ (fun i σ H' _ h => by obtain ⟨_, _, _, s', _⟩ := h; exact SqL.of (s' _ _ hb2)) ?_ ?_⟩
  · rintro i y σ H2 hy ⟨x4, zs, rfl, s2, hl2, t2⟩
    obtain ⟨t, q, et, rfl, hq⟩ := (tT.up s2.tups).take hy
    have mt : t ∈ T := List.mem_of_getElem? et
    have il : i < T.length := (List.getElem?_eq_some_iff.mp et).1
    have t3 := oT.three t mt
    have zl : zs.length ≤ 24 := by rw [t2.1, List.length_append, List.length_map, List.length_take]; omega
    refine ⟨_, rfl, .inl ⟨rfl, _, SqL.of hl2⟩, _, rfl, q, rfl, ⟨_, SqT.of hq⟩, compT (K := K) (a := q) (xs := t.map V.int) (fun m vs H' => vs = ((t.take m).map (shiftS (((xs.length : Nat) : Int) * 3 / 2))).map V.int ∧ H2 = H') ⟨rfl, rfl⟩ (by rw [List.length_map]; omega) (fun m vs H' h => by rw [h.1, List.length_map, List.length_map, List.length_take]; exact Nat.min_le_left _ _) (fun m vs H' _ h => by rw [← h.2]; exact SqT.of hq) ?_ ?_⟩
    · rintro m z vs H3 pre hpl hz ⟨rfl, rfl⟩
      rw [List.getElem?_map] at hz
      cases ez : t[m]? with
      | none => rw [ez] at hz; cases hz
      | some sd =>
        rw [ez] at hz
        cases hz
        rcases pre with _ | ⟨q0, _ | ⟨q1, pre⟩⟩
        · cases hpl
        · refine ⟨⟨[some _], rfl, rfl⟩, ?_⟩
          unfold tYes
          dsimp only
          rw [if_pos (rfl : true = true)]
          refine ⟨_, rfl, _, rfl, _, rfl, _, _, rfl, rfl, .inr ⟨_, rfl, 2, _, rfl, rfl, .inl ⟨by decide, by decide⟩, 1, _, rfl, rfl, _, _, rfl, rfl, .inl ⟨by omega, by omega⟩, _, _, rfl, rfl, ?_, rfl⟩⟩
          rw [take_succ' ez, List.map_append, List.map_append]
          have : shiftS (((xs.length : Nat) : Int) * 3 / 2) sd = sd + ((xs.length : Nat) : Int) * 3 / 2 * (1 - 2 * (if decide (sd < 0) = true then 1 else 0)) := by unfold shiftS; simp
          simp only [List.map_cons, List.map_nil, this]
        · cases hpl
    · rintro vs H3 ⟨rfl, rfl⟩ D hD
      rw [List.length_map, List.take_of_length_le (Nat.le_refl _)]
      have s3 := Same.nw (o := .lst ((t.map (shiftS (((xs.length : Nat) : Int) * 3 / 2))).map V.int)) (Same.refl H2) hD
      have fD : (upd H2 D (.lst ((t.map (shiftS (((xs.length : Nat) : Int) * 3 / 2))).map V.int))) D = some (.lst ((t.map (shiftS (((xs.length : Nat) : Int) * 3 / 2))).map V.int)) := upd_same
      generalize upd H2 D (.lst ((t.map (shiftS (((xs.length : Nat) : Int) * 3 / 2))).map V.int)) = H3 at s3 fD ⊢
      refine ⟨D, _, rfl, .inl ⟨SqL.of fD, fun u hu => ?_⟩⟩
      have s4 := Same.nw (o := .tup ((t.map (shiftS (((xs.length : Nat) : Int) * 3 / 2))).map V.int)) (Same.refl H3) hu
      have fu : (upd H3 u (.tup ((t.map (shiftS (((xs.length : Nat) : Int) * 3 / 2))).map V.int))) u = some (.tup ((t.map (shiftS (((xs.length : Nat) : Int) * 3 / 2))).map V.int)) := upd_same
      generalize upd H3 u (.tup ((t.map (shiftS (((xs.length : Nat) : Int) * 3 / 2))).map V.int)) = H4 at s4 fu ⊢
      have s24 := s3.trans s4
      have hl4 := s24 _ _ hl2
      refine ⟨l, zs, .ref u, rfl, rfl, hl4, Nat.lt_of_le_of_lt (show zs.length ≤ 24 from zl) (by decide), ?_⟩
      refine ⟨_, zs ++ [.ref u], rfl, (s2.trans s24).ow hl, upd_same, ?_⟩
      rw [take_succ' et, List.map_append, ← List.append_assoc]
      exact TuL.up (TuL.snoc (t2.up s24.tups) fu) (Tups.lst (Tups.refl H4) hl4)
  · rintro σ H2 ⟨x4, zs, rfl, s2, hl2, t2⟩
    rw [List.take_of_length_le (by omega), ef] at t2
    exact ⟨_, rfl, k l zs H2 s2 hl hl2 t2⟩
end Toy
namespace Toy
open PySem L2 PyProof.Rows
section
variable {P : Program} {w : World} {K : PySem.W.Frag} {mg : Str → Option Value} {base : Heap}
abbrev s__law_beside : Stmt := top 17
theorem sc__law_beside : FnScope ["_law_sheet_here", "_law_other", "_law_far", "_law_made", "_law_triangle"] ["_law_sheet_here", "_law_other"] (defScope s__law_beside) := ⟨rfl, rfl, rfl, by decide +kernel, rfl, by decide +kernel, by decide +kernel⟩
theorem ok_lbeside {f : Addr} {fd : FuncData} (F : Fun K "_law_beside" "_law_beside" s__law_beside f fd) (M : Txt mg) : FnOk P w K mg base CX0 1 f fd ["_law_sheet_here", "_law_other"] spLBeside := by
  have sc := sc__law_beside
  refine F.ok sc (fun vs H Q E h => ?_) (fun cdv A outer s H vs Q E hr h => ?_)
  · obtain ⟨b, b2, xs, ys, S, T, rfl, _⟩ := h
    rfl
  · obtain ⟨b, b2, xs, ys, S, T, rfl, h1, h2, h3, h4, h5, h6, k⟩ := h
    refine ⟨_, (pss_cons (ps_set (i := 2) sc.nd rfl (Or.inr rfl) (pe_op op_fdivL (pe_op op_mul (pe_callB (call_lenK (K := K)) (by rfl) M.len PySem.boot_len (pa_Name (pv 0) pa_nil)) pe_int) pe_int))
      (pss_cons (ps_set (i := 3) sc.nd rfl (Or.inl rfl) (pe_callTy call_list_of (by rfl) M.list boot_list (pa_Name (pv 0) pa_nil)))
      (pss_cons (ps_for PassesOwn.never rfl (pi_list (pv 1)) (pg_name (i := 4) sc.nd rfl (Or.inl rfl))
      (pss_one (ps_expr (pe_bm PySem.F.plainAttrs_list PySem.F.slot_list_append PySem.F.type_list_append mt_append (pv 3) (pa_Call (pe_callTy call_tuple_of (by rfl) M.tuple boot_tuple (pa_cons (pe_compG (xs := ["_law_side"]) (Nb := ["_law_sheet_here", "_law_other", "_law_far", "_law_made", "_law_triangle"]) rfl (pi_tup (pv 4)) rfl (by show ∀ p ∈ (List.zip ["_law_sheet_here", "_law_other", "_law_far", "_law_made", "_law_triangle"] ["_law_sheet_here", "_law_other", "_law_far", "_law_made", "_law_triangle"] : List (Str × Str)), _; decide +kernel) (by decide +kernel) (fun cl C s₂ H₂ fp => (pg_name (i := 0) (by show List.Nodup (["_law_side", "_law_sheet_here", "_law_other", "_law_far", "_law_made", "_law_triangle"] : List Str); decide +kernel) rfl (Or.inl (lookup_relabel_local rfl)) (Or.inr (lookup_relabel_local rfl)))) (fun cl C s₂ H₂ fp => pif_nil) (fun cl C s₂ H₂ fp => (pe_op op_add (pv 0) (pe_op op_mul (pv 3) (pe_op op_sub pe_int (pe_op op_mul pe_int (pe_callTy call_int1 (by rfl) M.int boot_int (pa_cons (pe_cmpR op_lt (pv 0) pe_int (nomark _)) pa_nil))))))) (by decide +kernel) rfl (by decide +kernel) (by show ∀ y ∈ (_ : List (Str × NameKind)), y.2 = NameKind.free → (defScope s__law_beside).names.lookup y.1 = some .cell; decide +kernel)) pa_nil)) pa_nil)))))
      (pss_one (ps_ret (pv 3)))))), ?_⟩
    exact lbeside_reads (K := K) h1 h2 h3 h4 h5 h6 k
end
end Toy
namespace Toy
open PySem L2 PyProof.Rows
def tRight46 (K : PySem.W.Frag) : TS := (tSeq (tIfS (tTest (tOp rEq (tCall spDigit [] E0 (tCons (tVar 1) (tCons (tC (V.int 2)) tNil))) (tC (V.int 1)))) (tAsg (tCall spRighted [] E0 (tCons (tVar 2) tNil)) (gName 2)) tNext) (tMid46 K))
theorem right46_reads {K : PySem.W.Frag} {H : Hp} {Q : VK} {Z : L2.St → Hp → Prop} {b d : Addr} {xs : List V} {S : List (List Int)} {x0 x3 x4 x5 x6 x7 x8 x9 x10 x11 : Option V} (hb : H b = some (.lst xs)) (tS : TuL H xs S) (oS : ShOk S) (R : Rest H d) (nbd : b ≠ d) (k : ∀ H', Q (.bl true) H') :
    tRight46 K { nx := Z, rt := Q } [x0, some (.ref d), some (.ref b), x3, x4, x5, x6, x7, x8, x9, x10, x11] H := by
  refine ⟨_, rfl, d, 2, rfl, R, by decide, dg (by decide), fun r H1 r0 r1 R1 B1 => ⟨rfl, _, rfl, ite2 (fun _ => ?_) (fun _ => ?_)⟩⟩
  · exact ⟨_, rfl, b, xs, S, rfl, B1 _ _ hb nbd, tS.up (But.tupsR B1 R), oS, fun c zs S' H2 s2 cf hc tc oS' => mid46_reads (K := K) hc tc oS' k⟩
  · exact mid46_reads (K := K) (B1 _ _ hb nbd) (tS.up (But.tupsR B1 R)) oS k
def tLaw46 (K : PySem.W.Frag) : TS := tSeq (tAsg (tLst (tCons (tCall (spBig K) [] E0 (tCons (tVar 0) (tCons (tC (V.int 0)) tNil))) tNil)) (gName 1)) (tSeq (tAsg (tCall spSheet [] E0 (tCons (tVar 1) tNil)) (gName 2)) (tSeq (tAsg (tCall spSheet [] E0 (tCons (tLst (tCons (tCall (spBig K) [] E0 (tCons (tVar 0) (tCons (tC (V.int 1)) tNil))) tNil)) tNil)) (gName 3)) (tSeq (tIfS (tAnd (tTest (tOp rEq (tCall spDigit [] E0 (tCons (tVar 1) (tCons (tC (V.int 4)) tNil))) (tC (V.int 1)))) (tTest (tOp (rI0 fun i j => V.bl (decide (i ≤ j))) (tOp (rI0 fun i j => V.int (i + j)) (tCB (fun xs H Q => ∃ p ys, xs = [V.ref p] ∧ (SqL K H p ys ∨ SqT K H p ys) ∧ Q (V.int ys.length) H) (tCons (tVar 2) tNil)) (tCB (fun xs H Q => ∃ p ys, xs = [V.ref p] ∧ (SqL K H p ys ∨ SqT K H p ys) ∧ Q (V.int ys.length) H) (tCons (tVar 3) tNil))) (tC (V.int 12))))) (tAsg (tCall spLBeside [] E0 (tCons (tVar 2) (tCons (tVar 3) tNil))) (gName 2)) tNext) (tRight46 K))))
set_option maxHeartbeats 4000000 in
theorem law_reads {K : PySem.W.Frag} {H : Hp} {Q : VK} {Z : L2.St → Hp → Prop} {a : Addr} {ns : List Int} (hS : SqL K H a (ns.map V.int)) (k : ∀ H', Q (.bl true) H') :
    tLaw46 K { nx := Z, rt := Q } [some (.ref a), none, none, none, none, none, none, none, none, none, none, none] H := by
  refine ⟨_, rfl, a, ns, 0, rfl, hS, by decide, fun n H1 S1 => ⟨(by show 1 ≤ sizeLine; decide), fun d hd => ?_⟩⟩
  have R2 : Rest (upd H1 d (.lst [.int n])) d := ⟨n, upd_same⟩
  have s2 := Same.nw (o := .lst [.int n]) (Same.refl H1) hd
  generalize upd H1 d (.lst [.int n]) = H2 at R2 s2 ⊢
  refine ⟨_, rfl, d, rfl, R2, fun b xs S H3 bf hb tS oS R3 B3 => ?_⟩
  have nbd : b ≠ d := fun z => by
    obtain ⟨m, e⟩ := R2
    rw [z, e] at bf
    cases bf
  have hS3 : SqL K H3 a (ns.map V.int) := by
    rcases S1.seq hS with (h | ⟨o, h⟩) | h
    · exact .inl (.inl (B3 _ _ (s2 _ _ h) (ne_of_none h hd)))
    · exact .inl (.inr ⟨o, B3 _ _ (s2 _ _ h) (ne_of_none h hd)⟩)
    · exact .inr h
  refine ⟨_, rfl, a, ns, 1, rfl, hS3, by decide, fun n2 H4 S4 => ⟨(by show 1 ≤ sizeLine; decide), fun d2 hd2 => ?_⟩⟩
  have R4 := R3.same S4
  have ndd : d ≠ d2 := fun z => by
    obtain ⟨m, e⟩ := R4
    rw [z, hd2] at e
    cases e
  have nb2 : b ≠ d2 := ne_of_none (S4 _ _ hb) hd2
  have R5 : Rest (upd H4 d2 (.lst [.int n2])) d2 := ⟨n2, upd_same⟩
  have s5 := Same.nw (o := .lst [.int n2]) (Same.refl H4) hd2
  generalize upd H4 d2 (.lst [.int n2]) = H5 at R5 s5 ⊢
  have R5' := R4.same s5
  refine ⟨d2, rfl, R5, fun b2 ys T H6 bf2 hb2 tT oT R6 B6 => ?_⟩
  have nb2d : b2 ≠ d := fun z => by
    obtain ⟨m, e⟩ := R5'
    rw [z, e] at bf2
    cases bf2
  have R6' : Rest H6 d := by
    obtain ⟨m, e⟩ := R5'
    exact ⟨m, B6 _ _ e ndd⟩
  have hb6 := B6 _ _ (s5 _ _ (S4 _ _ hb)) nb2
  have tS6 := ((tS.up S4.tups).up s5.tups).up (But.tupsR B6 R5)
  refine ⟨_, rfl, d, 4, rfl, R6', by decide, dg (by decide), fun r H7 r0 r1 R7 B7 => ⟨rfl, _, rfl, ite2 (fun _ => ?_) (fun _ => ?_)⟩⟩
  · have hb7 := B7 _ _ hb6 nbd
    have hb27 := B7 _ _ hb2 nb2d
    have tS7 := tS6.up (But.tupsR B7 R6')
    have tT7 := tT.up (But.tupsR B7 R6')
    refine ⟨_, rfl, b, xs, rfl, .inl (SqL.of hb7), _, rfl, b2, ys, rfl, .inl (SqL.of hb27), _, _, rfl, rfl, _, _, rfl, rfl, _, rfl, ite2 (fun h => ?_) (fun _ => ?_)⟩
    · have hle : S.length + T.length ≤ 12 := by
        have := of_decide_eq_true h
        have h1 := tS.1
        have h2 := tT.1
        omega
      exact ⟨_, rfl, _, rfl, b, b2, xs, ys, S, T, rfl, hb7, tS7, oS, hb27, tT7, oT, fun c zs H8 s8 cf hc tc => right46_reads hc tc (both_ok oS oT hle) (R7.same s8) (fun z => by obtain ⟨m, e⟩ := R7; rw [z, e] at cf; cases cf) k⟩
    · exact right46_reads hb7 tS7 oS R7 nbd k
  · refine iteF ?_
    exact right46_reads (B7 _ _ hb6 nbd) (tS6.up (But.tupsR B7 R6')) oS R7 nbd k
end Toy
set_option Elab.async false
set_option linter.all false
set_option maxRecDepth 100000
set_option maxHeartbeats 1000000
namespace Toy
open PySem L2 PyProof.Rows
section
variable {P : Program} {w : World} {K : PySem.W.Frag} {mg : Str → Option Value} {base : Heap}
def spLaw (K : PySem.W.Frag) : Sp := fun vs H Q _ => ∃ (a : Addr) (ns : List Int), vs = [.ref a] ∧ SqL K H a (ns.map V.int) ∧ ns.length ≤ 63 ∧ ∀ H', Q (.bl true) H'
abbrev s_law : Stmt := top 20
theorem sc_law : FnScope ["_law_script", "_law_rest", "_law_sheet_here", "_law_other", "_law_heaps_here", "_law_due", "_law_heap", "_law_least", "_law_thing", "_law_handed", "_law_turn", "_law_told"] ["_law_script"] (defScope s_law) := ⟨rfl, rfl, rfl, by decide +kernel, rfl, by decide +kernel, by decide +kernel⟩
set_option maxHeartbeats 8000000 in
theorem ok_law {f : Addr} {fd : FuncData} (F : Fun K "law" "law" s_law f fd) (M : Txt mg) (G_law_big : Kn P w K mg base "_law_big" 2 ["_law_script", "_law_at"] (spBig K)) (G_law_sheet : Kn P w K mg base "_law_sheet" 2 ["_law_rest"] spSheet) (G_law_digit : Kn P w K mg base "_law_digit" 1 ["_law_rest", "_law_many"] spDigit) (G_law_beside : Kn P w K mg base "_law_beside" 1 ["_law_sheet_here", "_law_other"] spLBeside) (G_law_righted : Kn P w K mg base "_law_righted" 1 ["_law_sheet_here"] spRighted) (G_law_double : Kn P w K mg base "_law_double" 3 ["_law_sheet_here"] spDouble) (Gfaces : Kn P w K mg base "faces" 4 ["sheet"] spFaces) : FnOk P w K mg base CX0 5 f fd ["_law_script"] (spLaw K) := by
  have sc := sc_law
  refine F.ok sc (fun vs H Q E h => ?_) (fun cdv A outer s H vs Q E hr h => ?_)
  · obtain ⟨a, ns, rfl, _⟩ := h
    rfl
  · obtain ⟨a, ns, rfl, hS, hl, k⟩ := h
    refine ⟨_, (pss_cons (ps_set (i := 1) sc.nd rfl (Or.inl rfl) (pe_lst (pa_Call (pe_callD G_law_big hr rfl (pa_Name (pv 0) (pa_Constant pe_int pa_nil))) pa_nil)))
      (pss_cons (ps_set (i := 2) sc.nd rfl (Or.inl rfl) (pe_callD G_law_sheet hr rfl (pa_Name (pv 1) pa_nil)))
      (pss_cons (ps_set (i := 3) sc.nd rfl (Or.inl rfl) (pe_callD G_law_sheet hr rfl (pa_List (pe_lst (pa_Call (pe_callD G_law_big hr rfl (pa_Name (pv 0) (pa_Constant pe_int pa_nil))) pa_nil)) pa_nil)))
      (pss_cons (ps_if (PW.pt (pw_and (pt_cmpR op_eq (pe_callD G_law_digit hr rfl (pa_Name (pv 1) (pa_Constant pe_int pa_nil))) pe_int (nomark _)) (pw_and1 (pt_cmpR op_le (pe_op op_add (pe_callB (call_lenK (K := K)) (by rfl) M.len PySem.boot_len (pa_Name (pv 2) pa_nil)) (pe_callB (call_lenK (K := K)) (by rfl) M.len PySem.boot_len (pa_Name (pv 3) pa_nil))) pe_int (nomark _))))) (pss_one (ps_set (i := 2) sc.nd rfl (Or.inl rfl) (pe_callD G_law_beside hr rfl (pa_Name (pv 2) (pa_Name (pv 3) pa_nil))))) pss_nil)
      (pss_cons (ps_if (pt_cmpR op_eq (pe_callD G_law_digit hr rfl (pa_Name (pv 1) (pa_Constant pe_int pa_nil))) pe_int (nomark _)) (pss_one (ps_set (i := 2) sc.nd rfl (Or.inl rfl) (pe_callD G_law_righted hr rfl (pa_Name (pv 2) pa_nil)))) pss_nil)
      (pss_cons (ps_set (i := 4) sc.nd rfl (Or.inl rfl) (pe_callD G_law_double hr rfl (pa_Name (pv 2) pa_nil)))
      (pss_cons (ps_compG (xs := ["_law_triangle"]) (Nb := ["_law_script", "_law_rest", "_law_sheet_here", "_law_other", "_law_heaps_here", "_law_due", "_law_heap", "_law_least", "_law_thing", "_law_handed", "_law_turn", "_law_told"]) (pg_name (i := 5) sc.nd rfl (Or.inl rfl)) rfl rfl (pi_list (pv 2)) rfl (by show ∀ p ∈ (List.zip ["_law_script", "_law_rest", "_law_sheet_here", "_law_other", "_law_heaps_here", "_law_due", "_law_heap", "_law_least", "_law_thing", "_law_handed", "_law_turn", "_law_told"] ["_law_script", "_law_rest", "_law_sheet_here", "_law_other", "_law_heaps_here", "_law_due", "_law_heap", "_law_least", "_law_thing", "_law_handed", "_law_turn", "_law_told"] : List (Str × Str)), _; decide +kernel) (by decide +kernel) (fun cl C s₂ H₂ fp => (pg_name (i := 0) (by show List.Nodup (["_law_triangle", "_law_script", "_law_rest", "_law_sheet_here", "_law_other", "_law_heaps_here", "_law_due", "_law_heap", "_law_least", "_law_thing", "_law_handed", "_law_turn", "_law_told"] : List Str); decide +kernel) rfl (Or.inl (lookup_relabel_local rfl)) (Or.inr (lookup_relabel_local rfl)))) (fun cl C s₂ H₂ fp => pif_nil) (fun cl C s₂ H₂ fp => pe_int) (by decide +kernel) rfl (by decide +kernel) (by show ∀ y ∈ (_ : List (Str × NameKind)), y.2 = NameKind.free → (defScope s_law).names.lookup y.1 = some .cell; decide +kernel))
      (pss_cons (ps_for PassesOwn.never rfl (pi_list (pv 4)) (pg_name (i := 6) sc.nd rfl (Or.inl rfl))
      (pss_cons (ps_set (i := 7) sc.nd rfl (Or.inl rfl) (pe_callB (call_minN rfl) (by rfl) M.min boot_min (pa_cons (pe_compG (xs := ["_law_thing"]) (Nb := ["_law_script", "_law_rest", "_law_sheet_here", "_law_other", "_law_heaps_here", "_law_due", "_law_heap", "_law_least", "", "_law_handed", "_law_turn", "_law_told"]) rfl (pi_list (pv 6)) rfl (by show ∀ p ∈ (List.zip ["_law_script", "_law_rest", "_law_sheet_here", "_law_other", "_law_heaps_here", "_law_due", "_law_heap", "_law_least", "", "_law_handed", "_law_turn", "_law_told"] ["_law_script", "_law_rest", "_law_sheet_here", "_law_other", "_law_heaps_here", "_law_due", "_law_heap", "_law_least", "_law_thing", "_law_handed", "_law_turn", "_law_told"] : List (Str × Str)), _; decide +kernel) (by decide +kernel) (fun cl C s₂ H₂ fp => (pg_name (i := 0) (by show List.Nodup (["_law_thing", "_law_script", "_law_rest", "_law_sheet_here", "_law_other", "_law_heaps_here", "_law_due", "_law_heap", "_law_least", "", "_law_handed", "_law_turn", "_law_told"] : List Str); decide +kernel) rfl (Or.inl (lookup_relabel_local rfl)) (Or.inr (lookup_relabel_local rfl)))) (fun cl C s₂ H₂ fp => pif_nil) (fun cl C s₂ H₂ fp => (pe_ix (ix_tupK (K := K)) (pv 0) pe_int (fun _ _ => rfl))) (by decide +kernel) rfl (by decide +kernel) (by show ∀ y ∈ (_ : List (Str × NameKind)), y.2 = NameKind.free → (defScope s_law).names.lookup y.1 = some .cell; decide +kernel)) pa_nil)))
      (pss_one (ps_for PassesOwn.never rfl (pi_list (pv 6)) (pg_name (i := 8) sc.nd rfl (Or.inl rfl))
      (pss_one (ps_if (pt_cmpR (op_inC true hr) (pe_tup (pa_o2 (pe_ix (ix_tupK (K := K)) (pv 8) pe_int (fun _ _ => rfl)) (pe_op op_sub pe_int (pe_ix (ix_tupK (K := K)) (pv 8) pe_int (fun _ _ => rfl))) pa_nil)) (pv 6) rfl) (pss_one (ps_set (i := 5) sc.nd rfl (Or.inl rfl) pe_non)) (pss_one (ps_if (PW.pt (pw_and (pt_cmp (pc_notN (pv 5))) (pw_and1 (pt_cmpR (op_inC true hr) (pe_tup (pa_o2 (pv 7) pe_int pa_nil)) (pv 6) rfl)))) (pss_one (ps_asg (pe_ix (ix_tupK (K := K)) (pv 8) pe_int (fun _ _ => rfl)) (pg_sub (pv 5) (pe_ix (ix_tupK (K := K)) (pv 8) pe_int (fun _ _ => rfl)) set_list))) pss_nil))))))))
      (pss_cons (ps_set (i := 9) sc.nd rfl (Or.inl rfl) (pe_callTy call_list_of (by rfl) M.list boot_list (pa_Name (pv 2) pa_nil)))
      (pss_cons (ps_for PassesOwn.never rfl (pi_range1 rfl M.range (pa_Constant pe_int pa_nil)) (pg_name (i := 10) sc.nd rfl (Or.inl rfl))
      (pss_cons (ps_set (i := 11) sc.nd rfl (Or.inl rfl) (pe_callD Gfaces hr rfl (pa_Name (pv 9) pa_nil)))
      (pss_cons (ps_if (PW.pt (pw_or (pt_cmpR (op_neD hr) (pv 11) (pv 5) (nomark _)) (pw_or1 (pt_cmpR (op_neD hr) (pv 9) (pv 2) (nomark _))))) (pss_one (ps_ret pe_bl)) pss_nil)
      (pss_one (ps_if (pt_cmp (pc_notN (pv 11))) (pss_cons (ps_if (PW.pt (pw_or (pt_not (pt_val (pe_callB (call_isinstK (T := "list") (K := K)) (by rfl) M.isinstance boot_isinstance (pa_Name (pv 11) (pa_Name (pe_bltn (v := .ty "list") rfl M.list boot_list rfl) pa_nil))))) (pw_or1 (pt_cmpR (op_neD hr) (pe_compG (xs := ["_law_one"]) (Nb := ["_law_script", "_law_rest", "_law_sheet_here", "_law_other", "_law_heaps_here", "_law_due", "_law_heap", "_law_least", "_law_thing", "_law_handed", "_law_turn", "_law_told"]) rfl (pi_list (pv 11)) rfl (by show ∀ p ∈ (List.zip ["_law_script", "_law_rest", "_law_sheet_here", "_law_other", "_law_heaps_here", "_law_due", "_law_heap", "_law_least", "_law_thing", "_law_handed", "_law_turn", "_law_told"] ["_law_script", "_law_rest", "_law_sheet_here", "_law_other", "_law_heaps_here", "_law_due", "_law_heap", "_law_least", "_law_thing", "_law_handed", "_law_turn", "_law_told"] : List (Str × Str)), _; decide +kernel) (by decide +kernel) (fun cl C s₂ H₂ fp => (pg_name (i := 0) (by show List.Nodup (["_law_one", "_law_script", "_law_rest", "_law_sheet_here", "_law_other", "_law_heaps_here", "_law_due", "_law_heap", "_law_least", "_law_thing", "_law_handed", "_law_turn", "_law_told"] : List Str); decide +kernel) rfl (Or.inl (lookup_relabel_local rfl)) (Or.inr (lookup_relabel_local rfl)))) (fun cl C s₂ H₂ fp => (pif_one (pt_val (pe_callB (call_isinstK (T := "bool") (K := K)) (by rfl) M.isinstance boot_isinstance (pa_Name (pv 0) (pa_Name (pe_bltn (v := .ty "bool") rfl M.bool boot_bool rfl) pa_nil)))))) (fun cl C s₂ H₂ fp => (pv 0)) (by decide +kernel) rfl (by decide +kernel) (by show ∀ y ∈ (_ : List (Str × NameKind)), y.2 = NameKind.free → (defScope s_law).names.lookup y.1 = some .cell; decide +kernel)) (pe_lst pa_nil) (nomark _))))) (pss_one (ps_ret pe_bl)) pss_nil)
      (pss_one (ps_expr (pe_bm PySem.F.plainAttrs_list PySem.F.slot_list_append PySem.F.type_list_append mt_append (pv 11) (pa_Constant pe_int pa_nil))))) pss_nil)))))
      (pss_one (ps_ret pe_bl)))))))))))), ?_⟩
    exact law_reads hS k
end
theorem all_mk {l : PySem.W.OpenLaw} {w : World} {K : PySem.W.Frag} {h : Heap} {mg : Str → Option Value} {fa f0 f1 f2 f3 f4 f5 f6 f7 f8 f9 f10 f11 f12 f13 f14 f15 f16 f17 : Addr} (X : K.In h) (G : h.Ns mainGlobals mg) (hfa : mg "law" = some (.ref fa))
    {od0 an0 od1 an1 od2 an2 od3 an3 od4 an4 od5 an5 od6 an6 od7 an7 od8 an8 od9 an9 od10 an10 od11 an11 od12 an12 od13 an13 od14 an14 od15 an15 od16 an16 od17 an17 : Option Addr} {sl0 sl1 sl2 sl3 sl4 sl5 sl6 sl7 sl8 sl9 sl10 sl11 sl12 sl13 sl14 sl15 sl16 sl17 : Array (Option Value)} {oc0 kV0 dc0 pm0 cd0 ct0 oc1 kV1 dc1 pm1 cd1 ct1 oc2 kV2 dc2 pm2 cd2 ct2 oc3 kV3 dc3 pm3 cd3 ct3 oc4 kV4 dc4 pm4 cd4 ct4 oc5 kV5 dc5 pm5 cd5 ct5 oc6 kV6 dc6 pm6 cd6 ct6 oc7 kV7 dc7 pm7 cd7 ct7 oc8 kV8 dc8 pm8 cd8 ct8 oc9 kV9 dc9 pm9 cd9 ct9 oc10 kV10 dc10 pm10 cd10 ct10 oc11 kV11 dc11 pm11 cd11 ct11 oc12 kV12 dc12 pm12 cd12 ct12 oc13 kV13 dc13 pm13 cd13 ct13 oc14 kV14 dc14 pm14 cd14 ct14 oc15 kV15 dc15 pm15 cd15 ct15 oc16 kV16 dc16 pm16 cd16 ct16 oc17 kV17 dc17 pm17 cd17 ct17 : Value}
    (a0 : PySem.W.nsIn K mainGlobals "beside_each" = some (some (.ref f0))) (l0 : K.lookup f0 = some ⟨oc0, od0, .func (PySem.W.fnOf "beside_each" "beside_each" (defArgs s_beside_each) (defBody s_beside_each) (defScope s_beside_each) .none kV0 dc0 pm0 an0 cd0 ct0), sl0⟩) (c0 : PySem.W.codeIn K cd0 "beside_each" = true) (k0 : PySem.W.keepIn K (.ref f0) = true)
    (a1 : PySem.W.nsIn K mainGlobals "room_from" = some (some (.ref f1))) (l1 : K.lookup f1 = some ⟨oc1, od1, .func (PySem.W.fnOf "room_from" "room_from" (defArgs s_room_from) (defBody s_room_from) (defScope s_room_from) .none kV1 dc1 pm1 an1 cd1 ct1), sl1⟩) (c1 : PySem.W.codeIn K cd1 "room_from" = true) (k1 : PySem.W.keepIn K (.ref f1) = true)
    (a2 : PySem.W.nsIn K mainGlobals "linked" = some (some (.ref f2))) (l2 : K.lookup f2 = some ⟨oc2, od2, .func (PySem.W.fnOf "linked" "linked" (defArgs s_linked) (defBody s_linked) (defScope s_linked) .none kV2 dc2 pm2 an2 cd2 ct2), sl2⟩) (c2 : PySem.W.codeIn K cd2 "linked" = true) (k2 : PySem.W.keepIn K (.ref f2) = true)
    (a3 : PySem.W.nsIn K mainGlobals "many_ties" = some (some (.ref f3))) (l3 : K.lookup f3 = some ⟨oc3, od3, .func (PySem.W.fnOf "many_ties" "many_ties" (defArgs s_many_ties) (defBody s_many_ties) (defScope s_many_ties) .none kV3 dc3 pm3 an3 cd3 ct3), sl3⟩) (c3 : PySem.W.codeIn K cd3 "many_ties" = true) (k3 : PySem.W.keepIn K (.ref f3) = true)
    (a4 : PySem.W.nsIn K mainGlobals "glued_sides" = some (some (.ref f4))) (l4 : K.lookup f4 = some ⟨oc4, od4, .func (PySem.W.fnOf "glued_sides" "glued_sides" (defArgs s_glued_sides) (defBody s_glued_sides) (defScope s_glued_sides) .none kV4 dc4 pm4 an4 cd4 ct4), sl4⟩) (c4 : PySem.W.codeIn K cd4 "glued_sides" = true) (k4 : PySem.W.keepIn K (.ref f4) = true)
    (a5 : PySem.W.nsIn K mainGlobals "like_signs" = some (some (.ref f5))) (l5 : K.lookup f5 = some ⟨oc5, od5, .func (PySem.W.fnOf "like_signs" "like_signs" (defArgs s_like_signs) (defBody s_like_signs) (defScope s_like_signs) .none kV5 dc5 pm5 an5 cd5 ct5), sl5⟩) (c5 : PySem.W.codeIn K cd5 "like_signs" = true) (k5 : PySem.W.keepIn K (.ref f5) = true)
    (a6 : PySem.W.nsIn K mainGlobals "marked" = some (some (.ref f6))) (l6 : K.lookup f6 = some ⟨oc6, od6, .func (PySem.W.fnOf "marked" "marked" (defArgs s_marked) (defBody s_marked) (defScope s_marked) .none kV6 dc6 pm6 an6 cd6 ct6), sl6⟩) (c6 : PySem.W.codeIn K cd6 "marked" = true) (k6 : PySem.W.keepIn K (.ref f6) = true)
    (a7 : PySem.W.nsIn K mainGlobals "faces" = some (some (.ref f7))) (l7 : K.lookup f7 = some ⟨oc7, od7, .func (PySem.W.fnOf "faces" "faces" (defArgs s_faces) (defBody s_faces) (defScope s_faces) .none kV7 dc7 pm7 an7 cd7 ct7), sl7⟩) (c7 : PySem.W.codeIn K cd7 "faces" = true) (k7 : PySem.W.keepIn K (.ref f7) = true)
    (a8 : PySem.W.nsIn K mainGlobals "_law_cell_at" = some (some (.ref f8))) (l8 : K.lookup f8 = some ⟨oc8, od8, .func (PySem.W.fnOf "_law_cell_at" "_law_cell_at" (defArgs s__law_cell_at) (defBody s__law_cell_at) (defScope s__law_cell_at) .none kV8 dc8 pm8 an8 cd8 ct8), sl8⟩) (c8 : PySem.W.codeIn K cd8 "_law_cell_at" = true) (k8 : PySem.W.keepIn K (.ref f8) = true)
    (a9 : PySem.W.nsIn K mainGlobals "_law_big" = some (some (.ref f9))) (l9 : K.lookup f9 = some ⟨oc9, od9, .func (PySem.W.fnOf "_law_big" "_law_big" (defArgs s__law_big) (defBody s__law_big) (defScope s__law_big) .none kV9 dc9 pm9 an9 cd9 ct9), sl9⟩) (c9 : PySem.W.codeIn K cd9 "_law_big" = true) (k9 : PySem.W.keepIn K (.ref f9) = true)
    (a10 : PySem.W.nsIn K mainGlobals "_law_digit" = some (some (.ref f10))) (l10 : K.lookup f10 = some ⟨oc10, od10, .func (PySem.W.fnOf "_law_digit" "_law_digit" (defArgs s__law_digit) (defBody s__law_digit) (defScope s__law_digit) .none kV10 dc10 pm10 an10 cd10 ct10), sl10⟩) (c10 : PySem.W.codeIn K cd10 "_law_digit" = true) (k10 : PySem.W.keepIn K (.ref f10) = true)
    (a11 : PySem.W.nsIn K mainGlobals "_law_sheet" = some (some (.ref f11))) (l11 : K.lookup f11 = some ⟨oc11, od11, .func (PySem.W.fnOf "_law_sheet" "_law_sheet" (defArgs s__law_sheet) (defBody s__law_sheet) (defScope s__law_sheet) .none kV11 dc11 pm11 an11 cd11 ct11), sl11⟩) (c11 : PySem.W.codeIn K cd11 "_law_sheet" = true) (k11 : PySem.W.keepIn K (.ref f11) = true)
    (a12 : PySem.W.nsIn K mainGlobals "_law_heaps" = some (some (.ref f12))) (l12 : K.lookup f12 = some ⟨oc12, od12, .func (PySem.W.fnOf "_law_heaps" "_law_heaps" (defArgs s__law_heaps) (defBody s__law_heaps) (defScope s__law_heaps) .none kV12 dc12 pm12 an12 cd12 ct12), sl12⟩) (c12 : PySem.W.codeIn K cd12 "_law_heaps" = true) (k12 : PySem.W.keepIn K (.ref f12) = true)
    (a13 : PySem.W.nsIn K mainGlobals "_law_glued" = some (some (.ref f13))) (l13 : K.lookup f13 = some ⟨oc13, od13, .func (PySem.W.fnOf "_law_glued" "_law_glued" (defArgs s__law_glued) (defBody s__law_glued) (defScope s__law_glued) .none kV13 dc13 pm13 an13 cd13 ct13), sl13⟩) (c13 : PySem.W.codeIn K cd13 "_law_glued" = true) (k13 : PySem.W.keepIn K (.ref f13) = true)
    (a14 : PySem.W.nsIn K mainGlobals "_law_beside" = some (some (.ref f14))) (l14 : K.lookup f14 = some ⟨oc14, od14, .func (PySem.W.fnOf "_law_beside" "_law_beside" (defArgs s__law_beside) (defBody s__law_beside) (defScope s__law_beside) .none kV14 dc14 pm14 an14 cd14 ct14), sl14⟩) (c14 : PySem.W.codeIn K cd14 "_law_beside" = true) (k14 : PySem.W.keepIn K (.ref f14) = true)
    (a15 : PySem.W.nsIn K mainGlobals "_law_righted" = some (some (.ref f15))) (l15 : K.lookup f15 = some ⟨oc15, od15, .func (PySem.W.fnOf "_law_righted" "_law_righted" (defArgs s__law_righted) (defBody s__law_righted) (defScope s__law_righted) .none kV15 dc15 pm15 an15 cd15 ct15), sl15⟩) (c15 : PySem.W.codeIn K cd15 "_law_righted" = true) (k15 : PySem.W.keepIn K (.ref f15) = true)
    (a16 : PySem.W.nsIn K mainGlobals "_law_double" = some (some (.ref f16))) (l16 : K.lookup f16 = some ⟨oc16, od16, .func (PySem.W.fnOf "_law_double" "_law_double" (defArgs s__law_double) (defBody s__law_double) (defScope s__law_double) .none kV16 dc16 pm16 an16 cd16 ct16), sl16⟩) (c16 : PySem.W.codeIn K cd16 "_law_double" = true) (k16 : PySem.W.keepIn K (.ref f16) = true)
    (a17 : PySem.W.nsIn K mainGlobals "law" = some (some (.ref f17))) (l17 : K.lookup f17 = some ⟨oc17, od17, .func (PySem.W.fnOf "law" "law" (defArgs s_law) (defBody s_law) (defScope s_law) .none kV17 dc17 pm17 an17 cd17 ct17), sl17⟩) (c17 : PySem.W.codeIn K cd17 "law" = true) (k17 : PySem.W.keepIn K (.ref f17) = true)
    (g_abs : PySem.W.nsIn K mainGlobals "abs" = some none)
    (g_zip : PySem.W.nsIn K mainGlobals "zip" = some none)
    (g_enumerate : PySem.W.nsIn K mainGlobals "enumerate" = some none)
    (z_len : PySem.W.nsIn K mainGlobals "len" = some none) (z_range : PySem.W.nsIn K mainGlobals "range" = some none) (z_min : PySem.W.nsIn K mainGlobals "min" = some none) (z_max : PySem.W.nsIn K mainGlobals "max" = some none) (z_isinstance : PySem.W.nsIn K mainGlobals "isinstance" = some none) (z_bool : PySem.W.nsIn K mainGlobals "bool" = some none) (z_int : PySem.W.nsIn K mainGlobals "int" = some none) (z_tuple : PySem.W.nsIn K mainGlobals "tuple" = some none) (z_list : PySem.W.nsIn K mainGlobals "list" = some none) (z_str : PySem.W.nsIn K mainGlobals "str" = some none) (z_all : PySem.W.nsIn K mainGlobals "all" = some none) (z_sum : PySem.W.nsIn K mainGlobals "sum" = some none) (z_sorted : PySem.W.nsIn K mainGlobals "sorted" = some none) :
    ∃ fd : FuncData, (∀ (s : Shared) (v : Value), BindsTo s fd ⟨[v], []⟩ [("_law_script", v)]) ∧ ∀ base : Heap, K.In base → base.Ns mainGlobals mg → FnOk l.prog w K mg base CX0 5 fa fd ["_law_script"] (spLaw K) := by
  have e := hfa.symm.trans (PySem.W.mg_of X G a17)
  cases e
  have M : Txt mg := ⟨PySem.W.mg_none_of X G z_len, PySem.W.mg_none_of X G z_range, PySem.W.mg_none_of X G z_min, PySem.W.mg_none_of X G z_max, PySem.W.mg_none_of X G z_isinstance, PySem.W.mg_none_of X G z_bool, PySem.W.mg_none_of X G z_int, PySem.W.mg_none_of X G z_tuple, PySem.W.mg_none_of X G z_list, PySem.W.mg_none_of X G z_str, PySem.W.mg_none_of X G z_all, PySem.W.mg_none_of X G z_sum, PySem.W.mg_none_of X G z_sorted⟩
  have GB : Gb mg := ⟨PySem.W.mg_none_of X G g_abs, PySem.W.mg_none_of X G g_zip, PySem.W.mg_none_of X G g_enumerate⟩
  have F0 := fun_mk (st := s_beside_each) l0 c0 k0
  have b0 := F0.binds (ps := ["n", "links"]) fun _ _ _ _ _ _ us hl => match us, hl with | [_, _], _ => rfl
  have F1 := fun_mk (st := s_room_from) l1 c1 k1
  have b1 := F1.binds (ps := ["start", "beside", "is_seen"]) fun _ _ _ _ _ _ us hl => match us, hl with | [_, _, _], _ => rfl
  have F2 := fun_mk (st := s_linked) l2 c2 k2
  have b2 := F2.binds (ps := ["n", "links"]) fun _ _ _ _ _ _ us hl => match us, hl with | [_, _], _ => rfl
  have F3 := fun_mk (st := s_many_ties) l3 c3 k3
  have b3 := F3.binds (ps := ["sheet"]) fun _ _ _ _ _ _ us hl => match us, hl with | [_], _ => rfl
  have F4 := fun_mk (st := s_glued_sides) l4 c4 k4
  have b4 := F4.binds (ps := ["sheet"]) fun _ _ _ _ _ _ us hl => match us, hl with | [_], _ => rfl
  have F5 := fun_mk (st := s_like_signs) l5 c5 k5
  have b5 := F5.binds (ps := ["sheet"]) fun _ _ _ _ _ _ us hl => match us, hl with | [_], _ => rfl
  have F6 := fun_mk (st := s_marked) l6 c6 k6
  have b6 := F6.binds (ps := ["n", "links"]) fun _ _ _ _ _ _ us hl => match us, hl with | [_, _], _ => rfl
  have F7 := fun_mk (st := s_faces) l7 c7 k7
  have b7 := F7.binds (ps := ["sheet"]) fun _ _ _ _ _ _ us hl => match us, hl with | [_], _ => rfl
  have F8 := fun_mk (st := s__law_cell_at) l8 c8 k8
  have b8 := F8.binds (ps := ["_law_script", "_law_k"]) fun _ _ _ _ _ _ us hl => match us, hl with | [_, _], _ => rfl
  have F9 := fun_mk (st := s__law_big) l9 c9 k9
  have b9 := F9.binds (ps := ["_law_script", "_law_at"]) fun _ _ _ _ _ _ us hl => match us, hl with | [_, _], _ => rfl
  have F10 := fun_mk (st := s__law_digit) l10 c10 k10
  have b10 := F10.binds (ps := ["_law_rest", "_law_many"]) fun _ _ _ _ _ _ us hl => match us, hl with | [_, _], _ => rfl
  have F11 := fun_mk (st := s__law_sheet) l11 c11 k11
  have b11 := F11.binds (ps := ["_law_rest"]) fun _ _ _ _ _ _ us hl => match us, hl with | [_], _ => rfl
  have F12 := fun_mk (st := s__law_heaps) l12 c12 k12
  have b12 := F12.binds (ps := ["_law_things", "_law_pairs"]) fun _ _ _ _ _ _ us hl => match us, hl with | [_, _], _ => rfl
  have F13 := fun_mk (st := s__law_glued) l13 c13 k13
  have b13 := F13.binds (ps := ["_law_sheet_here"]) fun _ _ _ _ _ _ us hl => match us, hl with | [_], _ => rfl
  have F14 := fun_mk (st := s__law_beside) l14 c14 k14
  have b14 := F14.binds (ps := ["_law_sheet_here", "_law_other"]) fun _ _ _ _ _ _ us hl => match us, hl with | [_, _], _ => rfl
  have F15 := fun_mk (st := s__law_righted) l15 c15 k15
  have b15 := F15.binds (ps := ["_law_sheet_here"]) fun _ _ _ _ _ _ us hl => match us, hl with | [_], _ => rfl
  have F16 := fun_mk (st := s__law_double) l16 c16 k16
  have b16 := F16.binds (ps := ["_law_sheet_here"]) fun _ _ _ _ _ _ us hl => match us, hl with | [_], _ => rfl
  have F17 := fun_mk (st := s_law) l17 c17 k17
  refine ⟨PySem.W.fnOf "law" "law" (defArgs s_law) (defBody s_law) (defScope s_law) .none kV17 dc17 pm17 an17 cd17 ct17, fun s v => .of_eq rfl, fun base _ _ => ?_⟩
  have G_law_cell_at : Kn l.prog w K mg base "_law_cell_at" _ ["_law_script", "_law_k"] _ := ⟨⟨f8, _, ok_cell F8 M , PySem.W.mg_of X G a8, k8, b8⟩⟩
  have G_law_big : Kn l.prog w K mg base "_law_big" _ ["_law_script", "_law_at"] _ := ⟨⟨f9, _, ok_big F9 M G_law_cell_at, PySem.W.mg_of X G a9, k9, b9⟩⟩
  have G_law_digit : Kn l.prog w K mg base "_law_digit" _ ["_law_rest", "_law_many"] _ := ⟨⟨f10, _, ok_digit F10 M , PySem.W.mg_of X G a10, k10, b10⟩⟩
  have G_law_sheet : Kn l.prog w K mg base "_law_sheet" _ ["_law_rest"] _ := ⟨⟨f11, _, ok_sheet F11 M G_law_digit, PySem.W.mg_of X G a11, k11, b11⟩⟩
  have G_law_heaps : Kn l.prog w K mg base "_law_heaps" _ ["_law_things", "_law_pairs"] _ := ⟨⟨f12, _, ok_heaps F12 M , PySem.W.mg_of X G a12, k12, b12⟩⟩
  have Gbeside_each : Kn l.prog w K mg base "beside_each" _ ["n", "links"] _ := ⟨⟨f0, _, ok_beside F0 M , PySem.W.mg_of X G a0, k0, b0⟩⟩
  have Groom_from : Kn l.prog w K mg base "room_from" _ ["start", "beside", "is_seen"] _ := ⟨⟨f1, _, ok_room F1 M , PySem.W.mg_of X G a1, k1, b1⟩⟩
  have Glinked : Kn l.prog w K mg base "linked" _ ["n", "links"] _ := ⟨⟨f2, _, ok_linked F2 M Gbeside_each Groom_from, PySem.W.mg_of X G a2, k2, b2⟩⟩
  have Gmany_ties : Kn l.prog w K mg base "many_ties" _ ["sheet"] _ := ⟨⟨f3, _, ok_ties F3 M , PySem.W.mg_of X G a3, k3, b3⟩⟩
  have Gglued_sides : Kn l.prog w K mg base "glued_sides" _ ["sheet"] _ := ⟨⟨f4, _, ok_glued F4 M Gmany_ties GB, PySem.W.mg_of X G a4, k4, b4⟩⟩
  have Glike_signs : Kn l.prog w K mg base "like_signs" _ ["sheet"] _ := ⟨⟨f5, _, ok_likes F5 M Gglued_sides, PySem.W.mg_of X G a5, k5, b5⟩⟩
  have Gmarked : Kn l.prog w K mg base "marked" _ ["n", "links"] _ := ⟨⟨f6, _, ok_marked F6 M Glinked, PySem.W.mg_of X G a6, k6, b6⟩⟩
  have Gfaces : Kn l.prog w K mg base "faces" _ ["sheet"] _ := ⟨⟨f7, _, ok_faces F7 M Glike_signs Gglued_sides Gmarked GB, PySem.W.mg_of X G a7, k7, b7⟩⟩
  have G_law_glued : Kn l.prog w K mg base "_law_glued" _ ["_law_sheet_here"] _ := ⟨⟨f13, _, ok_lglued F13 M GB, PySem.W.mg_of X G a13, k13, b13⟩⟩
  have G_law_beside : Kn l.prog w K mg base "_law_beside" _ ["_law_sheet_here", "_law_other"] _ := ⟨⟨f14, _, ok_lbeside F14 M , PySem.W.mg_of X G a14, k14, b14⟩⟩
  have G_law_righted : Kn l.prog w K mg base "_law_righted" _ ["_law_sheet_here"] _ := ⟨⟨f15, _, ok_righted F15 M GB, PySem.W.mg_of X G a15, k15, b15⟩⟩
  have G_law_double : Kn l.prog w K mg base "_law_double" _ ["_law_sheet_here"] _ := ⟨⟨f16, _, ok_double F16 M G_law_glued G_law_heaps, PySem.W.mg_of X G a16, k16, b16⟩⟩
  exact ok_law F17 M G_law_big G_law_sheet G_law_digit G_law_beside G_law_righted G_law_double Gfaces
theorem walk {l : PySem.W.OpenLaw} {q : Program} {loose : List Str} {XP : (Str → Option Value) → Heap → Prop} {YP : World → Heap → Prop} {d : DefRec} {K : Params → PySem.W.Frag} (hn : l.most = some 63) (hdf : d.params.defaults = [])
    (hY : ∀ (w : World) (h : Heap), YP w h → (K w.params).In h)
    (F : ∀ (w : World) (mg : Str → Option Value) (fa : Addr) (h : Heap), (K w.params).In h → h.Ns mainGlobals mg → mg d.name = some (.ref fa) →
      ∃ fd : FuncData, (∀ (s : Shared) (u : Value), BindsTo s fd ⟨[u], []⟩ [("_law_script", u)]) ∧ ∀ base : Heap, (K w.params).In base → base.Ns mainGlobals mg → FnOk l.prog w (K w.params) mg base CX0 5 fa fd ["_law_script"] (spLaw (K w.params))) :
    PySem.W.WalkO q loose XP YP l.row.toRowW d [] (fun f vs => PySem.call f vs) :=
  L2.walk_of (n := 63) (k := 5) (x := "_law_script") (CX := fun _ => CX0) (sp := fun w => spLaw (K w.params)) hn (by decide) hdf ⟨rfl, by decide, by decide, rfl⟩ hY F (fun _ _ a ns hl _ hS => ⟨a, ns, rfl, hS, hl, fun _ => rfl⟩) fun _ _ _ _ _ z => z
end Toy
open PySem PySem.W PyProof.Rows
set_option maxRecDepth 100000 in
set_option maxHeartbeats 0 in
theorem PySem.Challenge.cw_farcords_k46_faces_holds : PySem.Challenge.rw_farcords_k46_faces.Holds := by
  w_on; o_law; k_head; (case hw => w_witness2)
  k_fill
  refine Toy.walk (l := PySem.Challenge.rw_farcords_k46_faces) rfl rfl (fun w h Y => PySem.W.kIn_of Y) ?F
  case F =>
    intro w mg fa h KX G hmg
    refine' Toy.all_mk KX G hmg ?a0 ?l0 ?c0 ?k0 ?a1 ?l1 ?c1 ?k1 ?a2 ?l2 ?c2 ?k2 ?a3 ?l3 ?c3 ?k3 ?a4 ?l4 ?c4 ?k4 ?a5 ?l5 ?c5 ?k5 ?a6 ?l6 ?c6 ?k6 ?a7 ?l7 ?c7 ?k7 ?a8 ?l8 ?c8 ?k8 ?a9 ?l9 ?c9 ?k9 ?a10 ?l10 ?c10 ?k10 ?a11 ?l11 ?c11 ?k11 ?a12 ?l12 ?c12 ?k12 ?a13 ?l13 ?c13 ?k13 ?a14 ?l14 ?c14 ?k14 ?a15 ?l15 ?c15 ?k15 ?a16 ?l16 ?c16 ?k16 ?a17 ?l17 ?c17 ?k17 ?g_abs ?g_zip ?g_enumerate ?z_len ?z_range ?z_min ?z_max ?z_isinstance ?z_bool ?z_int ?z_tuple ?z_list ?z_str ?z_all ?z_sum ?z_sorted
    (case a0 => k_is)
    (case l0 => k_is)
    (case c0 => k_is)
    (case k0 => k_is)
    (case a1 => k_is)
    (case l1 => k_is)
    (case c1 => k_is)
    (case k1 => k_is)
    (case a2 => k_is)
    (case l2 => k_is)
    (case c2 => k_is)
    (case k2 => k_is)
    (case a3 => k_is)
    (case l3 => k_is)
    (case c3 => k_is)
    (case k3 => k_is)
    (case a4 => k_is)
    (case l4 => k_is)
    (case c4 => k_is)
    (case k4 => k_is)
    (case a5 => k_is)
    (case l5 => k_is)
    (case c5 => k_is)
    (case k5 => k_is)
    (case a6 => k_is)
    (case l6 => k_is)
    (case c6 => k_is)
    (case k6 => k_is)
    (case a7 => k_is)
    (case l7 => k_is)
    (case c7 => k_is)
    (case k7 => k_is)
    (case a8 => k_is)
    (case l8 => k_is)
    (case c8 => k_is)
    (case k8 => k_is)
    (case a9 => k_is)
    (case l9 => k_is)
    (case c9 => k_is)
    (case k9 => k_is)
    (case a10 => k_is)
    (case l10 => k_is)
    (case c10 => k_is)
    (case k10 => k_is)
    (case a11 => k_is)
    (case l11 => k_is)
    (case c11 => k_is)
    (case k11 => k_is)
    (case a12 => k_is)
    (case l12 => k_is)
    (case c12 => k_is)
    (case k12 => k_is)
    (case a13 => k_is)
    (case l13 => k_is)
    (case c13 => k_is)
    (case k13 => k_is)
    (case a14 => k_is)
    (case l14 => k_is)
    (case c14 => k_is)
    (case k14 => k_is)
    (case a15 => k_is)
    (case l15 => k_is)
    (case c15 => k_is)
    (case k15 => k_is)
    (case a16 => k_is)
    (case l16 => k_is)
    (case c16 => k_is)
    (case k16 => k_is)
    (case a17 => k_is)
    (case l17 => k_is)
    (case c17 => k_is)
    (case k17 => k_is)
    (case g_abs => k_is)
    (case g_zip => k_is)
    (case g_enumerate => k_is)
    (case z_len => k_is)
    (case z_range => k_is)
    (case z_min => k_is)
    (case z_max => k_is)
    (case z_isinstance => k_is)
    (case z_bool => k_is)
    (case z_int => k_is)
    (case z_tuple => k_is)
    (case z_list => k_is)
    (case z_str => k_is)
    (case z_all => k_is)
    (case z_sum => k_is)
    (case z_sorted => k_is)
#print axioms PySem.Challenge.cw_farcords_k46_faces_holds
