import PyProof.Rows.All
import Wide.All
import OpenK.AllK
import Wide.FinOn
import Lean
import PyProof.EqAt
import PyProof.EqKinds
import PyProof.TupleCall
import PyProof.NeData
import PyProof.SumAny
import PyProof.ReprRoads
import PyProof.CallStr
import PyProof.ReprLen
import PyProof.Rows.StrDigitsNeg
import PyProof.Rows.StrJoinMade
import PyProof.Rows.ZipGen
import PyProof.ListRange
import PyProof.TupleOfSeq
import PyProof.SetScanFacts
import PyProof.SetKind
import PyProof.Rows.SetFrom
import PyProof.SetRoads
import PyProof.Rows.SortShell
import PyProof.ListMulRoad
import PyProof.ListMulAny
import PyProof.FactsAll.tuple
import PyProof.RulesAssignMore
import PyProof.ZipIter
import PyProof.TupleIter
import PyProof.EnumFor
import PyProof.EnumMake
import PyProof.FitsBits
import KE.KDictList
import PyProof.Rows.SortShellK
import PyProof.TupleKey
import KE.KItemsList
import KE.KSortTup
import PyProof.Rows.ListMulR
import PyProof.FactsAll.list_2
import PyProof.FactsAll.list_4
import PyProof.Rows.BitMore
import PyProof.ExcArgsOwn
import PyProof.ExcAttrAll.ValueError
import PyProof.ExcBaseAll.ValueError
import PyProof.WalkInts
import PyProof.ListIndex
import PyProof.P3Eq
import KE.KRevIter
import PySem.Challenge.RW_farcords_k63_rows_carried_and_back
def PySem.W.Fast.tw5026118294994607834 : Unit := ()
def PySem.W.Fast.tw4109365660595358170 : Unit := ()
def PySem.W.Fast.tw2629378450692665402 : Unit := ()
def PySem.W.Fast.tw1506803802766087866 : Unit := ()
def PySem.W.Fast.tw7700671489340652795 : Unit := ()
def PySem.W.Fast.tw3993481602592394555 : Unit := ()
def PySem.W.Fast.tw3763466719454738299 : Unit := ()
def PySem.W.Fast.tw5185699626192343048 : Unit := ()
def PySem.W.Fast.tw12816031981671383336 : Unit := ()
def PySem.W.Fast.tw7442118453275550024 : Unit := ()
def PySem.W.Fast.tw16135718908491279880 : Unit := ()
def PySem.W.Fast.tw8248352833020764424 : Unit := ()
def PySem.W.Fast.tw14214782458780618632 : Unit := ()
def PySem.W.Fast.tw1499734761616366985 : Unit := ()
def PySem.W.Fast.tw12607030390408080425 : Unit := ()
def PySem.W.Fast.tw18354613661258399849 : Unit := ()
def PySem.W.Fast.tw2004968420240725129 : Unit := ()
def PySem.W.Fast.tw10616835038638460649 : Unit := ()
def PySem.W.Fast.tw12853767558664168361 : Unit := ()
def PySem.W.Fast.tw14422744152610804329 : Unit := ()
def PySem.W.Fast.tw1325852032518473001 : Unit := ()
def PySem.W.Fast.tw10733017209521843390 : Unit := ()
def PySem.W.Fast.tw2263981254234979806 : Unit := ()
def PySem.W.Fast.tw5660573922774449695 : Unit := ()
def PySem.W.Fast.tw18353272832289119327 : Unit := ()
def PySem.W.Fast.tw1437354684092013407 : Unit := ()
def PySem.W.Fast.tw3029541731061534700 : Unit := ()
def PySem.W.Fast.tw9508299774794754156 : Unit := ()
def PySem.W.Fast.tw6425508097026962188 : Unit := ()
def PySem.W.Fast.tw8454908404612623180 : Unit := ()
def PySem.W.Fast.tw5153267809696036812 : Unit := ()
def PySem.W.Fast.tw7132031776508484653 : Unit := ()
def PySem.W.Fast.tw8177707125086120173 : Unit := ()
def PySem.W.Fast.tw5349686181199588173 : Unit := ()
def PySem.W.Fast.tw8668477506044313037 : Unit := ()
def PySem.W.Fast.tw10542501189942179757 : Unit := ()
def PySem.W.Fast.tw16571761890411023106 : Unit := ()
def PySem.W.Fast.tw9155092816536012450 : Unit := ()
def PySem.W.Fast.tw5198034954824018306 : Unit := ()
def PySem.W.Fast.tw14536362761661513026 : Unit := ()
def PySem.W.Fast.tw1323535611259681762 : Unit := ()
def PySem.W.Fast.tw3866635245451094562 : Unit := ()
def PySem.W.Fast.tw795477609517730051 : Unit := ()
def PySem.W.Fast.tw16647059102967030211 : Unit := ()
def PySem.W.Fast.tw12635913335973301187 : Unit := ()
def PySem.W.Fast.tw10222806727840678371 : Unit := ()
def PySem.W.Fast.tw3111497931583278563 : Unit := ()
def PySem.W.Fast.tw12224136119719362051 : Unit := ()
def PySem.W.Fast.tw14138998553434872112 : Unit := ()
def PySem.W.Fast.tw12966755128158464848 : Unit := ()
def PySem.W.Fast.tw1394141219306185296 : Unit := ()
def PySem.W.Fast.tw16114980556028225521 : Unit := ()
def PySem.W.Fast.tw9382537495702379089 : Unit := ()
def PySem.W.Fast.tw1201551764276455025 : Unit := ()
def PySem.W.Fast.tw4173071184574035025 : Unit := ()
def PySem.W.Fast.tw17557927389095044177 : Unit := ()
def PySem.W.Fast.tw16319304319191089062 : Unit := ()
def PySem.W.Fast.tw8194479910585457574 : Unit := ()
def PySem.W.Fast.tw13242980620432636422 : Unit := ()
def PySem.W.Fast.tw14819134064690550278 : Unit := ()
def PySem.W.Fast.tw1140596360707994726 : Unit := ()
def PySem.W.Fast.tw6274019632933187206 : Unit := ()
def PySem.W.Fast.tw13454205793746572262 : Unit := ()
def PySem.W.Fast.tw8115335201066413062 : Unit := ()
def PySem.W.Fast.tw10576811829788803559 : Unit := ()
def PySem.W.Fast.tw16567888605873713447 : Unit := ()
def PySem.W.Fast.tw6236841508752959751 : Unit := ()
def PySem.W.Fast.tw4634203882250268711 : Unit := ()
def PySem.W.Fast.tw7809877254488180679 : Unit := ()
def PySem.W.Fast.tw11033742568802760583 : Unit := ()
def PySem.W.Fast.tw17329571598936596820 : Unit := ()
def PySem.W.Fast.tw508604179335511028 : Unit := ()
def PySem.W.Fast.tw10692124863982430293 : Unit := ()
def PySem.W.Fast.tw426979302706493493 : Unit := ()
def PySem.W.Fast.tw13516528884668245653 : Unit := ()
def PySem.W.Fast.tw18256818128107255445 : Unit := ()
def PySem.W.Fast.tw15749474533782753077 : Unit := ()
def PySem.W.Fast.tw15413745093085661813 : Unit := ()
def PySem.W.Fast.tw6141083121319382666 : Unit := ()
def PySem.W.Fast.tw17906295994170884426 : Unit := ()
def PySem.W.Fast.tw1766891595329654698 : Unit := ()
def PySem.W.Fast.tw17162999385347365642 : Unit := ()
def PySem.W.Fast.tw16840374664697091850 : Unit := ()
def PySem.W.Fast.tw1952251408000650730 : Unit := ()
def PySem.W.Fast.tw14032350931907811787 : Unit := ()
def PySem.W.Fast.tw11377300528840129291 : Unit := ()
def PySem.W.Fast.tw3649851134874531403 : Unit := ()
def PySem.W.Fast.tw3476335760799455256 : Unit := ()
def PySem.W.Fast.tw17829422924446244248 : Unit := ()
def PySem.W.Fast.tw15259092163401916280 : Unit := ()
def PySem.W.Fast.tw10500368959577552537 : Unit := ()
def PySem.W.Fast.tw11255280700761174681 : Unit := ()
def PySem.W.Fast.tw9588849287396563225 : Unit := ()
def PySem.W.Fast.tw10664920245759839641 : Unit := ()
def PySem.W.Fast.tw7691786290937290073 : Unit := ()
def PySem.W.Fast.tw8001099975654569593 : Unit := ()
def PySem.W.Fast.tw4006957908708728921 : Unit := ()
def PySem.W.Fast.tw5626164725398088057 : Unit := ()
def PySem.W.Fast.tw13003752256017325678 : Unit := ()
def PySem.W.Fast.tw15534842496559293646 : Unit := ()
def PySem.W.Fast.tw4104018655966289646 : Unit := ()
def PySem.W.Fast.tw13436753687854872046 : Unit := ()
def PySem.W.Fast.tw5066743585482832750 : Unit := ()
def PySem.W.Fast.tw16743814217001453230 : Unit := ()
def PySem.W.Fast.tw8766605921927237807 : Unit := ()
def PySem.W.Fast.tw10436036785541075791 : Unit := ()
def PySem.W.Fast.tw14962348332754922799 : Unit := ()
def PySem.W.Fast.tw2245723797834689487 : Unit := ()
def PySem.W.Fast.tw11865156923204914159 : Unit := ()
def PySem.W.Fast.tw7308804584005190543 : Unit := ()
def PySem.W.Fast.tw15220600266092720847 : Unit := ()
def PySem.W.Fast.tw794013613252542255 : Unit := ()
def PySem.W.Fast.tw6228720352551597679 : Unit := ()
def PySem.W.Fast.tw11595924470808467055 : Unit := ()
def PySem.W.Fast.tw3754366342491594287 : Unit := ()
def PySem.W.Fast.tw12299787878874746556 : Unit := ()
def PySem.W.Fast.tw10547619987171837532 : Unit := ()
def PySem.W.Fast.tw1891408592834770461 : Unit := ()
def PySem.W.Fast.tw4490652390990275101 : Unit := ()
def PySem.W.Fast.tw9367667325543880125 : Unit := ()
def PySem.W.Fast.tw8770450944167839165 : Unit := ()
def PySem.W.Fast.tw10009153224974861565 : Unit := ()
def PySem.W.Fast.tw14646679168936454493 : Unit := ()
def PySem.W.Fast.tw10077379496621535197 : Unit := ()
def PySem.W.Fast.tw5773785456035079549 : Unit := ()
def PySem.W.Fast.tw17971989202767419602 : Unit := ()
def PySem.W.Fast.tw13275440639672247730 : Unit := ()
def PySem.W.Fast.tw14000614404483948722 : Unit := ()
def PySem.W.Fast.tw3334992168244322002 : Unit := ()
def PySem.W.Fast.tw16848447417353887250 : Unit := ()
def PySem.W.Fast.tw10648584179584197843 : Unit := ()
def PySem.W.Fast.tw16744283214396770451 : Unit := ()
def PySem.W.Fast.tw4928845135888119667 : Unit := ()
def PySem.W.Fast.tw15966611575754381024 : Unit := ()
def PySem.W.Fast.tw2963128115132929696 : Unit := ()
def PySem.W.Fast.tw286127933672098240 : Unit := ()
def PySem.W.Fast.tw10678466378606164897 : Unit := ()
def PySem.W.Fast.tw848719277809701729 : Unit := ()
def PySem.W.Fast.tw14476727689343761281 : Unit := ()
def PySem.W.Fast.tw15388158609016097622 : Unit := ()
def PySem.W.Fast.tw15421971168823746326 : Unit := ()
def PySem.W.Fast.tw10029381248785019862 : Unit := ()
def PySem.W.Fast.tw13575200494798013814 : Unit := ()
def PySem.W.Fast.tw6355303321043893366 : Unit := ()
def PySem.W.Fast.tw8986251348066238326 : Unit := ()
def PySem.W.Fast.tw3526031996246757046 : Unit := ()
def PySem.W.Fast.tw9384808915002483223 : Unit := ()
def PySem.W.Fast.tw2058353983576898391 : Unit := ()
def PySem.W.Fast.tw14057688708282522039 : Unit := ()
def PySem.W.Fast.tw1343377498074815031 : Unit := ()
def PySem.W.Fast.tw8639884742856794660 : Unit := ()
def PySem.W.Fast.tw11668461171967030628 : Unit := ()
def PySem.W.Fast.tw6943248769860136324 : Unit := ()
def PySem.W.Fast.tw10372520137689064772 : Unit := ()
def PySem.W.Fast.tw4223750716387050948 : Unit := ()
def PySem.W.Fast.tw12592484893816389764 : Unit := ()
def PySem.W.Fast.tw11995398549604312548 : Unit := ()
def PySem.W.Fast.tw7470837246709899684 : Unit := ()
def PySem.W.Fast.tw6529442599772494244 : Unit := ()
def PySem.W.Fast.tw773985604473081093 : Unit := ()
set_option Elab.async false
set_option linter.all false
set_option maxRecDepth 100000
namespace L2
open PySem PySem.Spec PyProof.Rows
abbrev Key := Sum Int Str
def keyIs : Key → Value → Bool
  | .inl k, v => Value.isInt k v
  | .inr x, v => Value.isStrOf x v
def keyH (w : World) : Key → Int
  | .inl k => hashInt k
  | .inr x => hashStr w x
theorem keyIs_shape : ∀ {k : Key} {v : Value}, keyIs k v = true → (∃ i t, k = Sum.inl i ∧ v = Value.int i t) ∨ (∃ x t, k = Sum.inr x ∧ v = Value.str x t)
  | .inl i, v, h => by
    obtain ⟨t, e⟩ := Value.isInt_shape (k := i) (v := v) h
    exact .inl ⟨i, t, rfl, e⟩
  | .inr x, v, h => by
    obtain ⟨t, e⟩ := Value.isStrOf_shape (x := x) (v := v) h
    exact .inr ⟨x, t, rfl, e⟩
theorem key_ll (a b : Int) : decide ((Sum.inl a : Key) = Sum.inl b) = (a == b) := by
  by_cases e : a = b
  · subst e; simp
  · have h : ¬ (Sum.inl a : Key) = Sum.inl b := fun q => e (Sum.inl.inj q)
    rw [decide_eq_false h]
    exact (beq_eq_false_iff_ne.mpr e).symm
theorem key_rr (a b : Str) : decide ((Sum.inr a : Key) = Sum.inr b) = decide (a = b) := by
  by_cases e : a = b
  · subst e; simp
  · have h : ¬ (Sum.inr a : Key) = Sum.inr b := fun q => e (Sum.inr.inj q)
    rw [decide_eq_false h, decide_eq_false e]
theorem key_lr (a : Int) (b : Str) : decide ((Sum.inl a : Key) = Sum.inr b) = false := decide_eq_false (fun q => nomatch q)
theorem key_rl (a : Str) (b : Int) : decide ((Sum.inr a : Key) = Sum.inl b) = false := decide_eq_false (fun q => nomatch q)
def mixKind (prog : Program) (w : World) : PySem.KeyKind prog w Key where
  is := keyIs
  hash := keyH w
  inj := fun v a b ha hb => by
    rcases keyIs_shape ha with ⟨i, t, rfl, rfl⟩ | ⟨x, t, rfl, rfl⟩
    · rcases keyIs_shape hb with ⟨j, u, rfl, e⟩ | ⟨y, u, rfl, e⟩
      · injection e with e1 _; rw [e1]
      · exact nomatch e
    · rcases keyIs_shape hb with ⟨j, u, rfl, e⟩ | ⟨y, u, rfl, e⟩
      · exact nomatch e
      · injection e with e1 _; rw [e1]
  byValue := fun k v h => by
    rcases keyIs_shape h with ⟨i, t, rfl, rfl⟩ | ⟨x, t, rfl, rfl⟩ <;> rfl
  pyHash := fun hv h => by
    rcases keyIs_shape hv with ⟨i, t, rfl, rfl⟩ | ⟨x, t, rfl, rfl⟩
    · exact wpAny_pyHash_int h
    · exact wpAny_pyHash_str h
  eqBool := fun hu hv h => by
    rcases keyIs_shape hu with ⟨i, t, rfl, rfl⟩ | ⟨x, t, rfl, rfl⟩
    · rcases keyIs_shape hv with ⟨j, u, rfl, rfl⟩ | ⟨y, u, rfl, rfl⟩
      · rw [key_ll] at h; exact wpAny_eqBool_int h
      · rw [key_lr] at h; exact SeqAt.EqAt.int_str i t y u _ _ _ _ h
    · rcases keyIs_shape hv with ⟨j, u, rfl, rfl⟩ | ⟨y, u, rfl, rfl⟩
      · rw [key_rl] at h; exact SeqAt.EqAt.str_int x t j u _ _ _ _ h
      · rw [key_rr] at h; exact wpAny_eqBool_str h
  «strs» := fun k x t v h => by
    rcases keyIs_shape h with ⟨i, u, rfl, e⟩ | ⟨y, u, rfl, e⟩
    · exact nomatch e
    · injection e with e1 _
      subst e1
      cases v <;> rfl
end L2
namespace L2
open PySem PySem.Spec PyProof.Rows
inductive V where
  | non | bl (b : Bool) | int (i : Int) | str (x : Str) | byt (b : Array UInt8) | flt (b : UInt64) | ref (a : Addr) | ty (n : String)
  deriving DecidableEq
def RelV : V → Value → Prop
  | .non, u => u = Value.none
  | .bl b, u => u = Value.bool b
  | .int i, u => ∃ t, u = Value.int i t
  | .str x, u => ∃ t, u = Value.str x t
  | .byt b, u => ∃ t, u = Value.bytes b t
  | .flt b, u => ∃ t, u = Value.float b t
  | .ref a, u => u = Value.ref a
  | .ty n, u => u = Value.type n
abbrev Vals : List V → List Value → Prop := Paired RelV
theorem Vals.length {xs : List V} {us : List Value} (r : Vals xs us) : xs.length = us.length := Paired.length r
theorem Vals.get : ∀ {xs : List V} {us : List Value} {i : Nat} {x : V}, Vals xs us → xs[i]? = some x → ∃ u, us[i]? = some u ∧ RelV x u
  | _, _, _, _, .nil, e => by simp at e
  | _, _, 0, _, .cons r _, e => by simp at e; subst e; exact ⟨_, rfl, r⟩
  | _, _, i + 1, x, .cons _ t, e => by
    obtain ⟨u, h1, h2⟩ := Vals.get (i := i) (x := x) t (by simpa using e)
    exact ⟨u, by simpa using h1, h2⟩
theorem Vals.set {x : V} {u : Value} (r : RelV x u) : ∀ {xs : List V} {us : List Value} (i : Nat), Vals xs us → Vals (xs.set i x) (us.set i u)
  | _, _, _, .nil => .nil
  | _, _, 0, .cons _ t => .cons r t
  | _, _, i + 1, .cons q t => .cons q (Vals.set r i t)
theorem Vals.append : ∀ {xs ys : List V} {us ws : List Value}, Vals xs us → Vals ys ws → Vals (xs ++ ys) (us ++ ws)
  | _, _, _, _, .nil, s => s
  | _, _, _, _, .cons r t, s => .cons r (Vals.append t s)
theorem Vals.take : ∀ {xs : List V} {us : List Value} (n : Nat), Vals xs us → Vals (xs.take n) (us.take n)
  | _, _, 0, _ => .nil
  | _, _, _ + 1, .nil => .nil
  | _, _, n + 1, .cons r t => .cons r (Vals.take n t)
theorem Vals.drop : ∀ {xs : List V} {us : List Value} (n : Nat), Vals xs us → Vals (xs.drop n) (us.drop n)
  | _, _, 0, r => r
  | _, _, _ + 1, .nil => .nil
  | _, _, n + 1, .cons _ t => Vals.drop n t
def RelO : Option V → Option Value → Prop
  | some v, some u => RelV v u
  | none, none => True
  | _, _ => False
def KV {κ : Type} : List (κ × V) → List (κ × Value) → Prop := Paired fun (p : κ × V) (q : κ × Value) => p.1 = q.1 ∧ RelV p.2 q.2
def kV : Key → V
  | .inl i => .int i
  | .inr x => .str x
inductive HO where
  | lst (xs : List V)
  | tup (xs : List V)
  | dK (kvs : List (Key × V)) | dT (kvs : List (List Key × V))
  | set (S : Int → Bool) (n : Nat)
  | ins (C dx : Addr) (fs : List (Str × V))
  | own (x : Addr)
  | xd (fs : List (Str × V))
  | met (f x : Addr)
  | rng (lo hi : Int)
  | frz (o : Obj) (u : HO)
  | tbl (ps : Array Value)
  | ext (φ : Heap → Prop)
abbrev Hp := Addr → Option HO
def upd (H : Hp) (a : Addr) (o : HO) : Hp := fun b => if b = a then some o else H b
theorem upd_same {H : Hp} {a : Addr} {o : HO} : upd H a o a = some o := by unfold upd; rw [if_pos rfl]
theorem upd_ne {H : Hp} {a b : Addr} {o : HO} (h : b ≠ a) : upd H a o b = H b := by unfold upd; rw [if_neg h]
theorem ne_of_none {H : Hp} {a b : Addr} {o : HO} (h : H a = some o) (h' : H b = none) : a ≠ b := by
  intro e; subst e; rw [h] at h'; cases h'
section
variable (P : Program) (w : World)
def ObjOk (H : Hp) (h : Heap) (a : Addr) : HO → Prop
  | .lst xs => xs.length ≤ sizeLine ∧ ∃ (its : List Value) (n : Nat), Vals xs its ∧ h.get? a = some { cls := .type "list", data := .seq its.toArray n }
  | .tup xs => xs.length ≤ sizeLine ∧ ∃ its : List Value, Vals xs its ∧ IsTup h a its.toArray
  | .dK kvs => kvs.length ≤ sizeLine ∧ (a == sysModules) = false ∧ ∃ vs, KV kvs vs ∧ h.DictOf (mixKind P w) a vs
  | .dT kvs => kvs.length ≤ sizeLine ∧ (a == sysModules) = false ∧ ∃ xs : List (List Key × Addr × Value),
      Paired (fun (p : List Key × V) (q : List Key × Addr × Value) => p.1 = q.1 ∧ H q.2.1 = some (.tup (p.1.map kV)) ∧ RelV p.2 q.2.2) kvs xs ∧
      ∃ o es ep, h.get? a = some o ∧ o.ExactDict ∧ o.data = .dict es ep ∧ es.toList = xs.map (entryOfKey (tupleKind (mixKind P w))) ∧ (xs.map (·.1)).Nodup
  | .set S n => h.SetOf (intKind P w) a S n
  | .ins C dx fs => H dx = some (.own a) ∧ fs.length ≤ 1000 ∧ dx ≠ a ∧ h.get? a = some (PySem.W.instObj C dx) ∧
      ∃ mA, h.Ns1 dx mA ∧ (∀ f, RelO (fs.lookup f) (mA f)) ∧ PySem.Within mA (fs.map (·.1))
  | .own _ => ∃ o, h.get? a = some o
  | .xd fs => ∃ mA, h.Ns1 a mA ∧ ∀ f, RelO (fs.lookup f) (mA f)
  | .rng lo hi => ∃ t u v, h.get? a = some { cls := .type "range", data := .fields #[.int lo t, .int hi u, .int 1 v] }
  | .frz o u => h.get? a = some o ∧ ObjOk H h a u
  | .tbl ps => h.get? a = some { cls := .none, data := .fields ps }
  | .met f x => h.get? a = some (PySem.W.methodObj (.ref f) (.ref x))
  | .ext φ => φ h ∧ (∃ o, h.get? a = some o) ∧ ∀ h1 h2 : Heap, φ h1 → (∀ o, h1.get? a = some o → h2.get? a = some o) → φ h2
def HOk (H : Hp) (h : Heap) : Prop := ∀ a o, H a = some o → ObjOk P w H h a o
end
section
variable {P : Program} {w : World} {H H' : Hp} {h h' : Heap} {a : Addr} {o : HO}
theorem ObjOk.lt (x : ObjOk P w H h a o) : a < h.objs.size := by
  cases o with
  | lst xs => obtain ⟨_, _, _, _, e⟩ := x; exact Heap.lt_size e
  | tup xs => obtain ⟨_, _, _, p⟩ := x; exact p.lt
  | dK kvs => obtain ⟨_, _, _, _, o, _, _, e, _⟩ := x; exact Heap.lt_size e
  | dT kvs => obtain ⟨_, _, _, _, o, _, _, e, _⟩ := x; exact Heap.lt_size e
  | set S n => obtain ⟨o, _, _, _, e, _⟩ := x; exact Heap.lt_size e
  | ins C dx fs => obtain ⟨_, _, _, e, _⟩ := x; exact Heap.lt_size e
  | own y => obtain ⟨_, e⟩ := x; exact Heap.lt_size e
  | xd fs => obtain ⟨_, ⟨_, _, _, e, _⟩, _⟩ := x; exact Heap.lt_size e
  | rng lo hi => obtain ⟨_, _, _, e⟩ := x; exact Heap.lt_size e
  | frz ob u => obtain ⟨e, _⟩ := x; exact Heap.lt_size e
  | tbl ps => exact Heap.lt_size (show h.get? a = some _ from x)
  | met f y => exact Heap.lt_size (show h.get? a = some _ from x)
  | ext φ => obtain ⟨_, ⟨_, e⟩, _⟩ := x; exact Heap.lt_size e
theorem Paired.mapP {α β : Type} {F G : α → β → Prop} : ∀ {l₁ : List α} {l₂ : List β}, Paired F l₁ l₂ → (∀ a b, F a b → G a b) → Paired G l₁ l₂
  | _, _, .nil, _ => .nil
  | _, _, .cons r t, f => .cons (f _ _ r) (Paired.mapP t f)
theorem ObjOk.stay (x : ObjOk P w H h a o) (k : ∀ b u, (b = a ∨ H b = some (.own a)) → h.get? b = some u → h'.get? b = some u)
    (ho : ∀ b, H b = some (.own a) → H' b = some (.own a)) (ht : ∀ b xs, H b = some (.tup xs) → H' b = some (.tup xs)) : ObjOk P w H' h' a o := by
  induction o with
  | lst xs => obtain ⟨z, its, n, r, e⟩ := x; exact ⟨z, its, n, r, k _ _ (.inl rfl) e⟩
  | tup xs => obtain ⟨z, its, r, ob, e, c⟩ := x; exact ⟨z, its, r, ob, k _ _ (.inl rfl) e, c⟩
  | dK kvs => obtain ⟨z, y, vs, r, ob, es, ep, e, c⟩ := x; exact ⟨z, y, vs, r, ob, es, ep, k _ _ (.inl rfl) e, c⟩
  | dT kvs =>
    obtain ⟨z, y, xs, r, ob, es, ep, e, c⟩ := x
    exact ⟨z, y, xs, Paired.mapP r fun p q z => ⟨z.1, ht _ _ z.2.1, z.2.2⟩, ob, es, ep, k _ _ (.inl rfl) e, c⟩
  | set S n => obtain ⟨ob, es, ep, t, e, c⟩ := x; exact ⟨ob, es, ep, t, k _ _ (.inl rfl) e, c⟩
  | ins C dx fs =>
    obtain ⟨d, z, ne, e, mA, ⟨od, es, ep, e2, c⟩, r⟩ := x
    exact ⟨ho _ d, z, ne, k _ _ (.inl rfl) e, mA, ⟨od, es, ep, k _ _ (.inr d) e2, c⟩, r⟩
  | own y => obtain ⟨ob, e⟩ := x; exact ⟨ob, k _ _ (.inl rfl) e⟩
  | xd fs => obtain ⟨mA, ⟨od, es, ep, e, c⟩, r⟩ := x; exact ⟨mA, ⟨od, es, ep, k _ _ (.inl rfl) e, c⟩, r⟩
  | rng lo hi => obtain ⟨t, u, v, e⟩ := x; exact ⟨t, u, v, k _ _ (.inl rfl) e⟩
  | frz ob u ih => obtain ⟨e, q⟩ := x; exact ⟨k _ _ (.inl rfl) e, ih q⟩
  | tbl ps =>
    have e : h.get? a = some { cls := .none, data := .fields ps } := x
    show h'.get? a = some { cls := .none, data := .fields ps }
    exact k a _ (.inl rfl) e
  | met f y =>
    have e : h.get? a = some (PySem.W.methodObj (.ref f) (.ref y)) := x
    show h'.get? a = some (PySem.W.methodObj (.ref f) (.ref y))
    exact k a _ (.inl rfl) e
  | ext φ => obtain ⟨p, ⟨o, e⟩, st⟩ := x; exact ⟨st _ _ p fun o q => k _ _ (.inl rfl) q, ⟨o, k _ _ (.inl rfl) e⟩, st⟩
theorem HOk.lt (x : HOk P w H h) (e : H a = some o) : a < h.objs.size := (x a o e).lt
theorem HOk.fresh (x : HOk P w H h) (e : h.objs.size ≤ a) : H a = none := by
  cases q : H a with
  | none => rfl
  | some u => exact absurd (Nat.lt_of_lt_of_le (x.lt q) e) (Nat.lt_irrefl _)
theorem HOk.kept (x : HOk P w H h) (k : ∀ b u, h.get? b = some u → h'.get? b = some u) : HOk P w H h' := fun a o e =>
  (x a o e).stay (fun b u _ q => k b u q) (fun _ q => q) fun _ _ q => q
theorem HOk.laid (x : HOk P w H h) (k : ∀ b u, h.get? b = some u → h'.get? b = some u) (hp : h.objs.size ≤ a) (new : ObjOk P w (upd H a o) h' a o) : HOk P w (upd H a o) h' := fun b u e => by
  have hn := x.fresh hp
  by_cases hb : b = a
  · subst hb; rw [upd_same] at e; cases e; exact new
  · rw [upd_ne hb] at e
    exact (x b u e).stay (fun c v _ q => k c v q) (fun c q => by rw [upd_ne (ne_of_none q hn)]; exact q) fun c xs q => by rw [upd_ne (ne_of_none q hn)]; exact q
end
def Rd (H : Hp) (a : Addr) (u : HO) : Prop := H a = some u ∨ ∃ o, H a = some (.frz o u)
theorem Rd.ok {P : Program} {w : World} {H : Hp} {h : Heap} {a : Addr} {u : HO} (r : Rd H a u) (x : HOk P w H h) : ObjOk P w H h a u := by
  rcases r with r | ⟨o, r⟩
  · exact x a u r
  · obtain ⟨_, q⟩ := x a _ r
    exact q
def Mut : Option HO → Prop
  | some (.lst _) => True
  | some (.dK _) => True
  | some (.dT _) => True
  | some (.set _ _) => True
  | some (.ins _ _ _) => True
  | some (.ext _) => True
  | _ => False
section
variable {P : Program} {w : World} {H : Hp} {h h' : Heap} {x e : Addr} {o' : HO}
theorem HOk.write (ok : HOk P w H h) (mu : Mut (H x)) (he : e = x ∨ H e = some (.own x)) (k : ∀ b u, b ≠ e → h.get? b = some u → h'.get? b = some u) (heo : ∃ u, h'.get? e = some u)
    (new : ObjOk P w (upd H x o') h' x o') : HOk P w (upd H x o') h' := fun b u q => by
  have nown : ∀ c y, H c = some (.own y) → c ≠ x := fun c y r z => by subst z; rw [r] at mu; exact mu
  have ntup : ∀ c xs, H c = some (.tup xs) → c ≠ x := fun c xs r z => by subst z; rw [r] at mu; exact mu
  by_cases hb : b = x
  · subst hb; rw [upd_same] at q; cases q; exact new
  · rw [upd_ne hb] at q
    by_cases hbe : b = e
    · have q' : H b = some (.own x) := by
        rcases he with z | z
        · exact absurd (hbe.trans z) hb
        · rw [hbe]; exact z
      rw [q] at q'; cases q'
      obtain ⟨v, hv⟩ := heo
      exact ⟨v, by rw [hbe]; exact hv⟩
    · refine (ok b u q).stay (fun c v hc r => k c v ?_ r) (fun c r => by rw [upd_ne (nown c b r)]; exact r) fun c xs r => by rw [upd_ne (ntup c xs r)]; exact r
      rcases hc with rfl | hc
      · exact hbe
      · rintro rfl
        rcases he with z | z
        · exact nown c b hc z
        · rw [hc] at z; cases z; exact hb rfl
end
structure Un (fs ex : List Addr) (H H' : Hp) (h h' : Heap) : Prop where
  keep : ∀ b o, h.get? b = some o → H b = none → b ∉ fs → b ∉ ex → h'.get? b = some o
  slot : ∀ b o, h.get? b = some o → H b = none → b ∈ fs → b ∉ ex → ∃ sl, h'.get? b = some { o with slots := sl }
  free : ∀ b o, h.get? b = some o → H b = none → b ∉ ex → H' b = none
  there : ∀ b o, h.get? b = some o → b ∉ ex → ∃ o', h'.get? b = some o'
  tups : ∀ b xs, H b = some (.tup xs) → H' b = some (.tup xs)
  frzs : ∀ b o u, H b = some (.frz o u) → H' b = some (.frz o u)
  tbls : ∀ b ps, H b = some (.tbl ps) → ∃ more, H' b = some (.tbl (ps ++ more))
section
variable {fs fs' ex ex' : List Addr} {H H1 H2 : Hp} {h h1 h2 h' : Heap} {a x e : Addr} {o : HO}
theorem Un.any (u : Un fs ex H H1 h h1) {b : Addr} {ob : Obj} (q : h.get? b = some ob) (n : H b = none) (hx : b ∉ ex) : ∃ sl, h1.get? b = some { ob with slots := sl } := by
  by_cases hb : b ∈ fs
  · exact u.slot b ob q n hb hx
  · exact ⟨ob.slots, u.keep b ob q n hb hx⟩
theorem Un.kept (k : ∀ b u, h.get? b = some u → h'.get? b = some u) : Un fs ex H H h h' :=
  ⟨fun b ob q _ _ _ => k b ob q, fun b ob q _ _ _ => ⟨ob.slots, k b ob q⟩, fun _ _ _ n _ => n, fun b ob q _ => ⟨ob, k b ob q⟩, fun _ _ q => q, fun _ _ _ q => q, fun _ ps q => ⟨#[], by rw [q]; simp⟩⟩
theorem Un.refl : Un fs ex H H h h := Un.kept fun _ _ q => q
theorem Un.laid (k : ∀ b u, h.get? b = some u → h'.get? b = some u) (hp : h.objs.size ≤ a) (hn : H a = none) : Un fs ex H (upd H a o) h h' where
  keep := fun b u q _ _ _ => k b u q
  slot := fun b u q _ _ _ => ⟨u.slots, k b u q⟩
  free := fun b u q n _ => by rw [upd_ne (Nat.ne_of_lt (Nat.lt_of_lt_of_le (Heap.lt_size q) hp))]; exact n
  there := fun b u q _ => ⟨u, k b u q⟩
  tups := fun b xs q => by rw [upd_ne (ne_of_none q hn)]; exact q
  frzs := fun b u xs q => by rw [upd_ne (ne_of_none q hn)]; exact q
  tbls := fun b ps q => ⟨#[], by rw [upd_ne (ne_of_none q hn), q]; simp⟩
theorem Un.write (mu : Mut (H x)) (he : e = x ∨ H e = some (.own x)) (k : ∀ b u, b ≠ e → h.get? b = some u → h'.get? b = some u) (heo : ∃ u, h'.get? e = some u) : Un fs ex H (upd H x o) h h' := by
  have hx : ∀ b, H b = none → b ≠ x := fun b n z => by subst z; rw [n] at mu; exact mu
  have hb : ∀ b, H b = none → b ≠ e := fun b n z => by
    subst z
    rcases he with r | r
    · exact hx b n r
    · rw [n] at r; cases r
  have hm : ∀ b u, H b = some u → ¬ Mut (some u) → b ≠ x := fun b u q nm z => by subst z; rw [q] at mu; exact nm mu
  refine ⟨fun b u q n _ _ => k b u (hb b n) q, fun b u q n _ _ => ⟨u.slots, k b u (hb b n) q⟩, fun b u q n _ => by rw [upd_ne (hx b n)]; exact n, fun b u q _ => ?_,
    fun b xs q => by rw [upd_ne (hm b _ q fun z => z)]; exact q, fun b u xs q => by rw [upd_ne (hm b _ q fun z => z)]; exact q, fun b ps q => ⟨#[], by rw [upd_ne (hm b _ q fun z => z), q]; simp⟩⟩
  by_cases hbe : b = e
  · subst hbe; exact heo
  · exact ⟨u, k b u hbe q⟩
end
def trk (h : Heap) (H : Hp) : List Addr := (List.range h.objs.size).filter fun a => (H a).isSome
def hidT (h : Heap) (H : Hp) : Heap := PySem.W.hideAll h (trk h H)
theorem hidT_size (h : Heap) (H : Hp) : (hidT h H).objs.size = h.objs.size := PySem.W.hideAll_size _ _
theorem hidT_get {h : Heap} {H : Hp} {b : Addr} {o : Obj} (e : h.get? b = some o) (n : H b = none) : (hidT h H).get? b = some o :=
  PySem.W.hideAll_get _ e fun hm => by
    have q : (H b).isSome = true := (List.mem_filter.mp hm).2
    rw [n] at q; simp at q
theorem of_hidT {h : Heap} {H : Hp} {b : Addr} {o : Obj} (e : (hidT h H).get? b = some o) : h.get? b = some o ∧ H b = none := by
  have e' : h.get? b = some o := PySem.W.of_hideAll (trk h H) e
  refine ⟨e', ?_⟩
  cases q : H b with
  | none => rfl
  | some x =>
    have hm : b ∈ trk h H := List.mem_filter.mpr ⟨List.mem_range.mpr (Heap.lt_size e'), by simp [q]⟩
    have z : (hidT h H).get? b = none := PySem.W.hideAll_none (trk h H) hm
    rw [z] at e; cases e
def allNews (g h : Heap) (L : Addr) : List (Addr × Obj) := (List.range h.objs.size).filterMap fun a => if a = L ∨ (g.get? a).isSome = true then none else (h.get? a).map fun o => (a, o)
def rest (g h : Heap) (L d : Addr) : List (Addr × Obj) := (allNews g h L).filter fun p => decide (p.1 ≠ d)
end L2
namespace L2
open PySem PySem.Spec PyProof.Rows
structure Mod (K : PySem.W.Frag) (mg : Str → Option Value) (base : Heap) : Prop where
  kin : K.In base
  glob : base.Ns mainGlobals mg
  blt : ∃ mb, base.Ns builtinsNs mb ∧ ∀ x : Str, x ≠ "__name__" → mb x = bootBuiltins x
  nolimit : base.NoLimit
structure Cx where
  prog : Program
  w : World
  K : PySem.W.Frag
  mg : Str → Option Value
  base : Heap
  A : Around
  N : List Str
  s₀ : Shared
  H₀ : Hp
  env : Env
  outer : List Env
  stack : List Env
  ex : List Addr
  fn : Str → Bool
  calm : Bool
  pn : List (Addr × Obj)
  xe : Value → Shared → Prop
def frs (l : List Env) : List Addr := l.filterMap (·.frame)
abbrev Cx.fs (X : Cx) : List Addr := frs X.outer
def Vis (sc : Scope) (x : Str) : Prop := sc.names.lookup x = some .local ∨ sc.names.lookup x = some .cell ∨ sc.names.lookup x = some .free
def Loc (sc : Scope) (x : Str) : Prop := sc.names.lookup x = some .local ∨ sc.names.lookup x = some .cell
def Look (env : Env) (h : Heap) (m : Str → Option Value) (x : Str) (u : Value) : Prop :=
  (env.kindOf x = some .local ∧ m x = some u) ∨ ((env.kindOf x = some .cell ∨ env.kindOf x = some .free) ∧ ∃ c, env.cells.lookup x = some c ∧ h.IsCell c (some u))
structure Cx.Ok (X : Cx) : Prop where
  mod : Mod X.K X.mg X.base
  kind : X.env.scope.kind = .function
  glob : X.env.globals = mainGlobals
  blt : X.env.builtins = builtinsNs
  above : X.s₀.heap.objs.size ≤ X.env.locals
  inj : ∀ x y c, X.env.cells.lookup x = some c → X.env.cells.lookup y = some c → x = y
  has : ∀ x, (X.env.kindOf x = some .cell ∨ X.env.kindOf x = some .free) → ∃ c, X.env.cells.lookup x = some c
  cab : ∀ x c, X.fn x = true → X.env.cells.lookup x = some c → X.s₀.heap.objs.size ≤ c
  hd : X.calm = true → X.A.handled = none
  frames : X.A.frames = some X.stack
  stk : X.stack = X.outer ∨ (X.stack = X.env :: X.outer ∧ X.env.frame = some X.env.locals)
  exf : ∀ b ∈ X.ex, b ≠ X.env.locals ∧ ∀ x c, X.env.cells.lookup x = some c → c ≠ b
  bs : ∀ b o, X.base.get? b = some o → X.s₀.heap.get? b = some o ∧ X.H₀ b = none
  bsz : X.base.objs.size ≤ X.s₀.heap.objs.size
  noex : ∀ b o, X.base.get? b = some o → b ∉ X.ex
  exfs : ∀ b ∈ X.ex, b ∉ X.fs
  funs : X.s₀.heap.FunFrames X.base X.outer
  frf : ∀ b ∈ X.fs, X.H₀ b = none
structure Inv (X : Cx) (pins : List (Addr × Obj)) (σ : List (Option V)) (H : Hp) (s : Shared) : Prop where
  ok : X.Ok
  os : s.os = X.s₀.os
  bare : AllBare s.gens
  base : Un X.fs X.ex X.H₀ H X.s₀.heap s.heap
  loc : ∃ m, s.heap.Ns X.env.locals m ∧ ∀ (i : Nat) (x : Str) (v : V), X.N[i]? = some x → σ[i]? = some (some v) → Vis X.env.scope x → ∃ u, RelV v u ∧ Look X.env s.heap m x u
  cell : ∀ x c, X.env.cells.lookup x = some c → ∃ v, s.heap.IsCell c v
  free : H X.env.locals = none
  freeC : ∀ x c, X.env.cells.lookup x = some c → H c = none
  pin : ∀ p ∈ X.pn ++ pins, s.heap.get? p.1 = some p.2 ∧ H p.1 = none ∧ p.1 ≠ X.env.locals ∧ p.1 ∉ X.fs ∧ ∀ v, p.2.data ≠ .cell v
  hok : HOk X.prog X.w H s.heap
  len : σ.length = X.N.length
section
variable {X : Cx} {pins : List (Addr × Obj)} {σ : List (Option V)} {H H' : Hp} {s : Shared} {h' : Heap}
theorem Cx.Ok.nofr (ok : X.Ok) {b : Addr} {o : Obj} (e : X.base.get? b = some o) : b ∉ X.fs := fun hb => by
  have := (ok.funs.mem hb).1
  rw [e] at this; cases this
theorem Inv.bs (I : Inv X pins σ H s) : ∀ b o, X.base.get? b = some o → s.heap.get? b = some o ∧ H b = none := fun b o e =>
  ⟨I.base.keep b o (I.ok.bs b o e).1 (I.ok.bs b o e).2 (I.ok.nofr e) (I.ok.noex b o e), I.base.free b o (I.ok.bs b o e).1 (I.ok.bs b o e).2 (I.ok.noex b o e)⟩
theorem Inv.bk (I : Inv X pins σ H s) : ∀ b o, X.base.get? b = some o → s.heap.get? b = some o := fun b o e => (I.bs b o e).1
theorem Inv.mod (I : Inv X pins σ H s) : Mod X.K X.mg X.base := I.ok.mod
theorem Inv.kIn (I : Inv X pins σ H s) : X.K.In s.heap := I.ok.mod.kin.keeps I.bk
theorem Inv.lt (I : Inv X pins σ H s) : X.env.locals < s.heap.objs.size := let ⟨_, hn, _⟩ := I.loc; hn.lt
theorem Inv.sz (I : Inv X pins σ H s) : X.s₀.heap.objs.size ≤ s.heap.objs.size := Nat.le_trans I.ok.above (Nat.le_of_lt I.lt)
theorem Inv.nofs (I : Inv X pins σ H s) {a : Addr} (h : s.heap.objs.size ≤ a) : a ∉ X.fs := fun hb => by
  obtain ⟨_, o, ho, _⟩ := I.ok.funs.mem hb
  exact absurd (Nat.lt_of_lt_of_le (Heap.lt_size ho) (Nat.le_trans I.sz h)) (Nat.lt_irrefl _)
theorem Inv.cne (I : Inv X pins σ H s) : ∀ x c, X.env.cells.lookup x = some c → c ≠ X.env.locals := fun x c e z => by
  obtain ⟨v, o, ho, hd⟩ := I.cell x c e
  obtain ⟨m, ⟨o', es, ep, ho', hd', _⟩, _⟩ := I.loc
  rw [z, ho'] at ho; cases ho; rw [hd'] at hd; cases hd
theorem Inv.funs (I : Inv X pins σ H s) : s.heap.FunFrames X.base X.outer := by
  have all : ∀ (l : List Env), (∀ b ∈ frs l, b ∈ X.fs) → X.s₀.heap.FunFrames X.base l → s.heap.FunFrames X.base l := by
    intro l
    induction l with
    | nil => intro _ _; trivial
    | cons env r ih =>
      intro hs hl
      obtain ⟨hk, ⟨L, o, hf, hn, ho, hd⟩, hr⟩ := hl
      have hL : L ∈ X.fs := hs L (by unfold frs; rw [List.filterMap_cons, hf]; exact List.mem_cons_self)
      obtain ⟨sl, e⟩ := I.base.slot L o ho (I.ok.frf L hL) hL fun z => I.ok.exfs L z hL
      exact ⟨hk, ⟨L, _, hf, hn, e, hd⟩, ih (fun b hb => hs b (by unfold frs; rw [List.filterMap_cons, hf]; exact List.mem_cons_of_mem _ hb)) hr⟩
  exact all X.outer (fun _ hb => hb) I.ok.funs
theorem Inv.stack (I : Inv X pins σ H s) : s.heap.FunFrames X.base X.stack := by
  rcases I.ok.stk with e | ⟨e, hf⟩
  · rw [e]; exact I.funs
  · rw [e]
    obtain ⟨m, hn, _⟩ := I.loc
    refine .cons (by rw [I.ok.kind]; decide) hf hn ?_ I.funs
    exact Heap.get?_none_of_le (Nat.le_trans I.ok.bsz I.ok.above)
theorem Inv.stkSub (I : Inv X pins σ H s) : ∀ b ∈ frs X.stack, b ∈ X.env.locals :: X.fs := fun b hb => by
  rcases I.ok.stk with e | ⟨e, hf⟩
  · rw [e] at hb; exact List.mem_cons_of_mem _ hb
  · rw [e] at hb
    unfold frs at hb
    rw [List.filterMap_cons, hf] at hb
    exact hb
theorem Inv.stkFree (I : Inv X pins σ H s) : ∀ b ∈ frs X.stack, H b = none := fun b hb => by
  rcases List.mem_cons.mp (I.stkSub b hb) with e | hb
  · rw [e]; exact I.free
  · obtain ⟨_, o, ho, _⟩ := I.ok.funs.mem hb
    exact I.base.free b o ho (I.ok.frf b hb) fun z => I.ok.exfs b z hb
theorem Inv.step {g' : Array GenState} {t' : Nat} {d' : Drawn} {ch : List Addr} (I : Inv X pins σ H s)
    (hch : ∀ b ∈ ch, (b ∈ X.ex ∨ X.s₀.heap.objs.size ≤ b) ∧ b ≠ X.env.locals ∧ (∀ x c, X.env.cells.lookup x = some c → c ≠ b) ∧ ∀ p ∈ X.pn ++ pins, p.1 ≠ b)
    (keep : ∀ b o, b ≠ X.env.locals → b ∉ X.fs → b ∉ ch → s.heap.get? b = some o → H b = none → h'.get? b = some o)
    (slot : ∀ b o, b ≠ X.env.locals → b ∈ X.fs → b ∉ ch → s.heap.get? b = some o → H b = none → ∃ sl, h'.get? b = some { o with slots := sl }) (free : ∀ b o, b ∉ ch → s.heap.get? b = some o → H b = none → H' b = none)
    (there : ∀ b o, b ∉ ch → s.heap.get? b = some o → ∃ o', h'.get? b = some o')
    (tups : ∀ b xs, H b = some (.tup xs) → H' b = some (.tup xs)) (frzs : ∀ b o u, H b = some (.frz o u) → H' b = some (.frz o u)) (tbls : ∀ b ps, H b = some (.tbl ps) → ∃ more, H' b = some (.tbl (ps ++ more)))
    (ns : ∀ m, s.heap.Ns X.env.locals m → h'.Ns X.env.locals m) (hok : HOk X.prog X.w H' h') (hg : AllBare g') :
    Inv X pins σ H' { s with heap := h', gens := g', drawn := d', toks := t' } := by
  have neL : ∀ b o, X.s₀.heap.get? b = some o → b ≠ X.env.locals := fun b o e => Nat.ne_of_lt (Nat.lt_of_lt_of_le (Heap.lt_size e) I.ok.above)
  have neC : ∀ b o, X.s₀.heap.get? b = some o → b ∉ X.ex → b ∉ ch := fun b o e hx hb => by
    rcases (hch b hb).1 with z | z
    · exact hx z
    · exact absurd (Nat.lt_of_lt_of_le (Heap.lt_size e) z) (Nat.lt_irrefl _)
  have cellK : ∀ x c, X.env.cells.lookup x = some c → ∀ v, s.heap.IsCell c v → h'.IsCell c v := fun x c e v ⟨o, ho, hd⟩ => by
    have nch : c ∉ ch := fun z => (hch c z).2.2.1 x c e rfl
    by_cases hc : c ∈ X.fs
    · obtain ⟨sl, q⟩ := slot c o (I.cne x c e) hc nch ho (I.freeC x c e)
      exact ⟨_, q, hd⟩
    · exact ⟨o, keep c o (I.cne x c e) hc nch ho (I.freeC x c e), hd⟩
  refine ⟨I.ok, I.os, hg, ⟨fun b o e n hb hx => ?_, fun b o e n hb hx => ?_, fun b o e n hx => ?_, fun b o e hx => ?_, fun b xs e => tups b xs (I.base.tups b xs e), fun b o xs e => frzs b o xs (I.base.frzs b o xs e), fun b ps e => ?_⟩, ?_, fun x c e => ?_, ?_, fun x c e => ?_, fun p hp => ?_, hok, I.len⟩
  · exact keep b o (neL b o e) hb (neC b o e hx) (I.base.keep b o e n hb hx) (I.base.free b o e n hx)
  · obtain ⟨sl, e1⟩ := I.base.slot b o e n hb hx
    obtain ⟨sl', e2⟩ := slot b _ (neL b o e) hb (neC b o e hx) e1 (I.base.free b o e n hx)
    exact ⟨sl', e2⟩
  · obtain ⟨o', e1⟩ := I.base.there b o e hx
    exact free b o' (neC b o e hx) e1 (I.base.free b o e n hx)
  · obtain ⟨o', e1⟩ := I.base.there b o e hx
    exact there b o' (neC b o e hx) e1
  · obtain ⟨m1, e1⟩ := I.base.tbls b ps e
    obtain ⟨m2, e2⟩ := tbls b _ e1
    exact ⟨m1 ++ m2, by rw [e2, Array.append_assoc]⟩
  · obtain ⟨m, hn, hl⟩ := I.loc
    refine ⟨m, ns m hn, fun i x v e1 e2 e3 => ?_⟩
    obtain ⟨u, r, l⟩ := hl i x v e1 e2 e3
    refine ⟨u, r, ?_⟩
    rcases l with l | ⟨k, c, e, z⟩
    · exact .inl l
    · exact .inr ⟨k, c, e, cellK x c e _ z⟩
  · obtain ⟨v, z⟩ := I.cell x c e
    exact ⟨v, cellK x c e v z⟩
  · obtain ⟨m, ⟨o, _, _, ho, _⟩, _⟩ := I.loc
    exact free _ o (fun z => (hch _ z).2.1 rfl) ho I.free
  · obtain ⟨v, o, ho, hd⟩ := I.cell x c e
    exact free c o (fun z => (hch c z).2.2.1 x c e rfl) ho (I.freeC x c e)
  · obtain ⟨e, n, ne, nf, d⟩ := I.pin p hp
    have nch : p.1 ∉ ch := fun z => (hch p.1 z).2.2.2 p hp rfl
    exact ⟨keep p.1 p.2 ne nf nch e n, free p.1 p.2 nch e n, ne, nf, d⟩
theorem Inv.un {t' : Nat} (I : Inv X pins σ H s) (u : Un X.fs [] H H' s.heap h') (hok : HOk X.prog X.w H' h') : Inv X pins σ H' { s with heap := h', toks := t' } := by
  obtain ⟨m, ⟨o, es, ep, ho, r⟩, _⟩ := id I.loc
  obtain ⟨sl, hL⟩ := u.any ho I.free (by simp)
  exact I.step (g' := s.gens) (d' := s.drawn) (ch := []) (fun _ z => nomatch z) (fun b o _ hb _ e n => u.keep b o e n hb (by simp)) (fun b o _ hb _ e n => u.slot b o e n hb (by simp)) (fun b o _ e n => u.free b o e n (by simp)) (fun b o _ e => u.there b o e (by simp)) u.tups u.frzs u.tbls (fun m' hm => by
    obtain ⟨o', es', ep', ho', r'⟩ := hm
    rw [ho] at ho'; cases ho'
    exact ⟨_, es', ep', hL, r'⟩) hok I.bare
theorem Inv.call {g' : Array GenState} {t' : Nat} {d' : Drawn} {ch : List Addr} (I : Inv X pins σ H s) (u : Un (frs X.stack) ch H H' s.heap h') (hok : HOk X.prog X.w H' h') (hg : AllBare g')
    (hch : ∀ b ∈ ch, (b ∈ X.ex ∨ X.s₀.heap.objs.size ≤ b) ∧ b ≠ X.env.locals ∧ (∀ x c, X.env.cells.lookup x = some c → c ≠ b) ∧ ∀ p ∈ X.pn ++ pins, p.1 ≠ b) :
    Inv X pins σ H' { s with heap := h', gens := g', drawn := d', toks := t' } := by
  obtain ⟨m, ⟨o, es, ep, ho, r⟩, _⟩ := id I.loc
  obtain ⟨sl, hL⟩ := u.any ho I.free fun z => (hch _ z).2.1 rfl
  exact I.step (ch := ch) hch (fun b o hL hb hc e n => u.keep b o e n (fun z => (List.mem_cons.mp (I.stkSub b z)).elim hL hb) hc) (fun b o _ _ hc e n => u.any e n hc) (fun b o hc e n => u.free b o e n hc) (fun b o hc e => u.there b o e hc) u.tups u.frzs u.tbls (fun m' hm => by
    obtain ⟨o', es', ep', ho', r'⟩ := hm
    rw [ho] at ho'; cases ho'
    exact ⟨_, es', ep', hL, r'⟩) hok hg
theorem Inv.turned {t' : Nat} {it : Addr} (I : Inv X pins σ H s) (k : ∀ b o, b ≠ it → s.heap.get? b = some o → h'.get? b = some o) (hn : H it = none) (hL : it ≠ X.env.locals)
    (h1 : it ∈ X.ex ∨ X.s₀.heap.objs.size ≤ it) (h2 : ∀ x c, X.env.cells.lookup x = some c → c ≠ it) (h3 : ∀ p ∈ X.pn ++ pins, p.1 ≠ it) : Inv X pins σ H { s with heap := h', toks := t' } := by
  have nit : ∀ b u, H b = some u → b ≠ it := fun b u e z => by rw [z, hn] at e; cases e
  refine I.step (g' := s.gens) (d' := s.drawn) (ch := [it]) (fun b hb => ?_) (fun b o _ _ hc e _ => k b o (fun z => hc (by simp [z])) e) (fun b o _ _ hc e _ => ⟨o.slots, k b o (fun z => hc (by simp [z])) e⟩) (fun _ _ _ _ n => n)
    (fun b o hc e => ⟨o, k b o (fun z => hc (by simp [z])) e⟩) (fun _ _ e => e) (fun _ _ _ e => e) (fun b ps e => ⟨#[], by rw [e]; simp⟩) (fun m hm => ?_) (fun b u e => ?_) I.bare
  · have e : b = it := by simpa using hb
    subst e
    exact ⟨h1, hL, h2, h3⟩
  · obtain ⟨o, es, ep, ho, r⟩ := hm
    exact ⟨o, es, ep, k _ o (Ne.symm hL) ho, r⟩
  · refine (I.hok b u e).stay (fun c v hc q => k c v ?_ q) (fun _ q => q) fun _ _ q => q
    rcases hc with z | z
    · rw [z]; exact nit b u e
    · exact nit c _ z
theorem Inv.tok (I : Inv X pins σ H s) (t : Nat) : Inv X pins σ H { s with toks := t } := I.un (h' := s.heap) (t' := t) Un.refl I.hok
theorem Inv.kept {t' : Nat} (I : Inv X pins σ H s) (k : ∀ b u, s.heap.get? b = some u → h'.get? b = some u) : Inv X pins σ H { s with heap := h', toks := t' } := I.un (Un.kept k) (I.hok.kept k)
theorem Inv.laid {a : Addr} {o : HO} {t' : Nat} (I : Inv X pins σ H s) (k : ∀ b u, s.heap.get? b = some u → h'.get? b = some u) (hp : s.heap.objs.size ≤ a) (new : ObjOk X.prog X.w (upd H a o) h' a o) :
    Inv X pins σ (upd H a o) { s with heap := h', toks := t' } := I.un (Un.laid k hp (I.hok.fresh hp)) (I.hok.laid k hp new)
theorem Inv.write {x e : Addr} {o : HO} {t' : Nat} (I : Inv X pins σ H s) (mu : Mut (H x)) (he : e = x ∨ H e = some (.own x)) (k : ∀ b u, b ≠ e → s.heap.get? b = some u → h'.get? b = some u) (heo : ∃ u, h'.get? e = some u)
    (new : ObjOk X.prog X.w (upd H x o) h' x o) : Inv X pins σ (upd H x o) { s with heap := h', toks := t' } := I.un (Un.write mu he k heo) (I.hok.write mu he k heo new)
theorem Inv.pins_of {pins' : List (Addr × Obj)} (I : Inv X pins σ H s) (h : ∀ p ∈ pins', s.heap.get? p.1 = some p.2 ∧ H p.1 = none ∧ p.1 ≠ X.env.locals ∧ p.1 ∉ X.fs ∧ ∀ v, p.2.data ≠ .cell v) : Inv X pins' σ H s :=
  ⟨I.ok, I.os, I.bare, I.base, I.loc, I.cell, I.free, I.freeC, fun p hp => (List.mem_append.mp hp).elim (fun z => I.pin p (List.mem_append_left _ z)) (h p), I.hok, I.len⟩
theorem nodup_ix {N : List Str} (hN : N.Nodup) {i j : Nat} {x : Str} (a : N[i]? = some x) (b : N[j]? = some x) : i = j := by
  obtain ⟨h1, e1⟩ := List.getElem?_eq_some_iff.mp a
  obtain ⟨h2, e2⟩ := List.getElem?_eq_some_iff.mp b
  exact (List.getElem_inj hN).mp (e1.trans e2.symm)
theorem store_ok2 {M : Model} {A : Around} {E : Value → Shared → Prop} {i : Nat} {x : Str} {v : V} {u : Value} {Q : Unit → Shared → Prop} (I : Inv X pins σ H s) (hN : X.N.Nodup) (hi : X.N[i]? = some x) (hx : Loc X.env.scope x) (r : RelV v u)
    (h : ∀ s', Inv X pins (σ.set i (some v)) H s' → (∃ a, Heap.SameBut a s.heap s'.heap ∧ (a = X.env.locals ∨ X.env.cells.lookup x = some a)) → Q () s') (hf : X.fn x = true ∨ X.env.scope.names.lookup x = some .local := by first | exact .inl rfl | exact .inr rfl | assumption) : wpAny M A (storeName X.env x u) Q E s := by
  obtain ⟨m, hn, hl⟩ := id I.loc
  have hcls : (X.env.scope.kind == .class || (X.env.scope.kind == .module && X.env.locals != X.env.globals)) = false := by rw [I.ok.kind]; rfl
  have hiσ : i < σ.length := by rw [I.len]; exact (List.getElem?_eq_some_iff.mp hi).1
  have cne := I.cne
  have tracked : ∀ {a : Addr} {h' : Heap}, (∃ o, s.heap.get? a = some o ∧ H a = none) → Heap.SameBut a s.heap h' → HOk X.prog X.w H h' := fun {a h'} ha hs b ob e => by
    obtain ⟨_, _, hfree⟩ := ha
    refine (I.hok b ob e).stay (fun c w' hc q => (hs.2 c ?_).trans q) (fun _ q => q) fun _ _ q => q
    rintro rfl
    rcases hc with rfl | hc
    · rw [hfree] at e; cases e
    · rw [hfree] at hc; cases hc
  rcases hx with hk | hk
  · refine wpAny_storeName_local hk hn (fun h' hn' hs => ?_) hcls
    obtain ⟨oL, _, _, hoL, _⟩ := id hn
    refine h _ ⟨I.ok, I.os, I.bare, ⟨fun b o e n hb hx => ?_, fun b o e n hb hx => ?_, I.base.free, fun b o e hx => ?_, I.base.tups, I.base.frzs, I.base.tbls⟩, ⟨_, hn', fun j y v' e1 e2 e3 => ?_⟩, fun y c e => ?_, I.free, I.freeC, fun p hp => ?_, tracked ⟨oL, hoL, I.free⟩ hs, by simpa using I.len⟩ ⟨_, hs, .inl rfl⟩
    · exact (hs.2 b (Nat.ne_of_lt (Nat.lt_of_lt_of_le (Heap.lt_size e) I.ok.above))).trans (I.base.keep b o e n hb hx)
    · obtain ⟨sl, e1⟩ := I.base.slot b o e n hb hx
      exact ⟨sl, (hs.2 b (Nat.ne_of_lt (Nat.lt_of_lt_of_le (Heap.lt_size e) I.ok.above))).trans e1⟩
    · obtain ⟨o', e1⟩ := I.base.there b o e hx
      exact ⟨o', (hs.2 b (Nat.ne_of_lt (Nat.lt_of_lt_of_le (Heap.lt_size e) I.ok.above))).trans e1⟩
    · by_cases hj : j = i
      · subst hj
        rw [hi] at e1; cases e1
        rw [List.getElem?_set_self hiσ] at e2
        cases e2
        exact ⟨u, r, .inl ⟨hk, by simp⟩⟩
      · rw [List.getElem?_set_ne (Ne.symm hj)] at e2
        obtain ⟨u', r', q⟩ := hl j y v' e1 e2 e3
        refine ⟨u', r', ?_⟩
        rcases q with ⟨k, e⟩ | ⟨k, c, e, z⟩
        · refine .inl ⟨k, ?_⟩
          have : y ≠ x := fun e => hj (nodup_ix hN e1 (e ▸ hi))
          simp [this, e]
        · exact .inr ⟨k, c, e, z.sameBut hs (cne y c e)⟩
    · obtain ⟨w', z⟩ := I.cell y c e
      exact ⟨w', z.sameBut hs (cne y c e)⟩
    · obtain ⟨e, n, ne, nf, d⟩ := I.pin p hp
      exact ⟨(hs.2 p.1 ne).trans e, n, ne, nf, d⟩
  · have hfn : X.fn x = true := by
      rcases hf with z | z
      · exact z
      · rw [z] at hk; cases hk
    obtain ⟨c, hc⟩ := I.ok.has x (.inl hk)
    obtain ⟨w', z⟩ := I.cell x c hc
    refine wpAny_storeName_cell I.ok.kind hk hc z (fun h' hc' hs => ?_)
    obtain ⟨oc, hoc, hocd⟩ := id z
    refine h { s with heap := h' } ⟨I.ok, I.os, I.bare, ⟨fun b o e n hb hx => ?_, fun b o e n hb hx => ?_, I.base.free, fun b o e hx => ?_, I.base.tups, I.base.frzs, I.base.tbls⟩, ⟨m, hn.sameBut hs (Ne.symm (cne x c hc)), fun j y v' e1 e2 e3 => ?_⟩, fun y c' e => ?_, I.free, I.freeC, fun p hp => ?_, tracked ⟨oc, hoc, I.freeC x c hc⟩ hs, by simpa using I.len⟩ ⟨c, hs, .inr hc⟩
    · exact (hs.2 b (Nat.ne_of_lt (Nat.lt_of_lt_of_le (Heap.lt_size e) (I.ok.cab x c hfn hc)))).trans (I.base.keep b o e n hb hx)
    · obtain ⟨sl, e1⟩ := I.base.slot b o e n hb hx
      exact ⟨sl, (hs.2 b (Nat.ne_of_lt (Nat.lt_of_lt_of_le (Heap.lt_size e) (I.ok.cab x c hfn hc)))).trans e1⟩
    · obtain ⟨o', e1⟩ := I.base.there b o e hx
      exact ⟨o', (hs.2 b (Nat.ne_of_lt (Nat.lt_of_lt_of_le (Heap.lt_size e) (I.ok.cab x c hfn hc)))).trans e1⟩
    · by_cases hj : j = i
      · subst hj
        rw [hi] at e1; cases e1
        rw [List.getElem?_set_self hiσ] at e2
        cases e2
        exact ⟨u, r, .inr ⟨.inl hk, c, hc, hc'⟩⟩
      · rw [List.getElem?_set_ne (Ne.symm hj)] at e2
        obtain ⟨u', r', q⟩ := hl j y v' e1 e2 e3
        refine ⟨u', r', ?_⟩
        rcases q with q | ⟨k, c', e, z'⟩
        · exact .inl q
        · refine .inr ⟨k, c', e, z'.sameBut hs ?_⟩
          rintro rfl
          exact hj (nodup_ix hN e1 (I.ok.inj _ _ _ e hc ▸ hi))
    · by_cases hcc : c' = c
      · subst hcc; exact ⟨_, hc'⟩
      · obtain ⟨w2, z2⟩ := I.cell y c' e
        exact ⟨w2, z2.sameBut hs hcc⟩
    · obtain ⟨e, n, ne, nf, d⟩ := I.pin p hp
      refine ⟨(hs.2 p.1 ?_).trans e, n, ne, nf, d⟩
      intro q
      rw [q, hoc] at e
      have q' : oc = p.2 := Option.some.inj e
      exact d w' (by rw [← q']; exact hocd)
theorem store_ok {M : Model} {A : Around} {E : Value → Shared → Prop} {i : Nat} {x : Str} {v : V} {u : Value} {Q : Unit → Shared → Prop} (I : Inv X pins σ H s) (hN : X.N.Nodup) (hi : X.N[i]? = some x) (hx : Loc X.env.scope x) (r : RelV v u)
    (h : ∀ s', Inv X pins (σ.set i (some v)) H s' → Q () s') (hf : X.fn x = true ∨ X.env.scope.names.lookup x = some .local := by first | exact .inl rfl | exact .inr rfl | assumption) : wpAny M A (storeName X.env x u) Q E s :=
  store_ok2 I hN hi hx r (fun s' I' _ => h s' I') hf
theorem Inv.call' {s' : Shared} {ch : List Addr} (I : Inv X pins σ H s) (ho : s'.os = s.os) (u : Un (frs X.stack) ch H H' s.heap s'.heap) (hok : HOk X.prog X.w H' s'.heap) (hg : AllBare s'.gens)
    (hch : ∀ b ∈ ch, (b ∈ X.ex ∨ X.s₀.heap.objs.size ≤ b) ∧ b ≠ X.env.locals ∧ (∀ x c, X.env.cells.lookup x = some c → c ≠ b) ∧ ∀ p ∈ X.pn ++ pins, p.1 ≠ b) : Inv X pins σ H' s' := by
  obtain ⟨h', g', d', t', o'⟩ := s'
  have e : o' = s.os := ho
  subst e
  exact I.call (g' := g') (t' := t') (d' := d') u hok hg hch
end
abbrev XK := Value → Option Addr → Hp → Prop
abbrev St := List (Option V)
abbrev VK := V → Hp → Prop
abbrev TE := St → Hp → VK → Prop
abbrev TT := St → Hp → (Bool → Hp → Prop) → Prop
abbrev TA := St → Hp → (List V → Hp → Prop) → Prop
structure Ends where
  nx : St → Hp → Prop
  rt : VK
  bk : St → Hp → Prop := fun _ _ => False
  ct : St → Hp → Prop := fun _ _ => False
abbrev TS := Ends → St → Hp → Prop
def EP (X : Cx) (pins : List (Addr × Obj)) (σ : St) (Q : VK) (u : Value) (s' : Shared) : Prop := ∃ v H', Inv X pins σ H' s' ∧ RelV v u ∧ Q v H'
def TP (X : Cx) (pins : List (Addr × Obj)) (σ : St) (Q : Bool → Hp → Prop) (b : Bool) (s' : Shared) : Prop := ∃ H', Inv X pins σ H' s' ∧ Q b H'
def AP (X : Cx) (pins : List (Addr × Obj)) (σ : St) (Q : List V → Hp → Prop) (us : List Value) (s' : Shared) : Prop := ∃ vs H', Inv X pins σ H' s' ∧ Vals vs us ∧ Q vs H'
def SP (X : Cx) (pins : List (Addr × Obj)) (D : Ends) (f : Flow) (s' : Shared) : Prop :=
  match f with
  | .next => ∃ σ' H', Inv X pins σ' H' s' ∧ D.nx σ' H'
  | .brk => ∃ σ' H', Inv X pins σ' H' s' ∧ D.bk σ' H'
  | .cont => ∃ σ' H', Inv X pins σ' H' s' ∧ D.ct σ' H'
  | .ret u => ∃ v σ' H', Inv X pins σ' H' s' ∧ RelV v u ∧ D.rt v H'
def PE (X : Cx) (e : Expr) (t : TE) : Prop :=
  ∀ (pins : List (Addr × Obj)) (s : Shared) (σ : St) (H : Hp) (Q : VK), Inv X pins σ H s → t σ H Q → wpAny (model X.prog X.w) X.A (eval e X.env) (EP X pins σ Q) X.xe s
def PT (X : Cx) (e : Expr) (t : TT) : Prop :=
  ∀ (pins : List (Addr × Obj)) (s : Shared) (σ : St) (H : Hp) (Q : Bool → Hp → Prop), Inv X pins σ H s → t σ H Q → wpAny (model X.prog X.w) X.A (isTrue e X.env (eval e X.env)) (TP X pins σ Q) X.xe s
def PW (X : Cx) (e : Expr) (t : TT) : Prop :=
  ∀ (whole : Sem Value) (pins : List (Addr × Obj)) (s : Shared) (σ : St) (H : Hp) (Q : Bool → Hp → Prop), Inv X pins σ H s → t σ H Q → wpAny (model X.prog X.w) X.A (isTrue e X.env whole) (TP X pins σ Q) X.xe s
theorem PW.pt {X : Cx} {e : Expr} {t : TT} (h : PW X e t) : PT X e t := h _
def PA (X : Cx) (es : List Expr) (t : TA) : Prop :=
  ∀ (pos : PySem.Pos) (pins : List (Addr × Obj)) (s : Shared) (σ : St) (H : Hp) (Q : List V → Hp → Prop), Inv X pins σ H s → t σ H Q → wpAny (model X.prog X.w) X.A (spliced (backTo pos (starEach es X.env))) (AP X pins σ Q) X.xe s
def PS (X : Cx) (st : Stmt) (t : TS) : Prop :=
  ∀ (pins : List (Addr × Obj)) (s : Shared) (σ : St) (H : Hp) (D : Ends), Inv X pins σ H s → t D σ H → wpAny (model X.prog X.w) X.A (exec st X.env) (SP X pins D) X.xe s
def PSs (X : Cx) (st : List Stmt) (t : TS) : Prop :=
  ∀ (pins : List (Addr × Obj)) (s : Shared) (σ : St) (H : Hp) (D : Ends), Inv X pins σ H s → t D σ H → wpAny (model X.prog X.w) X.A (execs st X.env) (SP X pins D) X.xe s
theorem thn {α : Type} {t : Sem α} {Q Q' : α → Shared → Prop} {M : Model} {A : Around} {E : Value → Shared → Prop} {s : Shared} (h : wpAny M A t Q E s) (hQ : ∀ a s, Q a s → Q' a s) : wpAny M A t Q' E s := wpAny_mono h hQ fun _ _ x => x
end L2
namespace L2
open PySem PySem.Spec PyProof.Rows
section
variable {X : Cx}
def tVar (i : Nat) : TE := fun σ H Q => ∃ v, σ[i]? = some (some v) ∧ Q v H
def tC (v : V) : TE := fun _ H Q => Q v H
theorem pe_var {i : Nat} {x : Str} {pos : PySem.Pos} (hN : X.N[i]? = some x) (hv : Vis X.env.scope x) (hd : (x == ("__debug__" : Str)) = false := by decide) (hcd : (x == ("__classdict__" : Str)) = false := by decide) : PE X (.Name x pos) (tVar i) := by
  intro pins s σ H Q I h
  obtain ⟨v, e, h⟩ := h
  obtain ⟨m, hn, hl⟩ := I.loc
  obtain ⟨u, r, l⟩ := hl i x v hN e hv
  have fin : EP X pins σ Q u s := ⟨v, H, I, r, h⟩
  rcases l with ⟨hk, hm⟩ | ⟨hk, c, hc, hcell⟩
  · exact wpAny_Name (wpAny_loadName_local I.ok.kind hk hn hm fin) hd
  · rcases hk with hk | hk
    · exact wpAny_Name (wpAny_loadName_cell I.ok.kind hk hc hcell fin) hd
    · exact wpAny_Name (wpAny_loadName_free I.ok.kind hk hc hcell fin hcd) hd
theorem pe_int {i j pos} : PE X (.Constant (.int i) j pos) (tC (.int i)) := fun _ _ _ H _ I h => wpAny_Constant_int ⟨.int i, H, I.tok _, ⟨_, rfl⟩, h⟩
theorem pe_bl {b j pos} : PE X (.Constant (.bool b) j pos) (tC (.bl b)) := fun _ _ _ H _ I h => Constant_bool ⟨.bl b, H, I, rfl, h⟩
theorem pe_non {j pos} : PE X (.Constant .none j pos) (tC .non) := fun _ _ _ H _ I h => Constant_none ⟨.non, H, I, rfl, h⟩
theorem pe_str {x j pos} : PE X (.Constant (.str x) j pos) (tC (.str x)) := fun _ _ _ H _ I h => Calls.Constant_str ⟨.str x, H, I.tok _, ⟨_, rfl⟩, h⟩
def Gl (X : Cx) (x : Str) : Prop := X.env.kindOf x = some .globalImplicit
theorem ld_glob {E : Value → Shared → Prop} {pins : List (Addr × Obj)} {s : Shared} {σ : St} {H : Hp} {x : Str} {u : Value} {pos : PySem.Pos} {Q : Value → Shared → Prop} (I : Inv X pins σ H s) (hg : Gl X x) (hm : X.mg x = some u) (h : Q u s)
    (hd : (x == ("__debug__" : Str)) = false := by decide) : wpAny (model X.prog X.w) X.A (eval (.Name x pos) X.env) Q E s :=
  Calls.Name_function_global I.ok.kind hg (Calls.loadGlobal_global (by rw [I.ok.glob]; exact I.mod.glob.keeps I.bk) hm h) hd
theorem ld_blt {E : Value → Shared → Prop} {pins : List (Addr × Obj)} {s : Shared} {σ : St} {H : Hp} {x : Str} {u : Value} {pos : PySem.Pos} {Q : Value → Shared → Prop} (I : Inv X pins σ H s) (hg : Gl X x) (hm : X.mg x = none) (hv : bootBuiltins x = some u) (h : Q u s)
    (hn : x ≠ "__name__" := by decide) (hd : (x == ("__debug__" : Str)) = false := by decide) : wpAny (model X.prog X.w) X.A (eval (.Name x pos) X.env) Q E s := by
  obtain ⟨mb, h1, h2⟩ := I.mod.blt
  exact Calls.Name_function_global I.ok.kind hg (Calls.loadGlobal_builtin (by rw [I.ok.glob]; exact I.mod.glob.keeps I.bk) hm (by rw [I.ok.blt]; exact h1.keeps I.bk) ((h2 x hn).trans hv) h) hd
theorem pe_glob {x : Str} {v : V} {u : Value} {pos : PySem.Pos} (hg : Gl X x) (hm : X.mg x = some u) (r : RelV v u) (hd : (x == ("__debug__" : Str)) = false := by decide) : PE X (.Name x pos) (tC v) :=
  fun _ _ _ H _ I h => ld_glob I hg hm ⟨v, H, I, r, h⟩ hd
theorem pe_bltn {x : Str} {v : V} {u : Value} {pos : PySem.Pos} (hg : Gl X x) (hm : X.mg x = none) (hv : bootBuiltins x = some u) (r : RelV v u) (hn : x ≠ "__name__" := by decide) (hd : (x == ("__debug__" : Str)) = false := by decide) : PE X (.Name x pos) (tC v) :=
  fun _ _ _ H _ I h => ld_blt I hg hm hv ⟨v, H, I, r, h⟩ hn hd
variable {a b : Expr} {ta tb : TE} {pos : PySem.Pos}
def PC (X : Cx) (op : CmpOp) (a b : Expr) (t : TE) : Prop :=
  ∀ (pins : List (Addr × Obj)) (s : Shared) (σ : St) (H : Hp) (Q : VK), Inv X pins σ H s → t σ H Q →
    wpAny (model X.prog X.w) X.A (eval a X.env) (fun v s₁ => wpAny (model X.prog X.w) X.A (eval b X.env) (fun u s₂ => wpAny (model X.prog X.w) X.A (compareOp op v u) (EP X pins σ Q) X.xe s₂) X.xe s₁) X.xe s
theorem nobehind (b : Expr) {op : CmpOp} (h : op ≠ .In) (h2 : op ≠ .NotIn) : behindInMarks op b = false := by
  have e1 : (op == CmpOp.In) = false := by cases op <;> first | rfl | exact absurd rfl h
  have e2 : (op == CmpOp.NotIn) = false := by cases op <;> first | rfl | exact absurd rfl h2
  cases b <;> simp [behindInMarks, e1, e2]
def tIsN (ta : TE) : TE := fun σ H Q => ta σ H fun x H1 => Q (.bl (decide (x = .non))) H1
theorem RelV.none_iff {x : V} {v : Value} (r : RelV x v) : (v == Value.none) = decide (x = .non) := by
  cases x with
  | non => cases r; rfl
  | bl _ => cases r; rfl
  | int _ => obtain ⟨t, rfl⟩ := r; rfl
  | str _ => obtain ⟨t, rfl⟩ := r; rfl
  | byt _ => obtain ⟨t, rfl⟩ := r; rfl
  | flt _ => obtain ⟨t, rfl⟩ := r; rfl
  | ref _ => cases r; rfl
  | ty _ => cases r; rfl
theorem pc_isN {j pos'} (ha : PE X a ta) : PC X .Is a (.Constant .none j pos') (tIsN ta) := by
  intro pins s σ H Q I h
  refine thn (ha pins s σ H _ I h) fun v s1 ⟨x, H1, I1, r1, q1⟩ => ?_
  exact Constant_none (is_none_gen ⟨.bl _, H1, I1, by rw [r1.none_iff]; rfl, q1⟩)
def tB (t : TE) : TT := fun σ H Q => t σ H fun x H1 => ∃ c, x = .bl c ∧ Q c H1
theorem pt_cmp {op : CmpOp} {t : TE} (h : PC X op a b t) (h1 : behindInMarks op b = false := by first | exact nobehind _ (by decide) (by decide) | rfl) : PT X (.Compare a [op] [b] pos) (tB t) := by
  intro pins s σ H Q I hw
  refine wpAny_isTrue_Compare1 (thn (h pins s σ H _ I hw) fun v s1 h1 => thn h1 fun u s2 h2 => thn h2 fun c s3 ⟨x, H1, I1, r1, q1⟩ => ?_) h1
  obtain ⟨d, rfl, q⟩ := q1
  cases r1
  exact wpAny_truthy_bool ⟨H1, I1, q⟩
theorem pt_val {e : Expr} {t : TE} (h : PE X e t) (he : ∀ whole, isTrue e X.env whole = (do let v ← whole; standAt e.pos; holding [v] (truthy v)) := by intro _; rfl) : PT X e (tB t) := by
  intro pins s σ H Q I hw
  refine isTrue_plain (thn (h pins s σ H _ I hw) fun v s1 ⟨x, H1, I1, r1, q1⟩ => ?_) (he _)
  obtain ⟨d, rfl, q⟩ := q1
  cases r1
  exact wpAny_truthy_bool ⟨H1, I1, q⟩
variable {tA tB' : TT} {rest : List Expr}
def tAnd (t u : TT) : TT := fun σ H Q => t σ H fun c H1 => if c = true then u σ H1 Q else Q false H1
def tOr (t u : TT) : TT := fun σ H Q => t σ H fun c H1 => if c = true then Q true H1 else u σ H1 Q
def tNot (t : TT) : TT := fun σ H Q => t σ H fun c H1 => Q (!c) H1
theorem pw_and1 (ha : PT X a tA) : PW X (.BoolOp .And [a] pos) tA := by
  intro wh pins s σ H Q I h
  refine isTrue_and (thn (ha pins s σ H Q I h) fun c s1 e => ?_)
  cases c with
  | true => exact isTrue_and_nil e
  | false => exact e
theorem pw_or1 (ha : PT X a tA) : PW X (.BoolOp .Or [a] pos) tA := by
  intro wh pins s σ H Q I h
  refine isTrue_or (thn (ha pins s σ H Q I h) fun c s1 e => ?_)
  cases c with
  | false => exact isTrue_or_nil e
  | true => exact e
theorem pw_and (ha : PT X a tA) (hb : PW X (.BoolOp .And (b :: rest) pos) tB') : PW X (.BoolOp .And (a :: b :: rest) pos) (tAnd tA tB') := by
  intro wh pins s σ H Q I h
  refine isTrue_and (thn (ha pins s σ H _ I h) fun c s1 ⟨H1, I1, q1⟩ => ?_)
  cases c with
  | true => exact hb wh pins s1 σ H1 Q I1 q1
  | false => exact ⟨H1, I1, q1⟩
theorem pw_or (ha : PT X a tA) (hb : PW X (.BoolOp .Or (b :: rest) pos) tB') : PW X (.BoolOp .Or (a :: b :: rest) pos) (tOr tA tB') := by
  intro wh pins s σ H Q I h
  refine isTrue_or (thn (ha pins s σ H _ I h) fun c s1 ⟨H1, I1, q1⟩ => ?_)
  cases c with
  | true => exact ⟨H1, I1, q1⟩
  | false => exact hb wh pins s1 σ H1 Q I1 q1
theorem pt_not (ha : PT X a tA) : PT X (.UnaryOp .Not a pos) (tNot tA) := by
  intro pins s σ H Q I h
  exact isTrue_not (ha pins s σ H (fun c H1 => Q (!c) H1) I h)
def tAndV (ta tb : TE) : TE := fun σ H Q => ta σ H fun x H1 => ∃ c, x = .bl c ∧ if c = true then tb σ H1 Q else Q (.bl false) H1
def tNotV (ta : TE) : TE := fun σ H Q => ta σ H fun x H1 => ∃ c, x = .bl c ∧ Q (.bl (!c)) H1
theorem pe_one {op} {t : TE} (h : PE X a t) : PE X (.BoolOp op [a] pos) t := fun pins s σ H Q I hw => BoolOp_one (h pins s σ H Q I hw)
theorem pe_and (ha : PE X a ta) (hb : PE X (.BoolOp .And (b :: rest) pos) tb) : PE X (.BoolOp .And (a :: b :: rest) pos) (tAndV ta tb) := by
  intro pins s σ H Q I h
  refine BoolOp_and (thn (ha pins s σ H _ I h) fun v s1 ⟨x, H1, I1, r1, q1⟩ => ?_)
  obtain ⟨c, rfl, q1⟩ := q1
  cases r1
  refine wpAny_truthy_bool ?_
  cases c with
  | true => exact hb pins s1 σ H1 Q I1 q1
  | false => exact ⟨.bl false, H1, I1, rfl, q1⟩
theorem pe_not (ha : PE X a ta) : PE X (.UnaryOp .Not a pos) (tNotV ta) := by
  intro pins s σ H Q I h
  refine UnaryOp_ (thn (ha pins s σ H _ I h) fun v s1 ⟨x, H1, I1, r1, q1⟩ => ?_)
  obtain ⟨c, rfl, q1⟩ := q1
  cases r1
  exact not_of (wpAny_truthy_bool ⟨.bl (!c), H1, I1, rfl, q1⟩)
end
end L2
namespace L2
open PySem PySem.Spec PyProof.Rows
def SqL (K : PySem.W.Frag) (H : Hp) (a : Addr) (xs : List V) : Prop :=
  Rd H a (.lst xs) ∨
    ∃ (o : Obj) (its : Array Value) (n : Nat), K.lookup a = some o ∧ o.cls = .type "list" ∧ o.dict = none ∧ o.data = .seq its n ∧ its.size ≤ sizeLine ∧ Vals xs its.toList
def SqT (K : PySem.W.Frag) (H : Hp) (a : Addr) (xs : List V) : Prop :=
  Rd H a (.tup xs) ∨
    ∃ (o : Obj) (its : Array Value) (n : Nat), K.lookup a = some o ∧ o.cls = .type "tuple" ∧ o.data = .seq its n ∧ its.size ≤ sizeLine ∧ Vals xs its.toList
def absV : Value → Option V
  | .none => some .non
  | .bool b => some (.bl b)
  | .int i _ => some (.int i)
  | .str x _ => some (.str x)
  | .bytes b _ => some (.byt b)
  | .float b _ => some (.flt b)
  | .ref a => some (.ref a)
  | .type n => some (.ty n)
  | _ => none
theorem RelV.abs {x : V} {u : Value} (r : RelV x u) : absV u = some x := by
  cases x with
  | non => cases r; rfl
  | bl _ => cases r; rfl
  | int _ => obtain ⟨t, rfl⟩ := r; rfl
  | str _ => obtain ⟨t, rfl⟩ := r; rfl
  | byt _ => obtain ⟨t, rfl⟩ := r; rfl
  | flt _ => obtain ⟨t, rfl⟩ := r; rfl
  | ref _ => cases r; rfl
  | ty _ => cases r; rfl
theorem RelV.inj {x y : V} {u : Value} (r : RelV x u) (q : RelV y u) : x = y := Option.some.inj (r.abs.symm.trans q.abs)
theorem Vals.inj : ∀ {xs ys : List V} {us : List Value}, Vals xs us → Vals ys us → xs = ys
  | _, _, _, .nil, .nil => rfl
  | _, _, _, .cons r t, .cons r' t' => by rw [r.inj r', Vals.inj t t']
section
variable {X : Cx} {pins : List (Addr × Obj)} {σ : St} {H : Hp} {s : Shared} {a : Addr} {xs ys : List V}
theorem SqL.of {K : PySem.W.Frag} (h : H a = some (.lst xs)) : SqL K H a xs := .inl (.inl h)
theorem SqT.of {K : PySem.W.Frag} (h : H a = some (.tup xs)) : SqT K H a xs := .inl (.inl h)
theorem Inv.list (I : Inv X pins σ H s) (h : SqL X.K H a xs) : ∃ its : List Value, Vals xs its ∧ PlainL s.heap a its.toArray ∧ xs.length ≤ sizeLine := by
  rcases h with h | ⟨o, its, n, hk, hc, hd, hs, hz, r⟩
  · obtain ⟨z, its, n, r, e⟩ := h.ok I.hok
    exact ⟨its, r, ⟨_, n, e, rfl, rfl, rfl⟩, z⟩
  · refine ⟨its.toList, r, ⟨o, n, I.kIn a o hk, hc, hd, by simpa using hs⟩, ?_⟩
    have e := r.length
    simp only [Array.length_toList] at e
    omega
theorem Inv.tuple (I : Inv X pins σ H s) (h : SqT X.K H a xs) : ∃ its : List Value, Vals xs its ∧ IsTup s.heap a its.toArray ∧ xs.length ≤ sizeLine := by
  rcases h with h | ⟨o, its, n, hk, hc, hs, hz, r⟩
  · obtain ⟨z, its, r, p⟩ := h.ok I.hok
    exact ⟨its, r, p, z⟩
  · refine ⟨its.toList, r, ⟨o, I.kIn a o hk, hc, n, by simpa using hs⟩, ?_⟩
    have e := r.length
    simp only [Array.length_toList] at e
    omega
theorem Inv.list_inj (I : Inv X pins σ H s) (h : SqL X.K H a xs) (h' : SqL X.K H a ys) : xs = ys := by
  obtain ⟨its, r, ⟨o, n, e, _, _, d⟩, _⟩ := I.list h
  obtain ⟨its', r', ⟨o', n', e', _, _, d'⟩, _⟩ := I.list h'
  rw [e] at e'; cases e'
  rw [d] at d'
  injection d' with d1 _
  have : its = its' := by simpa using congrArg Array.toList d1
  subst this
  exact r.inj r'
theorem Inv.tuple_inj (I : Inv X pins σ H s) (h : SqT X.K H a xs) (h' : SqT X.K H a ys) : xs = ys := by
  obtain ⟨its, r, ⟨o, e, _, n, d⟩, _⟩ := I.tuple h
  obtain ⟨its', r', ⟨o', e', _, n', d'⟩, _⟩ := I.tuple h'
  rw [e] at e'; cases e'
  rw [d] at d'
  injection d' with d1 _
  have : its = its' := by simpa using congrArg Array.toList d1
  subst this
  exact r.inj r'
end
abbrev Cx.wish (X : Cx) (E : Value → Shared → Prop) : Cx := { X with xe := E }
abbrev Cx.nox (X : Cx) : Cx := X.wish fun _ _ => False
theorem Cx.Ok.wish {X : Cx} (ok : X.Ok) (E : Value → Shared → Prop) : (X.wish E).Ok :=
  ⟨ok.mod, ok.kind, ok.glob, ok.blt, ok.above, ok.inj, ok.has, ok.cab, ok.hd, ok.frames, ok.stk, ok.exf, ok.bs, ok.bsz, ok.noex, ok.exfs, ok.funs, ok.frf⟩
theorem Cx.Ok.unwish {X : Cx} {E : Value → Shared → Prop} (ok : (X.wish E).Ok) : X.Ok :=
  ⟨ok.mod, ok.kind, ok.glob, ok.blt, ok.above, ok.inj, ok.has, ok.cab, ok.hd, ok.frames, ok.stk, ok.exf, ok.bs, ok.bsz, ok.noex, ok.exfs, ok.funs, ok.frf⟩
section
variable {X : Cx} {pins : List (Addr × Obj)} {σ : St} {H : Hp} {s : Shared} {E : Value → Shared → Prop}
theorem Inv.wish (I : Inv X pins σ H s) (E : Value → Shared → Prop) : Inv (X.wish E) pins σ H s := ⟨I.ok.wish E, I.os, I.bare, I.base, I.loc, I.cell, I.free, I.freeC, I.pin, I.hok, I.len⟩
theorem Inv.unwish (I : Inv (X.wish E) pins σ H s) : Inv X pins σ H s := ⟨I.ok.unwish, I.os, I.bare, I.base, I.loc, I.cell, I.free, I.freeC, I.pin, I.hok, I.len⟩
theorem SP.unwish {D : Ends} {f : Flow} {s' : Shared} (h : SP (X.wish E) pins D f s') : SP X pins D f s' := by
  cases f with
  | next => obtain ⟨σ', H', I, q⟩ := h; exact ⟨σ', H', I.unwish, q⟩
  | brk => obtain ⟨σ', H', I, q⟩ := h; exact ⟨σ', H', I.unwish, q⟩
  | cont => obtain ⟨σ', H', I, q⟩ := h; exact ⟨σ', H', I.unwish, q⟩
  | ret u => obtain ⟨v, σ', H', I, r, q⟩ := h; exact ⟨v, σ', H', I.unwish, r, q⟩
theorem PE.nox {e : Expr} {t : TE} (h : PE X.nox e t) : PE X e t := fun pins s σ H Q I hw =>
  wpAny_mono (h pins s σ H Q (I.wish _) hw) (fun _ _ ⟨v, H', I', r, q⟩ => ⟨v, H', I'.unwish, r, q⟩) fun _ _ z => False.elim z
theorem PT.nox {e : Expr} {t : TT} (h : PT X.nox e t) : PT X e t := fun pins s σ H Q I hw =>
  wpAny_mono (h pins s σ H Q (I.wish _) hw) (fun _ _ ⟨H', I', q⟩ => ⟨H', I'.unwish, q⟩) fun _ _ z => False.elim z
theorem PSs.nox {st : List Stmt} {t : TS} (h : PSs X.nox st t) : PSs X st t := fun pins s σ H D I hw =>
  wpAny_mono (h pins s σ H D (I.wish _) hw) (fun _ _ q => q.unwish) fun _ _ z => False.elim z
end
section
variable {X : Cx} {st : Stmt} {rest : List Stmt} {t u : TS} {e : Expr} {te : TE} {pos : PySem.Pos}
def tNext : TS := fun D σ H => D.nx σ H
def tSeq (t u : TS) : TS := fun D σ H => t { D with nx := u D } σ H
theorem pss_nil : PSs X [] tNext := fun _ _ σ H _ I h => wpAny_execs_nil ⟨σ, H, I, h⟩
theorem pss_cons (h1 : PS X st t) (h2 : PSs X rest u) : PSs X (st :: rest) (tSeq t u) := by
  intro pins s σ H D I h
  refine wpAny_execs_cons (thn (h1 pins s σ H { D with nx := u D } I h) fun f s1 q => ?_)
  cases f with
  | next =>
    obtain ⟨σ', H', I', q⟩ := q
    exact h2 pins s1 σ' H' D I' q
  | ret v => exact q
  | brk => exact q
  | cont => exact q
theorem pss_one (h1 : PS X st t) : PSs X [st] t := by
  intro pins s σ H D I h
  refine wpAny_execs_cons (thn (h1 pins s σ H D I h) fun f s1 q => ?_)
  cases f with
  | next => exact wpAny_execs_nil q
  | ret v => exact q
  | brk => exact q
  | cont => exact q
theorem Inv.quiet {pins : List (Addr × Obj)} {σ : St} {H : Hp} {s : Shared} (I : Inv X pins σ H s) : interactive X.env = false := by simp [interactive, I.ok.kind]
def tDrop (te : TE) : TS := fun D σ H => te σ H fun _ H1 => D.nx σ H1
theorem ps_expr (he : PE X e te) (hs : swapsWith e none pos.line X.env = pure false := by rfl) : PS X (.Expr e pos) (tDrop te) := by
  intro pins s σ H D I h
  exact wpAny_Expr_any (thn (he pins s σ H _ I h) fun v s1 ⟨x, H1, I1, r1, q1⟩ => ⟨σ, H1, I1, q1⟩) I.quiet hs
def tRet (te : TE) : TS := fun D σ H => te σ H D.rt
theorem ps_ret (he : PE X e te) : PS X (.Return (some e) pos) (tRet te) := by
  intro pins s σ H D I h
  exact wpAny_Return_some (thn (he pins s σ H _ I h) fun v s1 ⟨x, H1, I1, r1, q1⟩ => ⟨x, σ, H1, I1, r1, q1⟩)
def tIfS (c : TT) (t u : TS) : TS := fun D σ H => c σ H fun b H1 => if b = true then t D σ H1 else u D σ H1
theorem ps_if {c : Expr} {a b : List Stmt} {tc : TT} (hc : PT X c tc) (ha : PSs X a t) (hb : PSs X b u) : PS X (.If c a b pos) (tIfS tc t u) := by
  intro pins s σ H D I h
  refine wpAny_If (thn (hc pins s σ H _ I h) fun d s1 ⟨H1, I1, q1⟩ => ?_)
  cases d with
  | true => exact ha pins s1 σ H1 D I1 q1
  | false => exact hb pins s1 σ H1 D I1 q1
end
abbrev TG := V → St → Hp → (St → Hp → Prop) → Prop
abbrev TGs := List V → St → Hp → (St → Hp → Prop) → Prop
def PG (X : Cx) (target : Expr) (t : TG) : Prop :=
  ∀ (pins : List (Addr × Obj)) (s : Shared) (σ : St) (H : Hp) (v : V) (u : Value) (Q : St → Hp → Prop), Inv X pins σ H s → RelV v u → t v σ H Q →
    wpAny (model X.prog X.w) X.A (assign target X.env u) (fun _ s' => ∃ σ' H', Inv X pins σ' H' s' ∧ Q σ' H') X.xe s
def PGs (X : Cx) (ts : List Expr) (t : TGs) : Prop :=
  ∀ (pins : List (Addr × Obj)) (s : Shared) (σ : St) (H : Hp) (vs : List V) (us : List Value) (Q : St → Hp → Prop), Inv X pins σ H s → Vals vs us → t vs σ H Q →
    wpAny (model X.prog X.w) X.A (assignInOrder ((assignEach ts X.env).map (·.2)) us) (fun _ s' => ∃ σ' H', Inv X pins σ' H' s' ∧ Q σ' H') X.xe s
abbrev TSet := V → V → V → Hp → (Hp → Prop) → Prop
def PSet (X : Cx) (t : TSet) : Prop :=
  ∀ (pins : List (Addr × Obj)) (s : Shared) (σ : St) (H : Hp) (o i v : V) (ov iv u : Value) (Q : Hp → Prop), Inv X pins σ H s → RelV o ov → RelV i iv → RelV v u → t o i v H Q →
    wpAny (model X.prog X.w) X.A (setItem ov iv u) (fun _ s' => ∃ H', Inv X pins σ H' s' ∧ Q H') X.xe s
section
variable {X : Cx} {pos : PySem.Pos}
def gName (i : Nat) : TG := fun v σ H Q => Q (σ.set i (some v)) H
theorem pg_name {i : Nat} {x : Str} (hN : X.N.Nodup) (hi : X.N[i]? = some x) (hx : Loc X.env.scope x) (hf : X.fn x = true ∨ X.env.scope.names.lookup x = some .local := by first | exact .inl rfl | exact .inr rfl | assumption) : PG X (.Name x pos) (gName i) := by
  intro pins s σ H v u Q I r h
  exact wpAny_assign_Name (store_ok I hN hi hx r (fun s' I' => ⟨_, H, I', h⟩) hf)
def gNil : TGs := fun vs σ H Q => vs = [] ∧ Q σ H
def gCons (t : TG) (u : TGs) : TGs := fun vs σ H Q => ∃ v r, vs = v :: r ∧ t v σ H fun σ' H' => u r σ' H' Q
theorem pgs_nil : PGs X [] gNil := by
  intro pins s σ H vs us Q I r h
  obtain ⟨e, h⟩ := h
  subst e
  cases r
  exact assignInOrder_nil ⟨σ, H, I, h⟩
theorem pgs_cons {e : Expr} {es : List Expr} {t : TG} {u : TGs} (h1 : PG X e t) (h2 : PGs X es u)
    (hs : (assignEach (e :: es) X.env).map (·.2) = assign e X.env :: (assignEach es X.env).map (·.2) := by rfl) : PGs X (e :: es) (gCons t u) := by
  intro pins s σ H vs us Q I r h
  obtain ⟨v, vr, e1, h⟩ := h
  subst e1
  cases r with
  | cons r rr =>
    rw [hs]
    refine assignInOrder_cons (thn (h1 pins s σ H _ _ _ I r h) fun _ s1 ⟨σ1, H1, I1, q1⟩ => ?_)
    exact h2 pins s1 σ1 H1 _ _ Q I1 rr q1
def gTup (K : PySem.W.Frag) (n : Nat) (t : TGs) : TG := fun v σ H Q => ∃ a xs, v = .ref a ∧ SqT K H a xs ∧ xs.length = n ∧ t xs σ H Q
theorem pg_tup {es : List Expr} {k : Nat} {t : TGs} {n : Nat} (hc : X.calm = true) (h : PGs X es t)
    (hn : (assignEach es X.env).length = n := by rfl) (hst : (assignEach es X.env).findIdx? (·.1) = none := by rfl) : PG X (.Tuple es k pos) (gTup X.K n t) := by
  intro pins s σ H v u Q I r hw
  obtain ⟨a, xs, e1, hq, hl, hw⟩ := hw
  subst e1
  cases r
  obtain ⟨its, rv, ht, hz⟩ := I.tuple hq
  refine assign_Tuple_tuple (I.ok.hd hc) ht (by simp [hn, ← hl, rv.length]) hst fun h' hx => ?_
  have I1 : Inv X pins σ H { s with heap := h' } := I.kept (t' := s.toks) fun b o e => hx b o (Nat.ne_of_lt (Heap.lt_size e)) e
  exact h pins _ σ H xs _ Q I1 (by simpa using rv) hw
def gSub (to ti : TE) (t : TSet) : TG := fun v σ H Q => to σ H fun o H1 => ti σ H1 fun i H2 => t o i v H2 fun H3 => Q σ H3
theorem pg_sub {o i : Expr} {to ti : TE} {t : TSet} (ho : PE X o to) (hi : PE X i ti) (hs : PSet X t)
    (ha : ∀ v, assign (.Subscript o i pos) X.env v = (do
      let ov ← holding [v] (eval o X.env)
      let iv ← holding [v, ov] (eval i X.env)
      standAt pos
      holding [v, ov, iv] (setItem ov iv v)
      release [v, ov, iv] []) := by intro _; rfl) : PG X (.Subscript o i pos) (gSub to ti t) := by
  intro pins s σ H v u Q I r h
  rw [ha]
  refine wpAny_bind (wpAny_holding (thn (ho pins s σ H _ I h) fun ov s1 ⟨x, H1, I1, r1, q1⟩ => ?_))
  refine wpAny_bind (wpAny_holding (thn (hi pins s1 σ H1 _ I1 q1) fun iv s2 ⟨y, H2, I2, r2, q2⟩ => ?_))
  refine wpAny_bind (wpAny_standAt (wpAny_bind (wpAny_holding (thn (hs pins s2 σ H2 x y v ov iv u _ I2 r1 r2 r q2) fun _ s3 ⟨H3, I3, q3⟩ => ?_))))
  exact wpAny_release ⟨σ, H3, I3, q3⟩
def tAsg (te : TE) (g : TG) : TS := fun D σ H => te σ H fun x H1 => g x σ H1 D.nx
theorem ps_asg {tg e : Expr} {te : TE} {g : TG} (he : PE X e te) (hg : PG X tg g) (hs : swapsWithSole [tg] e pos.line X.env = pure false := by rfl) (hw : swappedStores [tg] e X.env = pure none := by rfl)
    (h1 : (assignEach [tg] X.env).map (·.2) = [assign tg X.env] := by rfl) : PS X (.Assign [tg] e pos) (tAsg te g) := by
  intro pins s σ H D I h
  refine wpAny_Assign_stores (thn (he pins s σ H _ I h) fun v s1 ⟨x, H1, I1, r1, q1⟩ => ?_) hs hw
  rw [h1]
  exact thn (hg pins s1 σ H1 x v _ I1 r1 q1) fun _ s2 q => q
theorem ps_set {i : Nat} {x : Str} {e : Expr} {te : TE} {pos' : PySem.Pos} (hN : X.N.Nodup) (hi : X.N[i]? = some x) (hx : Loc X.env.scope x) (he : PE X e te) (hs : swapsWith e (some (.Name x pos')) pos.line X.env = pure false := by rfl) (hf : X.fn x = true ∨ X.env.scope.names.lookup x = some .local := by first | exact .inl rfl | exact .inr rfl | assumption) :
    PS X (.Assign [.Name x pos'] e pos) (tAsg te (gName i)) := by
  intro pins s σ H D I h
  refine wpAny_Assign_Name (thn (he pins s σ H _ I h) fun v s1 ⟨y, H1, I1, r1, q1⟩ => ?_) hs
  exact store_ok I1 hN hi hx r1 (fun s2 I2 => ⟨_, H1, I2, q1⟩) hf
def tPar (i j : Nat) (ta : TA) : TS := fun D σ H => ta σ H fun vs H1 => ∃ v w, vs = [v, w] ∧ D.nx ((σ.set i (some v)).set j (some w)) H1
theorem ps_par {i j : Nat} {x y : Str} {a b : Expr} {ta : TA} {px py pt : PySem.Pos} {kt k2 pt2} (hc : X.calm = true) (hN : X.N.Nodup) (hi : X.N[i]? = some x) (hj : X.N[j]? = some y) (hij : i ≠ j)
    (hx : X.env.scope.names.lookup x = some .local) (hy : X.env.scope.names.lookup y = some .local) (ha : PA X [a, b] ta)
    (hw : swappedStores [.Tuple [.Name x px, .Name y py] kt pt] (.Tuple [a, b] k2 pt2) X.env = pure (some [x, y]))
    (hs : swapsWithSole [.Tuple [.Name x px, .Name y py] kt pt] (.Tuple [a, b] k2 pt2) pos.line X.env = pure false := by rfl) :
    PS X (.Assign [.Tuple [.Name x px, .Name y py] kt pt] (.Tuple [a, b] k2 pt2) pos) (tPar i j ta) := by
  intro pins s σ H D I h
  rw [exec_Assign_arm]
  refine wpAny_bind (wpAny_standAt ?_)
  rw [hs]
  refine wpAny_bind (wpAny_pure ?_)
  rw [if_neg (by decide)]
  refine wpAny_bind (Tuple_ (thn (ha _ pins s σ H _ I h) fun us s1 ⟨vs, H1, I1, r1, q1⟩ => ?_))
  obtain ⟨v, w, e1, q1⟩ := q1
  subst e1
  obtain ⟨u1, u2, rfl, rv, rw'⟩ : ∃ u1 u2, us = [u1, u2] ∧ RelV v u1 ∧ RelV w u2 := by
    cases r1 with
    | cons p q =>
      cases q with
      | cons p' q' =>
        cases q'
        exact ⟨_, _, rfl, p, p'⟩
  refine wpAny_newObj_type ?_ (by show 2 ≤ sizeLine; decide)
  have I2 : Inv X pins σ H1 { s1 with heap := s1.heap.push { cls := .type "tuple", data := .seq [u1, u2].toArray } } := I1.kept (t' := s1.toks) fun b o e => Heap.get?_push_of_some _ e
  rw [hw]
  refine wpAny_bind (wpAny_pure ?_)
  show wpAny (model X.prog X.w) X.A (do rule "assign.swapped-stores"; let items ← unpackItems (.ref s1.heap.objs.size) 2 none; assignInOrder [fun v => bindName X.env y v, fun v => bindName X.env x v] items.reverse; pure Flow.next) _ _ _
  refine wpAny_bind (wpAny_rule (wpAny_bind (unpackItems_tuple (items := #[u1, u2]) (I.ok.hd hc) (IsTup.new s1.heap _) fun h' hx' => ?_)))
  have I3 := I2.kept (h' := h') (t' := s1.toks) fun b o e => hx' b o (Nat.ne_of_lt (Heap.lt_size e)) e
  show wpAny _ _ (assignInOrder [fun v => bindName X.env y v, fun v => bindName X.env x v] [u2, u1] >>= fun _ => pure Flow.next) _ _ _
  refine wpAny_bind (assignInOrder_cons (wpAny_bindName (store_ok I3 hN hj (.inl hy) rw' (fun s2 I4 => ?_) (.inr hy))))
  refine assignInOrder_cons (wpAny_bindName (store_ok I4 hN hi (.inl hx) rv (fun s3 I5 => assignInOrder_nil (wpAny_pure ?_)) (.inr hx)))
  rw [List.set_comm _ _ (Ne.symm hij)] at I5
  exact ⟨_, H1, I5, q1⟩
end
section
variable {X : Cx} {pos : PySem.Pos}
def tWhile (c : TT) (tb : TS) : TS := fun D σ H => ∃ W : Nat → St → Hp → Prop, (∃ m, W m σ H) ∧ ∀ m σ H, W m σ H →
  c σ H fun b H1 => if b = true then ∃ N : St → Hp → Prop, (∀ σ' H', N σ' H' → ∃ m', m' < m ∧ W m' σ' H') ∧ tb { D with nx := N, ct := N, bk := D.nx } σ H1 else D.nx σ H1
theorem ps_while {c : Expr} {body : List Stmt} {tc : TT} {tb : TS} (hp : PassesOwn (model X.prog X.w) X.A X.env X.xe) (hc : PT X c tc) (hb : PSs X body tb) : PS X (.While c body [] pos) (tWhile tc tb) := by
  intro pins s σ H D I h
  obtain ⟨W, ⟨m0, w0⟩, turn⟩ := h
  refine wpAny_While (codeAny_whileLoop (fun n s' => ∃ σ' H', Inv X pins σ' H' s' ∧ W n σ' H') ?_ m0 ⟨σ, H, I, w0⟩)
  rintro n s1 ⟨σ1, H1, I1, w1⟩
  refine wpAny_passesOwn hp (thn (hc pins s1 σ1 H1 _ I1 (turn n σ1 H1 w1)) fun b s2 ⟨H2, I2, q2⟩ => ?_)
  cases b with
  | true =>
    obtain ⟨N, hN, q2⟩ := q2
    rw [if_pos rfl]
    refine wpAny_passesOwn hp (thn (hb pins s2 σ1 H2 _ I2 q2) fun f s3 q3 => ?_)
    cases f with
    | next =>
      obtain ⟨σ3, H3, I3, n3⟩ := q3
      obtain ⟨m', hm, w3⟩ := hN σ3 H3 n3
      exact ⟨m', hm, σ3, H3, I3, w3⟩
    | cont =>
      obtain ⟨σ3, H3, I3, n3⟩ := q3
      obtain ⟨m', hm, w3⟩ := hN σ3 H3 n3
      exact ⟨m', hm, σ3, H3, I3, w3⟩
    | brk => exact q3
    | ret v => exact q3
  | false =>
    rw [if_neg Bool.false_ne_true]
    exact wpAny_execs_nil ⟨σ1, H2, I2, q2⟩
end
structure It where
  go : Nat → Hp → Prop
  yld : Nat → Hp → V → Hp → Prop
  stop : Nat → Hp → Prop
def FpOk (X : Cx) (pins : List (Addr × Obj)) (H : Hp) (b : Addr) : Prop :=
  H b = none ∧ b ≠ X.env.locals ∧ b ∉ X.fs ∧ (b ∈ X.ex ∨ X.s₀.heap.objs.size ≤ b) ∧ (∀ x c, X.env.cells.lookup x = some c → c ≠ b) ∧ ∀ p ∈ X.pn ++ pins, p.1 ≠ b
theorem Inv.fpOk {X : Cx} {pins : List (Addr × Obj)} {σ : St} {H H' : Hp} {s : Shared} {b : Addr} (I : Inv X pins σ H s) (hb : s.heap.objs.size ≤ b) (hn : H' b = none) : FpOk X pins H' b := by
  refine ⟨hn, Nat.ne_of_gt (Nat.lt_of_lt_of_le I.lt hb), I.nofs hb, .inr (Nat.le_trans I.sz hb), fun x c e z => ?_, fun p hp z => ?_⟩
  · obtain ⟨v, q⟩ := I.cell x c e
    exact absurd (Nat.lt_of_lt_of_le q.lt (by rw [z]; exact hb)) (Nat.lt_irrefl _)
  · exact absurd (Nat.lt_of_lt_of_le (Heap.lt_size (I.pin p hp).1) (by rw [z]; exact hb)) (Nat.lt_irrefl _)
structure Turn (P : Program) (w : World) (K : PySem.W.Frag) (tg : Expr) (J : It) (fp : List Addr) (it : Addr) (tn : Nat → Heap → Prop) : Prop where
  mem : it ∈ fp
  obj : ∀ i h, tn i h → ∀ b ∈ fp, ∃ o, h.get? b = some o ∧ ∀ v, o.data ≠ .cell v
  keep : ∀ i h h', tn i h → (∀ b ∈ fp, ∀ o, h.get? b = some o → h'.get? b = some o) → tn i h'
  item : ∀ (X : Cx), X.prog = P → X.w = w → X.K = K → X.calm = true → ∀ (i : Nat) (pins : List (Addr × Obj)) (s : Shared) (σ : St) (H : Hp) (E : Value → Shared → Prop), Inv X pins σ H s → (∀ b ∈ fp, FpOk X pins H b) → tn i s.heap → J.go i H →
    wpAny (model P w) X.A (pyNext (.ref it)) (fun r s1 => ∃ u, r = some u ∧
      wpAny (model P w) X.A (letOwnedTupleGo tg (.ref it) u) (fun _ s2 => ∃ x H', Inv X pins σ H' s2 ∧ RelV x u ∧ J.yld i H x H' ∧ tn (i + 1) s2.heap ∧ ∀ b ∈ fp, H' b = none) E s1) E s
  done : ∀ (X : Cx), X.prog = P → X.w = w → X.K = K → X.calm = true → ∀ (i : Nat) (pins : List (Addr × Obj)) (s : Shared) (σ : St) (H : Hp) (E : Value → Shared → Prop), Inv X pins σ H s → (∀ b ∈ fp, FpOk X pins H b) → tn i s.heap → J.stop i H →
    wpAny (model P w) X.A (pyNext (.ref it)) (fun r s1 => r = none ∧ Inv X pins σ H s1) E s
  self : ∀ (A : Around) (i : Nat) (s : Shared) (Q : Value → Shared → Prop) (E : Value → Shared → Prop), tn i s.heap → Q (.ref it) s → wpAny (model P w) A (pyIter (.ref it)) Q E s
abbrev TI := St → Hp → (It → Hp → Prop) → Prop
def PIE (X : Cx) (pins : List (Addr × Obj)) (σ : St) (tg : Expr) (R : It → Hp → Prop) (itv : Value) (s2 : Shared) : Prop :=
  ∃ (it : Addr) (fp : List Addr) (tn : Nat → Heap → Prop) (J : It) (H' : Hp), itv = .ref it ∧ Inv X pins σ H' s2 ∧ Turn X.prog X.w X.K tg J fp it tn ∧ tn 0 s2.heap ∧ (∀ b ∈ fp, FpOk X pins H' b) ∧ R J H'
def PI (X : Cx) (tg iter : Expr) (wi : TI) : Prop :=
  ∀ (pins : List (Addr × Obj)) (s : Shared) (σ : St) (H : Hp) (R : It → Hp → Prop), Inv X pins σ H s → wi σ H R →
    wpAny (model X.prog X.w) X.A (eval iter X.env) (fun v s1 => wpAny (model X.prog X.w) X.A (pyIter v) (PIE X pins σ tg R) X.xe s1) X.xe s
theorem go_of {M : Model} {A : Around} {E : Value → Shared → Prop} {s : Shared} {tg : Expr} {it : Addr} {u : Value} {o : Obj} {n : String} {vs : Array Value} {Q : Unit → Shared → Prop} (ho : s.heap.get? it = some o) (hc : o.cls = .type n) (hd : o.data = .fields vs)
    (hn : ["enumerate", "zip", "dict_itemiterator", "dict_reverseitemiterator", "odict_iterator", "itertools.zip_longest", "itertools.pairwise"].contains n = false) (hQ : Q () s) : wpAny M A (letOwnedTupleGo tg (.ref it) u) Q E s := by
  unfold letOwnedTupleGo
  cases tg <;> first
    | exact wpAny_pure hQ
    | (cases u <;> first
        | exact wpAny_pure hQ
        | (refine wpAny_bind (wpAny_load ho ?_)
           rw [hc, hd]
           show wpAny M A (if (["enumerate", "zip", "dict_itemiterator", "dict_reverseitemiterator", "odict_iterator", "itertools.zip_longest", "itertools.pairwise"].contains n && vs[0]? == some (rawInt _)) = true then _ else _) Q E s
           rw [if_neg (by intro h; rw [hn, Bool.false_and] at h; cases h)]
           exact wpAny_pure hQ))
def Itl (K : PySem.W.Frag) (a : Addr) : It :=
  ⟨fun i H => ∃ xs x, SqL K H a xs ∧ xs[i]? = some x, fun i H x H' => H' = H ∧ ∀ xs, SqL K H a xs → xs[i]? = some x, fun i H => ∃ xs, SqL K H a xs ∧ xs.length ≤ i⟩
def Itt (K : PySem.W.Frag) (a : Addr) : It :=
  ⟨fun i H => ∃ xs x, SqT K H a xs ∧ xs[i]? = some x, fun i H x H' => H' = H ∧ ∀ xs, SqT K H a xs → xs[i]? = some x, fun i H => ∃ xs, SqT K H a xs ∧ xs.length ≤ i⟩
def Itr (lo : Int) (n : Nat) : It := ⟨fun i _ => i < n, fun i H x H' => H' = H ∧ x = .int (lo + i), fun i _ => n ≤ i⟩
theorem turn_list {P : Program} {w : World} {K : PySem.W.Frag} {tg : Expr} (a it : Addr) : Turn P w K tg (Itl K a) [it] it (fun i h => h.IsListIter it a i) where
  mem := by simp
  obj := fun i h st b hb => by
    have e : b = it := by simpa using hb
    subst e
    obtain ⟨o, e, c, d⟩ := st
    exact ⟨o, e, fun v z => by rw [d] at z; cases z⟩
  keep := fun i h h' st k => st.at fun o e => k it (by simp) o e
  item := by
    intro X hP hw hK hc i pins s σ H E I hf st hg
    subst hP hw hK
    obtain ⟨xs, x, hq, hx⟩ := hg
    obtain ⟨its, rv, p, hz⟩ := I.list hq
    obtain ⟨u, hu, ru⟩ := rv.get hx
    obtain ⟨f0, f1, f2, f3, f4, f5⟩ := hf it (by simp)
    refine wpAny_pyNext_list_item st p.isList (x := u) (by simpa using hu) fun h' st' sb => ?_
    have I1 : Inv X pins σ H { s with heap := h' } := I.turned (t' := s.toks) (fun b o hb e => (sb.2 b hb).trans e) f0 f1 f3 f4 f5
    obtain ⟨o, e, c, d⟩ := id st'
    exact ⟨u, rfl, go_of (s := { s with heap := h' }) e c d (by decide) ⟨x, H, I1, ru, ⟨rfl, fun ys hy => by rw [I.list_inj hy hq]; exact hx⟩, st', fun b hb => (hf b hb).1⟩⟩
  done := by
    intro X hP hw hK hc i pins s σ H E I hf st hg
    subst hP hw hK
    obtain ⟨xs, hq, hx⟩ := hg
    obtain ⟨its, rv, p, hz⟩ := I.list hq
    obtain ⟨f0, f1, f2, f3, f4, f5⟩ := hf it (by simp)
    have hl := rv.length
    exact wpAny_pyNext_list_end (I.ok.hd hc) st p.isList (by simp; omega) fun h' eb => ⟨rfl, I.turned (t' := s.toks) (fun b o hb e => eb b o hb e) f0 f1 f3 f4 f5⟩
  self := fun _ _ _ _ _ st h => wpAny_pyIter_listiter st h
theorem turn_tuple {P : Program} {w : World} {K : PySem.W.Frag} {tg : Expr} (a it : Addr) : Turn P w K tg (Itt K a) [it] it (fun i h => h.IsTupleIter it a i) where
  mem := by simp
  obj := fun i h st b hb => by
    have e : b = it := by simpa using hb
    subst e
    obtain ⟨o, e, c, d⟩ := st
    exact ⟨o, e, fun v z => by rw [d] at z; cases z⟩
  keep := fun i h h' st k => st.at fun o e => k it (by simp) o e
  item := by
    intro X hP hw hK hc i pins s σ H E I hf st hg
    subst hP hw hK
    obtain ⟨xs, x, hq, hx⟩ := hg
    obtain ⟨its, rv, p, hz⟩ := I.tuple hq
    obtain ⟨u, hu, ru⟩ := rv.get hx
    obtain ⟨f0, f1, f2, f3, f4, f5⟩ := hf it (by simp)
    refine wpAny_pyNext_tuple_item st (show s.heap.IsTuple a its.toArray from p) (x := u) (by simpa using hu) fun h' st' sb => ?_
    have I1 : Inv X pins σ H { s with heap := h' } := I.turned (t' := s.toks) (fun b o hb e => (sb.2 b hb).trans e) f0 f1 f3 f4 f5
    obtain ⟨o, e, c, d⟩ := id st'
    exact ⟨u, rfl, go_of (s := { s with heap := h' }) e c d (by decide) ⟨x, H, I1, ru, ⟨rfl, fun ys hy => by rw [I.tuple_inj hy hq]; exact hx⟩, st', fun b hb => (hf b hb).1⟩⟩
  done := by
    intro X hP hw hK hc i pins s σ H E I hf st hg
    subst hP hw hK
    obtain ⟨xs, hq, hx⟩ := hg
    obtain ⟨its, rv, p, hz⟩ := I.tuple hq
    obtain ⟨f0, f1, f2, f3, f4, f5⟩ := hf it (by simp)
    have hl := rv.length
    exact wpAny_pyNext_tuple_end (I.ok.hd hc) st (show s.heap.IsTuple a its.toArray from p) (by simp; omega) fun h' eb => ⟨rfl, I.turned (t' := s.toks) (fun b o hb e => eb b o hb e) f0 f1 f3 f4 f5⟩
  self := fun _ _ _ _ _ st h => wpAny_pyIter_tupleiter st h
theorem turn_range {P : Program} {w : World} {K : PySem.W.Frag} {tg : Expr} (it : Addr) (lo : Int) (n : Nat) : Turn P w K tg (Itr lo n) [it] it (fun i h => IsRangeIter h it (lo + (i : Nat) * 1) ((n : Int) - (i : Nat)) 1) where
  mem := by simp
  obj := fun i h st b hb => by
    have e : b = it := by simpa using hb
    subst e
    exact ⟨_, st, fun v z => by
      have z' : Data.fields _ = Data.cell v := z
      cases z'⟩
  keep := fun i h h' st k => k it (by simp) _ st
  item := by
    intro X hP hw hK hc i pins s σ H E I hf st hg
    subst hP hw hK
    obtain ⟨f0, f1, f2, f3, f4, f5⟩ := hf it (by simp)
    have W := Walks.range (prog := X.prog) (w := X.w) (I.ok.hd hc) it lo 1 n
    refine W.item i s _ _ hg st fun v h' tk hv st' kk => ?_
    obtain ⟨t, rfl⟩ := hv
    have I1 : Inv X pins σ H { s with heap := h', toks := tk } := I.turned (fun b o hb e => kk b o (by simpa using hb) e) f0 f1 f3 f4 f5
    refine ⟨_, rfl, go_of (s := { s with heap := h', toks := tk }) (n := "range_iterator") st' rfl rfl (by decide) ⟨.int (lo + i), H, I1, ⟨t, ?_⟩, ⟨rfl, rfl⟩, st', fun b hb => (hf b hb).1⟩⟩
    rw [Int.mul_one]
  done := by
    intro X hP hw hK hc i pins s σ H E I hf st hg
    subst hP hw hK
    obtain ⟨f0, f1, f2, f3, f4, f5⟩ := hf it (by simp)
    exact wpAny_pyNext_range_end (I.ok.hd hc) st (by have : n ≤ i := hg; omega) fun h' eb => ⟨rfl, I.turned (t' := s.toks) (fun b o hb e => eb b o hb e) f0 f1 f3 f4 f5⟩
  self := fun _ _ _ _ _ st h => wpAny_pyIter_rangeiter st h
end L2
namespace L2
open PySem PySem.Spec PyProof.Rows
section
variable {X : Cx} {tg : Expr}
def iList (K : PySem.W.Frag) (tl : TE) : TI := fun σ H R => tl σ H fun x H1 => ∃ a, x = .ref a ∧ (∃ xs, SqL K H1 a xs) ∧ R (Itl K a) H1
def iTup (K : PySem.W.Frag) (tl : TE) : TI := fun σ H R => tl σ H fun x H1 => ∃ a, x = .ref a ∧ (∃ xs, SqT K H1 a xs) ∧ R (Itt K a) H1
theorem pi_list {l : Expr} {tl : TE} (hl : PE X l tl) : PI X tg l (iList X.K tl) := by
  intro pins s σ H R I h
  refine thn (hl pins s σ H _ I h) fun v s1 ⟨x, H1, I1, r1, q1⟩ => ?_
  obtain ⟨a, e, ⟨xs, hq⟩, q⟩ := q1
  subst e
  cases r1
  obtain ⟨its, rv, p, hz⟩ := I1.list hq
  refine wpAny_pyIter_list p.isList ?_
  refine ⟨s1.heap.objs.size, [s1.heap.objs.size], _, _, H1, rfl, I1.kept (t' := s1.toks) fun b o e => Heap.get?_push_of_some _ e, turn_list a _, ⟨_, Heap.get?_push_size _ rfl, rfl, rfl⟩, fun b hb => ?_, q⟩
  have e : b = s1.heap.objs.size := by simpa using hb
  subst e
  exact I1.fpOk (Nat.le_refl _) (I1.hok.fresh (Nat.le_refl _))
theorem pi_tup {l : Expr} {tl : TE} (hl : PE X l tl) : PI X tg l (iTup X.K tl) := by
  intro pins s σ H R I h
  refine thn (hl pins s σ H _ I h) fun v s1 ⟨x, H1, I1, r1, q1⟩ => ?_
  obtain ⟨a, e, ⟨xs, hq⟩, q⟩ := q1
  subst e
  cases r1
  obtain ⟨its, rv, p, hz⟩ := I1.tuple hq
  refine wpAny_pyIter_tuple (show s1.heap.IsTuple a its.toArray from p) ?_
  refine ⟨s1.heap.objs.size, [s1.heap.objs.size], _, _, H1, rfl, I1.kept (t' := s1.toks) fun b o e => Heap.get?_push_of_some _ e, turn_tuple a _, ⟨_, Heap.get?_push_size _ rfl, rfl, rfl⟩, fun b hb => ?_, q⟩
  have e : b = s1.heap.objs.size := by simpa using hb
  subst e
  exact I1.fpOk (Nat.le_refl _) (I1.hok.fresh (Nat.le_refl _))
theorem range_it {pins : List (Addr × Obj)} {σ : St} {H : Hp} {s : Shared} {R : It → Hp → Prop} {E : Value → Shared → Prop} {lo hi : Int} {t u v : Tok} {tk : Nat} (I : Inv X pins σ H s) (h1 : -(2 ^ 62) ≤ lo) (h2 : lo < 2 ^ 62) (h3 : -(2 ^ 62) ≤ hi) (h4 : hi < 2 ^ 62)
    (q : R (Itr lo (hi - lo).toNat) H) : wpAny (model X.prog X.w) X.A (pyIter (.ref s.heap.objs.size)) (PIE X pins σ tg R) E { s with heap := s.heap.push { cls := .type "range", data := .fields #[.int lo t, .int hi u, .int 1 v] }, toks := tk } := by
  refine wpAny_pyIter_range (IsRange.new ..) (small_one h1 h2 h3 h4) ?_
  have I1 : Inv X pins σ H { s with heap := s.heap.push { cls := .type "range", data := .fields #[.int lo t, .int hi u, .int 1 v] }, toks := tk } := I.kept fun b o e => Heap.get?_push_of_some _ e
  refine ⟨(s.heap.push { cls := .type "range", data := .fields #[.int lo t, .int hi u, .int 1 v] }).objs.size, [(s.heap.push { cls := .type "range", data := .fields #[.int lo t, .int hi u, .int 1 v] }).objs.size], _, _, H, rfl,
    I1.kept (t' := tk) fun b o e => Heap.get?_push_of_some _ e, turn_range _ lo (hi - lo).toNat, ?_, fun b hb => ?_, q⟩
  · have e1 : lo + ((0 : Nat) : Int) * 1 = lo := by simp
    have e2 : (((hi - lo).toNat : Nat) : Int) - ((0 : Nat) : Int) = Builtin.Range.rangeSize lo hi 1 := by rw [rangeSize_one]; split <;> omega
    show IsRangeIter _ _ (lo + ((0 : Nat) : Int) * 1) ((((hi - lo).toNat : Nat) : Int) - ((0 : Nat) : Int)) 1
    rw [e1, e2]
    exact Heap.get?_push_size _ rfl
  · have e : b = (s.heap.push { cls := .type "range", data := .fields #[.int lo t, .int hi u, .int 1 v] }).objs.size := by simpa using hb
    subst e
    exact I1.fpOk (Nat.le_refl _) (I1.hok.fresh (Nat.le_refl _))
def iRng1 (ta : TA) : TI := fun σ H R => ta σ H fun vs H1 => ∃ j : Int, vs = [.int j] ∧ -(2 ^ 62) ≤ j ∧ j < 2 ^ 62 ∧ R (Itr 0 j.toNat) H1
def iRng2 (ta : TA) : TI := fun σ H R => ta σ H fun vs H1 => ∃ i j : Int, vs = [.int i, .int j] ∧ (-(2 ^ 62) ≤ i ∧ i < 2 ^ 62 ∧ -(2 ^ 62) ≤ j ∧ j < 2 ^ 62) ∧ R (Itr i (j - i).toNat) H1
theorem pi_range1 {a : Expr} {ta : TA} {p pos : PySem.Pos} (hg : Gl X "range") (hm : X.mg "range" = none) (ha : PA X [a] ta) (hs : starEach [a] X.env = [(false, eval a X.env)] := by rfl) : PI X tg (.Call (.Name "range" p) [a] [] pos) (iRng1 ta) := by
  intro pins s σ H R I h
  refine Call_ (ld_blt I hg hm boot_range (PyProof.Rows.callWith_type1 (thn (ha pos pins s σ H _ I h) fun us s1 ⟨vs, H1, I1, r1, q1⟩ => ?_) hs rfl))
  obtain ⟨j, e, q1, q2, q⟩ := q1
  subst e
  cases r1 with
  | cons r rr =>
    cases rr
    obtain ⟨t, rfl⟩ := r
    exact call_range_1 (range_it I1 (by omega) (by omega) q1 q2 (by simpa using q))
theorem pi_range2 {a b : Expr} {ta : TA} {p pos : PySem.Pos} (hg : Gl X "range") (hm : X.mg "range" = none) (ha : PA X [a, b] ta) (hs : starEach [a, b] X.env = [(false, eval a X.env), (false, eval b X.env)] := by rfl) (hs2 : starEach [b] X.env = [(false, eval b X.env)] := by rfl) :
    PI X tg (.Call (.Name "range" p) [a, b] [] pos) (iRng2 ta) := by
  intro pins s σ H R I h
  refine Call_ (ld_blt I hg hm boot_range (PyProof.Rows.callWith_type1 (thn (ha pos pins s σ H _ I h) fun us s1 ⟨vs, H1, I1, r1, q1⟩ => ?_) (by rw [hs, hs2]) (by rw [hs2]; rfl)))
  obtain ⟨i, j, e, ⟨q1, q2, q3, q4⟩, q⟩ := q1
  subst e
  cases r1 with
  | cons r rr =>
    cases rr with
    | cons r' rr =>
      cases rr
      obtain ⟨t, rfl⟩ := r
      obtain ⟨t', rfl⟩ := r'
      exact call_range_2 (range_it I1 q1 q2 q3 q4 q)
def tFor (wi : TI) (g : TG) (tb : TS) : TS := fun D σ H => wi σ H fun J H1 => ∃ W : Nat → Nat → St → Hp → Prop, (∃ m, W 0 m σ H1) ∧ ∀ i m σ H, W i m σ H →
  (J.stop i H ∧ D.nx σ H) ∨ (J.go i H ∧ ∃ N : St → Hp → Prop, (∀ σ' H', N σ' H' → ∃ m', m' < m ∧ W (i + 1) m' σ' H') ∧ ∀ x H', J.yld i H x H' → g x σ H' fun σ2 H2 => tb { D with nx := N, ct := N, bk := D.nx } σ2 H2)
def pinsAt (fp : List Addr) (h : Heap) : List (Addr × Obj) := fp.filterMap fun b => (h.get? b).map fun o => (b, o)
theorem mem_pinsAt {fp : List Addr} {h : Heap} {b : Addr} {o : Obj} (hb : b ∈ fp) (e : h.get? b = some o) : (b, o) ∈ pinsAt fp h := List.mem_filterMap.mpr ⟨b, hb, by rw [e]; rfl⟩
theorem of_pinsAt {fp : List Addr} {h : Heap} {p : Addr × Obj} (hp : p ∈ pinsAt fp h) : p.1 ∈ fp ∧ h.get? p.1 = some p.2 := by
  obtain ⟨b, hb, e⟩ := List.mem_filterMap.mp hp
  cases q : h.get? b with
  | none => rw [q] at e; cases e
  | some o =>
    rw [q] at e
    have e' : (b, o) = p := Option.some.inj e
    subst e'
    exact ⟨hb, q⟩
theorem Inv.pinned {pins : List (Addr × Obj)} {σ : St} {H : Hp} {s : Shared} {fp : List Addr} (I : Inv X pins σ H s) (hf : ∀ b ∈ fp, FpOk X pins H b) (ho : ∀ b ∈ fp, ∃ o, s.heap.get? b = some o ∧ ∀ v, o.data ≠ .cell v) : Inv X (pins ++ pinsAt fp s.heap) σ H s :=
  I.pins_of fun p hp => (List.mem_append.mp hp).elim (fun z => I.pin p (List.mem_append_right _ z)) fun z => by
    obtain ⟨hb, e⟩ := of_pinsAt z
    obtain ⟨f0, f1, f2, _⟩ := hf p.1 hb
    obtain ⟨o, e', d⟩ := ho p.1 hb
    rw [e] at e'; cases e'
    exact ⟨e, f0, f1, f2, d⟩
theorem Inv.unpinned {pins pl : List (Addr × Obj)} {σ : St} {H : Hp} {s : Shared} (I : Inv X (pins ++ pl) σ H s) : Inv X pins σ H s := I.pins_of fun p hp => I.pin p (List.mem_append_right _ (List.mem_append_left _ hp))
theorem ps_for {iter : Expr} {body : List Stmt} {wi : TI} {g : TG} {tb : TS} {pos : PySem.Pos} (hp : PassesOwn (model X.prog X.w) X.A X.env X.xe) (hc : X.calm = true) (hi : PI X tg iter wi) (hg : PG X tg g) (hb : PSs X body tb)
    (hs : ∀ x, foldedSetIterable iter X.env x = pure x := by intro _; rfl) : PS X (.For tg iter body [] pos) (tFor wi g tb) := by
  intro pins s σ H D I h
  refine wpAny_For (thn (hi pins s σ H _ I h) fun v s1 h1 => thn h1 fun itv s2 h2 => ?_) hs
  obtain ⟨it, fp, tn, J, H2, e, I2, T, st2, f2, W, ⟨m0, w0⟩, turn⟩ := h2
  subst e
  have stat : ∀ {H' : Hp}, (∀ b ∈ fp, H' b = none) → ∀ b ∈ fp, FpOk X pins H' b := fun hn b hb => ⟨hn b hb, (f2 b hb).2⟩
  refine codeAny_forLoop_any (fun n s' => ∃ i σ' H', Inv X pins σ' H' s' ∧ tn i s'.heap ∧ (∀ b ∈ fp, H' b = none) ∧ W i n σ' H') ?_ m0 ⟨0, σ, H2, I2, st2, fun b hb => (f2 b hb).1, w0⟩
  rintro n s3 ⟨i, σ3, H3, I3, st3, fr3, w3⟩
  rcases turn i n σ3 H3 w3 with ⟨stop, qn⟩ | ⟨go, N, hN, step⟩
  · refine wpAny_passesOwn hp (thn (T.done X rfl rfl rfl hc i pins s3 σ3 H3 X.xe I3 (stat fr3) st3 stop) fun r s4 ⟨hr, I4⟩ => ?_)
    subst hr
    exact wpAny_execs_nil ⟨σ3, H3, I4, qn⟩
  · refine wpAny_passesOwn hp (thn (T.item X rfl rfl rfl hc i pins s3 σ3 H3 X.xe I3 (stat fr3) st3 go) fun r s4 ⟨u, hr, h4⟩ => ?_)
    subst hr
    refine wpAny_passesOwn hp (thn h4 fun _ s5 ⟨x, H5, I5, r5, y5, st5, fr5⟩ => ?_)
    have I5' := I5.pinned (stat fr5) (T.obj _ _ st5)
    refine wpAny_passesOwn hp (thn (hg _ s5 σ3 H5 x u _ I5' r5 (step x H5 y5)) fun _ s6 ⟨σ6, H6, I6, q6⟩ => ?_)
    refine wpAny_passesOwn hp (thn (hb _ s6 σ6 H6 _ I6 q6) fun f s7 q7 => ?_)
    have again : ∀ {σ7 : St} {H7 : Hp}, Inv X (pins ++ pinsAt fp s5.heap) σ7 H7 s7 → N σ7 H7 → ∃ m, m < n ∧ ∃ i σ' H', Inv X pins σ' H' s7 ∧ tn i s7.heap ∧ (∀ b ∈ fp, H' b = none) ∧ W i m σ' H' := fun {σ7 H7} I7 n7 => by
      obtain ⟨m', hm, w7⟩ := hN σ7 H7 n7
      refine ⟨m', hm, i + 1, σ7, H7, I7.unpinned, T.keep _ _ _ st5 fun b hb o e => (I7.pin (b, o) (List.mem_append_right _ (List.mem_append_right _ (mem_pinsAt hb e)))).1, fun b hb => ?_, w7⟩
      obtain ⟨o, e, d⟩ := T.obj _ _ st5 b hb
      exact (I7.pin (b, o) (List.mem_append_right _ (List.mem_append_right _ (mem_pinsAt hb e)))).2.1
    cases f with
    | next => obtain ⟨σ7, H7, I7, n7⟩ := q7; exact again I7 n7
    | cont => obtain ⟨σ7, H7, I7, n7⟩ := q7; exact again I7 n7
    | brk => obtain ⟨σ7, H7, I7, q7⟩ := q7; exact ⟨σ7, H7, I7.unpinned, q7⟩
    | ret v => obtain ⟨x7, σ7, H7, I7, r7, q7⟩ := q7; exact ⟨x7, σ7, H7, I7.unpinned, r7, q7⟩
end
theorem for_list {K : PySem.W.Frag} {a : Addr} {xs : List V} {g : TG} {tb : TS} {D : Ends} {σ : St} {H : Hp} (Pv : Nat → St → Hp → Prop) (h0 : Pv 0 σ H) (hl : ∀ i σ H, i ≤ xs.length → Pv i σ H → SqL K H a xs)
    (hs : ∀ i x σ H, xs[i]? = some x → Pv i σ H → g x σ H fun σ2 H2 => tb { D with nx := Pv (i + 1), ct := Pv (i + 1), bk := D.nx } σ2 H2) (hd : ∀ σ H, Pv xs.length σ H → D.nx σ H) :
    ∃ W : Nat → Nat → St → Hp → Prop, (∃ m, W 0 m σ H) ∧ ∀ i m σ H, W i m σ H →
      ((Itl K a).stop i H ∧ D.nx σ H) ∨ ((Itl K a).go i H ∧ ∃ N : St → Hp → Prop, (∀ σ' H', N σ' H' → ∃ m', m' < m ∧ W (i + 1) m' σ' H') ∧ ∀ x H', (Itl K a).yld i H x H' → g x σ H' fun σ2 H2 => tb { D with nx := N, ct := N, bk := D.nx } σ2 H2) := by
  refine ⟨fun i m σ H => m = xs.length - i ∧ i ≤ xs.length ∧ Pv i σ H, ⟨xs.length, by simp, Nat.zero_le _, h0⟩, ?_⟩
  rintro i m σ H ⟨rfl, hi, p⟩
  have q := hl i σ H hi p
  by_cases hlt : i < xs.length
  · refine .inr ⟨⟨xs, xs[i], q, by simp [hlt]⟩, Pv (i + 1), fun σ' H' p' => ⟨xs.length - (i + 1), by omega, rfl, hlt, p'⟩, fun x H' y => ?_⟩
    obtain ⟨e, y⟩ := y
    subst e
    exact hs i x σ _ (y xs q) p
  · have e : i = xs.length := by omega
    subst e
    exact .inl ⟨⟨xs, q, Nat.le_refl _⟩, hd σ H p⟩
theorem for_tup {K : PySem.W.Frag} {a : Addr} {xs : List V} {g : TG} {tb : TS} {D : Ends} {σ : St} {H : Hp} (Pv : Nat → St → Hp → Prop) (h0 : Pv 0 σ H) (hl : ∀ i σ H, i ≤ xs.length → Pv i σ H → SqT K H a xs)
    (hs : ∀ i x σ H, xs[i]? = some x → Pv i σ H → g x σ H fun σ2 H2 => tb { D with nx := Pv (i + 1), ct := Pv (i + 1), bk := D.nx } σ2 H2) (hd : ∀ σ H, Pv xs.length σ H → D.nx σ H) :
    ∃ W : Nat → Nat → St → Hp → Prop, (∃ m, W 0 m σ H) ∧ ∀ i m σ H, W i m σ H →
      ((Itt K a).stop i H ∧ D.nx σ H) ∨ ((Itt K a).go i H ∧ ∃ N : St → Hp → Prop, (∀ σ' H', N σ' H' → ∃ m', m' < m ∧ W (i + 1) m' σ' H') ∧ ∀ x H', (Itt K a).yld i H x H' → g x σ H' fun σ2 H2 => tb { D with nx := N, ct := N, bk := D.nx } σ2 H2) := by
  refine ⟨fun i m σ H => m = xs.length - i ∧ i ≤ xs.length ∧ Pv i σ H, ⟨xs.length, by simp, Nat.zero_le _, h0⟩, ?_⟩
  rintro i m σ H ⟨rfl, hi, p⟩
  have q := hl i σ H hi p
  by_cases hlt : i < xs.length
  · refine .inr ⟨⟨xs, xs[i], q, by simp [hlt]⟩, Pv (i + 1), fun σ' H' p' => ⟨xs.length - (i + 1), by omega, rfl, hlt, p'⟩, fun x H' y => ?_⟩
    obtain ⟨e, y⟩ := y
    subst e
    exact hs i x σ _ (y xs q) p
  · have e : i = xs.length := by omega
    subst e
    exact .inl ⟨⟨xs, q, Nat.le_refl _⟩, hd σ H p⟩
theorem for_range {lo : Int} {n : Nat} {g : TG} {tb : TS} {D : Ends} {σ : St} {H : Hp} (Pv : Nat → St → Hp → Prop) (h0 : Pv 0 σ H)
    (hs : ∀ i σ H, i < n → Pv i σ H → g (.int (lo + i)) σ H fun σ2 H2 => tb { D with nx := Pv (i + 1), ct := Pv (i + 1), bk := D.nx } σ2 H2) (hd : ∀ σ H, Pv n σ H → D.nx σ H) :
    ∃ W : Nat → Nat → St → Hp → Prop, (∃ m, W 0 m σ H) ∧ ∀ i m σ H, W i m σ H →
      ((Itr lo n).stop i H ∧ D.nx σ H) ∨ ((Itr lo n).go i H ∧ ∃ N : St → Hp → Prop, (∀ σ' H', N σ' H' → ∃ m', m' < m ∧ W (i + 1) m' σ' H') ∧ ∀ x H', (Itr lo n).yld i H x H' → g x σ H' fun σ2 H2 => tb { D with nx := N, ct := N, bk := D.nx } σ2 H2) := by
  refine ⟨fun i m σ H => m = n - i ∧ i ≤ n ∧ Pv i σ H, ⟨n, by simp, Nat.zero_le _, h0⟩, ?_⟩
  rintro i m σ H ⟨rfl, hi, p⟩
  by_cases hlt : i < n
  · refine .inr ⟨hlt, Pv (i + 1), fun σ' H' p' => ⟨n - (i + 1), by omega, rfl, hlt, p'⟩, fun x H' y => ?_⟩
    obtain ⟨e, y⟩ := y
    subst e y
    exact hs i σ _ hlt p
  · have e : i = n := by omega
    subst e
    exact .inl ⟨Nat.le_refl _, hd σ H p⟩
theorem while_by {c : TT} {tb : TS} {D : Ends} {σ : St} {H : Hp} (Pv : St → Hp → Prop) (μ : St → Hp → Nat) (h0 : Pv σ H)
    (hs : ∀ σ H, Pv σ H → c σ H fun b H1 => if b = true then tb { D with nx := fun σ' H' => Pv σ' H' ∧ μ σ' H' < μ σ H, ct := fun σ' H' => Pv σ' H' ∧ μ σ' H' < μ σ H, bk := D.nx } σ H1 else D.nx σ H1)
    (mono : ∀ σ H Q Q', (∀ b H1, Q b H1 → Q' b H1) → c σ H Q → c σ H Q') : tWhile c tb D σ H := by
  refine ⟨fun m σ H => m = μ σ H ∧ Pv σ H, ⟨_, rfl, h0⟩, ?_⟩
  rintro m σ H ⟨rfl, p⟩
  refine mono σ H _ _ (fun b H1 q => ?_) (hs σ H p)
  cases b with
  | true => exact ⟨_, fun σ' H' ⟨p', l⟩ => ⟨_, l, rfl, p'⟩, q⟩
  | false => exact q
end L2
namespace L2
open PySem PySem.Spec PyProof.Rows
abbrev R2 := V → V → Hp → VK → Prop
def OpR (X : Cx) (f : Value → Value → Sem Value) (r : R2) : Prop :=
  ∀ (pins : List (Addr × Obj)) (s : Shared) (σ : St) (H : Hp) (x y : V) (v u : Value) (Q : VK), Inv X pins σ H s → RelV x v → RelV y u → r x y H Q →
    wpAny (model X.prog X.w) X.A (f v u) (EP X pins σ Q) X.xe s
def UnR (X : Cx) (f : Value → Sem Value) (r : V → Hp → VK → Prop) : Prop :=
  ∀ (pins : List (Addr × Obj)) (s : Shared) (σ : St) (H : Hp) (x : V) (v : Value) (Q : VK), Inv X pins σ H s → RelV x v → r x H Q →
    wpAny (model X.prog X.w) X.A (f v) (EP X pins σ Q) X.xe s
def CallR (X : Cx) (f : Value) (r : List V → Hp → VK → Prop) : Prop :=
  ∀ (pins : List (Addr × Obj)) (s : Shared) (σ : St) (H : Hp) (xs : List V) (us : List Value) (Q : VK), Inv X pins σ H s → Vals xs us → r xs H Q →
    wpAny (model X.prog X.w) X.A (call f us) (EP X pins σ Q) X.xe s
def tOp (r : R2) (ta tb : TE) : TE := fun σ H Q => ta σ H fun x H1 => tb σ H1 fun y H2 => r x y H2 Q
def tUn (r : V → Hp → VK → Prop) (ta : TE) : TE := fun σ H Q => ta σ H fun x H1 => r x H1 Q
def rI (C : Int → Int → Prop) (g : Int → Int → V) : R2 := fun x y H Q => ∃ i j, x = .int i ∧ y = .int j ∧ C i j ∧ Q (g i j) H
def rI0 (g : Int → Int → V) : R2 := fun x y H Q => ∃ i j, x = .int i ∧ y = .int j ∧ Q (g i j) H
def rU (g : Int → V) : V → Hp → VK → Prop := fun x H Q => ∃ i, x = .int i ∧ Q (g i) H
section
variable {X : Cx} {a b c : Expr} {ta tb tc : TE} {pos : PySem.Pos}
theorem binT (ha : PE X a ta) (hb : PE X b tb) {pins : List (Addr × Obj)} {s : Shared} {σ : St} {H : Hp} {R : V → V → Hp → Prop} (I : Inv X pins σ H s)
    (h : ta σ H fun x H1 => tb σ H1 fun y H2 => R x y H2) {Q : Value → Shared → Prop} {f : Value → Value → Sem Value}
    (hf : ∀ v u s2 x y H2, Inv X pins σ H2 s2 → RelV x v → RelV y u → R x y H2 → wpAny (model X.prog X.w) X.A (f v u) Q X.xe s2) :
    wpAny (model X.prog X.w) X.A (eval a X.env) (fun v s₁ => wpAny (model X.prog X.w) X.A (eval b X.env) (fun u s₂ => wpAny (model X.prog X.w) X.A (f v u) Q X.xe s₂) X.xe s₁) X.xe s := by
  refine thn (ha pins s σ H _ I h) fun v s1 ⟨x, H1, I1, r1, q1⟩ => ?_
  refine thn (hb pins s1 σ H1 _ I1 q1) fun u s2 ⟨y, H2, I2, r2, q2⟩ => ?_
  exact hf v u s2 x y H2 I2 r1 r2 q2
theorem pe_op {op : Operator} {r : R2} (ho : OpR X (binaryOp op) r) (ha : PE X a ta) (hb : PE X b tb) : PE X (.BinOp a op b pos) (tOp r ta tb) := by
  intro pins s σ H Q I h
  exact wpAny_BinOp (binT ha hb I h fun v u s2 x y H2 I2 rx ry q => ho pins s2 σ H2 x y v u Q I2 rx ry q)
theorem pe_un {op : UnaryOp} {r : V → Hp → VK → Prop} (ho : UnR X (unaryOp op) r) (ha : PE X a ta) : PE X (.UnaryOp op a pos) (tUn r ta) := by
  intro pins s σ H Q I h
  exact UnaryOp_ (thn (ha pins s σ H _ I h) fun v s1 ⟨x, H1, I1, r1, q1⟩ => ho pins s1 σ H1 x v Q I1 r1 q1)
theorem opI {f : Value → Value → Sem Value} {C : Int → Int → Prop} {g : Int → Int → Int}
    (rule : ∀ (i j : Int) (t u : Tok) (s : Shared) (Q : Value → Shared → Prop) (E : Value → Shared → Prop), C i j → Q (.int (g i j) s.toks) { s with toks := s.toks + 1 } → wpAny (model X.prog X.w) X.A (f (.int i t) (.int j u)) Q E s) :
    OpR X f (rI C fun i j => .int (g i j)) := by
  intro pins s σ H x y v u Q I rx ry h
  obtain ⟨i, j, rfl, rfl, hc, q⟩ := h
  obtain ⟨t, rfl⟩ := rx
  obtain ⟨t', rfl⟩ := ry
  exact rule i j t t' s _ _ hc ⟨.int (g i j), H, I.tok _, ⟨_, rfl⟩, q⟩
theorem opI0 {f : Value → Value → Sem Value} {g : Int → Int → Int}
    (rule : ∀ (i j : Int) (t u : Tok) (s : Shared) (Q : Value → Shared → Prop) (E : Value → Shared → Prop), Q (.int (g i j) s.toks) { s with toks := s.toks + 1 } → wpAny (model X.prog X.w) X.A (f (.int i t) (.int j u)) Q E s) :
    OpR X f (rI0 fun i j => .int (g i j)) := by
  intro pins s σ H x y v u Q I rx ry h
  obtain ⟨i, j, rfl, rfl, q⟩ := h
  obtain ⟨t, rfl⟩ := rx
  obtain ⟨t', rfl⟩ := ry
  exact rule i j t t' s _ _ ⟨.int (g i j), H, I.tok _, ⟨_, rfl⟩, q⟩
theorem opB0 {f : Value → Value → Sem Value} {g : Int → Int → Bool}
    (rule : ∀ (i j : Int) (t u : Tok) (s : Shared) (Q : Value → Shared → Prop) (E : Value → Shared → Prop), Q (.bool (g i j)) s → wpAny (model X.prog X.w) X.A (f (.int i t) (.int j u)) Q E s) :
    OpR X f (rI0 fun i j => .bl (g i j)) := by
  intro pins s σ H x y v u Q I rx ry h
  obtain ⟨i, j, rfl, rfl, q⟩ := h
  obtain ⟨t, rfl⟩ := rx
  obtain ⟨t', rfl⟩ := ry
  exact rule i j t t' s _ _ ⟨.bl (g i j), H, I, rfl, q⟩
def CPow (i j : Int) : Prop := 0 ≤ j ∧ j ≤ 1000000 ∧ i.natAbs < 2 ^ 64
def CMul (i j : Int) : Prop := (-(2 ^ 64) < i ∧ i < 2 ^ 64) ∨ (-(2 ^ 64) < j ∧ j < 2 ^ 64)
theorem CMul.ok {i j : Int} (h : CMul i j) : IntMulOk i j := by
  rcases h with ⟨h1, h2⟩ | ⟨h1, h2⟩
  · exact .of_left (intBits_le_64 h1 h2)
  · exact .of_right (intBits_le_64 h1 h2)
theorem two_pow_nn (k : Nat) : (0 : Int) ≤ 2 ^ k := by
  rw [two_pow_cast]
  exact Int.natCast_nonneg _
theorem op_add : OpR X (binaryOp .Add) (rI0 fun i j => .int (i + j)) := opI0 fun _ _ _ _ _ _ _ q => add_int q
theorem op_sub : OpR X (binaryOp .Sub) (rI0 fun i j => .int (i - j)) := opI0 fun _ _ _ _ _ _ _ q => sub_int q
theorem op_mul : OpR X (binaryOp .Mult) (rI CMul fun i j => .int (i * j)) := opI fun _ _ _ _ _ _ _ hc q => mul_int q hc.ok
theorem op_mod : OpR X (binaryOp .Mod) (rI (fun _ j => 0 < j) fun i j => .int (i % j)) := opI fun i j _ _ _ _ _ hc q => by
  have h1 : (0 : Int) < j := hc
  exact mod_int' (by omega) (by rw [Int.fmod_eq_emod_of_nonneg i (by omega)]; exact q)
theorem op_pow : OpR X (binaryOp .Pow) (rI CPow fun i j => .int (i ^ j.toNat)) := opI fun _ _ _ _ _ _ _ hc q => pow_int_small hc.1 hc.2.1 hc.2.2 q
theorem op_shl : OpR X (binaryOp .LShift) (rI CPow fun i j => .int (i * 2 ^ j.toNat)) := opI fun _ _ _ _ _ _ _ hc q => lshift_int_small hc.1 hc.2.1 hc.2.2 q
theorem op_shr : OpR X (binaryOp .RShift) (rI (fun _ j => 0 ≤ j) fun i j => .int (i / 2 ^ j.toNat)) := opI fun i j _ _ _ _ _ hc q =>
  rshift_int hc (by rw [Int.fdiv_eq_ediv_of_nonneg i (two_pow_nn _)]; exact q)
theorem op_and : OpR X (binaryOp .BitAnd) (rI0 fun i j => .int (Builtin.bitAnd i j)) := opI0 fun _ _ _ _ _ _ _ q => and_int q
theorem op_xor : OpR X (binaryOp .BitXor) (rI0 fun i j => .int (Builtin.bitXor i j)) := opI0 fun _ _ _ _ _ _ _ q => xor_int q
theorem unI {f : Value → Sem Value} {g : Int → Int}
    (rule : ∀ (i : Int) (t : Tok) (s : Shared) (Q : Value → Shared → Prop) (E : Value → Shared → Prop), Q (.int (g i) s.toks) { s with toks := s.toks + 1 } → wpAny (model X.prog X.w) X.A (f (.int i t)) Q E s) :
    UnR X f (rU fun i => .int (g i)) := by
  intro pins s σ H x v Q I rx h
  obtain ⟨i, rfl, q⟩ := h
  obtain ⟨t, rfl⟩ := rx
  exact rule i t s _ _ ⟨.int (g i), H, I.tok _, ⟨_, rfl⟩, q⟩
theorem un_neg : UnR X (unaryOp .USub) (rU fun i => .int (-i)) := unI fun _ _ _ _ _ q => neg_int q
end
def scal : V → V → Bool
  | .non, .non => true | .non, .int _ => true | .int _, .non => true | .non, .bl _ => true | .bl _, .non => true | .non, .str _ => true | .str _, .non => true
  | .int _, .int _ => true | .bl _, .bl _ => true | .str _, .str _ => true | .byt _, .byt _ => true
  | .int _, .str _ => true | .str _, .int _ => true | .bl _, .str _ => true | .str _, .bl _ => true
  | _, _ => false
def rEq : R2 := fun x y H Q => scal x y = true ∧ Q (.bl (decide (x = y))) H
def rNe : R2 := fun x y H Q => scal x y = true ∧ Q (.bl (!decide (x = y))) H
theorem dec_int {i j : Int} : decide (V.int i = V.int j) = (i == j) := by
  rw [Bool.eq_iff_iff]
  simp
theorem dec_bl {i j : Bool} : decide (V.bl i = V.bl j) = (i == j) := by
  rw [Bool.eq_iff_iff]
  simp
theorem dec_str {i j : Str} : decide (V.str i = V.str j) = (i == j) := by
  rw [Bool.eq_iff_iff]
  simp
theorem dec_byt {i j : Array UInt8} : decide (V.byt i = V.byt j) = (i.toList == j.toList) := by
  rw [Bool.eq_iff_iff]
  cases i
  cases j
  simp
section
variable {X : Cx} {a b c : Expr} {ta tb tc : TE} {pos : PySem.Pos}
theorem fin_bl {pins : List (Addr × Obj)} {σ : St} {H : Hp} {s : Shared} {Q : VK} {k k' : Bool} (I : Inv X pins σ H s) (q : Q (.bl k) H) (e : k = k') : EP X pins σ Q (.bool k') s := by
  subst e
  exact ⟨.bl k, H, I, rfl, q⟩
theorem op_eq : OpR X (compareOp .Eq) rEq := by
  intro pins s σ H x y v u Q I rx ry h
  obtain ⟨hs, q⟩ := h
  cases x with
  | non =>
    cases rx
    cases y with
    | non => cases ry; exact PySem.EqNone.eq_none_none (fin_bl I q (by simp))
    | bl j => cases ry; exact PySem.EqNone.eq_none_bool (fin_bl I q (by simp))
    | int j => obtain ⟨t', rfl⟩ := ry; exact PySem.EqNone.eq_none_int (fin_bl I q (by simp))
    | str j => obtain ⟨t', rfl⟩ := ry; exact PySem.EqNone.eq_none_str (fin_bl I q (by simp))
    | _ => exact absurd (show false = true from hs) Bool.false_ne_true
  | bl i =>
    cases rx
    cases y with
    | non => cases ry; exact PySem.EqNone.eq_bool_none (fin_bl I q (by simp))
    | bl j => cases ry; exact eq_bool (fin_bl I q dec_bl)
    | str j => obtain ⟨t', rfl⟩ := ry; exact PySem.EqMixed.eq_bool_str (fin_bl I q (by simp))
    | _ => exact absurd (show false = true from hs) Bool.false_ne_true
  | int i =>
    obtain ⟨t, rfl⟩ := rx
    cases y with
    | non => cases ry; exact PySem.EqNone.eq_int_none (fin_bl I q (by simp))
    | int j => obtain ⟨t', rfl⟩ := ry; exact eq_int (fin_bl I q dec_int)
    | str j => obtain ⟨t', rfl⟩ := ry; exact PySem.EqMixed.eq_int_str (fin_bl I q (by simp))
    | _ => exact absurd (show false = true from hs) Bool.false_ne_true
  | str i =>
    obtain ⟨t, rfl⟩ := rx
    cases y with
    | non => cases ry; exact PySem.EqNone.eq_str_none (fin_bl I q (by simp))
    | bl j => cases ry; exact PySem.EqMixed.eq_str_bool (fin_bl I q (by simp))
    | int j => obtain ⟨t', rfl⟩ := ry; exact PySem.EqMixed.eq_str_int (fin_bl I q (by simp))
    | str j => obtain ⟨t', rfl⟩ := ry; exact eq_str (fin_bl I q dec_str)
    | _ => exact absurd (show false = true from hs) Bool.false_ne_true
  | byt i =>
    obtain ⟨t, rfl⟩ := rx
    cases y with
    | byt j => obtain ⟨t', rfl⟩ := ry; exact PySem.W.eq_bytes (fin_bl I q dec_byt)
    | _ => exact absurd (show false = true from hs) Bool.false_ne_true
  | _ => cases y <;> exact absurd (show false = true from hs) Bool.false_ne_true
theorem op_ne : OpR X (compareOp .NotEq) rNe := by
  intro pins s σ H x y v u Q I rx ry h
  obtain ⟨hs, q⟩ := h
  cases x with
  | non =>
    cases rx
    cases y with
    | non => cases ry; exact PySem.EqNone.ne_none_none (fin_bl I q (by simp))
    | bl j => cases ry; exact PySem.EqNone.ne_none_bool (fin_bl I q (by simp))
    | int j => obtain ⟨t', rfl⟩ := ry; exact PySem.EqNone.ne_none_int (fin_bl I q (by simp))
    | str j => obtain ⟨t', rfl⟩ := ry; exact PySem.EqNone.ne_none_str (fin_bl I q (by simp))
    | _ => exact absurd (show false = true from hs) Bool.false_ne_true
  | bl i =>
    cases rx
    cases y with
    | non => cases ry; exact PySem.EqNone.ne_bool_none (fin_bl I q (by simp))
    | bl j => cases ry; exact ne_bool (fin_bl I q (congrArg not dec_bl))
    | str j => obtain ⟨t', rfl⟩ := ry; exact PySem.EqMixed.ne_bool_str (fin_bl I q (by simp))
    | _ => exact absurd (show false = true from hs) Bool.false_ne_true
  | int i =>
    obtain ⟨t, rfl⟩ := rx
    cases y with
    | non => cases ry; exact PySem.EqNone.ne_int_none (fin_bl I q (by simp))
    | int j => obtain ⟨t', rfl⟩ := ry; exact ne_int (fin_bl I q (congrArg not dec_int))
    | str j => obtain ⟨t', rfl⟩ := ry; exact PySem.EqMixed.ne_int_str (fin_bl I q (by simp))
    | _ => exact absurd (show false = true from hs) Bool.false_ne_true
  | str i =>
    obtain ⟨t, rfl⟩ := rx
    cases y with
    | non => cases ry; exact PySem.EqNone.ne_str_none (fin_bl I q (by simp))
    | bl j => cases ry; exact PySem.EqMixed.ne_str_bool (fin_bl I q (by simp))
    | int j => obtain ⟨t', rfl⟩ := ry; exact PySem.EqMixed.ne_str_int (fin_bl I q (by simp))
    | str j => obtain ⟨t', rfl⟩ := ry; exact ne_str (fin_bl I q (congrArg not dec_str))
    | _ => exact absurd (show false = true from hs) Bool.false_ne_true
  | byt i =>
    obtain ⟨t, rfl⟩ := rx
    cases y with
    | byt j => obtain ⟨t', rfl⟩ := ry; exact PySem.W.ne_bytes (fin_bl I q (congrArg not dec_byt))
    | _ => exact absurd (show false = true from hs) Bool.false_ne_true
  | _ => cases y <;> exact absurd (show false = true from hs) Bool.false_ne_true
theorem op_lt : OpR X (compareOp .Lt) (rI0 fun i j => .bl (decide (i < j))) := opB0 fun _ _ _ _ _ _ _ q => lt_int q
theorem op_le : OpR X (compareOp .LtE) (rI0 fun i j => .bl (decide (i ≤ j))) := opB0 fun _ _ _ _ _ _ _ q => le_int q
theorem op_gt : OpR X (compareOp .Gt) (rI0 fun i j => .bl (decide (j < i))) := opB0 fun _ _ _ _ _ _ _ q => gt_int q
theorem op_ge : OpR X (compareOp .GtE) (rI0 fun i j => .bl (decide (j ≤ i))) := opB0 fun _ _ _ _ _ _ _ q => ge_int q
theorem nomark (b : Expr) {op : CmpOp} (h : op ≠ .In := by decide) (h2 : op ≠ .NotIn := by decide) : behindInMarks op b = false := by
  have e1 : (op == CmpOp.In) = false := by cases op <;> first | rfl | exact absurd rfl h
  have e2 : (op == CmpOp.NotIn) = false := by cases op <;> first | rfl | exact absurd rfl h2
  cases b <;> simp [behindInMarks, e1, e2]
theorem pe_cmpR {op : CmpOp} {r : R2} (ho : OpR X (compareOp op) r) (ha : PE X a ta) (hb : PE X b tb) (hm : behindInMarks op b = false) : PE X (.Compare a [op] [b] pos) (tOp r ta tb) := by
  intro pins s σ H Q I h
  exact wpAny_Compare1 (binT ha hb I h fun v u s2 x y H2 I2 rx ry q => ho pins s2 σ H2 x y v u Q I2 rx ry q) hm
def tTest (t : TE) : TT := fun σ H Q => t σ H fun x H' => ∃ k, x = .bl k ∧ Q k H'
theorem pt_cmpR {op : CmpOp} {r : R2} (ho : OpR X (compareOp op) r) (ha : PE X a ta) (hb : PE X b tb) (hm : behindInMarks op b = false) : PT X (.Compare a [op] [b] pos) (tTest (tOp r ta tb)) := by
  intro pins s σ H Q I h
  refine wpAny_isTrue_Compare1 (thn (ha pins s σ H _ I h) fun v s1 ⟨x, H1, I1, r1, q1⟩ => thn (hb pins s1 σ H1 _ I1 q1) fun u s2 ⟨y, H2, I2, r2, q2⟩ =>
    thn (ho pins s2 σ H2 x y v u _ I2 r1 r2 q2) fun c s3 ⟨z, H3, I3, r3, k, e, q3⟩ => ?_) hm
  subst e
  cases r3
  exact wpAny_truthy_bool ⟨H3, I3, q3⟩
theorem line63 : (sizeLine : Nat) < 2 ^ 63 := by rw [sizeLine_eq]; decide
theorem vals1 {x : V} {us : List Value} (r : Vals [x] us) : ∃ u, us = [u] ∧ RelV x u := by
  cases r with
  | cons r1 r2 => cases r2; exact ⟨_, rfl, r1⟩
theorem vals2 {x y : V} {us : List Value} (r : Vals [x, y] us) : ∃ u w', us = [u, w'] ∧ RelV x u ∧ RelV y w' := by
  cases r with
  | cons r1 r2 =>
    cases r2 with
    | cons r3 r4 => cases r4; exact ⟨_, _, rfl, r1, r3⟩
theorem call_abs : CallR X (.builtin "abs") (fun xs H Q => ∃ i, xs = [.int i] ∧ Q (.int (if i < 0 then -i else i)) H) := by
  intro pins s σ H xs us Q I r h
  obtain ⟨i, rfl, q⟩ := h
  obtain ⟨u, rfl, t, rfl⟩ := vals1 r
  exact call_abs_int fun u tk => ⟨.int (if i < 0 then -i else i), H, I.tok _, ⟨_, rfl⟩, q⟩
theorem call_max2 (hc : X.calm = true) : CallR X (.builtin "max") (fun xs H Q => ∃ i j, xs = [.int i, .int j] ∧ Q (.int (if j > i then j else i)) H) := by
  intro pins s σ H xs us Q I r h
  obtain ⟨i, j, rfl, q⟩ := h
  obtain ⟨u, w', rfl, ⟨t, rfl⟩, ⟨t', rfl⟩⟩ := vals2 r
  refine max_two_ints (I.ok.hd hc) fun h' tk k => ⟨_, H, I.kept k, ?_, q⟩
  by_cases hj : j > i
  · rw [if_pos hj, if_pos hj]; exact ⟨_, rfl⟩
  · rw [if_neg hj, if_neg hj]; exact ⟨_, rfl⟩
theorem call_int1 : CallR X (.type "int") (fun xs H Q => (∃ i, xs = [.int i] ∧ Q (.int i) H) ∨ ∃ k, xs = [.bl k] ∧ Q (.int (if k then 1 else 0)) H) := by
  intro pins s σ H xs us Q I r h
  rcases h with ⟨i, rfl, q⟩ | ⟨k, rfl, q⟩
  · obtain ⟨u, rfl, t, rfl⟩ := vals1 r
    exact call_int_int ⟨.int i, H, I, ⟨_, rfl⟩, q⟩
  · obtain ⟨u, rfl, r1⟩ := vals1 r
    cases r1
    exact call_int_bool ⟨.int (if k then 1 else 0), H, I.tok _, ⟨_, rfl⟩, q⟩
end
end L2
namespace L2
open PySem PySem.Spec PyProof.Rows
structure ObjM (h : Heap) (x dx C : Addr) (mA : Str → Option Value) : Prop where
  obj : h.get? x = some (PySem.W.instObj C dx)
  ns : h.Ns1 dx mA
  ne : dx ≠ x
theorem lookIn_ns {h : Heap} {dx : Addr} {mA : Str → Option Value} (n : h.Ns1 dx mA) : ∃ od, h.get? dx = some od ∧ ∀ name, PySem.W.lookIn name od = some (mA name) := by
  obtain ⟨o, es, ep, ho, hd, hk, _, hm⟩ := n
  refine ⟨o, ho, fun name => ?_⟩
  have e := hm name
  unfold nsFind findBy at e
  rw [← Array.find?_toList] at e
  unfold PySem.W.lookIn
  rw [hd]
  dsimp only
  split
  · rename_i y q
    rw [q] at e
    exact congrArg some e
  · rename_i q
    rw [q] at e
    have a : es.toList.any (·.refKey) = false := by
      rw [List.any_eq_false]
      intro y hy
      obtain ⟨z, t, hkey⟩ := hk y (Array.mem_toList_iff.mp hy)
      simp [DictEntry.refKey, hkey]
    have a' : ¬ es.toList.any (·.refKey) = true := by rw [a]; exact Bool.false_ne_true
    rw [if_neg a']
    exact congrArg some e
theorem ObjM.look {h : Heap} {x dx C : Addr} {mA : Str → Option Value} (I : ObjM h x dx C mA) : ∃ od, PySem.W.InstAt h x (PySem.W.instObj C dx) C (some od) ∧ ∀ name, PySem.W.lookIn name od = some (mA name) :=
  let ⟨od, ho, hl⟩ := lookIn_ns I.ns
  ⟨od, ⟨I.obj, rfl, rfl, ho⟩, hl⟩
section
variable {P : Program} {w : World} {H H' : Hp} {h h' : Heap} {a C dx : Addr} {fs fs' : List (Str × V)}
theorem ins_get (hok : HOk P w H h) (e : H a = some (.ins C dx fs)) : ∃ mA, ObjM h a dx C mA ∧ (∀ f, RelO (fs.lookup f) (mA f)) ∧ PySem.Within mA (fs.map (·.1)) ∧ fs.length ≤ 1000 ∧ H dx = some (.own a) := by
  obtain ⟨d, z, ne, ob, mA, n, r, q⟩ := (show ObjOk P w H h a (.ins C dx fs) from hok a _ e)
  exact ⟨mA, ⟨ob, n, ne⟩, r, q, z, d⟩
end
structure Cls (K : PySem.W.Frag) (C : Addr) : Prop where
  pg : PySem.W.plainGet K C Str.empty = true
  hd : PySem.W.hasDictIn K C = true
  po : PySem.W.plainOver K C = true
  sa : PySem.W.findIn K (.ref C) "__setattr__" = some (some (.builtin "object.__setattr__"))
theorem Cls.get {K : PySem.W.Frag} {C : Addr} (c : Cls K C) (f : Str) : PySem.W.plainGet K C f = true := c.pg
section
variable {X : Cx} {pins : List (Addr × Obj)} {σ : St} {H : Hp} {s : Shared} {A : Around} {E : Value → Shared → Prop} {Q : Value → Shared → Prop} {c : Value} {b : Bool}
inductive TyOf (K : PySem.W.Frag) (H : Hp) : V → Value → Prop where
  | non : TyOf K H .non (.type "NoneType")
  | bl (x : Bool) : TyOf K H (.bl x) (.type "bool")
  | int (i : Int) : TyOf K H (.int i) (.type "int")
  | str (x : Str) : TyOf K H (.str x) (.type "str")
  | flt (x : UInt64) : TyOf K H (.flt x) (.type "float")
  | lst {a : Addr} {xs : List V} (e : H a = some (.lst xs)) : TyOf K H (.ref a) (.type "list")
  | frz {a : Addr} {o : Obj} {xs : List V} (e : H a = some (.frz o (.lst xs))) : TyOf K H (.ref a) (.type "list")
  | tup {a : Addr} {xs : List V} (e : H a = some (.tup xs)) : TyOf K H (.ref a) (.type "tuple")
  | dK {a : Addr} {kvs : List (Key × V)} (e : H a = some (.dK kvs)) : TyOf K H (.ref a) (.type "dict")
  | dT {a : Addr} {kvs : List (List Key × V)} (e : H a = some (.dT kvs)) : TyOf K H (.ref a) (.type "dict")
  | ins {a C dx : Addr} {fs : List (Str × V)} (e : H a = some (.ins C dx fs)) (cl : Cls K C) (ha : PySem.W.findIn K (.ref C) "__class__" = some (some (.builtin "object.__class__")))
      (hn : PySem.W.specialIn K (.builtin "object.__class__") "__get__" = some (some (.builtin "getset_descriptor.__get__"))) (htk : PySem.W.takesIn K (.builtin "object.__class__") = some true)
      (hm : PySem.W.mroIn K C (.type "object") = some true) : TyOf K H (.ref a) (.ref C)
theorem isinst_ok {x : V} {u t : Value} (I : Inv X pins σ H s) (rx : RelV x u) (ty : TyOf X.K H x t) (e : PySem.W.kitOne X.K t c = some b) (h : ∀ tk, Q (.bool b) { s with toks := tk }) :
    wpAny (model X.prog X.w) A (call (.builtin "isinstance") [u, c]) Q E s := by
  cases ty with
  | non => cases (show u = Value.none from rx); exact PySem.W.kia_one PySem.W.kitx_none I.kIn True.intro e (fun z => nomatch z) h
  | bl y => cases (show u = Value.bool y from rx); exact PySem.W.kia_one PySem.W.kitx_bool I.kIn True.intro e (fun z => nomatch z) h
  | int i => obtain ⟨t, q⟩ := (show ∃ t, u = Value.int i t from rx); cases q; exact PySem.W.kia_one PySem.W.kitx_int I.kIn True.intro e (fun z => nomatch z) h
  | str y => obtain ⟨t, q⟩ := (show ∃ t, u = Value.str y t from rx); cases q; exact PySem.W.kia_one PySem.W.kitx_str I.kIn True.intro e (fun z => nomatch z) h
  | flt y => obtain ⟨t, q⟩ := (show ∃ t, u = Value.float y t from rx); cases q; exact PySem.W.kia_one PySem.W.kitx_float I.kIn True.intro e (fun z => nomatch z) h
  | @lst a xs ea =>
    cases (show u = Value.ref a from rx)
    obtain ⟨_, _, n, _, h1⟩ := (show ObjOk X.prog X.w H s.heap a (.lst xs) from I.hok a _ ea)
    exact PySem.W.kia_one PySem.W.kitx_list I.kIn ⟨_, h1, rfl⟩ e (fun z => nomatch z) h
  | @frz a ob xs ea =>
    cases (show u = Value.ref a from rx)
    obtain ⟨_, _, _, n, _, h1⟩ := (show ObjOk X.prog X.w H s.heap a (.frz ob (.lst xs)) from I.hok a _ ea)
    exact PySem.W.kia_one PySem.W.kitx_list I.kIn ⟨_, h1, rfl⟩ e (fun z => nomatch z) h
  | @tup a xs ea =>
    cases (show u = Value.ref a from rx)
    obtain ⟨_, _, _, p⟩ := (show ObjOk X.prog X.w H s.heap a (.tup xs) from I.hok a _ ea)
    obtain ⟨o, h1, h2, _⟩ := p
    exact PySem.W.kia_one PySem.W.kitx_tuple I.kIn ⟨o, h1, h2⟩ e (fun z => nomatch z) h
  | @dK a kvs ea =>
    cases (show u = Value.ref a from rx)
    obtain ⟨_, _, vs, _, p⟩ := (show ObjOk X.prog X.w H s.heap a (.dK kvs) from I.hok a _ ea)
    obtain ⟨o, es, ep, h1, h2, _⟩ := p
    exact PySem.W.kia_one PySem.W.kitx_dict I.kIn ⟨o, h1, h2.1⟩ e (fun z => nomatch z) h
  | @dT a kvs ea =>
    cases (show u = Value.ref a from rx)
    obtain ⟨_, _, xs, _, o, es, ep, h1, h2, _⟩ := (show ObjOk X.prog X.w H s.heap a (.dT kvs) from I.hok a _ ea)
    exact PySem.W.kia_one PySem.W.kitx_dict I.kIn ⟨o, h1, h2.1⟩ e (fun z => nomatch z) h
  | @ins a C dx fs ea cl ha hn htk hm =>
    cases (show u = Value.ref a from rx)
    obtain ⟨mA, O, _⟩ := ins_get I.hok ea
    obtain ⟨od, J, _⟩ := O.look
    exact PySem.W.kia_one (PySem.W.kitx_own (cl.get _) cl.hd ha hn htk hm) I.kIn J e (fun z => nomatch z) h
end
end L2
namespace L2
open PySem PySem.Spec PyProof.Rows
structure Room (k : Nat) (A : Around) : Prop where
  hd : A.handled = none
  dp : A.depth + 3 * k + 5 < recursionLimit
  un : A.units + 16 * k + 200 < cLine
  gd : A.guards = some []
theorem Room.mono {j k : Nat} {A : Around} (r : Room k A) (h : j ≤ k) : Room j A := ⟨r.hd, by have := r.dp; omega, by have := r.un; omega, r.gd⟩
theorem Room.deeper {k : Nat} {A : Around} (r : Room (k + 1) A) (env : Env) : Room k (A.deeper env) :=
  ⟨r.hd, by have := r.dp; show A.depth + 1 + 3 * k + 5 < _; omega, by have := r.un; show A.units + 3 + 16 * k + 200 < _; omega, r.gd⟩
theorem Room.depth {k : Nat} {A : Around} (r : Room k A) : A.depth < recursionLimit := by have := r.dp; omega
theorem Room.units {k : Nat} {A : Around} (r : Room k A) : A.units + 64 < cLine := by have := r.un; omega
def tNil : TA := fun _ H Q => Q [] H
def tCons (ta : TE) (tr : TA) : TA := fun σ H Q => ta σ H fun x H1 => tr σ H1 fun xs H2 => Q (x :: xs) H2
section
variable {X : Cx} {e : Expr} {es : List Expr} {te : TE} {t : TA} {pos : PySem.Pos}
theorem pa_nil : PA X [] tNil := fun _ _ _ _ H Q I h => Calls.spliced_nil ⟨[], H, I, .nil, h⟩
theorem pa_cons (ha : PE X e te) (hr : PA X es t) (hs : starEach (e :: es) X.env = (false, eval e X.env) :: starEach es X.env := by rfl) : PA X (e :: es) (tCons te t) := by
  intro pos pins s σ H Q I h
  rw [hs]
  show wpAny _ _ (spliced ((false, eval e X.env) :: backTo pos (starEach es X.env))) _ _ s
  refine Calls.spliced_cons (thn (ha pins s σ H _ I h) fun u s1 ⟨x, H1, I1, r1, q1⟩ => ?_)
  exact thn (hr pos pins s1 σ H1 _ I1 q1) fun us s2 ⟨xs, H2, I2, r2, q2⟩ => ⟨x :: xs, H2, I2, .cons r1 r2, q2⟩
def tTup (t : TA) : TE := fun σ H Q => t σ H fun xs H1 => xs.length ≤ sizeLine ∧ ∀ p, H1 p = none → Q (.ref p) (upd H1 p (.tup xs))
def tLst (t : TA) : TE := fun σ H Q => t σ H fun xs H1 => xs.length ≤ sizeLine ∧ ∀ p, H1 p = none → Q (.ref p) (upd H1 p (.lst xs))
theorem pe_tup {x1} (h : PA X es t) : PE X (.Tuple es x1 pos) (tTup t) := by
  intro pins s σ H Q I hq
  refine wpAny_Tuple_spliced (thn (h pos pins s σ H _ I hq) fun us s1 ⟨xs, H1, I1, r, z, q⟩ => ⟨by rw [← r.length]; exact z, ?_⟩)
  have hf : H1 s1.heap.objs.size = none := I1.hok.fresh (Nat.le_refl _)
  refine ⟨.ref s1.heap.objs.size, upd H1 s1.heap.objs.size (.tup xs), I1.laid (t' := s1.toks) (fun b u e => Heap.get?_push_of_some _ e) (Nat.le_refl _) ?_, rfl, q _ hf⟩
  exact ⟨z, us, r, ⟨_, Heap.get?_push_size _ rfl, rfl, _, rfl⟩⟩
theorem pe_lst (h : PA X es t) : PE X (.List es pos) (tLst t) := by
  intro pins s σ H Q I hq
  refine wpAny_List_spliced (thn (h pos pins s σ H _ I hq) fun us s1 ⟨xs, H1, I1, r, z, q⟩ => ⟨by rw [← r.length]; exact z, ?_⟩)
  have hf : H1 s1.heap.objs.size = none := I1.hok.fresh (Nat.le_refl _)
  refine ⟨.ref s1.heap.objs.size, upd H1 s1.heap.objs.size (.lst xs), I1.laid (t' := s1.toks) (fun b u e => Heap.get?_push_of_some _ e) (Nat.le_refl _) ?_, rfl, q _ hf⟩
  exact ⟨z, us, 0, r, Heap.get?_push_size _ rfl⟩
end
abbrev Sp := List V → Hp → VK → XK → Prop
abbrev CXT := List Env → Hp → Shared → XK → Value → Shared → Prop
structure Env0 (P : Program) (w : World) (K : PySem.W.Frag) (mg : Str → Option Value) (base : Heap) (A : Around) (outer : List Env) (s : Shared) (H : Hp) : Prop where
  frames : A.frames = some outer
  mod : Mod K mg base
  bs : ∀ b o, base.get? b = some o → s.heap.get? b = some o ∧ H b = none
  bsz : base.objs.size ≤ s.heap.objs.size
  funs : s.heap.FunFrames base outer
  frf : ∀ b ∈ frs outer, H b = none
  hok : HOk P w H s.heap
  bare : AllBare s.gens
def CE (outer : List Env) (P : Program) (w : World) (H : Hp) (s : Shared) (Q : VK) (u : Value) (s' : Shared) : Prop :=
  ∃ v H', s'.os = s.os ∧ AllBare s'.gens ∧ Un (frs outer) [] H H' s.heap s'.heap ∧ HOk P w H' s'.heap ∧ RelV v u ∧ Q v H'
def CR (CX : CXT) (outer : List Env) (P : Program) (w : World) (H : Hp) (s : Shared) (Q : VK) (E : XK) (r : Result) (s' : Shared) : Prop :=
  match r with
  | .ok (.ret u) => CE outer P w H s Q u s'
  | .ok _ => False
  | .error e => CX outer H s E e s'
structure FnOk (P : Program) (w : World) (K : PySem.W.Frag) (mg : Str → Option Value) (base : Heap) (CX : CXT) (k : Nat) (f : Addr) (fd : FuncData) (ps : List Str) (sp : Sp) : Prop where
  len : ∀ vs H Q E, sp vs H Q E → vs.length = ps.length
  run : ∀ (A : Around) (outer : List Env) (s : Shared) (H : Hp) (args : Args) (us : List Value) (vs : List V) (Q : VK) (E : XK), Room k A → Env0 P w K mg base A outer s H → BindsTo s fd args (ps.zip us) → Vals vs us → sp vs H Q E →
    codeAny (model P w) A (.call (.ref f) args) (CR CX outer P w H s Q E) s
section
variable {X : Cx} {pins : List (Addr × Obj)} {σ : St} {H : Hp} {s s' : Shared}
theorem Inv.env0 (I : Inv X pins σ H s) : Env0 X.prog X.w X.K X.mg X.base X.A X.stack s H :=
  ⟨I.ok.frames, I.ok.mod, I.bs, Nat.le_trans I.ok.bsz I.sz, I.stack, I.stkFree, I.hok, I.bare⟩
theorem Inv.after {Q : VK} {u : Value} (I : Inv X pins σ H s) (h : CE X.stack X.prog X.w H s Q u s') : EP X pins σ Q u s' := by
  obtain ⟨v, H', os, bare, un, hok, r, q⟩ := h
  obtain ⟨hh, g, d, t, os'⟩ := s'
  obtain rfl : os' = s.os := os
  exact ⟨v, H', I.call (h' := hh) (g' := g) (d' := d) (t' := t) (ch := []) un hok bare (fun b z => absurd z (by simp)), r, q⟩
end
def tCall (sp : Sp) (dvs : List V) (E : XK) (t : TA) : TE := fun σ H Q => t σ H fun vs H1 => sp (vs ++ dvs) H1 Q E
def Binds (K : PySem.W.Frag) (fd : FuncData) (ps : List Str) (ds : List Value) : Prop :=
  ∀ (s : Shared) (us : List Value), K.In s.heap → (us ++ ds).length = ps.length → BindsTo s fd ⟨us, []⟩ (ps.zip (us ++ ds))
theorem Binds.all {K : PySem.W.Frag} {fd : FuncData} {ps : List Str} (h : ∀ us : List Value, us.length = ps.length → bindArgs fd ⟨us, []⟩ = pure (ps.zip us)) : Binds K fd ps [] := fun s us _ hl => by
  rw [List.append_nil] at hl ⊢
  exact .of_eq (h us hl)
def Passes (CX : CXT) (X : Cx) (E : XK) : Prop := ∀ (pins : List (Addr × Obj)) (σ : St) (H : Hp) (s : Shared) (e : Value) (s' : Shared), Inv X pins σ H s → CX X.stack H s E e s' → X.xe e s'
section
variable {X : Cx} {CX : CXT} {k : Nat} {f C : Addr} {fd : FuncData} {ps : List Str} {sp : Sp} {dvs : List V} {ds : List Value} {E : XK} {x m : Str} {p pos apos : PySem.Pos} {e o : Expr} {es : List Expr} {ta : TE} {t : TA}
theorem run_fn {pins : List (Addr × Obj)} {σ : St} {H : Hp} {s : Shared} {Q : VK} {us : List Value} {vs : List V} (F : FnOk X.prog X.w X.K X.mg X.base CX k f fd ps sp) (hr : Room k X.A) (hb : Binds X.K fd ps ds) (hd : Vals dvs ds) (hx : Passes CX X E)
    (I : Inv X pins σ H s) (r : Vals vs us) (h : sp (vs ++ dvs) H Q E) : wpAny (model X.prog X.w) X.A (call (.ref f) us) (EP X pins σ Q) X.xe s := by
  have r2 : Vals (vs ++ dvs) (us ++ ds) := r.append hd
  have hl : (us ++ ds).length = ps.length := by rw [← r2.length]; exact F.len _ _ _ _ h
  refine wpAny_call (codeAny_mono (F.run X.A X.stack s H ⟨us, []⟩ (us ++ ds) (vs ++ dvs) Q E hr I.env0 (hb s us I.kIn hl) r2 h) fun r s' hq => ?_)
  cases r with
  | error e => exact hx pins σ H s e s' I hq
  | ok fl =>
    cases fl with
    | ret u => exact I.after hq
    | next => exact False.elim hq
    | brk => exact False.elim hq
    | cont => exact False.elim hq
theorem pe_call (F : FnOk X.prog X.w X.K X.mg X.base CX k f fd ps sp) (hr : Room k X.A) (hg : Gl X x) (hm : X.mg x = some (.ref f)) (hk : PySem.W.keepIn X.K (.ref f) = true) (hb : Binds X.K fd ps ds) (hd : Vals dvs ds) (hx : Passes CX X E)
    (ha : PA X (e :: es) t) (hdb : (x == ("__debug__" : Str)) = false := by decide) (he : starEach (e :: es) X.env = (false, eval e X.env) :: starEach es X.env := by rfl) (hpl : (backTo pos (starEach es X.env)).any (·.1) = false := by rfl) :
    PE X (.Call (.Name x p) (e :: es) [] pos) (tCall sp dvs E t) := by
  intro pins s σ H Q I h
  refine wpAny_Call_Name_kw (ld_glob I hg hm ?_ hdb)
  refine PySem.W.callWith_K (h₀ := X.base) I.ok.mod.kin hk (thn (ha pos pins s σ H _ I h) fun us s1 ⟨vs, H1, I1, r, q⟩ => ⟨I1.kIn, ?_⟩) he hpl
  exact run_fn F hr hb hd hx I1 r q
end
structure FnScope (N P : List Str) (sc : Scope) : Prop where
  kind : sc.kind = .function
  co : sc.isCoroutine = false
  gen : sc.isGenerator = false
  nd : N.Nodup
  pre : N.take P.length = P
  par : ∀ x ∈ P, sc.names.lookup x = some .local ∨ sc.names.lookup x = some .cell
  nofree : ∀ y ∈ sc.names, y.2 ≠ .free
theorem bindL_out {kindOf : Str → Option NameKind} {x : Str} : ∀ {binds : List (Str × Value)} {m : Str → Option Value}, (∀ v, (x, v) ∉ binds) → bindL kindOf binds m x = m x
  | [], _, _ => rfl
  | (n, v) :: r, m, h => by
    unfold bindL
    rw [bindL_out fun w hw => h w (List.mem_cons_of_mem _ hw)]
    split
    · have : x ≠ n := by rintro rfl; exact h v List.mem_cons_self
      simp [this]
    · rfl
theorem bindC_out {kindOf : Str → Option NameKind} {x : Str} : ∀ {binds : List (Str × Value)} {m : Str → Option Value}, (∀ v, (x, v) ∉ binds) → bindC kindOf binds m x = m x
  | [], _, _ => rfl
  | (n, v) :: r, m, h => by
    unfold bindC
    rw [bindC_out fun w hw => h w (List.mem_cons_of_mem _ hw)]
    split
    · rfl
    · have : x ≠ n := by rintro rfl; exact h v List.mem_cons_self
      simp [this]
theorem bindL_get {kindOf : Str → Option NameKind} {x : Str} {v : Value} : ∀ {P : List Str} {vs : List Value} {i : Nat} {m : Str → Option Value}, P.Nodup → P[i]? = some x → vs[i]? = some v → kindOf x = some .local →
    bindL kindOf (P.zip vs) m x = some v
  | [], _, _, _, _, h, _, _ => by simp at h
  | _ :: _, [], _, _, _, _, h, _ => by simp at h
  | p :: P, w :: vs, 0, m, nd, h1, h2, hk => by
    simp at h1 h2; subst h1; subst h2
    show bindL kindOf ((p, w) :: P.zip vs) m p = _
    unfold bindL
    rw [bindL_out fun v hv => (List.nodup_cons.mp nd).1 (List.of_mem_zip hv).1, if_pos hk]
    simp
  | p :: P, w :: vs, i + 1, m, nd, h1, h2, hk => by
    show bindL kindOf ((p, w) :: P.zip vs) m x = _
    unfold bindL
    exact bindL_get (i := i) (List.nodup_cons.mp nd).2 (by simpa using h1) (by simpa using h2) hk
theorem bindC_get {kindOf : Str → Option NameKind} {x : Str} {v : Value} : ∀ {P : List Str} {vs : List Value} {i : Nat} {m : Str → Option Value}, P.Nodup → P[i]? = some x → vs[i]? = some v → kindOf x ≠ some .local →
    bindC kindOf (P.zip vs) m x = some v
  | [], _, _, _, _, h, _, _ => by simp at h
  | _ :: _, [], _, _, _, _, h, _ => by simp at h
  | p :: P, w :: vs, 0, m, nd, h1, h2, hk => by
    simp at h1 h2; subst h1; subst h2
    show bindC kindOf ((p, w) :: P.zip vs) m p = _
    unfold bindC
    rw [bindC_out fun v hv => (List.nodup_cons.mp nd).1 (List.of_mem_zip hv).1, if_neg hk]
    simp
  | p :: P, w :: vs, i + 1, m, nd, h1, h2, hk => by
    show bindC kindOf ((p, w) :: P.zip vs) m x = _
    unfold bindC
    exact bindC_get (i := i) (List.nodup_cons.mp nd).2 (by simpa using h1) (by simpa using h2) hk
def start (N : List Str) (vs : List V) : St := vs.map some ++ List.replicate (N.length - vs.length) none
def cxOf (CX : CXT) (P : Program) (w : World) (K : PySem.W.Frag) (mg : Str → Option Value) (base : Heap) (N : List Str) (qual : Str) (scope : Scope) (f : Addr) (cd : Value) (A : Around) (outer : List Env) (s : Shared) (H : Hp) (E : XK) : Cx where
  prog := P
  w := w
  K := K
  mg := mg
  base := base
  A := A.deeper (envOfC qual scope s.heap.objs.size f cd)
  N := N
  s₀ := s
  H₀ := H
  env := envOfC qual scope s.heap.objs.size f cd
  outer := outer
  stack := envOfC qual scope s.heap.objs.size f cd :: outer
  ex := []
  calm := true
  fn := fun _ => true
  pn := []
  xe := fun e s' => wpAny (model P w) (A.deeper (envOfC qual scope s.heap.objs.size f cd)) (leaving (envOfC qual scope s.heap.objs.size f cd) e) (fun _ s'' => CX outer H s E e s'') (fun e' s'' => CX outer H s E e' s'') s'
theorem cell_has {sc : Scope} {n : Nat} {x : Str} (h : sc.names.lookup x = some .cell) : ∃ c, (cellsFrom n sc.names []).lookup x = some c := by
  have q := PySem.W.cellsFrom_some sc.names n [] (.inl h)
  exact Option.isSome_iff_exists.mp q
theorem inv_start {CX : CXT} {P : Program} {w : World} {K : PySem.W.Frag} {mg : Str → Option Value} {base : Heap} {N ps : List Str} {qual : Str} {scope : Scope} {f : Addr} {cd : Value} {A : Around} {outer : List Env} {s s1 : Shared} {H : Hp} {E : XK} {us : List Value} {vs : List V}
    (S : FnScope N ps scope) (hd : A.handled = none) (e0 : Env0 P w K mg base A outer s H) (hl : vs.length = ps.length) (r : Vals vs us)
    (x : InCallC s s.heap.objs.size (bindL (envOfC qual scope s.heap.objs.size f cd).kindOf (ps.zip us) fun _ => none) (cellsFrom (s.heap.objs.size + 1) scope.names []) (bindC (envOfC qual scope s.heap.objs.size f cd).kindOf (ps.zip us) fun _ => none) s1) :
    Inv (cxOf CX P w K mg base N qual scope f cd A outer s H E) [] (start N vs) H s1 := by
  have hpl : ps.length ≤ N.length := by have := congrArg List.length S.pre; rw [List.length_take] at this; omega
  obtain ⟨h1, tk, rfl, hk⟩ := x.done
  have noA : ∀ b : Addr, b ∉ (cxOf CX P w K mg base N qual scope f cd A outer s H E).ex := fun b z => absurd (show b ∈ ([] : List Addr) from z) (by simp)
  refine ⟨⟨e0.mod, S.kind, rfl, rfl, Nat.le_refl _, fun y z c h1 h2 => ?_, fun y hy => ?_, fun y c _ h => ?_, fun _ => hd, Around.frames_deeper e0.frames, .inr ⟨rfl, rfl⟩, fun b z => absurd z (noA b), e0.bs, e0.bsz, fun b _ _ => noA b, fun b z => absurd z (noA b), e0.funs, e0.frf⟩,
    rfl, e0.bare, Un.kept hk, ⟨_, x.toInCall.ns, fun i y v h1 h2 h3 => ?_⟩, fun y c h => ⟨_, x.cell y c h⟩, e0.hok.fresh (Nat.le_refl _), fun y c h => ?_, fun p hp => absurd (show p ∈ ([] : List (Addr × Obj)) from hp) (by simp), e0.hok.kept hk, ?_⟩
  · exact name_of_addr x.apart (PySem.mem_of_lookup h1) (PySem.mem_of_lookup h2)
  · have hy : scope.names.lookup y = some .cell ∨ scope.names.lookup y = some .free := hy
    rcases hy with hy | hy
    · exact cell_has hy
    · exact absurd rfl (S.nofree _ (PySem.mem_of_lookup hy))
  · exact Nat.le_of_lt (x.above y c (PySem.mem_of_lookup h))
  · have hi : i < vs.length := by
      unfold start at h2
      by_cases hi : i < vs.length
      · exact hi
      · rw [List.getElem?_append_right (by simpa using hi)] at h2
        rw [List.getElem?_replicate] at h2
        split at h2 <;> cases h2
    have ha : vs[i]? = some v := by
      unfold start at h2
      rw [List.getElem?_append_left (by simpa using hi), List.getElem?_map] at h2
      cases e : vs[i]? with
      | none => rw [e] at h2; cases h2
      | some a => rw [e] at h2; cases h2; rfl
    obtain ⟨u, hu, rv⟩ := r.get ha
    have hp : ps[i]? = some y := by
      rw [← S.pre, List.getElem?_take_of_lt (by omega)]; exact h1
    have ndP : ps.Nodup := by rw [← S.pre]; exact S.nd.sublist (List.take_sublist _ _)
    refine ⟨u, rv, ?_⟩
    rcases S.par y (List.mem_of_getElem? hp) with k | k
    · exact .inl ⟨k, bindL_get ndP hp hu k⟩
    · obtain ⟨c, e⟩ := cell_has (n := s.heap.objs.size + 1) k
      refine .inr ⟨.inl k, c, e, ?_⟩
      have q := x.cell y c e
      rw [bindC_get ndP hp hu (by show scope.names.lookup y ≠ _; rw [k]; decide)] at q
      exact q
  · exact e0.hok.fresh (Nat.le_of_lt (x.above y c (PySem.mem_of_lookup h)))
  · unfold start
    show _ = N.length
    rw [List.length_append, List.length_map, List.length_replicate]
    omega
theorem fn_of {CX : CXT} {P : Program} {w : World} {K : PySem.W.Frag} {mg : Str → Option Value} {base : Heap} {k : Nat} {f : Addr} {name qual : Str} {params : Arguments} {body : List Stmt} {scope : Scope} {dV kV doc pm cdv ct oc : Value} {an od : Option Addr}
    {osl : Array (Option Value)} {N ps : List Str} {sp : Sp} (lk : K.lookup f = some ⟨oc, od, .func (PySem.W.fnOf name qual params body scope dV kV doc pm an cdv ct), osl⟩) (hcd : PySem.W.codeIn K cdv qual = true) (S : FnScope N ps scope)
    (len : ∀ vs H Q E, sp vs H Q E → vs.length = ps.length)
    (hbody : ∀ (A : Around) (outer : List Env) (s : Shared) (H : Hp) (vs : List V) (Q : VK) (E : XK), Room k (A.deeper (envOfC qual scope s.heap.objs.size f cdv)) → sp vs H Q E →
      ∃ t, PSs (cxOf CX P w K mg base N qual scope f cdv A outer s H E) body t ∧ t { nx := fun _ H' => Q .non H', rt := Q } (start N vs) H) :
    FnOk P w K mg base CX (k + 1) f (PySem.W.fnOf name qual params body scope dV kV doc pm an cdv ct) ps sp := by
  refine ⟨len, fun A outer s H args us vs Q E hr e0 hb r hsp => ?_⟩
  have hl := len _ _ _ _ hsp
  have KX : K.In s.heap := e0.mod.kin.keeps fun b o e => (e0.bs b o e).1
  have lim : s.heap.NoLimit := e0.mod.nolimit.keeps fun b o e => (e0.bs b o e).1
  have hkind : ∀ y ∈ ps.zip us, scope.names.lookup y.1 = some .local ∨ (scope.names.lookup y.1 = some .cell ∧ ((cellsFrom (s.heap.objs.size + 1) scope.names []).lookup y.1).isSome = true) := fun ⟨n, v⟩ hy => by
    rcases S.par n (List.of_mem_zip hy).1 with q | q
    · exact .inl q
    · exact .inr ⟨q, PySem.W.cellsFrom_some _ _ _ (.inl q)⟩
  refine codeAny_call_function hr.depth (KX _ _ lk) rfl S.co S.gen rfl (PySem.W.codeRec_of KX hcd) (hb _ _ _ _ ?_)
  refine wpAny_newFunctionEnv_cells S.kind hkind fun env he s1 x => ?_
  subst he
  refine ⟨lim.keeps x.toInCall.keep, codeAny_func ?_⟩
  obtain ⟨t, ht, hq⟩ := hbody A outer s H vs Q E (hr.deeper _) hsp
  have I : Inv (cxOf CX P w K mg base N qual scope f cdv A outer s H E) [] (start N vs) H s1 := inv_start S hr.hd e0 hl r x
  refine wpAny_mono (ht [] s1 (start N vs) H _ I hq) (fun fl s' hs => ?_) fun e s' hs => hs
  have fin : ∀ {σ' : St} {H' : Hp} {v : V} {u : Value}, Inv (cxOf CX P w K mg base N qual scope f cdv A outer s H E) [] σ' H' s' → RelV v u → Q v H' → CE outer P w H s Q u s' :=
    fun {σ' H' v u} J rv q => ⟨v, H', J.os, J.bare, J.base, J.hok, rv, q⟩
  cases fl with
  | ret u =>
    obtain ⟨v, σ', H', J, rv, q⟩ := hs
    exact fin J rv q
  | next =>
    obtain ⟨σ', H', J, q⟩ := hs
    exact fin (v := V.non) (u := Value.none) J rfl q
  | brk =>
    obtain ⟨_, _, _, q⟩ := hs
    exact False.elim q
  | cont =>
    obtain ⟨_, _, _, q⟩ := hs
    exact False.elim q
end L2
namespace L2
open PySem PySem.Spec PyProof.Rows
section
variable {X : Cx} {x : Str} {p pos : PySem.Pos} {e : Expr} {es : List Expr} {t : TA} {id T : String} {r : List V → Hp → VK → Prop}
def tCB (r : List V → Hp → VK → Prop) (t : TA) : TE := fun σ H Q => t σ H fun vs H1 => r vs H1 Q
theorem pe_callB (hc : CallR X (.builtin id) r) (hg : Gl X x) (hm : X.mg x = none) (hv : bootBuiltins x = some (.builtin id)) (ha : PA X (e :: es) t) (hn : x ≠ "__name__" := by decide) (hdb : (x == ("__debug__" : Str)) = false := by decide)
    (he : starEach (e :: es) X.env = (false, eval e X.env) :: starEach es X.env := by rfl) (hpl : (backTo pos (starEach es X.env)).any (·.1) = false := by rfl) : PE X (.Call (.Name x p) (e :: es) [] pos) (tCB r t) := by
  intro pins s σ H Q I h
  refine wpAny_Call_Name_kw (ld_blt I hg hm hv ?_ hn hdb)
  exact PyProof.Rows.callWith_builtin1 (thn (ha pos pins s σ H _ I h) fun us s1 ⟨vs, H1, I1, r1, q1⟩ => hc pins s1 σ H1 vs us Q I1 r1 q1) he hpl
theorem pe_callTy (hc : CallR X (.type T) r) (hg : Gl X x) (hm : X.mg x = none) (hv : bootBuiltins x = some (.type T)) (ha : PA X (e :: es) t) (hn : x ≠ "__name__" := by decide) (hdb : (x == ("__debug__" : Str)) = false := by decide)
    (he : starEach (e :: es) X.env = (false, eval e X.env) :: starEach es X.env := by rfl) (hpl : (backTo pos (starEach es X.env)).any (·.1) = false := by rfl) : PE X (.Call (.Name x p) (e :: es) [] pos) (tCB r t) := by
  intro pins s σ H Q I h
  refine wpAny_Call_Name_kw (ld_blt I hg hm hv ?_ hn hdb)
  exact PyProof.Rows.callWith_type1 (thn (ha pos pins s σ H _ I h) fun us s1 ⟨vs, H1, I1, r1, q1⟩ => hc pins s1 σ H1 vs us Q I1 r1 q1) he hpl
end
end L2
namespace HT
open PySem PyProof.Rows
def lexLt : List Int → List Int → Bool
  | [], [] => false
  | [], _ :: _ => true
  | _ :: _, [] => false
  | x :: xs, y :: ys => if x = y then lexLt xs ys else decide (x < y)
theorem lexLt_cons (x y : Int) (xs ys : List Int) : lexLt (x :: xs) (y :: ys) = if x = y then lexLt xs ys else decide (x < y) := rfl
theorem lexLt_nil_nil : lexLt [] [] = false := rfl
theorem lexLt_nil_cons (y : Int) (ys : List Int) : lexLt [] (y :: ys) = true := rfl
theorem lexLt_cons_nil (x : Int) (xs : List Int) : lexLt (x :: xs) [] = false := rfl
theorem eqAt_int (A : Around) (s : Shared) (a : Int) (t : Tok) (c : Int) (u : Tok) : ∃ e, SeqAt.EqAt A s (.int a t) (.int c u) e ∧ (e = true ↔ a = c) :=
  ⟨(a == c), SeqAt.EqAt.int_int a t c u, by simp⟩
theorem rcLt_int (A : Around) (s : Shared) (a : Int) (t : Tok) (c : Int) (u : Tok) (prog : Program) (w : World) (E : Value → Shared → Prop) (Q : Value → Shared → Prop) (h : Q (.bool (decide (a < c))) s) :
    wpAny (model prog w) A (richCompare .Lt (.int a t) (.int c u)) Q E s :=
  (PyProof.Rows.lt_int h : wpAny (model prog w) A (compareOp .Lt (.int a t) (.int c u)) Q E s)
section
open PySem.SeqAt
open PySem.AutoSeq1 (wpAny_loadPart')
open PySem.MeetsSeq PySem.MeetsSeq2 PySem.MeetsSeq3
theorem tuple_lt_ints (l b : Addr) (items items2 : Array Value) (n n2 : Nat) (dd dd2 : Option Addr) (sl sl2 : Array (Option Value)) (ns ms : List Int) (hi : IntsAre items.toList ns) (hj : IntsAre items2.toList ms) :
    Meets (Builtin.«tuple.__lt__» ⟨[.ref l, .ref b], []⟩)
      (fun _ R s => s.heap.get? l = some { cls := .type "tuple", dict := dd, data := .seq items n, slots := sl } ∧ s.heap.get? b = some { cls := .type "tuple", dict := dd2, data := .seq items2 n2, slots := sl2 } ∧
        R (.ok (.ret (.bool (lexLt ns ms)))) s) :=
  .of_wp fun prog w A R s h => by
    obtain ⟨hp, g, d, tk, os⟩ := s; obtain ⟨hl, hb, h⟩ := h
    have f2 := AutoSeq1.sub_tuple_tuple
    have z1 : items.size = ns.length := by rw [← hi.length]; simp
    have z2 : items2.size = ms.length := by rw [← hj.length]; simp
    wp_walk using wpAny_loadPart' hl, wpAny_loadPart' hb, wpAny_forIn_list _ (fun rest b s' => b.1 = none ∧ s' = ⟨hp, g, d, tk, os⟩ ∧ ∃ (vs ws : List Value) (ns' ms' : List Int), rest = vs.zip ws ∧
      IntsAre vs ns' ∧ IntsAre ws ms' ∧ ns'.length + items2.size = ms'.length + items.size ∧ R (.ok (.ret (.bool (lexLt ns' ms')))) ⟨hp, g, d, tk, os⟩) _
    case turn =>
      rintro ⟨y, x⟩ rest b s' ⟨hb', rfl, vs, ws, ns', ms', hz, hvi, hwi, hlen, hR⟩
      cases hvi with
      | nil => rw [List.zip_nil_left] at hz; cases hz
      | cons a t hvi' =>
        cases hwi with
        | nil => rw [List.zip_nil_right] at hz; cases hz
        | cons c u hwi' =>
          rw [List.zip_cons_cons] at hz
          injection hz with hyx hrest
          injection hyx with hy hx
          subst hy hx
          rw [lexLt_cons] at hR
          simp only [List.length_cons] at hlen
          obtain ⟨e, he, hiff⟩ := eqAt_int A.in1 ⟨hp, g, d, tk, os⟩ a t c u
          refine wpAny_bind (he prog w _ _ ?_)
          cases e with
          | true =>
            rw [if_pos (hiff.mp rfl)] at hR
            wp_walk
            exact ⟨rfl, rfl, _, _, _, _, hrest, hvi', hwi', by omega, hR⟩
          | false =>
            rw [if_neg (fun q => absurd (hiff.mpr q) Bool.false_ne_true)] at hR
            have hri := rcLt_int A.in1 ⟨hp, g, d, tk, os⟩ a t c u prog w
            wp_walk using hri
            exact ⟨_, rfl, by simpa using hR⟩
    case fin =>
      rintro ⟨b1, b2⟩ s' ⟨hb', rfl, vs, ws, ns', ms', hz, hvi, hwi, hlen, hR⟩
      simp only at hb'
      subst hb'
      have hv : lexLt ns' ms' = decide (items.size < items2.size) := by
        cases hvi with
        | nil =>
          cases hwi with
          | nil =>
            simp only [List.length_nil] at hlen
            rw [lexLt_nil_nil]
            exact (decide_eq_false (by omega)).symm
          | cons c u hw =>
            simp only [List.length_nil, List.length_cons] at hlen
            rw [lexLt_nil_cons]
            exact (decide_eq_true (by omega)).symm
        | cons a t hv =>
          cases hwi with
          | nil =>
            simp only [List.length_nil, List.length_cons] at hlen
            rw [lexLt_cons_nil]
            exact (decide_eq_false (by omega)).symm
          | cons c u hw =>
            rw [List.zip_cons_cons] at hz
            cases hz
      rw [hv] at hR
      wp_walk
      exact ⟨_, rfl, by simpa [Builtin.Tuple.tupleCompareSizes] using hR⟩
    case h =>
      exact ⟨rfl, rfl, items.toList, items2.toList, ns, ms, rfl, hi, hj, by omega, h⟩
end
section
variable {prog : Program} {w : World} {A : Around} {E : Value → Shared → Prop} {s : Shared}
theorem lt_tupInts {l b : Addr} {items items2 : Array Value} {ns ms : List Int} {Q : Value → Shared → Prop} (hl : IsTup s.heap l items) (hb : IsTup s.heap b items2) (hi : IntsAre items.toList ns) (hj : IntsAre items2.toList ms)
    (hu : A.units < cLine) (h : Q (.bool (lexLt ns ms)) s) : wpAny (model prog w) A (compareOp .Lt (.ref l) (.ref b)) Q E s := by
  obtain ⟨⟨cls, dd, data, sl⟩, ho, hc, n, hd⟩ := id hl
  obtain ⟨⟨cls2, dd2, data2, sl2⟩, ho2, hc2, n2, hd2⟩ := id hb
  simp only at hc hd hc2 hd2
  subst hc hd hc2 hd2
  exact richCompare_meets_room (op := .Lt) ⟨_, ho, rfl⟩ ⟨_, ho2, rfl⟩ PySem.F.slot_tuple_lt PySem.F.entry_tuple_lt (PySem.F.args_tuple_lt_2 _ _) (tuple_lt_ints l b items items2 n n2 dd dd2 sl sl2 ns ms hi hj)
    ⟨ho, ho2, show Value.bool (lexLt ns ms) ≠ Value.notImplemented ∧ Q (.bool (lexLt ns ms)) s from ⟨(fun x => nomatch x), h⟩⟩ hu
theorem cat_tup {t b : Addr} {vs ws : List Value} {Q : Value → Shared → Prop} (ht : IsTup s.heap t vs.toArray) (hb : IsTup s.heap b ws.toArray) (hv : vs ≠ [])
    (h1 : ws = [] → Q (.ref t) s) (h2 : ws ≠ [] → Q (.ref s.heap.objs.size) { s with heap := s.heap.push { cls := .type "tuple", data := .seq (vs ++ ws).toArray } })
    (hsz : vs.length + ws.length ≤ sizeLine) : wpAny (model prog w) A (binaryOp .Add (.ref t) (.ref b)) Q E s := by
  obtain ⟨⟨cls, dd, data, sl⟩, ho, hc, n, hd⟩ := id ht
  obtain ⟨⟨cls2, dd2, data2, sl2⟩, ho2, hc2, n2, hd2⟩ := id hb
  simp only at hc hd hc2 hd2
  subst hc hd hc2 hd2
  have e : vs.toArray ++ ws.toArray = (vs ++ ws).toArray := by simp
  by_cases hw : ws = []
  · exact concat_meets ⟨_, ho, rfl⟩ ⟨_, ho2, rfl⟩ noFill_tuple_add seq_tuple_add PySem.F.slot_tuple_add PySem.F.entry_tuple_add (PySem.F.args_tuple_add_2 _ _)
      (tuple_addW1 t b vs.toArray ws.toArray n n2 dd dd2 sl sl2 (by simpa using hv) (by simp [hw])) ⟨ho, ho2, h1 hw⟩
  · refine concat_meets ⟨_, ho, rfl⟩ ⟨_, ho2, rfl⟩ noFill_tuple_add seq_tuple_add PySem.F.slot_tuple_add PySem.F.entry_tuple_add (PySem.F.args_tuple_add_2 _ _)
      (tuple_addW2 t b vs.toArray ws.toArray n n2 dd dd2 sl sl2 (by simpa using hv) (by simpa using hw) (by rw [List.size_toArray, List.size_toArray]; exact hsz)) ⟨ho, ho2, ?_⟩
    rw [e]
    exact h2 hw
def sIx (n d : Nat) : Option Int → Nat
  | none => d
  | some v => if v < 0 then (v + (n : Int)).toNat else min v.toNat n
theorem sIx_nat (n d k : Nat) : sIx n d (some (k : Int)) = min k n := by
  show (if (k : Int) < 0 then ((k : Int) + (n : Int)).toNat else min (k : Int).toNat n) = min k n
  rw [if_neg (by omega), Int.toNat_natCast]
theorem sIx_le (n d : Nat) (hd : d ≤ n) (o : Option Int) : sIx n d o ≤ n := by
  cases o with
  | none => exact hd
  | some v =>
    show (if v < 0 then (v + (n : Int)).toNat else min v.toNat n) ≤ n
    by_cases hv : v < 0
    · rw [if_pos hv]; omega
    · rw [if_neg hv]; exact Nat.min_le_right _ _
theorem clip_eq (v : Int) (n d : Nat) : (if v < 0 then max (v + (n : Int)) 0 else min v (n : Int)) = ((sIx n d (some v) : Nat) : Int) := by
  show (if v < 0 then max (v + (n : Int)) 0 else min v (n : Int)) = (((if v < 0 then (v + (n : Int)).toNat else min v.toNat n) : Nat) : Int)
  by_cases hv : v < 0
  · simp only [if_pos hv]; omega
  · simp only [if_neg hv]; omega
theorem adjust_gen (lo hi : Option Int) (n : Nat) : Builtin.Slice.sliceAdjust lo hi 1 (n : Int) = (((sIx n 0 lo : Nat) : Int), ((sIx n n hi : Nat) : Int)) := by
  have h1 : ¬ ((1 : Int) < 0) := by omega
  unfold Builtin.Slice.sliceAdjust
  simp only [h1, if_false]
  refine Prod.ext ?_ ?_
  · cases lo with
    | none => rfl
    | some v => exact clip_eq v n 0
  · cases hi with
    | none => rfl
    | some v => exact clip_eq v n n
theorem places_gen (i j : Nat) : Builtin.Slice.slicePlaces (i : Int) (j : Int) 1 = j - i := by
  unfold Builtin.Slice.slicePlaces
  have h1 : (1 : Int) > 0 := by omega
  simp only [h1, if_true, Int.ediv_one]
  split <;> omega
theorem slicePart_ {v : Value} {o : Option Int} {Q : Option Int → Shared → Prop} (p : IsPart v o) (h : Q o s) : wpAny (model prog w) A (Builtin.Slice.slicePartIndex v) Q E s := by
  cases p with
  | none => exact slicePart_none h
  | int i t => exact slicePart_int h
theorem sliceApplied_gen {sl : Addr} {vl vu : Value} {lo hi : Option Int} {n : Nat} {Q : Int × Int × Nat → Shared → Prop} (hs : s.heap.IsSliceOf sl vl vu .none) (pl : IsPart vl lo) (pu : IsPart vu hi)
    (h : Q (((sIx n 0 lo : Nat) : Int), 1, sIx n n hi - sIx n 0 lo) s) : wpAny (model prog w) A (Builtin.Slice.sliceApplied (.ref sl) (pure (n : Int))) Q E s := by
  obtain ⟨os, hos, hcs, hds⟩ := id hs
  unfold Builtin.Slice.sliceApplied Builtin.Slice.sliceFields
  refine wpAny_bind (wpAny_bind (wpAny_field hos hds (x := vl) rfl (wpAny_bind (wpAny_field hos hds (x := vu) rfl (wpAny_bind (wpAny_field hos hds (x := .none) rfl (wpAny_pure ?_)))))))
  refine wpAny_bind (slicePart_none ?_)
  show wpAny _ _ (if ((1 : Int) == 0) = true then _ else _) _ _ s
  rw [if_neg (by decide)]
  refine wpAny_bind (slicePart_ pl (wpAny_bind (slicePart_ pu (wpAny_bind (wpAny_pure ?_)))))
  show wpAny _ _ (match Builtin.Slice.sliceAdjust lo hi 1 (n : Int) with | (lo, hi) => pure (lo, (1 : Int), Builtin.Slice.slicePlaces lo hi 1)) _ _ s
  rw [adjust_gen lo hi n]
  show wpAny _ _ (pure (((sIx n 0 lo : Nat) : Int), (1 : Int), Builtin.Slice.slicePlaces ((sIx n 0 lo : Nat) : Int) ((sIx n n hi : Nat) : Int) 1)) _ _ s
  rw [places_gen]
  exact wpAny_pure h
theorem pick_gen (xs : Array Value) (i k : Nat) : ((List.range k).filterMap fun (m : Nat) => xs[((i : Int) + (m : Int) * 1).toNat]?).toArray = ((xs.toList.drop i).take k).toArray := by
  have e : (fun (m : Nat) => xs[((i : Int) + (m : Int) * 1).toNat]?) = fun m => xs[i + m]? := by
    funext m
    have : ((i : Int) + (m : Int) * 1).toNat = i + m := by omega
    rw [this]
  rw [e]
  have := pick_run xs i k
  rw [List.filterMap_map] at this
  have e2 : ((fun x => xs[x]?) ∘ fun x => i + x) = fun m => xs[i + m]? := rfl
  rw [e2] at this
  rw [this]
theorem getItem_tuple_cut {t sl : Addr} {items : Array Value} {vl vu : Value} {lo hi : Option Int} {Q : Value → Shared → Prop} (ht : IsTup s.heap t items) (hs : s.heap.IsSliceOf sl vl vu .none) (pl : IsPart vl lo) (pu : IsPart vu hi)
    (hw : ¬ (sIx items.size 0 lo = 0 ∧ sIx items.size items.size hi = items.size))
    (h : Q (.ref s.heap.objs.size) { s with heap := s.heap.push { cls := .type "tuple", data := .seq ((items.toList.drop (sIx items.size 0 lo)).take (sIx items.size items.size hi - sIx items.size 0 lo)).toArray } })
    (hsz : items.size ≤ sizeLine) : wpAny (model prog w) A (getItem (.ref t) (.ref sl)) Q E s := by
  have htake : sizeOk (.seq ((items.toList.drop (sIx items.size 0 lo)).take (sIx items.size items.size hi - sIx items.size 0 lo)).toArray) := by
    show ((items.toList.drop (sIx items.size 0 lo)).take (sIx items.size items.size hi - sIx items.size 0 lo)).toArray.size ≤ sizeLine
    rw [List.size_toArray, List.length_take, List.length_drop, Array.length_toList]
    omega
  have hj : sIx items.size items.size hi ≤ items.size := sIx_le _ _ (Nat.le_refl _) hi
  obtain ⟨os, hos, hcs, hds⟩ := id hs
  have hTs : s.TypeIs (.ref sl) "slice" := ⟨os, hos, hcs⟩
  unfold getItem
  try with_reducible refine wpAny_holding ?_
  first | refine wpAny_bind (wpAny_pure ?_) | skip
  refine wpAny_bind (wpAny_sequenceKey ht.typeIs (by decide) ?_)
  refine wpAny_bind (wpAny_callSpecial?_slot (name := Str.ofString "__getitem__") ht.typeIs PyProof.Rows.slot_tuple_getitem
    (wpAny_call_entry PyProof.Rows.slot_tuple_getitem ht.typeIs entry_tuple_getitem ?_ (args_tuple_getitem _ _)))
  show wpAny _ _ (Builtin.Tuple.tupleItemsOf (.ref t) >>= _) _ _ s
  refine wpAny_bind (tupleItemsOf_ ht ?_)
  refine wpAny_bind (wpAny_typeOf hTs ?_)
  rw [if_pos (by decide)]
  refine wpAny_bind (sliceApplied_gen hs pl pu ?_)
  have hno : ¬ ((((sIx items.size 0 lo : Nat) : Int) == 0 && (1 : Int) == 1 && (sIx items.size items.size hi - sIx items.size 0 lo) == items.size) = true) := by
    intro q
    rw [Bool.and_eq_true, Bool.and_eq_true] at q
    have q1 : ((sIx items.size 0 lo : Nat) : Int) = 0 := eq_of_beq q.1.1
    have q2 : sIx items.size items.size hi - sIx items.size 0 lo = items.size := eq_of_beq q.2
    exact hw ⟨by omega, by omega⟩
  show wpAny _ _ (if (((sIx items.size 0 lo : Nat) : Int) == 0 && (1 : Int) == 1 && (sIx items.size items.size hi - sIx items.size 0 lo) == items.size) = true then _ else _) _ _ s
  rw [if_neg hno, pick_gen]
  first
    | exact wpAny_bind (m := Builtin.Tuple.tupleExact _) (wpAny_newObj_type (wpAny_pure ⟨_, rfl, wpAny_pure h⟩) htake)
    | exact wpAny_bind (m := Builtin.Tuple.tupleExact _) (wpAny_newObj_type (wpAny_bind (wpAny_pure (wpAny_pure ⟨_, rfl, wpAny_pure h⟩))) htake)
    | exact wpAny_bind (wpAny_bind (m := Builtin.Tuple.tupleExact _) (wpAny_newObj_type (wpAny_pure (wpAny_pure ⟨_, rfl, wpAny_pure h⟩)) htake))
    | exact wpAny_bind (wpAny_bind (m := Builtin.Tuple.tupleExact _) (wpAny_newObj_type (wpAny_pure ⟨_, rfl, wpAny_pure h⟩) htake))
end
end HT
namespace L2
open PySem PySem.Spec PyProof.Rows
abbrev TO := St → Hp → (Option Int → Hp → Prop) → Prop
def PO (X : Cx) (e : Option Expr) (t : TO) : Prop :=
  ∀ (pins : List (Addr × Obj)) (s : Shared) (σ : St) (H : Hp) (Q : Option Int → Hp → Prop), Inv X pins σ H s → t σ H Q →
    wpAny (model X.prog X.w) X.A (evalPart e X.env) (fun u s' => ∃ o H', Inv X pins σ H' s' ∧ IsPart u o ∧ Q o H') X.xe s
def tNoPart : TO := fun _ H Q => Q none H
def tPart (t : TE) : TO := fun σ H Q => t σ H fun x H1 => ∃ i, x = .int i ∧ Q (some i) H1
theorem intsAre_of {ns : List Int} : ∀ {us : List Value}, Vals (ns.map V.int) us → IntsAre us ns := by
  induction ns with
  | nil => intro us r; rw [List.map_nil] at r; cases r; exact .nil
  | cons n ns ih =>
    intro us r
    rw [List.map_cons] at r
    cases r with
    | cons r1 r2 =>
      obtain ⟨t, e⟩ := r1
      subst e
      exact .cons n t (ih r2)
section
variable {X : Cx} {e : Expr} {te : TE} {lo hi : Option Expr} {tl th : TO} {pos p2 : PySem.Pos}
theorem po_none : PO X none tNoPart := by
  intro pins s σ H Q I h
  rw [evalPart_none]
  exact wpAny_pure ⟨none, H, I, .none, h⟩
theorem po_some (h : PE X e te) : PO X (some e) (tPart te) := by
  intro pins s σ H Q I hw
  rw [evalPart_some]
  refine thn (h pins s σ H _ I hw) fun u s1 ⟨x, H1, I1, r1, q1⟩ => ?_
  obtain ⟨i, rfl, q⟩ := q1
  obtain ⟨t, rfl⟩ := r1
  exact ⟨some i, H1, I1, .int i t, q⟩
def SlR (X : Cx) (r : V → Option Int → Option Int → Hp → VK → Prop) : Prop :=
  ∀ (pins : List (Addr × Obj)) (s : Shared) (σ : St) (H : Hp) (x : V) (v vl vu : Value) (lo hi : Option Int) (sl : Addr) (Q : VK), Inv X pins σ H s → RelV x v → s.heap.IsSliceOf sl vl vu .none → IsPart vl lo → IsPart vu hi → r x lo hi H Q →
    ∃ T id, typeLookup (.type T) "__getitem__" = pure (some (.builtin id)) ∧ s.TypeIs v T ∧ wpAny (model X.prog X.w) X.A (getItem v (.ref sl)) (EP X pins σ Q) X.xe s
def tSl (r : V → Option Int → Option Int → Hp → VK → Prop) (te : TE) (tl th : TO) : TE := fun σ H Q => te σ H fun x H1 => tl σ H1 fun l H2 => th σ H2 fun u H3 => r x l u H3 Q
theorem pe_slice {r : V → Option Int → Option Int → Hp → VK → Prop} (hr : SlR X r) (he : PE X e te) (hl : PO X lo tl) (hu : PO X hi th) : PE X (.Subscript e (.Slice lo hi none p2) pos) (tSl r te tl th) := by
  intro pins s σ H Q I h
  refine Subscript_ (thn (he pins s σ H _ I h) fun v s1 ⟨x, H1, I1, r1, q1⟩ => ?_)
  refine wpAny_Slice (thn (hl pins s1 σ H1 _ I1 q1) fun vl s2 ⟨l, H2, I2, pl, q2⟩ => thn (hu pins s2 σ H2 _ I2 q2) fun vu s3 ⟨u, H3, I3, pu, q3⟩ => ?_)
  rw [evalPart_none]
  refine wpAny_pure ?_
  have I4 : Inv X pins σ H3 { s3 with heap := s3.heap.push { cls := .type "slice", data := .fields #[vl, vu, .none] } } := I3.kept (t' := s3.toks) fun b ob q => Heap.get?_push_of_some _ q
  obtain ⟨T, id, hT, ht, hg⟩ := hr pins { s3 with heap := s3.heap.push { cls := .type "slice", data := .fields #[vl, vu, .none] } } σ H3 x v vl vu l u s3.heap.objs.size Q I4 r1 (Heap.IsSliceOf.new ..) pl pu q3
  show wpAny (model X.prog X.w) X.A (subscriptTail e (.Slice lo hi none p2) v (.ref s3.heap.objs.size)) (EP X pins σ Q) X.xe { s3 with heap := s3.heap.push { cls := .type "slice", data := .fields #[vl, vu, .none] } }
  exact tail_any (ops := [.ref s3.heap.objs.size, v]) ht hT hg (by with_unfolding_all rfl)
def cutV (xs : List V) (lo hi : Option Int) : List V := (xs.drop (HT.sIx xs.length 0 lo)).take (HT.sIx xs.length xs.length hi - HT.sIx xs.length 0 lo)
theorem cutV_length (xs : List V) (lo hi : Option Int) : (cutV xs lo hi).length ≤ xs.length := by
  unfold cutV
  rw [List.length_take, List.length_drop]
  omega
def rSlT (K : PySem.W.Frag) : V → Option Int → Option Int → Hp → VK → Prop := fun x lo hi H Q => ∃ a xs, x = .ref a ∧ SqT K H a xs ∧
  ¬ (HT.sIx xs.length 0 lo = 0 ∧ HT.sIx xs.length xs.length hi = xs.length) ∧ ∀ p, H p = none → Q (.ref p) (upd H p (.tup (cutV xs lo hi)))
theorem sl_tup : SlR X (rSlT X.K) := by
  intro pins s σ H x v vl vu lo hi sl Q I rx hs pl pu h
  obtain ⟨a, xs, rfl, hx, hw, q⟩ := h
  cases rx
  obtain ⟨its, r, ht, hz⟩ := I.tuple hx
  have hlen : its.toArray.size = xs.length := by rw [List.size_toArray]; exact r.length.symm
  refine ⟨"tuple", _, PyProof.Rows.slot_tuple_getitem.lookup, ht.typeIs, ?_⟩
  refine HT.getItem_tuple_cut ht hs pl pu (by rw [hlen]; exact hw) ?_ (by rw [hlen]; exact hz)
  rw [hlen]
  refine ⟨.ref s.heap.objs.size, _, I.laid (t' := s.toks) (o := .tup (cutV xs lo hi)) (fun b ob q => Heap.get?_push_of_some _ q) (Nat.le_refl _) ?_, rfl, q _ (I.hok.fresh (Nat.le_refl _))⟩
  exact ⟨Nat.le_trans (cutV_length xs lo hi) hz, _, (r.drop (HT.sIx xs.length 0 lo)).take (HT.sIx xs.length xs.length hi - HT.sIx xs.length 0 lo), IsTup.new _ _⟩
def rCatT (K : PySem.W.Frag) : R2 := fun x y H Q => ∃ a b xs ys, x = .ref a ∧ y = .ref b ∧ SqT K H a xs ∧ SqT K H b ys ∧ xs ≠ [] ∧ xs.length + ys.length ≤ sizeLine ∧
  (ys = [] → Q (.ref a) H) ∧ (ys ≠ [] → ∀ p, H p = none → Q (.ref p) (upd H p (.tup (xs ++ ys))))
theorem Vals.nil_iff {xs : List V} {us : List Value} (r : Vals xs us) : us = [] ↔ xs = [] := by
  cases r with
  | nil => simp
  | cons _ _ => simp
theorem op_catT : OpR X (binaryOp .Add) (rCatT X.K) := by
  intro pins s σ H x y v u Q I rx ry h
  obtain ⟨a, b, xs, ys, rfl, rfl, ha, hb, hx, hz, q1, q2⟩ := h
  cases rx
  cases ry
  obtain ⟨its, r1, p1, _⟩ := I.tuple ha
  obtain ⟨its2, r2, p2, _⟩ := I.tuple hb
  refine HT.cat_tup p1 p2 (fun z => hx (r1.nil_iff.mp z)) (fun z => ⟨.ref a, H, I, rfl, q1 (r2.nil_iff.mp z)⟩) (fun z => ?_) (by rw [← r1.length, ← r2.length]; exact hz)
  refine ⟨.ref s.heap.objs.size, _, I.laid (t' := s.toks) (o := .tup (xs ++ ys)) (fun b ob q => Heap.get?_push_of_some _ q) (Nat.le_refl _) ?_, rfl, q2 (fun w => z (r2.nil_iff.mpr w)) _ (I.hok.fresh (Nat.le_refl _))⟩
  exact ⟨by rw [List.length_append]; exact hz, _, r1.append r2, IsTup.new _ _⟩
end
end L2
namespace L2
open PySem PySem.Spec PyProof.Rows
def ixN (n : Nat) (i : Int) : Option Nat := if 0 ≤ i then (if i < n then some i.toNat else none) else if -(n : Int) ≤ i then some (i + n).toNat else none
def atI {α : Type} (xs : List α) (i : Int) : Option α := (ixN xs.length i).bind fun j => xs[j]?
theorem ixN_seq {n : Nat} {i : Int} {j : Nat} (h : ixN n i = some j) : seqIndex? i n = some j ∧ j < n ∧ -(n : Int) ≤ i ∧ i < n := by
  unfold ixN at h
  by_cases h0 : 0 ≤ i
  · rw [if_pos h0] at h
    by_cases h1 : i < n
    · rw [if_pos h1] at h
      have e : i.toNat = j := Option.some.inj h
      exact ⟨by rw [seqIndex_of h0 h1, e], by omega, by omega, h1⟩
    · rw [if_neg h1] at h; cases h
  · rw [if_neg h0] at h
    by_cases h1 : -(n : Int) ≤ i
    · rw [if_pos h1] at h
      have e : (i + n).toNat = j := Option.some.inj h
      exact ⟨by rw [seqIndex_neg (by omega) h1, e], by omega, h1, by omega⟩
    · rw [if_neg h1] at h; cases h
theorem atI_get {α : Type} {xs : List α} {i : Int} {v : α} (h : atI xs i = some v) : ∃ j, seqIndex? i xs.length = some j ∧ xs[j]? = some v ∧ j < xs.length ∧ -(xs.length : Int) ≤ i ∧ i < xs.length := by
  unfold atI at h
  cases e : ixN xs.length i with
  | none => rw [e] at h; cases h
  | some j =>
    rw [e] at h
    obtain ⟨h1, h2, h3, h4⟩ := ixN_seq e
    exact ⟨j, h1, h, h2, h3, h4⟩
theorem atI_nat {α : Type} {xs : List α} {j : Nat} {v : α} (h : xs[j]? = some v) : atI xs (j : Int) = some v := by
  have hj : j < xs.length := (List.getElem?_eq_some_iff.mp h).1
  have e : ixN xs.length (j : Int) = some j := by
    unfold ixN
    rw [if_pos (by omega), if_pos (by omega)]; simp
  unfold atI; rw [e]; exact h
def PlainIx (b : Expr) : Prop := ∀ o i, subscripted b false o i = operate [o, i] (getItem o i)
def IxR (X : Cx) (r : R2) : Prop :=
  ∀ (value slice : Expr) (pins : List (Addr × Obj)) (s : Shared) (σ : St) (H : Hp) (x y : V) (v u : Value) (Q : VK), Inv X pins σ H s → RelV x v → RelV y u → r x y H Q →
    subscripted slice false v u = operate [v, u] (getItem v u) → wpAny (model X.prog X.w) X.A (subscriptTail value slice v u) (EP X pins σ Q) X.xe s
def MtR (X : Cx) (id : String) (r : V → List V → Hp → VK → Prop) : Prop :=
  ∀ (pins : List (Addr × Obj)) (s : Shared) (σ : St) (H : Hp) (x : V) (xs : List V) (v : Value) (us : List Value) (Q : VK), Inv X pins σ H s → RelV x v → Vals xs us → r x xs H Q →
    wpAny (model X.prog X.w) X.A (call (.builtin id) (v :: us)) (EP X pins σ Q) X.xe s
section
variable {X : Cx} {a b : Expr} {ta tb : TE} {pos : PySem.Pos}
theorem pe_ix {r : R2} (hr : IxR X r) (ha : PE X a ta) (hb : PE X b tb) (hs : PlainIx b) : PE X (.Subscript a b pos) (tOp r ta tb) := by
  intro pins s σ H Q I h
  exact Subscript_ (binT ha hb I h fun v u s2 x y H2 I2 rx ry q => hr a b pins s2 σ H2 x y v u Q I2 rx ry q (hs _ _))
def rIxL (K : PySem.W.Frag) : R2 := fun x y H Q => ∃ p xs i v, x = .ref p ∧ y = .int i ∧ SqL K H p xs ∧ atI xs i = some v ∧ Q v H
def rIxT (K : PySem.W.Frag) : R2 := fun x y H Q => ∃ p xs i v, x = .ref p ∧ y = .int i ∧ SqT K H p xs ∧ atI xs i = some v ∧ Q v H
theorem ix_list : IxR X (rIxL X.K) := by
  intro value slice pins s σ H x y v u Q I rx ry h hs
  obtain ⟨p, xs, i, z, rfl, rfl, hq, he, q⟩ := h
  cases rx
  obtain ⟨t, rfl⟩ := ry
  obtain ⟨its, r, pl, hz⟩ := I.list hq
  obtain ⟨j, h1, h2, h3, h4, h5⟩ := atI_get he
  obtain ⟨w, ew, rw'⟩ := r.get h2
  have hl := r.length
  have hn := line63
  have fin : EP X pins σ Q w s := ⟨z, H, I, rw', q⟩
  by_cases h0 : 0 ≤ i
  · have hj : i.toNat = j := by
      rw [seqIndex_of h0 h5] at h1
      exact Option.some.inj h1
    exact item_listR pl.isList h0 (by omega) (by rw [hj]; simpa using ew) fin hs
  · have hj : (i + (its.toArray.size : Int)).toNat = j := by
      rw [seqIndex_neg (by omega) h4] at h1
      rw [List.size_toArray, ← hl]
      exact Option.some.inj h1
    exact subscriptTail_builtinR (x := w) pl.isList.typeIs slot_list_getitem.lookup
      (wpAny_getItem_list_neg (Q := fun r s' => r = w ∧ EP X pins σ Q r s') pl.isList (by omega) (by rw [List.size_toArray] <;> omega) (by omega) (by rw [hj]; simpa using ew) ⟨rfl, fin⟩) hs
theorem ix_tup : IxR X (rIxT X.K) := by
  intro value slice pins s σ H x y v u Q I rx ry h hs
  obtain ⟨p, xs, i, z, rfl, rfl, hq, he, q⟩ := h
  cases rx
  obtain ⟨t, rfl⟩ := ry
  obtain ⟨its, r, pl, hz⟩ := I.tuple hq
  obtain ⟨j, h1, h2, h3, h4, h5⟩ := atI_get he
  obtain ⟨w, ew, rw'⟩ := r.get h2
  have hl := r.length
  have hn := line63
  have fin : EP X pins σ Q w s := ⟨z, H, I, rw', q⟩
  exact subscriptTail_builtinR (x := w) pl.typeIs slot_tuple_getitem.lookup
    (getItem_tuple (j := j) (Q := fun r s' => r = w ∧ EP X pins σ Q r s') pl (by omega) (by omega) (by rw [List.size_toArray, ← hl]; exact h1) (by simpa using ew) ⟨rfl, fin⟩) hs
theorem mapSeq_set (its : List Value) (n j : Nat) (u : Value) : Obj.mapSeq (·.setIfInBounds j u) { cls := .type "list", data := .seq its.toArray n } = { cls := .type "list", data := .seq (its.set j u).toArray n } := by
  simp [Obj.mapSeq]
theorem Inv.lst {pins : List (Addr × Obj)} {σ : St} {H : Hp} {s : Shared} {p : Addr} {xs : List V} (I : Inv X pins σ H s) (h : H p = some (.lst xs)) :
    ∃ (its : List Value) (n : Nat), Vals xs its ∧ s.heap.get? p = some { cls := .type "list", data := .seq its.toArray n } ∧ xs.length ≤ sizeLine := by
  obtain ⟨z, its, n, r, e⟩ := I.hok p _ h
  exact ⟨its, n, r, e, z⟩
theorem Inv.lstUpd {pins : List (Addr × Obj)} {σ : St} {H : Hp} {s : Shared} {p : Addr} {xs ys : List V} {its its' : List Value} {n n' : Nat} {f : Obj → Obj} (I : Inv X pins σ H s) (h : H p = some (.lst xs))
    (ho : s.heap.get? p = some { cls := .type "list", data := .seq its.toArray n }) (hf : f { cls := .type "list", data := .seq its.toArray n } = { cls := .type "list", data := .seq its'.toArray n' }) (r : Vals ys its') (hz : ys.length ≤ sizeLine) (t : Nat) :
    Inv X pins σ (upd H p (.lst ys)) { s with heap := s.heap.update p f, toks := t } := by
  have e : (s.heap.update p f).get? p = some { cls := .type "list", data := .seq its'.toArray n' } := by
    rw [Heap.get?_update_self f ho (by rw [hf] <;> rfl), hf]
  refine I.write (x := p) (e := p) (by rw [h]; trivial) (.inl rfl) (fun b u hb q => (Heap.get?_update_other _ _ (Ne.symm hb)).trans q) ⟨_, e⟩ ?_
  exact ⟨hz, its', n', r, e⟩
def rSetL : V → V → V → Hp → (Hp → Prop) → Prop := fun o i v H Q => ∃ p xs k j, o = .ref p ∧ i = .int k ∧ H p = some (.lst xs) ∧ ixN xs.length k = some j ∧ Q (upd H p (.lst (xs.set j v)))
theorem set_list : PSet X rSetL := by
  intro pins s σ H o i v ov iv u Q I ro ri rv h
  obtain ⟨p, xs, k, j, rfl, rfl, hp, hj, q⟩ := h
  cases ro
  obtain ⟨t, rfl⟩ := ri
  obtain ⟨its, n, r, ho, hz⟩ := I.lst hp
  obtain ⟨h1, h2, h3, h4⟩ := ixN_seq hj
  have hl := r.length
  have hn := line63
  have I' : Inv X pins σ (upd H p (.lst (xs.set j v))) { s with heap := s.heap.update p (Obj.mapSeq (·.setIfInBounds j u)) } :=
    I.lstUpd hp ho (mapSeq_set its n j u) (r.set rv j) (by rw [List.length_set]; exact hz) s.toks
  by_cases h0 : 0 ≤ k
  · have hk : k.toNat = j := by
      rw [seqIndex_of h0 h4] at h1
      exact Option.some.inj h1
    exact PySem.W.ki_setAt ho h0 (by omega) (by rw [List.size_toArray, ← hl]; exact h4) (by rw [hk]; exact ⟨_, I', q⟩)
  · have hk : (k + (its.toArray.size : Int)).toNat = j := by
      rw [seqIndex_neg (by omega) h3] at h1
      rw [List.size_toArray, ← hl]
      exact Option.some.inj h1
    exact PySem.W.ki_setBack ho (by omega) (by rw [List.size_toArray, ← hl]; exact h3) (by omega) (by rw [hk]; exact ⟨_, I', q⟩)
theorem slice_bounds (lo hi : Option Int) (n : Nat) : (sliceBounds lo hi none n).1 = ((HT.sIx n 0 lo : Nat) : Int) ∧ (sliceBounds lo hi none n).2.1 = ((HT.sIx n n hi : Nat) : Int) ∧ (sliceBounds lo hi none n).2.2 = 1 := by
  refine ⟨?_, ?_, rfl⟩
  · cases lo with
    | none => simp [sliceBounds, HT.sIx]
    | some i =>
      simp only [sliceBounds, HT.sIx, Option.getD_none, show (1 : Int) > 0 by decide, if_true]
      by_cases h : i < 0
      · simp only [h, if_true] <;> omega
      · simp only [h, if_false] <;> omega
  · cases hi with
    | none => simp [sliceBounds, HT.sIx]
    | some i =>
      simp only [sliceBounds, HT.sIx, Option.getD_none, show (1 : Int) > 0 by decide, if_true]
      by_cases h : i < 0
      · simp only [h, if_true] <;> omega
      · simp only [h, if_false] <;> omega
theorem slicePick_cut (its : List Value) (lo hi : Option Int) : slicePick its.toArray lo hi none = ((its.drop (HT.sIx its.length 0 lo)).take (HT.sIx its.length its.length hi - HT.sIx its.length 0 lo)).toArray := by
  obtain ⟨h1, h2, h3⟩ := slice_bounds lo hi its.toArray.size
  unfold slicePick
  rw [h1, h2, h3]
  simp only [sliceRange_one, pick_run, List.size_toArray] <;> rfl
def rSlL (K : PySem.W.Frag) : V → Option Int → Option Int → Hp → VK → Prop := fun x lo hi H Q => ∃ a xs, x = .ref a ∧ SqL K H a xs ∧ ∀ p, H p = none → Q (.ref p) (upd H p (.lst (cutV xs lo hi)))
theorem sl_list : SlR X (rSlL X.K) := by
  intro pins s σ H x v vl vu lo hi sl Q I rx hs pl pu h
  obtain ⟨a, xs, rfl, hx, q⟩ := h
  cases rx
  obtain ⟨its, r, ht, hz⟩ := I.list hx
  have hlen := r.length
  refine ⟨"list", _, slot_list_getitem.lookup, ht.isList.typeIs, ?_⟩
  refine wpAny_getItem_list_slice ht.isList hs pl pu .none (by simp) ?_ (by rw [List.size_toArray] <;> omega)
  rw [slicePick_cut, ← hlen]
  refine ⟨.ref s.heap.objs.size, _, I.laid (t' := s.toks) (o := .lst (cutV xs lo hi)) (fun b ob q => Heap.get?_push_of_some _ q) (Nat.le_refl _) ?_, rfl, q _ (I.hok.fresh (Nat.le_refl _))⟩
  exact ⟨Nat.le_trans (cutV_length xs lo hi) hz, _, 0, (r.drop (HT.sIx xs.length 0 lo)).take (HT.sIx xs.length xs.length hi - HT.sIx xs.length 0 lo), Heap.get?_push_size _ rfl⟩
def flatV : V → Bool
  | .non => true
  | .bl _ => true
  | .int _ => true
  | .str _ => true
  | _ => false
def eqV : V → V → Bool
  | .non, .non => true
  | .bl a, .bl b => a == b
  | .bl a, .int b => (if a then 1 else 0) == b
  | .int a, .bl b => a == (if b then 1 else 0)
  | .int a, .int b => a == b
  | .str a, .str b => a == b
  | _, _ => false
theorem eqAt_V {A : Around} {s : Shared} {y x : V} {u v : Value} (ry : RelV y u) (rx : RelV x v) (fy : flatV y = true) (fx : flatV x = true) : SeqAt.EqAt A s u v (eqV y x) := by
  cases y with
  | non =>
    cases ry
    cases x with
    | non => cases rx; exact SeqAt.EqAt.same _
    | bl b => cases rx; exact SeqAt.EqAt.none_bool b
    | int b => obtain ⟨t, rfl⟩ := rx; exact SeqAt.EqAt.none_int b t
    | str b => obtain ⟨t, rfl⟩ := rx; exact SeqAt.EqAt.none_str b t
    | _ => exact absurd (show false = true from fx) Bool.false_ne_true
  | bl a =>
    cases ry
    cases x with
    | non => cases rx; exact SeqAt.EqAt.bool_none a
    | bl b => cases rx; exact SeqAt.EqAt.bool_bool a b
    | int b => obtain ⟨t, rfl⟩ := rx; exact SeqAt.EqAt.bool_int a b t
    | str b => obtain ⟨t, rfl⟩ := rx; exact SeqAt.EqAt.bool_str a b t
    | _ => exact absurd (show false = true from fx) Bool.false_ne_true
  | int a =>
    obtain ⟨t', rfl⟩ := ry
    cases x with
    | non => cases rx; exact SeqAt.EqAt.int_none a t'
    | bl b => cases rx; exact SeqAt.EqAt.int_bool a t' b
    | int b => obtain ⟨t, rfl⟩ := rx; exact SeqAt.EqAt.int_int a t' b t
    | str b => obtain ⟨t, rfl⟩ := rx; exact SeqAt.EqAt.int_str a t' b t
    | _ => exact absurd (show false = true from fx) Bool.false_ne_true
  | str a =>
    obtain ⟨t', rfl⟩ := ry
    cases x with
    | non => cases rx; exact SeqAt.EqAt.str_none a t'
    | bl b => cases rx; exact SeqAt.EqAt.str_bool a t' b
    | int b => obtain ⟨t, rfl⟩ := rx; exact SeqAt.EqAt.str_int a t' b t
    | str b => obtain ⟨t, rfl⟩ := rx; exact SeqAt.EqAt.str_str a t' b t
    | _ => exact absurd (show false = true from fx) Bool.false_ne_true
  | _ => exact absurd (show false = true from fy) Bool.false_ne_true
def eqU (x : V) (u : Value) : Bool := match u with
  | .none => eqV .non x
  | .bool b => eqV (.bl b) x
  | .int i _ => eqV (.int i) x
  | .str z _ => eqV (.str z) x
  | _ => false
theorem eqU_of {x y : V} {u : Value} (r : RelV y u) (f : flatV y = true) : eqU x u = eqV y x := by
  cases y with
  | non => cases r; rfl
  | bl b => cases r; rfl
  | int i => obtain ⟨t, rfl⟩ := r; rfl
  | str z => obtain ⟨t, rfl⟩ := r; rfl
  | _ => exact absurd (show false = true from f) Bool.false_ne_true
theorem any_eqU {x : V} : ∀ {xs : List V} {us : List Value}, Vals xs us → xs.all flatV = true → us.any (eqU x) = xs.any fun y => eqV y x
  | _, _, .nil, _ => rfl
  | y :: xs, u :: us, .cons r t, f => by
    rw [List.all_cons, Bool.and_eq_true] at f
    rw [List.any_cons, List.any_cons, eqU_of r f.1, any_eqU t f.2]
theorem mem_eqAt {A : Around} {s : Shared} {x : V} {v : Value} (rx : RelV x v) (fx : flatV x = true) : ∀ {xs : List V} {us : List Value}, Vals xs us → xs.all flatV = true → ∀ u ∈ us, SeqAt.EqAt A s u v (eqU x u)
  | _, _, .nil, _ => fun u hu => by cases hu
  | y :: xs, u :: us, .cons r t, f => fun u' hu => by
    rw [List.all_cons, Bool.and_eq_true] at f
    rcases List.mem_cons.mp hu with rfl | hu
    · rw [eqU_of r f.1]; exact eqAt_V r rx f.1 fx
    · exact mem_eqAt rx fx t f.2 u' hu
def inV (x : V) (xs : List V) : Bool := xs.any fun y => eqV y x
def rIn (K : PySem.W.Frag) (neg : Bool) : R2 := fun x y H Q => ∃ p xs, y = .ref p ∧ (SqL K H p xs ∨ SqT K H p xs) ∧ flatV x = true ∧ xs.all flatV = true ∧ Q (.bl (if neg then !inV x xs else inV x xs)) H
theorem op_in_seq : OpR X (compareOp .In) (rIn X.K false) := by
  intro pins s σ H x y v u Q I rx ry h
  obtain ⟨p, xs, rfl, hq, fx, fs, q⟩ := h
  cases ry
  rcases hq with hq | hq
  · obtain ⟨its, r, pl, hz⟩ := I.list hq
    refine SeqAt.in_listAt (eqU x) pl.isList (fun w hw => mem_eqAt rx fx r fs w (by simpa using hw)) ⟨.bl _, H, I, rfl, ?_⟩
    rw [show its.toArray.any (eqU x) = its.any (eqU x) by simp, any_eqU r fs]
    exact q
  · obtain ⟨its, r, pl, hz⟩ := I.tuple hq
    refine SeqAt.in_tupleAt (eqU x) pl (fun w hw => mem_eqAt rx fx r fs w (by simpa using hw)) ⟨.bl _, H, I, rfl, ?_⟩
    rw [show its.toArray.any (eqU x) = its.any (eqU x) by simp, any_eqU r fs]
    exact q
theorem call_len_seq : CallR X (.builtin "len") (fun xs H Q => ∃ p ys, xs = [.ref p] ∧ (SqL X.K H p ys ∨ SqT X.K H p ys) ∧ Q (.int ys.length) H) := by
  intro pins s σ H xs us Q I r h
  obtain ⟨p, ys, rfl, hq, q⟩ := h
  obtain ⟨u, rfl, rx⟩ := vals1 r
  cases rx
  have hn := line63
  rcases hq with hq | hq
  · obtain ⟨its, r', pl, hz⟩ := I.list hq
    have hlen := r'.length
    exact Calls.call_len_list pl.isList (by simp only [List.size_toArray] <;> omega) ⟨.int ys.length, H, I.tok _, ⟨s.toks + 1, by rw [List.size_toArray, hlen]⟩, q⟩
  · obtain ⟨its, r', pl, hz⟩ := I.tuple hq
    have hlen := r'.length
    exact len_tuple pl (by simp only [List.size_toArray] <;> omega) ⟨.int ys.length, H, I.tok _, ⟨s.toks + 1, by rw [List.size_toArray, hlen]⟩, q⟩
theorem call_list_of : CallR X (.type "list") (fun xs H Q => ∃ p ys, xs = [.ref p] ∧ (SqL X.K H p ys ∨ SqT X.K H p ys) ∧ ∀ l, H l = none → Q (.ref l) (upd H l (.lst ys))) := by
  intro pins s σ H xs us Q I r h
  obtain ⟨p, ys, rfl, hq, q⟩ := h
  obtain ⟨u, rfl, rx⟩ := vals1 r
  cases rx
  have fin : ∀ (its : List Value), Vals ys its → ys.length ≤ sizeLine → ∀ (h' : Heap) (c' : Nat), (∀ b o', s.heap.get? b = some o' → h'.get? b = some o') →
      h'.get? s.heap.objs.size = some { cls := .type "list", dict := none, data := .seq its.toArray c', slots := #[] } → EP X pins σ Q (.ref s.heap.objs.size) { s with heap := h' } := fun its r' hz h' c' kp e =>
    ⟨.ref s.heap.objs.size, _, I.laid (t' := s.toks) kp (Nat.le_refl _) (show ObjOk X.prog X.w _ h' _ (.lst ys) from ⟨hz, its, c', r', e⟩), rfl, q _ (I.hok.fresh (Nat.le_refl _))⟩
  rcases hq with hq | hq
  · obtain ⟨its, r', pl, hz⟩ := I.list hq
    have hlen := r'.length
    obtain ⟨o, ho, hc, n, hd⟩ := pl.isList
    exact call_list_seq p (.inl rfl) ho hc hd (fun h' c' kp e => fin its r' hz h' c' kp e) (by simp only [List.size_toArray] <;> omega)
  · obtain ⟨its, r', pl, hz⟩ := I.tuple hq
    have hlen := r'.length
    obtain ⟨o, ho, hc, n, hd⟩ := pl
    exact call_list_seq p (.inr rfl) ho hc hd (fun h' c' kp e => fin its r' hz h' c' kp e) (by simp only [List.size_toArray] <;> omega)
theorem call_tuple_of : CallR X (.type "tuple") (fun xs H Q => ∃ p ys, xs = [.ref p] ∧ ((SqL X.K H p ys ∧ ∀ l, H l = none → Q (.ref l) (upd H l (.tup ys))) ∨ (SqT X.K H p ys ∧ Q (.ref p) H))) := by
  intro pins s σ H xs us Q I r h
  obtain ⟨p, ys, rfl, h⟩ := h
  obtain ⟨u, rfl, rx⟩ := vals1 r
  cases rx
  rcases h with ⟨hq, q⟩ | ⟨hq, q⟩
  · obtain ⟨its, r', pl, hz⟩ := I.list hq
    have hlen := r'.length
    refine call_tuple_list pl.isList (fun h' kp => ?_) (by simp only [List.size_toArray] <;> omega)
    have I1 : Inv X pins σ H { s with heap := h' } := I.kept (t' := s.toks) kp
    have I2 : Inv X pins σ (upd H h'.objs.size (.tup ys)) { s with heap := h'.push { cls := .type "tuple", data := .seq its.toArray } } :=
      I1.laid (t' := s.toks) (fun b o e => Heap.get?_push_of_some _ e) (Nat.le_refl _) (show ObjOk X.prog X.w _ _ _ (.tup ys) from ⟨hz, its, r', IsTup.new _ _⟩)
    exact ⟨.ref h'.objs.size, _, I2, rfl, q _ (I1.hok.fresh (Nat.le_refl _))⟩
  · obtain ⟨its, r', pl, hz⟩ := I.tuple hq
    exact call_tuple_same pl ⟨.ref p, H, I, rfl, q⟩
def tyV (K : PySem.W.Frag) (T : String) (x : V) (H : Hp) : Prop := match x with
  | .str _ => T = "str"
  | .int _ => T = "int"
  | .ref p => (T = "list" ∧ ∃ xs, SqL K H p xs) ∨ (T = "tuple" ∧ ∃ o, K.lookup p = some o ∧ o.cls = .type "tuple" ∧ o.dict = none) ∨
      (T = "dict" ∧ ((∃ kvs, H p = some (.dK kvs)) ∨ ∃ kvs, H p = some (.dT kvs))) ∨ (T = "set" ∧ ∃ S n, H p = some (.set S n))
  | _ => False
theorem tyV_is {pins : List (Addr × Obj)} {σ : St} {H : Hp} {s : Shared} {T : String} {x : V} {v : Value} (I : Inv X pins σ H s) (r : RelV x v) (ty : tyV X.K T x H) :
    s.TypeIs v T ∧ ∀ a, v = .ref a → ∃ ob, s.heap.get? a = some ob ∧ ob.dict = none := by
  cases x with
  | str z =>
    obtain ⟨t, rfl⟩ := r
    cases (show T = "str" from ty)
    exact ⟨typeIs_str s z t, fun _ e => nomatch e⟩
  | int i =>
    obtain ⟨t, rfl⟩ := r
    cases (show T = "int" from ty)
    exact ⟨typeIs_int s i t, fun _ e => nomatch e⟩
  | ref p =>
    cases r
    rcases ty with ⟨rfl, xs, hq⟩ | ⟨rfl, o, hk, hc, hd⟩ | ⟨rfl, hk⟩ | ⟨rfl, S, n, hk⟩
    · obtain ⟨its, _, pl, _⟩ := I.list hq
      refine ⟨pl.isList.typeIs, fun a e => ?_⟩
      cases e
      obtain ⟨o, n, e, c, hd, _⟩ := pl
      exact ⟨o, e, hd⟩
    · refine ⟨⟨o, I.kIn p o hk, hc⟩, fun a e => ?_⟩
      cases e
      exact ⟨o, I.kIn _ o hk, hd⟩
    · have z : ∃ o, s.heap.get? p = some o ∧ o.ExactDict := by
        rcases hk with ⟨kvs, hk⟩ | ⟨kvs, hk⟩
        · obtain ⟨_, _, _, _, o, _, _, e, ex, _⟩ := I.hok p _ hk
          exact ⟨o, e, ex⟩
        · obtain ⟨_, _, _, _, o, _, _, e, ex, _⟩ := I.hok p _ hk
          exact ⟨o, e, ex⟩
      obtain ⟨o, e, ex⟩ := z
      refine ⟨⟨o, e, ex.1⟩, fun a e2 => ?_⟩
      cases e2
      exact ⟨o, e, ex.2.1⟩
    · obtain ⟨o, _, _, _, e, ex, _⟩ := I.hok p _ hk
      refine ⟨⟨o, e, ex.1⟩, fun a e2 => ?_⟩
      cases e2
      exact ⟨o, e, ex.2.1⟩
  | _ => exact False.elim ty
def tBM (K : PySem.W.Frag) (T : String) (r : V → List V → Hp → VK → Prop) (to : TE) (t : TA) : TE := fun σ H Q => to σ H fun x H1 => tyV K T x H1 ∧ t σ H1 fun xs H2 => r x xs H2 Q
variable {o e : Expr} {es : List Expr} {to : TE} {t : TA} {name : Str} {apos cpos : PySem.Pos} {T id : String} {r : V → List V → Hp → VK → Prop}
theorem pe_bm (pa : PlainAttrs T) (slot : Slot T name id) (hty : typeOf (.builtin id) = pure (.type "method_descriptor")) (hm : MtR X id r) (ho : PE X o to) (ha : PA X (e :: es) t)
    (hbase : attributeBase o name X.env (eval o X.env) = eval o X.env := by rfl)
    (hfew : ((backTo cpos (starEach (e :: es) X.env)).all (fun x => !x.1) && (backToKw cpos (keywordEach [] X.env)).all (fun x => x.1.isSome)
      && decide ((e :: es).length + ([] : List Keyword).length + (if ([] : List Keyword).isEmpty then 0 else 1) < 30)) = true := by rfl)
    (hline : (apos.endLine == cpos.line) = true := by rfl) (hs : starEach (e :: es) X.env = (false, eval e X.env) :: starEach es X.env := by rfl) (hplain : (backTo cpos (starEach es X.env)).any (·.1) = false := by rfl) :
    PE X (.Call (.Attribute o name apos) (e :: es) [] cpos) (tBM X.K T r to t) := by
  intro pins s σ H Q I h
  refine wpAny_Call_method_late hbase hfew hline rfl (thn (ho pins s σ H _ I h) fun v s1 ⟨x, H1, I1, r1, ty, q1⟩ => ?_)
  obtain ⟨h1, h2⟩ := tyV_is I1 r1 ty
  refine ⟨T, id, pa, slot, hty, h1, h2, ?_⟩
  have hA := ha cpos pins s1 σ H1 _ I1 q1
  rw [hs] at hA ⊢
  refine Calls.callWith_builtin (by show (false || (backTo cpos (starEach es X.env)).any (·.1)) = false; rw [hplain] <;> rfl) (Calls.evalArgs_plain ?_)
  exact thn hA fun us s2 ⟨vs, H2, I2, r2, q2⟩ => hm pins s2 σ H2 x vs v us Q I2 r1 r2 q2
end
end L2
namespace L2
open PySem PySem.Spec PyProof.Rows
def MtM (X : Cx) (id : String) (r : V → List V → Hp → VK → Prop) : Prop :=
  ∀ (pins : List (Addr × Obj)) (s : Shared) (σ : St) (H : Hp) (x : V) (xs : List V) (v : Value) (us : List Value) (Q : VK), Inv X pins σ H s → RelV x v → Vals xs us → r x xs H Q →
    wpAny (model X.prog X.w) X.A (call (.builtin id) (v :: us)) (EP X pins σ Q) X.xe s
theorem Vals.one : ∀ {x : V} {us : List Value}, Vals [x] us → ∃ u, us = [u] ∧ RelV x u
  | _, _, .cons r .nil => ⟨_, rfl, r⟩
theorem Vals.eraseIdx : ∀ {xs : List V} {us : List Value} (i : Nat), Vals xs us → Vals (xs.eraseIdx i) (us.eraseIdx i)
  | _, _, _, .nil => .nil
  | _, _, 0, .cons _ t => t
  | _, _, i + 1, .cons r t => .cons r (Vals.eraseIdx i t)
theorem Vals.rep {xs : List V} {us : List Value} (h : Vals xs us) : ∀ k : Nat, Vals (List.replicate k xs).flatten (List.replicate k us).flatten
  | 0 => .nil
  | k + 1 => by
    rw [List.replicate_succ, List.replicate_succ, List.flatten_cons, List.flatten_cons]
    exact Vals.append h (Vals.rep h k)
theorem len_erase {α : Type} : ∀ (l : List α) (i : Nat), (l.eraseIdx i).length ≤ l.length
  | [], _ => Nat.le_refl _
  | _ :: _, 0 => Nat.le_succ _
  | _ :: r, i + 1 => Nat.succ_le_succ (len_erase r i)
theorem foldl_rep (its : List Value) : ∀ (k : Nat) (acc : List Value),
    List.foldl (fun x1 x2 => x1 ++ x2) acc.toArray (List.replicate k its.toArray) = (acc ++ (List.replicate k its).flatten).toArray
  | 0, acc => by simp
  | k + 1, acc => by
    have e : acc.toArray ++ its.toArray = (acc ++ its).toArray := by simp
    have e2 : (acc ++ its) ++ (List.replicate k its).flatten = acc ++ (List.replicate (k + 1) its).flatten := by
      rw [List.replicate_succ, List.flatten_cons, List.append_assoc]
    rw [← e2, ← foldl_rep its k (acc ++ its), ← e, List.replicate_succ, List.foldl_cons]
section
variable {X : Cx} {pins : List (Addr × Obj)} {σ : St} {H : Hp} {s : Shared} {l b : Addr} {xs ys zs : List V}
theorem Inv.lset {its its' : List Value} {n : Nat} {f : Array Value → Array Value} {t' : Nat} (I : Inv X pins σ H s) (hH : H l = some (.lst xs))
    (e : s.heap.get? l = some { cls := .type "list", data := .seq its.toArray n }) (hf : f its.toArray = its'.toArray) (hv : Vals ys its') (hz : ys.length ≤ sizeLine) :
    Inv X pins σ (upd H l (.lst ys)) { s with heap := s.heap.update l (Obj.mapSeq f), toks := t' } := by
  have q := PySem.IsL.update e f
  rw [hf] at q
  refine I.write (x := l) (e := l) (by rw [hH]; exact trivial) (.inl rfl) (fun b' u hb hu => (Heap.get?_update_other s.heap (Obj.mapSeq f) (Ne.symm hb)).trans hu) ⟨_, q⟩ ?_
  exact ⟨hz, its', _, hv, q⟩
theorem Inv.lnew {its : List Value} {t' : Nat} (I : Inv X pins σ H s) (hv : Vals ys its) (hz : ys.length ≤ sizeLine) :
    Inv X pins σ (upd H s.heap.objs.size (.lst ys)) { s with heap := s.heap.push { cls := .type "list", data := .seq its.toArray }, toks := t' } :=
  I.laid (fun _ _ q => Heap.get?_push_of_some _ q) (Nat.le_refl _) ⟨hz, its, 0, hv, Heap.get?_push_size _ rfl⟩
theorem Inv.fresh (I : Inv X pins σ H s) : H s.heap.objs.size = none := I.hok.fresh (Nat.le_refl _)
theorem Inv.lstM (I : Inv X pins σ H s) (hH : H l = some (.lst xs)) : xs.length ≤ sizeLine ∧ ∃ (its : List Value) (n : Nat), Vals xs its ∧ xs.length = its.length ∧ s.heap.get? l = some { cls := .type "list", data := .seq its.toArray n } := by
  obtain ⟨z, its, n, r, e⟩ := I.hok l _ hH
  exact ⟨z, its, n, r, r.length, e⟩
theorem notLongL {n : Nat} (h : n ≤ sizeLine) : Builtin.List.listTooLong n = false := by
  unfold Builtin.List.listTooLong
  exact decide_eq_false (by omega)
end
section
variable {X : Cx}
def rAppend : V → List V → Hp → VK → Prop := fun x vs H Q => ∃ l xs y, x = .ref l ∧ vs = [y] ∧ H l = some (.lst xs) ∧ xs.length < sizeLine ∧ Q .non (upd H l (.lst (xs ++ [y])))
theorem mt_append : MtM X "list.append" rAppend := by
  intro pins s σ H x vs v us Q I rx rv h
  obtain ⟨l, xs, y, rfl, rfl, hH, hz, q⟩ := h
  cases rx
  obtain ⟨u, rfl, ru⟩ := rv.one
  obtain ⟨z, its, n, r, hl, e⟩ := I.lstM hH
  refine call_meets F.slot_list_append ⟨_, e, rfl⟩ F.entry_list_append (F.args_list_append_2 _ _) (PySem.list_append l its.toArray n u (by rw [List.size_toArray]; omega)) ⟨e, ?_⟩
  refine ⟨.non, _, I.lset (its' := its ++ [u]) hH e (by simp) (r.append (.cons ru .nil)) ?_, rfl, q⟩
  rw [List.length_append, List.length_singleton]
  omega
def rPopAt : V → List V → Hp → VK → Prop := fun x vs H Q => ∃ l xs i k y, x = .ref l ∧ vs = [.int i] ∧ H l = some (.lst xs) ∧ -(2 ^ 63) ≤ i ∧ i < 2 ^ 63 ∧ seqIndex? i xs.length = some k ∧ xs[k]? = some y ∧ Q y (upd H l (.lst (xs.eraseIdx k)))
theorem mt_popAt : MtM X "list.pop" rPopAt := by
  intro pins s σ H x vs v us Q I rx rv h
  obtain ⟨l, xs, i, k, y, rfl, rfl, hH, h1, h2, hk, hy, q⟩ := h
  cases rx
  obtain ⟨u, rfl, ru⟩ := rv.one
  obtain ⟨t, rfl⟩ := ru
  obtain ⟨z, its, n, r, hl, e⟩ := I.lstM hH
  obtain ⟨w, hw, rw'⟩ := r.get hy
  refine call_meets F.slot_list_pop ⟨_, e, rfl⟩ F.entry_list_pop (F.args_list_pop_2 _ _)
    (MeetsSeq.list_pop_at l its.toArray n i t k w (fitsIndex_both h1 h2) (by rw [List.size_toArray, ← hl]; exact hk) (by rw [← Array.getElem?_toList]; exact hw) (by rw [List.size_toArray]; omega)) ⟨e, ?_⟩
  refine ⟨y, _, I.lset (its' := its.eraseIdx k) hH e ?_ (r.eraseIdx k) ?_, rw', q⟩
  · show its.toArray.eraseIdxIfInBounds k = (its.eraseIdx k).toArray
    rw [List.eraseIdxIfInBounds_toArray]
  · have := len_erase xs k
    omega
def rCat : R2 := fun x y H Q => ∃ l b xs zs, x = .ref l ∧ y = .ref b ∧ H l = some (.lst xs) ∧ H b = some (.lst zs) ∧ xs.length + zs.length ≤ sizeLine ∧ ∀ p, H p = none → Q (.ref p) (upd H p (.lst (xs ++ zs)))
theorem op_cat : OpR X (binaryOp .Add) rCat := by
  intro pins s σ H x y v u Q I rx ry h
  obtain ⟨l, b, xs, zs, rfl, rfl, hH, hB, hz, q⟩ := h
  cases rx
  cases ry
  obtain ⟨z, its, n, r, hl, e⟩ := I.lstM hH
  obtain ⟨z2, its2, n2, r2, hl2, e2⟩ := I.lstM hB
  refine PySem.P.add_list e e2 ?_ (by rw [List.size_toArray, List.size_toArray]; omega)
  have ea : its.toArray ++ its2.toArray = (its ++ its2).toArray := by simp
  rw [ea]
  exact ⟨.ref _, _, I.lnew (t' := s.toks) (r.append r2) (by rw [List.length_append]; omega), rfl, q _ I.fresh⟩
theorem len_rep {α : Type} (xs : List α) (k : Nat) : (List.replicate k xs).flatten.length = k * xs.length := by
  induction k with
  | zero => simp
  | succ k ih => rw [List.replicate_succ, List.flatten_cons, List.length_append, ih, Nat.succ_mul, Nat.add_comm]
end
end L2
namespace Att
open PySem PySem.W PySem.Calls PyProof.Rows
theorem ints_of_wellAll {P : Params} {h : Heap} : ∀ (ns : List Int) (vs : List Value), WellAll P h vs (ns.map WData.int) → IntsAre vs ns := by
  intro ns
  induction ns with
  | nil =>
    intro vs w
    rw [List.map_nil] at w
    cases w
    exact .nil
  | cons n ns ih =>
    intro vs w
    rw [List.map_cons] at w
    cases w with
    | cons a b =>
      cases a
      exact .cons _ _ (ih _ b)
theorem script_of {l : OpenLaw} {n : Nat} (hn : l.most = some n) {P : Params} {h : Heap} {args : List WData} {vals : List Value}
    (hpre : l.row.toRowW.claim.pre args = true) (hwl : WellAll P h vals args) :
    ∃ a vs ns, vals = [Value.ref a] ∧ args = [WData.list (ns.map WData.int)] ∧ h.get? a = some { cls := .type "list", data := .seq vs.toArray } ∧ IntsAre vs ns ∧ ns.length ≤ n := by
  have hsh : WShape.hasAll [] args [.list .int] = true := (pre_splitW hpre).1
  have hc : l.pre.holds [] { args := args } = true := (pre_splitW hpre).2
  obtain ⟨d, r, rfl, h1, h2⟩ := hasAllW_cons hsh
  obtain rfl := hasAllW_nil h2
  obtain ⟨xs, rfl, h3⟩ := hasW_list h1
  obtain ⟨ns, rfl⟩ := items_int h3
  have hlen : ns.length ≤ n := by
    unfold OpenLaw.pre at hc
    have h4 : (WTm.not (.lt (.lit (.int (n : Int))) (.len (.arg 0)))).holds [] { args := [.list (ns.map .int)] } = true := by
      have h4 := (holds_andW hc).1
      rw [hn] at h4
      exact h4
    have h5 := condW_of h4 (w_not (w_lt w_lit (w_len_list (w_arg rfl))))
    rw [List.length_map] at h5
    refine Nat.le_of_not_lt fun q => ?_
    have q' : (n : Int) < ((ns.length : Nat) : Int) := by omega
    first
      | (rw [decide_eq_true q'] at h5; exact absurd h5 (by decide))
      | (simp at h5; omega)
  cases hwl with
  | cons w1 w2 =>
    cases w2
    cases w1 with
    | list ho hall => exact ⟨_, _, ns, rfl, rfl, ho, ints_of_wellAll ns _ hall, hlen⟩
theorem post_true (l : OpenLaw) (args : List WData) : l.row.toRowW.claim.post args (.bool true) args = true :=
  postW_of (r := l.row.toRowW) (X := (true == true))
    (show WShape.has [] (.bool true) .bool = true by first | rfl | decide | simp [WShape.has, WShape.arms, WShape.armsAll])
    (show (WTm.eq .res (.lit (.bool true))).value [] { args := args, res := some (.bool true), after := args } = some (.bool (true == true)) from w_eq_bool (w_res rfl) w_lit) rfl
theorem attach_call {l : OpenLaw} {n : Nat} {q : Program} {loose : List Str} {XP : (Str → Option Value) → Heap → Prop} {YP : World → Heap → Prop} {d : DefRec}
    (hn : l.most = some n) (hdf : d.params.defaults = [])
    (call : ∀ (w : World) (s₀ s₁ : Shared) (mg mb : Str → Option Value) (fa : Addr) (o : Obj) (pm cd doc : Value) (a : Addr) (vs : List Value) (ns : List Int),
      Ground q loose [] XP w s₀ mg mb s₁.heap → YP w s₁.heap →
      s₁.heap.get? fa = some o → o.data = .func (docDef d.name d.params d.body d.scope pm cd doc) → s₁.heap.CodeRec cd d.name → mg d.name = some (.ref fa) →
      s₁.heap.get? a = some { cls := .type "list", data := .seq vs.toArray } → IntsAre vs ns → ns.length ≤ n → s₁.gens = #[] →
      codeAny (model l.prog w) callerA (.call (.ref fa) ⟨[.ref a], []⟩) (fun r s' => r = .ok (.ret (.bool true)) ∧ OldK s₁.heap s'.heap ∧ s'.os = s₁.os ∧ AllBare s'.gens) s₁) :
    WalkO q loose XP YP l.row.toRowW d [] (fun f vs => PySem.call f vs) := by
  intro w s₀ s₁ mg mb G Y fa o pm cd doc dV kV ho hd hcd hD hmg hg args vals as hpre hlay hrd hwl hlo
  obtain rfl : dV = .none := Dflts.none hD hdf
  obtain rfl : kV = .none := Dflts.noKw hD
  obtain ⟨a, vs, ns, rfl, rfl, hobj, hints, hlen⟩ := script_of hn hpre hwl
  refine enter_call (codeAny_mono (call w s₀ s₁ mg mb fa o pm cd doc a vs ns G Y ho (fd_plain hd) hcd hmg hobj hints hlen hg) fun r s' hq => ?_)
  obtain ⟨rfl, h2, h3, h4⟩ := hq
  exact ⟨.inl ⟨.bool true, .bool true, [], rfl, fun _ => rfl, .bool true, post_true l _, fun _ => ⟨List.Pairwise.nil, fun _ hm => (nomatch hm)⟩⟩, h2, h3, h4⟩
end Att
namespace L2
open PySem PySem.Spec PyProof.Rows
theorem vals_ints : ∀ {vs : List Value} {ns : List Int}, IntsAre vs ns → Vals (ns.map V.int) vs
  | _, _, .nil => .nil
  | _, _, .cons n t h => .cons ⟨t, rfl⟩ (vals_ints h)
def Only (H : Hp) : Prop := ∀ b, H b = none ∨ ∃ o xs, H b = some (.frz o (.lst xs))
theorem law_call {P : Program} {w : World} {K : PySem.W.Frag} {mg mb : Str → Option Value} {CX : CXT} {k : Nat} {fa a : Addr} {fd : FuncData} {x : Str} {sp : Sp} {s₁ : Shared} {vs : List Value} {ns : List Int}
    (KX : K.In s₁.heap) (hns : s₁.heap.Ns mainGlobals mg) (hb : s₁.heap.Ns builtinsNs mb) (hbb : ∀ x : Str, x ≠ "__name__" → mb x = bootBuiltins x) (hlim : s₁.heap.NoLimit) (hg : s₁.gens = #[])
    (ha : s₁.heap.get? a = some { cls := .type "list", data := .seq vs.toArray }) (hi : IntsAre vs ns) (hl : ns.length ≤ sizeLine) (hr : Room k callerA)
    (F : ∀ base : Heap, K.In base → base.Ns mainGlobals mg → FnOk P w K mg base CX k fa fd [x] sp) (hbind : ∀ (s : Shared) (u : Value), BindsTo s fd ⟨[u], []⟩ [(x, u)])
    (hsp : ∀ H : Hp, Only H → SqL K H a (ns.map V.int) → sp [.ref a] H (fun v _ => v = .bl true) fun _ _ _ => False)
    (hCX : ∀ H e s', CX [] H s₁ (fun _ _ _ => False) e s' → False) :
    codeAny (model P w) callerA (.call (.ref fa) ⟨[.ref a], []⟩) (fun r s' => r = .ok (.ret (.bool true)) ∧ OldK s₁.heap s'.heap ∧ s'.os = s₁.os ∧ AllBare s'.gens) s₁ := by
  have rv := vals_ints hi
  have lenV := hi.length
  have core : ∀ H : Hp, Only H → SqL K H a (ns.map V.int) → HOk P w H s₁.heap → (∀ b, H b ≠ none → b = a) → (H a ≠ none → K.lookup a = none) →
      codeAny (model P w) callerA (.call (.ref fa) ⟨[.ref a], []⟩) (fun r s' => r = .ok (.ret (.bool true)) ∧ OldK s₁.heap s'.heap ∧ s'.os = s₁.os ∧ AllBare s'.gens) s₁ := by
    intro H hO hS hok hA hK
    have base_of : ∀ {b : Addr} {o : Obj}, s₁.heap.get? b = some o → H b = none → (hidT s₁.heap H).get? b = some o := fun e n => hidT_get e n
    have noA : ∀ {b : Addr} {o : Obj} {es : Array DictEntry} {ep : Nat}, s₁.heap.get? b = some o → o.data = .dict es ep → H b = none := fun {b o es ep} e d => by
      cases q : H b with
      | none => rfl
      | some u =>
        have e' : b = a := hA b (by rw [q]; simp)
        subst e'
        rw [ha] at e; cases e
        have d' : Data.seq vs.toArray _ = Data.dict es ep := d
        cases d'
    have nsK : ∀ {b : Addr} {m : Str → Option Value}, s₁.heap.Ns b m → (hidT s₁.heap H).Ns b m := fun {b m} ⟨o, es, ep, e, d, r⟩ => ⟨o, es, ep, base_of e (noA e d), d, r⟩
    have hKb : K.In (hidT s₁.heap H) := fun b o e => base_of (KX b o e) (by
      cases q : H b with
      | none => rfl
      | some u =>
        have e' : b = a := hA b (by rw [q]; simp)
        subst e'
        rw [hK (by rw [q]; simp)] at e; cases e)
    have hM : Mod K mg (hidT s₁.heap H) := ⟨hKb, nsK hns, ⟨mb, nsK hb, hbb⟩, let ⟨mc, h1, h2⟩ := hlim; ⟨mc, nsK h1, h2⟩⟩
    have e0 : Env0 P w K mg (hidT s₁.heap H) callerA [] s₁ H := ⟨rfl, hM, fun b o e => of_hidT e, Nat.le_of_eq (hidT_size _ _), trivial, fun b hb => absurd (show b ∈ ([] : List Addr) from hb) (by simp), hok, .of_eq hg⟩
    refine codeAny_mono ((F _ hKb (nsK hns)).run callerA [] s₁ H ⟨[.ref a], []⟩ [.ref a] [.ref a] _ _ hr e0 (hbind s₁ (.ref a)) (.cons rfl .nil) (hsp H hO hS)) fun r s' h => ?_
    cases r with
    | error e => exact (hCX H e s' h).elim
    | ok fl =>
      cases fl with
      | next => exact False.elim h
      | brk => exact False.elim h
      | cont => exact False.elim h
      | ret u =>
        obtain ⟨v, H', os, bare, un, hok', r', q⟩ := h
        have q' : v = .bl true := q
        subst q'
        obtain rfl : u = Value.bool true := r'
        refine ⟨rfl, OldK.of_keep fun b o e => ?_, os, bare⟩
        cases q : H b with
        | none => exact un.keep b o e q (by intro z; exact absurd (show b ∈ ([] : List Addr) from z) (by simp)) (by simp)
        | some u =>
          rcases hO b with z | ⟨ob, xs, z⟩
          · rw [q] at z; cases z
          · have z2 := un.frzs b ob _ z
            obtain ⟨e1, _⟩ := hok b _ z
            obtain ⟨e2, _⟩ := hok' b _ z2
            rw [e] at e1; cases e1
            exact e2
  cases hk : K.lookup a with
  | some o =>
    have e := KX a o hk
    rw [ha] at e
    cases e
    refine core (fun _ => none) (fun _ => .inl rfl) (.inr ⟨_, vs.toArray, _, hk, rfl, rfl, rfl, by rw [List.size_toArray, lenV]; exact hl, by simpa using rv⟩) (fun b u z => by have z' : (none : Option HO) = some u := z; cases z') (fun b z => absurd rfl z) fun z => absurd rfl z
  | none =>
    refine core (fun b => if b = a then some (.frz { cls := .type "list", data := .seq vs.toArray } (.lst (ns.map V.int))) else none) (fun b => ?_) (.inl (.inr ⟨{ cls := .type "list", data := .seq vs.toArray }, if_pos rfl⟩)) (fun b u z => ?_) (fun b z => ?_) fun _ => hk
    · by_cases hb : b = a
      · exact .inr ⟨_, _, if_pos hb⟩
      · exact .inl (if_neg hb)
    · by_cases hb : b = a
      · have z' := (if_pos hb).symm.trans z
        cases z'
        subst hb
        exact ⟨ha, by rw [List.length_map]; exact hl, vs, _, rv, ha⟩
      · have z' := (if_neg hb).symm.trans z
        cases z'
    · by_cases hb : b = a
      · exact hb
      · exact absurd (if_neg hb) z
end L2
namespace L2
open PySem PySem.Spec PyProof.Rows
theorem walk_of {l : PySem.W.OpenLaw} {n k : Nat} {q : Program} {loose : List Str} {XP : (Str → Option Value) → Heap → Prop} {YP : World → Heap → Prop} {d : DefRec} {K : Params → PySem.W.Frag} {CX : World → CXT} {sp : World → Sp} {x : Str}
    (hn : l.most = some n) (hn2 : n ≤ sizeLine) (hdf : d.params.defaults = []) (hr : Room k callerA)
    (hY : ∀ (w : World) (h : Heap), YP w h → (K w.params).In h)
    (F : ∀ (w : World) (mg : Str → Option Value) (fa : Addr) (h : Heap), (K w.params).In h → h.Ns mainGlobals mg → mg d.name = some (.ref fa) →
      ∃ fd : FuncData, (∀ (s : Shared) (u : Value), BindsTo s fd ⟨[u], []⟩ [(x, u)]) ∧
        ∀ base : Heap, (K w.params).In base → base.Ns mainGlobals mg → FnOk l.prog w (K w.params) mg base (CX w) k fa fd [x] (sp w))
    (hsp : ∀ (w : World) (H : Hp) (a : Addr) (ns : List Int), ns.length ≤ n → Only H → SqL (K w.params) H a (ns.map V.int) → sp w [.ref a] H (fun v _ => v = .bl true) fun _ _ _ => False)
    (hCX : ∀ (w : World) (H : Hp) (s : Shared) (e : Value) (s' : Shared), CX w [] H s (fun _ _ _ => False) e s' → False) :
    PySem.W.WalkO q loose XP YP l.row.toRowW d [] (fun f vs => PySem.call f vs) := by
  refine Att.attach_call hn hdf fun w s₀ s₁ mg mb fa o pm cd doc a vs ns G Y ho hd hcd hmg hobj hints hlen hg => ?_
  have KX := hY w _ Y
  obtain ⟨fd, hb, hF⟩ := F w mg fa _ KX G.T.g hmg
  exact law_call KX G.T.g G.T.b G.T.builtins G.T.nolimit hg hobj hints (Nat.le_trans hlen hn2) hr hF hb (fun H hO hS => hsp w H a ns hlen hO hS) fun H e s' => hCX w H s₁ e s'
end L2
namespace L2
open PySem PySem.Spec PyProof.Rows
def defArgs (s : Stmt) : Arguments := match s with
  | .FunctionDef _ a _ _ _ _ _ _ _ _ => a
  | _ => { posonlyargs := [], args := [], vararg := none, kwonlyargs := [], kw_defaults := [], kwarg := none, defaults := [] }
def defBody (s : Stmt) : List Stmt := match s with
  | .FunctionDef _ _ b _ _ _ _ _ _ _ => b
  | _ => []
def defScope (s : Stmt) : Scope := match s with
  | .FunctionDef _ _ _ _ _ _ sc _ _ _ => sc
  | _ => { kind := .function, names := [], isGenerator := false, isCoroutine := false }
abbrev CX0 : CXT := fun _ _ _ _ _ _ => False
abbrev E0 : XK := fun _ _ _ => False
theorem pass0 {X : Cx} : Passes CX0 X E0 := fun _ _ _ _ _ _ _ h => h.elim
structure Fun (K : PySem.W.Frag) (x qual : Str) (st : Stmt) (f : Addr) (fd : FuncData) : Prop where
  ex : ∃ (oc : Value) (od : Option Addr) (kV doc pm : Value) (an : Option Addr) (cdv ct : Value) (osl : Array (Option Value)),
    fd = PySem.W.fnOf x qual (defArgs st) (defBody st) (defScope st) .none kV doc pm an cdv ct ∧ K.lookup f = some ⟨oc, od, .func fd, osl⟩ ∧ PySem.W.codeIn K cdv qual = true
  kp : PySem.W.keepIn K (.ref f) = true
section
variable {P : Program} {w : World} {K : PySem.W.Frag} {mg : Str → Option Value} {base : Heap}
theorem Fun.ok {x qual : Str} {st : Stmt} {f : Addr} {fd : FuncData} {N ps : List Str} {k : Nat} {sp : Sp} (F : Fun K x qual st f fd) (S : FnScope N ps (defScope st)) (len : ∀ vs H Q E, sp vs H Q E → vs.length = ps.length)
    (hbody : ∀ (cdv : Value) (A : Around) (outer : List Env) (s : Shared) (H : Hp) (vs : List V) (Q : VK) (E : XK), Room k (A.deeper (envOfC qual (defScope st) s.heap.objs.size f cdv)) → sp vs H Q E →
      ∃ t, PSs (cxOf CX0 P w K mg base N qual (defScope st) f cdv A outer s H E).nox (defBody st) t ∧ t { nx := fun _ H' => Q .non H', rt := Q } (start N vs) H) : FnOk P w K mg base CX0 (k + 1) f fd ps sp := by
  obtain ⟨oc, od, kV, doc, pm, an, cdv, ct, osl, rfl, lk, hcd⟩ := F.ex
  refine fn_of lk hcd S len fun A outer s H vs Q E hr hsp => ?_
  obtain ⟨t, h, q⟩ := hbody cdv A outer s H vs Q E hr hsp
  exact ⟨t, h.nox, q⟩
theorem Fun.binds {x qual : Str} {st : Stmt} {f : Addr} {fd : FuncData} {ps : List Str} (F : Fun K x qual st f fd)
    (h : ∀ (kV doc pm : Value) (an : Option Addr) (cdv ct : Value) (us : List Value), us.length = ps.length → bindArgs (PySem.W.fnOf x qual (defArgs st) (defBody st) (defScope st) .none kV doc pm an cdv ct) ⟨us, []⟩ = pure (ps.zip us)) : Binds K fd ps [] := by
  obtain ⟨oc, od, kV, doc, pm, an, cdv, ct, osl, rfl, lk, hcd⟩ := F.ex
  exact .all (h kV doc pm an cdv ct)
theorem fun_mk {x qual : Str} {st : Stmt} {f : Addr} {oc : Value} {od an : Option Addr} {osl : Array (Option Value)} {kV doc pm cdv ct : Value} (l : K.lookup f = some ⟨oc, od, .func (PySem.W.fnOf x qual (defArgs st) (defBody st) (defScope st) .none kV doc pm an cdv ct), osl⟩)
    (c : PySem.W.codeIn K cdv qual = true) (k : PySem.W.keepIn K (.ref f) = true) : Fun K x qual st f (PySem.W.fnOf x qual (defArgs st) (defBody st) (defScope st) .none kV doc pm an cdv ct) := ⟨⟨oc, od, kV, doc, pm, an, cdv, ct, osl, rfl, l, c⟩, k⟩
end
theorem small1000 {n : Nat} (h : n ≤ 1000) : n < sizeLine := Nat.lt_of_le_of_lt h (by decide)
section
variable {X : Cx}
theorem pv (i : Nat) {x : Str} {pos : PySem.Pos} (hN : X.N[i]? = some x := by rfl) (hv : Vis X.env.scope x := by first | exact Or.inl rfl | exact Or.inr (Or.inl rfl) | exact Or.inr (Or.inr rfl)) (hd : (x == ("__debug__" : Str)) = false := by decide)
    (hcd : (x == ("__classdict__" : Str)) = false := by decide) : PE X (.Name x pos) (tVar i) := pe_var hN hv hd hcd
end
theorem iteF {A B : Prop} (h : B) : if false = true then A else B := by
  rw [if_neg Bool.false_ne_true]
  exact h
theorem iteT {A B : Prop} (h : A) : if true = true then A else B := by
  rw [if_pos rfl]
  exact h
theorem ite2 {c A B : Prop} [Decidable c] (h1 : c → A) (h2 : ¬ c → B) : if c then A else B := by
  by_cases h : c
  · rw [if_pos h]
    exact h1 h
  · rw [if_neg h]
    exact h2 h
def Same (H H' : Hp) : Prop := ∀ b o, H b = some o → H' b = some o
theorem Same.refl (H : Hp) : Same H H := fun _ _ h => h
theorem Same.trans {H H1 H2 : Hp} (a : Same H H1) (b : Same H1 H2) : Same H H2 := fun c o h => b c o (a c o h)
theorem Same.free {H H' : Hp} (e : Same H H') {l : Addr} (h : H' l = Option.none) : H l = Option.none := by
  cases q : H l with
  | none => rfl
  | some o =>
    rw [e l o q] at h
    cases h
theorem Same.seq {K : PySem.W.Frag} {H H' : Hp} {a : Addr} {xs : List V} (e : Same H H') (h : SqL K H a xs) : SqL K H' a xs := by
  rcases h with (h | ⟨o, h⟩) | h
  · exact .inl (.inl (e _ _ h))
  · exact .inl (.inr ⟨o, e _ _ h⟩)
  · exact .inr h
end L2
set_option Elab.async false
set_option linter.all false
set_option maxRecDepth 100000
set_option maxHeartbeats 4000000
namespace L2
open PySem PySem.Spec PyProof.Rows
section
variable {X : Cx}
def CDivL (i j : Int) : Prop := 0 < j ∧ j.natAbs.log2 < 9000
theorem op_fdivL : OpR X (binaryOp .FloorDiv) (rI CDivL fun i j => .int (i / j)) := opI fun i j _ _ _ _ _ hc q => by
  have h1 : (0 : Int) < j := hc.1
  exact floordiv_int (by omega) (by rw [Int.fdiv_eq_ediv_of_nonneg i (by omega)]; exact q) (.inl (PyProof.noPylong_of_log2 hc.2))
theorem call_isinst {T : String} : CallR X (.builtin "isinstance") (fun xs H Q => ∃ x t b, xs = [x, .ty T] ∧ TyOf X.K H x t ∧ PySem.W.kitOne X.K t (.type T) = some b ∧ Q (.bl b) H) := by
  intro pins s σ H xs us Q I r h
  obtain ⟨x, t, b, rfl, ty, e, q⟩ := h
  obtain ⟨u, w', rfl, r1, r2⟩ := vals2 r
  cases (show w' = .type T from r2)
  exact isinst_ok I r1 ty e fun tk => ⟨.bl b, H, I.tok _, rfl, q⟩
end
end L2
set_option Elab.async false
set_option linter.all false
set_option maxRecDepth 100000
set_option maxHeartbeats 4000000
namespace L2
open PySem PySem.Spec PyProof.Rows
section
variable {X : Cx}
theorem clos_go (env : Env) : ∀ (names : List (Str × NameKind)) (acc : List (Str × Addr)), (∀ y ∈ names, y.2 = .free → ∃ c, env.cells.lookup y.1 = some c) → (∀ y c, acc.lookup y = some c → env.cells.lookup y = some c) →
    ∃ cl, (forIn names acc fun (x : Str × NameKind) (r : List (Str × Addr)) => if (x.2 == NameKind.free) = true then (do let c ← cellOf env x.1; pure (ForInStep.yield ((x.1, c) :: r))) else pure (ForInStep.yield r) : Sem _) = pure cl ∧
      (∀ y c, cl.lookup y = some c → env.cells.lookup y = some c) ∧ (∀ y, (y, NameKind.free) ∈ names → (cl.lookup y).isSome = true) ∧ (∀ y, (acc.lookup y).isSome = true → (cl.lookup y).isSome = true)
  | [], acc, _, h => ⟨acc, by simp, h, fun y z => absurd z (by simp), fun _ z => z⟩
  | (n, k) :: r, acc, hf, h => by
    by_cases hk : k = .free
    · subst hk
      obtain ⟨c, hc⟩ := hf (n, .free) List.mem_cons_self rfl
      obtain ⟨cl, e, h1, h2, h3⟩ := clos_go env r ((n, c) :: acc) (fun y hy => hf y (List.mem_cons_of_mem _ hy)) (fun y d hd => by
        rw [List.lookup_cons] at hd
        cases z : y == n with
        | true =>
          rw [z] at hd
          have : y = n := by simpa using z
          subst this
          cases hd
          exact hc
        | false => rw [z] at hd; exact h y d hd)
      have hin : ∀ y, (((n, c) :: acc).lookup y).isSome = true ∨ True := fun _ => .inr trivial
      refine ⟨cl, ?_, h1, fun y hy => ?_, fun y hy => h3 y ?_⟩
      · rw [List.forIn_cons]
        have e0 : cellOf env n = pure c := by unfold cellOf; rw [hc]
        simp only [beq_self_eq_true, if_true, e0, pure_bind]
        exact e
      · rcases List.mem_cons.mp hy with z | z
        · cases z
          exact h3 _ (by rw [List.lookup_cons]; simp)
        · exact h2 y z
      · rw [List.lookup_cons]
        cases y == n with
        | true => rfl
        | false => exact hy
    · obtain ⟨cl, e, h1, h2, h3⟩ := clos_go env r acc (fun y hy => hf y (List.mem_cons_of_mem _ hy)) h
      refine ⟨cl, ?_, h1, fun y hy => ?_, h3⟩
      · rw [List.forIn_cons]
        have hb : (k == NameKind.free) = false := by simpa using hk
        simp only [hb, Bool.false_eq_true, if_false, pure_bind]
        exact e
      · rcases List.mem_cons.mp hy with z | z
        · cases z; exact absurd rfl hk
        · exact h2 y z
theorem clos_ok {scope : Scope} {env : Env} (hf : ∀ y ∈ scope.names, y.2 = .free → ∃ c, env.cells.lookup y.1 = some c) : ∃ cl, closureFor scope env = pure cl ∧ (∀ y c, cl.lookup y = some c → env.cells.lookup y = some c) ∧ (∀ y, (y, NameKind.free) ∈ scope.names → (cl.lookup y).isSome = true) := by
  obtain ⟨cl, e, h1, h2, _⟩ := clos_go env scope.names [] hf (fun y c h => by cases h)
  refine ⟨cl, ?_, h1, h2⟩
  unfold closureFor
  simp only [bind_pure]
  exact e
end
end L2
namespace L2
open PySem PySem.Spec PyProof.Rows
section
variable {X : Cx}
def tYes : TT := fun _ H Q => Q true H
def PIf (X : Cx) (ifs : List Expr) (t : TT) : Prop :=
  ∀ (pins : List (Addr × Obj)) (s : Shared) (σ : St) (H : Hp) (Q : Bool → Hp → Prop), Inv X pins σ H s → t σ H Q →
    wpAny (model X.prog X.w) X.A (forIn ifs true fun c r => if r = true then do let ok ← isTrue c X.env (eval c X.env); pure (ForInStep.yield ok) else pure (ForInStep.yield r)) (TP X pins σ Q) X.xe s
theorem pif_nil : PIf X [] tYes := fun pins s σ H Q I h => wpAny_tests_nil ⟨H, I, h⟩
theorem pif_one {c : Expr} {t : TT} (hc : PT X c t) : PIf X [c] t := fun pins s σ H Q I h => wpAny_tests_one (hc pins s σ H Q I h)
theorem relabel_kind {names : List (Str × NameKind)} {env : Env} {x : Str} {k : NameKind} (hc : ∀ y ∈ names, y.2 ≠ .cell) (h : (names.map fun (n, k) => if (k == NameKind.free && env.scope.kind == .function && env.kindOf n == some .cell) then (n, NameKind.cell) else (n, k)).lookup x = some k) :
    (k = .cell ∨ k = .free) → names.lookup x = some .free ∧ (k = .cell → env.kindOf x = some .cell) := by
  induction names with
  | nil => cases h
  | cons p r ih =>
    obtain ⟨n, k0⟩ := p
    intro hk
    have h : List.lookup x ((if (k0 == NameKind.free && env.scope.kind == .function && env.kindOf n == some .cell) = true then (n, NameKind.cell) else (n, k0)) :: _) = some k := h
    by_cases c : (k0 == NameKind.free && env.scope.kind == .function && env.kindOf n == some .cell) = true
    · rw [if_pos c] at h
      rw [List.lookup_cons] at h ⊢
      cases z : x == n with
      | true =>
        have e : x = n := by simpa using z
        subst e
        simp only [Bool.and_eq_true, beq_iff_eq] at c
        exact ⟨by rw [c.1.1], fun _ => c.2⟩
      | false => rw [z] at h; exact ih (fun y hy => hc y (List.mem_cons_of_mem _ hy)) h hk
    · rw [if_neg c] at h
      rw [List.lookup_cons] at h ⊢
      cases z : x == n with
      | true =>
        rw [z] at h
        have e : k0 = k := Option.some.inj h
        subst e
        rcases hk with rfl | rfl
        · exact absurd rfl (hc (n, .cell) List.mem_cons_self)
        · exact ⟨rfl, fun z => by cases z⟩
      | false => rw [z] at h; exact ih (fun y hy => hc y (List.mem_cons_of_mem _ hy)) h hk
end
end L2
set_option Elab.async false
set_option linter.all false
set_option maxRecDepth 100000
set_option maxHeartbeats 4000000
namespace L2
open PySem PySem.Spec PyProof.Rows
section
variable {X : Cx}
theorem relabel_local {names : List (Str × NameKind)} {env : Env} {x : Str} (h : (names.map fun (n, k) => if (k == NameKind.free && env.scope.kind == .function && env.kindOf n == some .cell) then (n, NameKind.cell) else (n, k)).lookup x = some .local) :
    names.lookup x = some .local := by
  induction names with
  | nil => cases h
  | cons p r ih =>
    obtain ⟨n, k0⟩ := p
    have h : List.lookup x ((if (k0 == NameKind.free && env.scope.kind == .function && env.kindOf n == some .cell) = true then (n, NameKind.cell) else (n, k0)) :: _) = some .local := h
    by_cases c : (k0 == NameKind.free && env.scope.kind == .function && env.kindOf n == some .cell) = true
    · rw [if_pos c] at h
      rw [List.lookup_cons] at h ⊢
      cases z : x == n with
      | true => rw [z] at h; cases h
      | false => rw [z] at h; exact ih h
    · rw [if_neg c] at h
      rw [List.lookup_cons] at h ⊢
      cases z : x == n with
      | true => rw [z] at h; exact h
      | false => rw [z] at h; exact ih h
end
end L2
set_option Elab.async false
set_option linter.all false
set_option maxRecDepth 100000
set_option maxHeartbeats 4000000
namespace L2
open PySem PySem.Spec PyProof.Rows
inductive DI (K : PySem.W.Frag) (H : Hp) : V → PyData → Prop where
  | non : DI K H .non .none
  | bl (b : Bool) : DI K H (.bl b) (.bool b)
  | int (i : Int) : DI K H (.int i) (.int i)
  | str (x : Str) : DI K H (.str x) (.str x)
  | tup {a : Addr} {xs : List V} {ds : List PyData} : SqT K H a xs → xs.length = ds.length → (∀ (i : Nat) (x : V) (d : PyData), xs[i]? = some x → ds[i]? = some d → DI K H x d) → DI K H (.ref a) (.tuple ds)
  | lst {a : Addr} {xs : List V} {ds : List PyData} : SqL K H a xs → xs.length = ds.length → (∀ (i : Nat) (x : V) (d : PyData), xs[i]? = some x → ds[i]? = some d → DI K H x d) → DI K H (.ref a) (.list ds)
section
variable {X : Cx} {pins : List (Addr × Obj)} {σ : St} {H : Hp} {s : Shared}
theorem readsAll_of : ∀ {us : List Value} {ds : List PyData} {xs : List V}, Vals xs us → xs.length = ds.length → (∀ (i : Nat) (x : V) (d : PyData) (u : Value), xs[i]? = some x → ds[i]? = some d → RelV x u → ∃ as, Reads s.heap u d as) → ∃ as, ReadsAll s.heap us ds as
  | _, ds, _, .nil, hl, _ => by
    cases ds with
    | nil => exact ⟨_, .nil⟩
    | cons d r => cases hl
  | _, ds, _, .cons (a := x) r t, hl, h => by
    cases ds with
    | nil => cases hl
    | cons d rest =>
      obtain ⟨as, ra⟩ := h 0 x d _ rfl rfl r
      obtain ⟨bs, rb⟩ := readsAll_of t (by simpa using hl) (fun i y e u h1 h2 h3 => h (i + 1) y e u (by simpa using h1) (by simpa using h2) h3)
      exact ⟨_, .cons ra rb⟩
theorem DI.reads (I : Inv X pins σ H s) {x : V} {d : PyData} (h : DI X.K H x d) : ∀ {u : Value}, RelV x u → ∃ as, Reads s.heap u d as := by
  induction h with
  | non => intro u r; cases r; exact ⟨_, .none⟩
  | bl b => intro u r; cases r; exact ⟨_, .bool b⟩
  | int i => intro u r; obtain ⟨t, rfl⟩ := r; exact ⟨_, .int i t⟩
  | str x => intro u r; obtain ⟨t, rfl⟩ := r; exact ⟨_, .str x t⟩
  | tup hq hl _ ih =>
    intro u r
    cases r
    obtain ⟨its, rv, ⟨o, e, c, n, hd⟩, _⟩ := I.tuple hq
    obtain ⟨as, ra⟩ := readsAll_of (s := s) rv hl (fun i y d u h1 h2 h3 => ih i y d h1 h2 h3)
    exact ⟨_, .tuple e c hd (by simpa using ra)⟩
  | lst hq hl _ ih =>
    intro u r
    cases r
    obtain ⟨its, rv, pl, _⟩ := I.list hq
    obtain ⟨o, e, c, n, hd⟩ := pl.isList
    obtain ⟨as, ra⟩ := readsAll_of (s := s) rv hl (fun i y d u h1 h2 h3 => ih i y d h1 h2 h3)
    exact ⟨_, .list e c hd (by simpa using ra)⟩
def rEqD (K : PySem.W.Frag) (g : Bool → Bool) : R2 := fun x y H Q => ∃ dx dy, DI K H x dx ∧ DI K H y dy ∧ dx.canLay0 = true ∧ dy.canLay0 = true ∧ dx.depth ≤ 60 ∧ Q (.bl (g (PyData.eqv dx dy))) H
theorem op_eqD {k : Nat} (hr : Room k X.A) : OpR X (compareOp .Eq) (rEqD X.K fun b => b) := by
  intro pins s σ H x y v u Q I rx ry h
  obtain ⟨dx, dy, hx, hy, cx, cy, hd, q⟩ := h
  obtain ⟨as, ra⟩ := hx.reads I rx
  obtain ⟨bs, rb⟩ := hy.reads I ry
  have hu := hr.units
  exact SeqAt.compareEq_reads ra rb cx cy (by omega) ⟨.bl _, H, I, rfl, q⟩
theorem op_neD {k : Nat} (hr : Room k X.A) : OpR X (compareOp .NotEq) (rEqD X.K fun b => !b) := by
  intro pins s σ H x y v u Q I rx ry h
  obtain ⟨dx, dy, hx, hy, cx, cy, hd, q⟩ := h
  obtain ⟨as, ra⟩ := hx.reads I rx
  obtain ⟨bs, rb⟩ := hy.reads I ry
  have hu := hr.units
  exact SeqAt.compareNe_reads ra rb cx cy (by omega) ⟨.bl _, H, I, rfl, q⟩
theorem op_isnotB : OpR X (compareOp .IsNot) (fun x y H Q => ∃ b c, x = .bl b ∧ y = .bl c ∧ Q (.bl (!(b == c))) H) := by
  intro pins s σ H x y v u Q I rx ry h
  obtain ⟨b, c, rfl, rfl, q⟩ := h
  cases rx; cases ry
  refine wpAny_isNot_plain rfl ⟨.bl _, H, I, ?_, q⟩
  show Value.bool (!(Value.bool b == Value.bool c)) = Value.bool (!(b == c))
  cases b <;> cases c <;> rfl
end
end L2
set_option Elab.async false
set_option linter.all false
set_option maxRecDepth 100000
set_option maxHeartbeats 4000000
namespace L2
open PySem PySem.Spec PyProof.Rows
section
variable {X : Cx}
theorem range_all_get (bs : List Bool) : (List.range bs.length).all (fun i => bs.getD i true) = bs.all id := by
  induction bs with
  | nil => rfl
  | cons b r ih =>
    rw [List.length_cons, List.range_succ_eq_map, List.all_cons, List.all_map, List.all_cons]
    have : (List.range r.length).all ((fun i => (b :: r).getD i true) ∘ Nat.succ) = (List.range r.length).all (fun i => r.getD i true) := by
      congr 1
    rw [this, ih]
    rfl
theorem call_all (hc : X.calm = true) : CallR X (.builtin "all") (fun xs H Q => ∃ (p : Addr) (bs : List Bool), xs = [.ref p] ∧ SqL X.K H p (bs.map V.bl) ∧ Q (.bl (bs.all id)) H) := by
  intro pins s σ H xs us Q I r h
  obtain ⟨p, bs, rfl, hq, q⟩ := h
  obtain ⟨u, rfl, rx⟩ := vals1 r
  cases rx
  obtain ⟨its, rv, pl, hz⟩ := I.list hq
  have hlt : p < s.heap.objs.size := by
    obtain ⟨o, e, _⟩ := pl.isList
    exact Heap.lt_size e
  have hlen : its.length = bs.length := by have := rv.length; rw [List.length_map] at this; exact this.symm
  refine call_all_walk (wpAny_pyIter_list pl.isList ?_)
  refine ⟨_, _, _, _, _, _, fun i => bs.getD i true, rfl, Walks.list (A := X.A.in1) (I.ok.hd hc) s.heap.objs.size p (Nat.ne_of_lt hlt) its.toArray, ?_, ?_, fun h' tk hk => ?_⟩
  · exact ⟨⟨_, Heap.get?_push_size _ rfl, rfl, rfl⟩, (let ⟨o, e, c⟩ := pl.isList; ⟨o, Heap.get?_push_of_some _ e, c⟩)⟩
  · intro i v s' Q' E' hP hQ
    have hv : its[i]? = some v := by simpa using hP
    have hil : i < bs.length := by rw [← hlen]; exact (List.getElem?_eq_some_iff.mp hv).1
    obtain ⟨u, e, ru⟩ := rv.get (x := V.bl (bs.getD i true)) (i := i) (by rw [List.getElem?_map, List.getElem?_eq_getElem hil, List.getD_eq_getElem?_getD, List.getElem?_eq_getElem hil]; rfl)
    rw [hv] at e
    cases e
    cases ru
    exact wpAny_truthy_bool hQ
  · have e : (List.range its.toArray.size).all (fun i => bs.getD i true) = bs.all id := by
      rw [List.size_toArray, hlen]; exact range_all_get bs
    rw [e]
    refine ⟨.bl _, H, ?_, rfl, q⟩
    exact I.kept fun b o eb => hk b o (by simp; exact Nat.ne_of_lt (Heap.lt_size eb)) (Heap.get?_push_of_some _ eb)
theorem kit_ll {K : PySem.W.Frag} : PySem.W.kitOne K (.type "list") (.type "list") = some true := by rfl
theorem call_isinstK {K : PySem.W.Frag} {T : String} (hK : X.K = K := by rfl) : CallR X (.builtin "isinstance") (fun xs H Q => ∃ x t b, xs = [x, .ty T] ∧ TyOf K H x t ∧ PySem.W.kitOne K t (.type T) = some b ∧ Q (.bl b) H) := by
  subst hK; exact call_isinst
theorem ix_listK {K : PySem.W.Frag} (hK : X.K = K := by rfl) : IxR X (rIxL K) := by subst hK; exact ix_list
theorem ix_tupK {K : PySem.W.Frag} (hK : X.K = K := by rfl) : IxR X (rIxT K) := by subst hK; exact ix_tup
theorem call_lenK {K : PySem.W.Frag} (hK : X.K = K := by rfl) : CallR X (.builtin "len") (fun xs H Q => ∃ p ys, xs = [.ref p] ∧ (SqL K H p ys ∨ SqT K H p ys) ∧ Q (.int ys.length) H) := by subst hK; exact call_len_seq
end
end L2
set_option Elab.async false
set_option linter.all false
set_option maxRecDepth 100000
set_option maxHeartbeats 4000000
namespace L2
open PySem PySem.Spec PyProof.Rows
section
variable {X : Cx}
theorem Vals.of_get : ∀ {xs : List V} {us : List Value}, xs.length = us.length → (∀ (i : Nat) (x : V) (u : Value), xs[i]? = some x → us[i]? = some u → RelV x u) → Vals xs us
  | [], [], _, _ => .nil
  | [], _ :: _, h, _ => by cases h
  | _ :: _, [], h, _ => by cases h
  | x :: xs, u :: us, h, k => .cons (k 0 x u rfl rfl) (Vals.of_get (by simpa using h) fun i y v h1 h2 => k (i + 1) y v (by simpa using h1) (by simpa using h2))
end
end L2
set_option Elab.async false
set_option linter.all false
set_option maxRecDepth 100000
set_option maxHeartbeats 4000000
namespace L2
open PySem PySem.Spec PyProof.Rows
section
variable {X : Cx}
section
variable {prog : Program} {w : World} {A : Around} {R : Result → Shared → Prop} {s : Shared}
theorem loop_turns {elt tg iter : Expr} {ifs : List Expr} {scope : Scope} {pos : PySem.Pos} {it acc : Value} {env : Env} {EE : Value → Shared → Prop} (hE : EE = notedBy (model prog w) A env fun e s' => R (.error e) s') (I : Nat → Shared → Prop)
    (turn : ∀ n s, I n s → wpAny (model prog w) A (pyNext it) (fun r z1 => match r with
      | none => R (.ok .next) z1
      | some v => wpAny (model prog w) A (letOwnedTupleGo tg it v) (fun _ y1 => wpAny (model prog w) A (assign tg env v) (fun _ z2 =>
          wpAny (model prog w) A (forIn ifs true fun c r => if r = true then do let ok ← isTrue c env (eval c env); pure (ForInStep.yield ok) else pure (ForInStep.yield r)) (fun ok z3 =>
            if ok = true then wpAny (model prog w) A (eval elt env) (fun x z4 => wpAny (model prog w) A (call (.builtin "list.append") [acc, x]) (fun _ z5 => ∃ m, m < n ∧ I m z5) EE z4) EE z3 else ∃ m, m < n ∧ I m z3) EE z2) EE y1) EE z1) EE s)
    (n : Nat) (h : I n s) : codeAny (model prog w) A (.compLoop (.ListComp elt [⟨tg, iter, ifs, 0⟩] scope pos) 0 it acc env) R s := by
  subst hE
  refine codeAny_loop rfl I (fun n s hI => ?_) n h
  show wpAny _ A ((compTurn (.ListComp elt [⟨tg, iter, ifs, 0⟩] scope pos) 0 it acc env).onRaise (fun x => do noteFrame x env; theTreesLotGoes x)) _ _ s
  refine wpAny_noted ?_
  rw [compTurn_list]
  refine wpAny_bind (wpAny_standAt (wpAny_bind (wpAny_mono (turn n s hI) (fun r z1 q1 => ?_) fun _ _ z => z)))
  cases r with
  | none => exact wpAny_pure q1
  | some v =>
    refine wpAny_bind (wpAny_mono q1 (fun _ y1 q1 => ?_) fun _ _ z => z)
    refine wpAny_bind (wpAny_mono q1 (fun _ z2 q2 => wpAny_bind (wpAny_mono q2 (fun ok z3 q3 => ?_) fun _ _ z => z)) fun _ _ z => z)
    cases ok with
    | false => exact wpAny_pure ⟨rfl, q3⟩
    | true => exact wpAny_bind (wpAny_bind (wpAny_mono q3 (fun x z4 q4 => wpAny_bind (wpAny_mono q4 (fun _ z5 q5 => wpAny_pure (wpAny_pure ⟨rfl, q5⟩)) fun _ _ z => z)) fun _ _ z => z))
end
def cxC (X : Cx) (xs Nb : List Str) (scope : Scope) (cl : List (Str × Addr)) (C : Addr) (s₂ : Shared) (H₂ : Hp) (fp : List Addr) : Cx :=
  { X with N := xs ++ Nb, s₀ := s₂, H₀ := H₂, env := compEnvC scope cl C X.env, outer := X.stack, stack := X.stack, ex := fp, fn := fun _ => false, pn := [], xe := fun _ _ => False }
def InB (X : Cx) (xs Nb : List Str) (scope : Scope) (φ : Cx → Prop) : Prop := ∀ (cl : List (Str × Addr)) (C : Addr) (s₂ : Shared) (H₂ : Hp) (fp : List Addr), φ (cxC X xs Nb scope cl C s₂ H₂ fp)
def CGo (k : Nat) (J : It) (g : TG) (tt : TT) (te : TE) (Q : VK) (σ : St) (H1 : Hp) : Prop := ∃ W : Nat → Nat → List V → Hp → Prop, (∃ m, W 0 m [] H1) ∧ ∀ i m ys H, W i m ys H →
  (J.stop i H ∧ ∀ D, H D = none → Q (.ref D) (upd H D (.lst ys))) ∨ (J.go i H ∧ ys.length < sizeLine ∧ ∃ N : List V → Hp → Prop, (∀ zs H', N zs H' → ∃ m', m' < m ∧ W (i + 1) m' zs H') ∧ ∀ v H' (pre : St), pre.length = k → J.yld i H v H' → g v (pre ++ σ) H' fun σ' H2 => (∃ pre' : St, σ' = pre' ++ σ ∧ pre'.length = k) ∧ tt σ' H2 fun ok H3 => if ok = true then te σ' H3 fun y H4 => N (ys ++ [y]) H4 else N ys H3)
def tCompG (k : Nat) (wi : TI) (g : TG) (tt : TT) (te : TE) : TE := fun σ H Q => wi σ H fun J H1 => CGo k J g tt te Q σ H1
theorem comp_core {elt iter tg : Expr} {xs Nb : List Str} {ifs : List Expr} {scope : Scope} {pos : PySem.Pos} {wi : TI} {g : TG} {tt : TT} {te : TE}
    (hc : X.calm = true) (hi : PI X tg iter wi) (hlen : Nb.length = X.N.length) (hNb : ∀ p ∈ Nb.zip X.N, p.1 = p.2 ∨ scope.names.lookup p.1 = none) (hxN : ∀ y ∈ Nb, scope.names.lookup y ≠ some .local)
    (hg : InB X xs Nb scope fun Y => PG Y tg g) (ht : InB X xs Nb scope fun Y => PIf Y ifs tt) (he : InB X xs Nb scope fun Y => PE Y elt te)
    (hcell : ∀ y ∈ scope.names, y.2 ≠ .cell) (hkind : scope.kind = .function) (hnames : ∀ y ∈ scope.names, y.2 = .local → scope.names.lookup y.1 = some .local)
    (hfree : ∀ y ∈ scope.names, y.2 = .free → X.env.kindOf y.1 = some .cell)
    (hs : ∀ x, foldedSetIterable iter X.env x = pure x) {pos2 : PySem.Pos} {use : Option (Value → Sem Unit)} {QQ : Value → Shared → Prop} {pins : List (Addr × Obj)} {s : Shared} {σ : St} {H : Hp} {Q : VK} (I : Inv X pins σ H s) (h : tCompG xs.length wi g tt te σ H Q)
    (post : ∀ (s2 s4 : Shared) (H2 H4 : Hp) (C D : Addr) (m4 : Str → Option Value), Inv X pins σ H2 s2 → s2.heap.objs.size ≤ C → s4.heap.Ns C m4 → H4 C = none → (∀ h', Heap.SameBut C s4.heap h' → Inv X pins σ H4 { s4 with heap := h' }) → Q (.ref D) H4 → compPost (model X.prog X.w) X.A X.xe use QQ (.ref D) C (.ok .next) s4) :
    wpAny (model X.prog X.w) X.A (comprehension (.ListComp elt [⟨tg, iter, ifs, 0⟩] scope pos) scope X.env pos2 (newList []) false (eval iter X.env) use) QQ X.xe s := by
  obtain ⟨cl, hcl, cl1, cl2⟩ := clos_ok (scope := scope) (env := X.env) (fun y hy hf => I.ok.has y.1 (.inl (hfree y hy hf)))
  refine wpAny_comprehension_free rfl hs hcl hkind hnames (thn (hi pins s σ H _ I h) fun v s1 h1 => thn h1 fun itv s2 h2 => ?_)
  obtain ⟨it, fp, tn, J, H2, e, I2, T, st2, f2, W, ⟨m0, w0⟩, turn⟩ := h2
  subst e
  refine wpAny_newObj_type (wpAny_newFunctionEnv hcell (by intro y hy; simp at hy) (fun h₁ hns₁ hsb₁ => ?_) hkind)
  dsimp only at hns₁ hsb₁ ⊢
  generalize hHp : s2.heap.push { cls := .type "list", dict := none, data := .seq ([] : List Value).toArray } = Hp2 at hns₁ hsb₁ ⊢
  have hC : Hp2.objs.size = s2.heap.objs.size + 1 := by rw [← hHp, Heap.size_push]
  have hDC : s2.heap.objs.size ≠ Hp2.objs.size := by rw [hC]; exact Nat.ne_of_lt (Nat.lt_succ_self _)
  have below : ∀ b, b < s2.heap.objs.size → b ≠ Hp2.objs.size ∧ b ≠ s2.heap.objs.size := fun b hb => ⟨by rw [hC]; exact Nat.ne_of_lt (Nat.lt_succ_of_lt hb), Nat.ne_of_lt hb⟩
  have old : ∀ b o, s2.heap.get? b = some o → h₁.get? b = some o := fun b o e => hsb₁.extBut b o (below b (Heap.lt_size e)).1 (Heap.get?_push_of_some _ (hHp ▸ Heap.get?_push_of_some _ e))
  have hacc : h₁.PlainList s2.heap.objs.size #[] := ⟨_, hsb₁.extBut _ _ hDC (Heap.get?_push_of_some _ (hHp ▸ Heap.get?_push_size _ rfl))⟩
  generalize hY : cxC X xs Nb scope cl Hp2.objs.size s2 H2 fp = Y
  have Yprog : Y.prog = X.prog := by rw [← hY]; rfl
  have fpLt : ∀ b ∈ fp, b < s2.heap.objs.size := fun b hb => by
    obtain ⟨o, e, _⟩ := T.obj _ _ st2 b hb
    exact Heap.lt_size e
  have cellLt : ∀ y c, cl.lookup y = some c → c < s2.heap.objs.size := fun y c hc => by
    obtain ⟨v, q⟩ := I2.cell y c (cl1 y c hc)
    exact q.lt
  have frSub : ∀ b ∈ frs X.stack, b < s2.heap.objs.size := fun b hb => by
    rcases List.mem_cons.mp (I2.stkSub b hb) with z | z
    · rw [z]; exact I2.lt
    · by_cases hlt : b < s2.heap.objs.size
      · exact hlt
      · exact absurd z (I2.nofs (Nat.le_of_not_lt hlt))
  have ok : (cxC X xs Nb scope cl Hp2.objs.size s2 H2 fp).Ok := by
    refine ⟨I2.ok.mod, hkind, I2.ok.glob, I2.ok.blt, (by show s2.heap.objs.size ≤ Hp2.objs.size; omega), fun y z c h1 h2 => I2.ok.inj y z c (cl1 y c h1) (cl1 z c h2), fun y hy => ?_, fun y c hf _ => absurd hf (by intro z; cases z), I2.ok.hd, I2.ok.frames, .inl rfl, fun b hb => ⟨?_, fun y c h1 h2 => ?_⟩, I2.bs, Nat.le_trans I2.ok.bsz I2.sz, fun b o e hb => ?_, fun b hb hm => ?_, I2.stack, I2.stkFree⟩
    · have hy : (scope.names.map fun (n, k) => if (k == NameKind.free && X.env.scope.kind == .function && X.env.kindOf n == some .cell) then (n, NameKind.cell) else (n, k)).lookup y = some .cell ∨ (scope.names.map fun (n, k) => if (k == NameKind.free && X.env.scope.kind == .function && X.env.kindOf n == some .cell) then (n, NameKind.cell) else (n, k)).lookup y = some .free := hy
      have q : scope.names.lookup y = some .free := by
        rcases hy with z | z
        · exact (relabel_kind hcell z (.inl rfl)).1
        · exact (relabel_kind hcell z (.inr rfl)).1
      exact Option.isSome_iff_exists.mp (cl2 y (PySem.mem_of_lookup q))
    · exact (below b (fpLt b hb)).1
    · exact (f2 b hb).2.2.2.2.1 y c (cl1 y c h1) h2
    · rcases (f2 b hb).2.2.2.1 with z | z
      · exact I2.ok.noex b o e z
      · exact absurd (Nat.lt_of_lt_of_le (Heap.lt_size e) (Nat.le_trans I2.ok.bsz z)) (Nat.lt_irrefl _)
    · rcases List.mem_cons.mp (I2.stkSub b hm) with z | z
      · exact (f2 b hb).2.1 z
      · exact (f2 b hb).2.2.1 z
  have fpY : ∀ {H' : Hp} {pl : List (Addr × Obj)}, (∀ b ∈ fp, H' b = none) → (∀ p ∈ pl, p.1 = s2.heap.objs.size) → ∀ b ∈ fp, FpOk Y pl H' b := fun {H' pl} hn hp b hb => by
    rw [← hY]
    refine ⟨hn b hb, (below b (fpLt b hb)).1, fun hm => ?_, .inl hb, fun y c h1 h2 => (f2 b hb).2.2.2.2.1 y c (cl1 y c h1) h2, fun p hm z => ?_⟩
    · rcases List.mem_cons.mp (I2.stkSub b hm) with z | z
      · exact (f2 b hb).2.1 z
      · exact (f2 b hb).2.2.1 z
    · have hm : p ∈ pl := hm
      rw [hp p hm] at z
      exact (below b (fpLt b hb)).2 z.symm
  have HD : H2 s2.heap.objs.size = none := I2.hok.fresh (Nat.le_refl _)
  have HC : H2 Hp2.objs.size = none := I2.hok.fresh (by omega)
  obtain ⟨m2, hns2, hloc2⟩ := I2.loc
  have IY : ∀ tk, Inv (cxC X xs Nb scope cl Hp2.objs.size s2 H2 fp) [] (List.replicate xs.length none ++ σ) H2 { s2 with heap := h₁, toks := tk } := fun tk => by
    refine ⟨ok, rfl, I2.bare, Un.kept old, ⟨_, hns₁, fun i y v h1 h2 h3 => ?_⟩, fun y c h1 => ?_, HC, fun y c h1 => I2.freeC y c (cl1 y c h1), fun p hp => absurd (show p ∈ ([] : List (Addr × Obj)) from hp) (by simp), I2.hok.kept old, (by show (List.replicate xs.length (none : Option V) ++ σ).length = (xs ++ Nb).length; rw [List.length_append, List.length_append, List.length_replicate, hlen, I2.len])⟩
    · have h1 : (xs ++ Nb)[i]? = some y := h1
      by_cases hik : i < xs.length
      · rw [List.getElem?_append_left (by rw [List.length_replicate]; exact hik), List.getElem?_replicate, if_pos hik] at h2
        cases h2
      · rw [List.getElem?_append_right (by omega)] at h1
        rw [List.getElem?_append_right (by rw [List.length_replicate]; omega), List.length_replicate] at h2
        generalize i - xs.length = i at h1 h2
        have h3 : Vis (relabel scope X.env) y := h3
        have key : ∀ k, (k = NameKind.cell ∨ k = NameKind.free) → (relabel scope X.env).names.lookup y = some k → ∃ u, RelV v u ∧ Look (compEnvC scope cl Hp2.objs.size X.env) h₁ (fun x => ([] : List (Str × Value)).reverse.lookup x) y u := fun k hk hl => by
          obtain ⟨q1, _⟩ := relabel_kind hcell hl hk
          have q2 := hfree (y, .free) (PySem.mem_of_lookup q1) rfl
          have h1' : X.N[i]? = some y := by
            have hi' : i < X.N.length := by rw [← hlen]; exact (List.getElem?_eq_some_iff.mp h1).1
            have hz : (Nb.zip X.N)[i]? = some (y, X.N[i]) := by rw [List.getElem?_zip_eq_some]; exact ⟨h1, List.getElem?_eq_getElem hi'⟩
            rcases hNb _ (List.mem_of_getElem? hz) with z | z
            · have z : y = X.N[i] := z
              rw [z]; exact List.getElem?_eq_getElem hi'
            · have z : scope.names.lookup y = none := z
              rw [q1] at z; cases z
          obtain ⟨u, r, l⟩ := hloc2 i y v h1' h2 (.inr (.inl q2))
          refine ⟨u, r, .inr ⟨?_, ?_⟩⟩
          · rcases hk with rfl | rfl
            · exact .inl hl
            · exact .inr hl
          · rcases l with ⟨k1, _⟩ | ⟨_, c, e1, z⟩
            · rw [q2] at k1; cases k1
            · obtain ⟨c', e2⟩ := Option.isSome_iff_exists.mp (cl2 y (PySem.mem_of_lookup q1))
              have e3 := cl1 y c' e2
              rw [e1] at e3
              cases e3
              obtain ⟨o, ho, hd⟩ := z
              exact ⟨c, e2, o, old c o ho, hd⟩
        rcases h3 with h3 | h3 | h3
        ·
          exfalso
          exact hxN y (List.mem_of_getElem? h1) (relabel_local h3)
        · exact key _ (.inl rfl) h3
        · exact key _ (.inr rfl) h3
    · obtain ⟨v, o, ho, hd⟩ := I2.cell y c (cl1 y c h1)
      exact ⟨v, o, old c o ho, hd⟩
  have noErr : ∀ {α : Type} {m : Sem α} {G : α → Shared → Prop} {E' : Value → Shared → Prop} {s' : Shared}, wpAny (model X.prog X.w) X.A m G (fun _ _ => False) s' → wpAny (model X.prog X.w) X.A m G E' s' := fun h => wpAny_mono h (fun _ _ q => q) fun _ _ q => q.elim
  have loop : ∀ (tk : Nat) (R : Result → Shared → Prop), R = compPost (model X.prog X.w) X.A X.xe use QQ (.ref s2.heap.objs.size) Hp2.objs.size →
      codeAny (model X.prog X.w) X.A (.compLoop (.ListComp elt [⟨tg, iter, ifs, 0⟩] scope pos) 0 (.ref it) (.ref s2.heap.objs.size) (compEnvC scope cl Hp2.objs.size X.env)) R { s2 with heap := h₁, toks := tk } := by
    rintro tk R rfl
    refine loop_turns rfl (fun n s' => ∃ i σv H' ys its, σv.length = xs.length ∧ Inv Y [] (σv ++ σ) H' s' ∧ tn i s'.heap ∧ (∀ b ∈ fp, H' b = none) ∧ Vals ys its ∧ ys.length ≤ sizeLine ∧ s'.heap.PlainList s2.heap.objs.size its.toArray ∧ H' s2.heap.objs.size = none ∧ W i n ys H') ?_ m0
      ⟨0, List.replicate xs.length none, H2, [], [], List.length_replicate, hY ▸ IY tk, T.keep _ _ _ st2 fun b _ o e => old b o e, fun b hb => (f2 b hb).1, .nil, Nat.zero_le _, hacc, HD, w0⟩
    rintro n s3 ⟨i, σv, H3, ys, its, lv, I3, st3, fr3, rv, hz, ⟨nn, pl3⟩, HD3, w3⟩
    have I3p : Inv Y [(s2.heap.objs.size, { cls := .type "list", data := .seq its.toArray nn })] (σv ++ σ) H3 s3 := I3.pins_of fun p hp => by
      rw [List.mem_singleton] at hp
      subst hp
      refine ⟨pl3, HD3, ?_, fun hm => ?_, fun v z => by cases z⟩
      · rw [← hY]; exact hDC
      · rw [← hY] at hm
        exact absurd (frSub _ hm) (Nat.lt_irrefl _)
    have pinD : ∀ p ∈ [((s2.heap.objs.size : Addr), ({ cls := .type "list", data := .seq its.toArray nn } : Obj))], p.1 = s2.heap.objs.size := fun p hp => by
      rw [List.mem_singleton] at hp
      rw [hp]
    subst hY
    rcases turn i n ys H3 w3 with ⟨stop, qn⟩ | ⟨go, hlt, NN, hNN, step⟩
    · refine noErr (thn (T.done (cxC X xs Nb scope cl Hp2.objs.size s2 H2 fp) rfl rfl rfl hc i _ s3 _ H3 (fun _ _ => False) I3p (fpY fr3 pinD) st3 stop) fun r s4 ⟨hr, I4⟩ => ?_)
      subst hr
      obtain ⟨m4, hns4, _⟩ := I4.loc
      refine post s2 s4 H2 (upd H3 s2.heap.objs.size (.lst ys)) Hp2.objs.size s2.heap.objs.size m4 I2 (by omega) hns4 (by rw [upd_ne (Ne.symm hDC)]; exact I4.free) (fun h' sb => ?_) (qn _ HD3)
      have pl4 := (I4.pin _ (List.mem_append_right _ List.mem_cons_self)).1
      have up : ∀ b o, b ≠ Hp2.objs.size → s4.heap.get? b = some o → h'.get? b = some o := fun b o hb e => sb.extBut b o hb e
      have base := I4.base
      have HC4 : H3 Hp2.objs.size = none := I4.free
      have neC : ∀ b o, s2.heap.get? b = some o → b ≠ Hp2.objs.size := fun b o e => (below b (Heap.lt_size e)).1
      have neD : ∀ b o, s2.heap.get? b = some o → b ≠ s2.heap.objs.size := fun b o e => (below b (Heap.lt_size e)).2
      have hokN : HOk X.prog X.w (upd H3 s2.heap.objs.size (.lst ys)) h' := fun b u e => by
        by_cases hb : b = s2.heap.objs.size
        · subst hb
          rw [upd_same] at e
          cases e
          exact ⟨hz, its, nn, rv, up _ _ hDC pl4⟩
        · rw [upd_ne hb] at e
          refine (I4.hok b u e).stay (fun c v hc q => up c v ?_ q) (fun c q => by rw [upd_ne (ne_of_none q HD3)]; exact q) fun c xs q => by rw [upd_ne (ne_of_none q HD3)]; exact q
          rcases hc with z | z
          · rw [z]; exact ne_of_none e HC4
          · exact ne_of_none z HC4
      refine I2.call' (s' := { s4 with heap := h' }) (ch := fp) I4.os ⟨fun b o e n hb hx' => up b o (neC b o e) (base.keep b o e n hb hx'), fun b o e n hb hx' => ?_, fun b o e n hx' => ?_, fun b o e hx' => ?_, fun b xs e => ?_, fun b o u e => ?_, fun b ps e => ?_⟩ hokN I4.bare (fun b hb => ?_)
      · obtain ⟨sl, q⟩ := base.slot b o e n hb hx'
        exact ⟨sl, up b _ (neC b o e) q⟩
      · rw [upd_ne (neD b o e)]
        exact base.free b o e n hx'
      · obtain ⟨o', q⟩ := base.there b o e hx'
        exact ⟨o', up b o' (neC b o e) q⟩
      · have q := base.tups b xs e
        rw [upd_ne (ne_of_none q HD3)]; exact q
      · have q := base.frzs b o u e
        rw [upd_ne (ne_of_none q HD3)]; exact q
      · obtain ⟨more, q⟩ := base.tbls b ps e
        exact ⟨more, by rw [upd_ne (ne_of_none q HD3)]; exact q⟩
      · obtain ⟨_, g1, _, g3, g4, g5⟩ := f2 b hb
        exact ⟨g3, g1, g4, g5⟩
    · refine noErr (thn (T.item (cxC X xs Nb scope cl Hp2.objs.size s2 H2 fp) rfl rfl rfl hc i _ s3 _ H3 (fun _ _ => False) I3p (fpY fr3 pinD) st3 go) fun r s4 ⟨u, hr, h4⟩ => ?_)
      subst hr
      refine noErr (thn h4 fun _ s5 ⟨v, H5, I5, r5, y5, st5, fr5⟩ => ?_)
      have I5' := I5.pinned (fpY fr5 pinD) (T.obj _ _ st5)
      have stp := step v H5 σv lv y5
      refine noErr (thn (hg cl Hp2.objs.size s2 H2 fp _ s5 _ H5 v u _ I5' r5 stp) fun _ s6 ⟨σ6, H6, I6, ⟨pre', e6, l6⟩, stp⟩ => ?_)
      subst e6
      have again : ∀ {s7 s8 : Shared} {H7 : Hp} {zs : List V} {ws : List Value} {m' : Nat}, Inv (cxC X xs Nb scope cl Hp2.objs.size s2 H2 fp) ([((s2.heap.objs.size : Addr), ({ cls := .type "list", data := .seq its.toArray nn } : Obj))] ++ pinsAt fp s5.heap) (pre' ++ σ) H7 s7 →
          (∃ h', s8 = { s7 with heap := h' } ∧ (∀ b o, b ≠ s2.heap.objs.size → s7.heap.get? b = some o → h'.get? b = some o) ∧ h'.PlainList s2.heap.objs.size ws.toArray) → Vals zs ws → zs.length ≤ sizeLine → m' < n → W (i + 1) m' zs H7 →
          ∃ m, m < n ∧ ∃ i σv H' ys its, σv.length = xs.length ∧ Inv (cxC X xs Nb scope cl Hp2.objs.size s2 H2 fp) [] (σv ++ σ) H' s8 ∧ tn i s8.heap ∧ (∀ b ∈ fp, H' b = none) ∧ Vals ys its ∧ ys.length ≤ sizeLine ∧ s8.heap.PlainList s2.heap.objs.size its.toArray ∧ H' s2.heap.objs.size = none ∧ W i m ys H' := by
        rintro s7 s8 H7 zs ws m' I7 ⟨h', rfl, up, plw⟩ rz hzz hm w7
        have HD7 : H7 s2.heap.objs.size = none := (I7.pin _ (List.mem_append_right _ (List.mem_append_left _ List.mem_cons_self))).2.1
        have fr7 : ∀ b ∈ fp, H7 b = none := fun b hb => by
          obtain ⟨o, e, d⟩ := T.obj _ _ st5 b hb
          exact (I7.pin (b, o) (List.mem_append_right _ (List.mem_append_right _ (mem_pinsAt hb e)))).2.1
        have I7' : Inv (cxC X xs Nb scope cl Hp2.objs.size s2 H2 fp) [] (pre' ++ σ) H7 s7 := I7.pins_of fun p hp => absurd hp (by simp)
        refine ⟨m', hm, i + 1, pre', H7, zs, ws, l6, ?_, ?_, fr7, rz, hzz, plw, HD7, w7⟩
        · have := I7'.turned (it := s2.heap.objs.size) (h' := h') (t' := s7.toks) up HD7 hDC (.inr (Nat.le_refl _)) (fun y c h1 h2 => absurd (cellLt y c h1) (by rw [h2]; exact Nat.lt_irrefl _)) (fun p hp => absurd (show p ∈ ([] : List (Addr × Obj)) from hp) (by simp))
          exact this
        · refine T.keep _ _ _ st5 fun b hb o e => up b o (below b (fpLt b hb)).2 ?_
          exact (I7.pin (b, o) (List.mem_append_right _ (List.mem_append_right _ (mem_pinsAt hb e)))).1
      refine noErr (thn (ht cl Hp2.objs.size s2 H2 fp _ s6 _ H6 _ I6 stp) fun okb s7 ⟨H7, I7, q7⟩ => ?_)
      have pl7 := (I7.pin _ (List.mem_append_right _ (List.mem_append_left _ List.mem_cons_self))).1
      cases okb with
      | false =>
        rw [if_neg Bool.false_ne_true] at q7 ⊢
        obtain ⟨m', hm, w7⟩ := hNN _ _ q7
        exact again I7 ⟨s7.heap, rfl, fun _ _ _ e => e, nn, pl7⟩ rv hz hm w7
      | true =>
        rw [if_pos rfl] at q7 ⊢
        refine noErr (thn (he cl Hp2.objs.size s2 H2 fp _ s7 _ H7 _ I7 q7) fun w' s8 ⟨y, H8, I8, r8, q8⟩ => ?_)
        obtain ⟨m', hm, w8⟩ := hNN _ _ q8
        have pl8 := (I8.pin _ (List.mem_append_right _ (List.mem_append_left _ List.mem_cons_self))).1
        refine wpAny_list_append_plain (hsz := by have := rv.length; simp only [List.size_toArray]; omega) ⟨nn, pl8⟩ fun h9 pl9 sb9 => ?_
        refine again I8 ⟨h9, rfl, fun b o hb e => sb9.extBut b o hb e, ?_⟩ (rv.append (.cons r8 .nil)) (by rw [List.length_append, List.length_singleton]; omega) hm w8
        have e9 : its.toArray.push w' = (its ++ [w']).toArray := by simp
        rw [← e9]
        exact pl9
  refine codeAny_compStart_list (loop _ _ rfl) (noErr (T.self _ 0 _ _ _ (T.keep _ _ _ st2 fun b _ o e => old b o e) (loop _ _ rfl)))
theorem pe_compG {elt iter tg : Expr} {xs Nb : List Str} {ifs : List Expr} {scope : Scope} {pos : PySem.Pos} {wi : TI} {g : TG} {tt : TT} {te : TE}
    (hc : X.calm = true) (hi : PI X tg iter wi) (hlen : Nb.length = X.N.length) (hNb : ∀ p ∈ Nb.zip X.N, p.1 = p.2 ∨ scope.names.lookup p.1 = none) (hxN : ∀ y ∈ Nb, scope.names.lookup y ≠ some .local)
    (hg : InB X xs Nb scope fun Y => PG Y tg g) (ht : InB X xs Nb scope fun Y => PIf Y ifs tt) (he : InB X xs Nb scope fun Y => PE Y elt te)
    (hcell : ∀ y ∈ scope.names, y.2 ≠ .cell) (hkind : scope.kind = .function) (hnames : ∀ y ∈ scope.names, y.2 = .local → scope.names.lookup y.1 = some .local)
    (hfree : ∀ y ∈ scope.names, y.2 = .free → X.env.kindOf y.1 = some .cell)
    (hs : ∀ x, foldedSetIterable iter X.env x = pure x := by intro _; rfl) :
    PE X (.ListComp elt [⟨tg, iter, ifs, 0⟩] scope pos) (tCompG xs.length wi g tt te) := by
  intro pins s σ H Q I h
  rw [eval_ListComp]
  exact comp_core (use := none) (QQ := EP X pins σ Q) hc hi hlen hNb hxN hg ht he hcell hkind hnames hfree hs I h fun s2 s4 H2 H4 C D m4 _ _ hn _ IX q => ⟨m4, hn, fun h' sb => ⟨.ref D, H4, IX h' sb, rfl, q⟩⟩
theorem ps_compG {elt iter tg : Expr} {xs Nb : List Str} {ifs : List Expr} {scope : Scope} {pos spos py : PySem.Pos} {wi : TI} {g g2 : TG} {tt : TT} {te : TE} {y : Str}
    (hg2 : PG X (.Name y py) g2) (hsw : swapsWith (.ListComp elt [⟨tg, iter, ifs, 0⟩] scope pos) (some (.Name y py)) spos.line X.env = pure true)
    (hc : X.calm = true) (hi : PI X tg iter wi) (hlen : Nb.length = X.N.length) (hNb : ∀ p ∈ Nb.zip X.N, p.1 = p.2 ∨ scope.names.lookup p.1 = none) (hxN : ∀ y ∈ Nb, scope.names.lookup y ≠ some .local)
    (hg : InB X xs Nb scope fun Y => PG Y tg g) (ht : InB X xs Nb scope fun Y => PIf Y ifs tt) (he : InB X xs Nb scope fun Y => PE Y elt te)
    (hcell : ∀ y ∈ scope.names, y.2 ≠ .cell) (hkind : scope.kind = .function) (hnames : ∀ y ∈ scope.names, y.2 = .local → scope.names.lookup y.1 = some .local)
    (hfree : ∀ y ∈ scope.names, y.2 = .free → X.env.kindOf y.1 = some .cell)
    (hs : ∀ x, foldedSetIterable iter X.env x = pure x := by intro _; rfl) :
    PS X (.Assign [.Name y py] (.ListComp elt [⟨tg, iter, ifs, 0⟩] scope pos) spos) (tAsg (tCompG xs.length wi g tt te) g2) := by
  intro pins s σ H D I h
  rw [exec_Assign_Name_used _ _ _ _ hsw]
  refine wpAny_bind (wpAny_standAt (wpAny_bind ?_))
  show wpAny (model X.prog X.w) X.A (comprehension (.ListComp elt [⟨tg, iter, ifs, 0⟩] scope pos) scope X.env _ (newList []) false (eval iter X.env) (some (assign (.Name y py) X.env)) >>= fun _ => pure ()) _ _ s
  refine wpAny_bind (wpAny_mono (comp_core (use := some (assign (.Name y py) X.env)) (QQ := fun _ s' => SP X pins D .next s') hc hi hlen hNb hxN hg ht he hcell hkind hnames hfree hs I h ?_) (fun _ s' hq => wpAny_pure (wpAny_pure hq)) fun _ _ e => e)
  intro s2 s4 H2 H4 C R m4 I2 hC hn HC IX q
  have I4 : Inv X pins σ H4 s4 := IX s4.heap (Heap.SameBut.refl _ _)
  obtain ⟨o, es, ep, ho, hd, hn'⟩ := id hn
  have hLC : C ≠ X.env.locals := fun z => absurd (Nat.lt_of_lt_of_le I2.lt hC) (by rw [z]; exact Nat.lt_irrefl _)
  have hfsC : C ∉ X.fs := I2.nofs hC
  have I4p : Inv X ((C, o) :: pins) σ H4 s4 := I4.pins_of fun p hp => by
    rcases List.mem_cons.mp hp with rfl | z
    · exact ⟨ho, HC, hLC, hfsC, fun v z => by rw [hd] at z; cases z⟩
    · exact I4.pin p (List.mem_append_right _ z)
  show wpAny _ X.A (assign (.Name y py) X.env (.ref R)) _ _ s4
  refine thn (hg2 _ s4 σ H4 (.ref R) (.ref R) _ I4p rfl q) fun _ s5 ⟨σ5, H5, I5, q5⟩ => ?_
  have pC := I5.pin (C, o) (List.mem_append_right _ List.mem_cons_self)
  refine ⟨m4, ⟨o, es, ep, pC.1, hd, hn'⟩, fun h' sb => ⟨σ5, H5, ?_, q5⟩⟩
  have I6 : Inv X pins σ5 H5 s5 := I5.pins_of fun p hp => I5.pin p (List.mem_append_right _ (List.mem_cons_of_mem _ hp))
  exact I6.turned (it := C) (h' := h') (t' := s5.toks) (fun b o hb e => sb.extBut b o hb e) pC.2.1 hLC (.inr (Nat.le_trans I2.sz hC)) (fun y c e z => by
      obtain ⟨v, qq⟩ := I2.cell y c e
      exact absurd (Nat.lt_of_lt_of_le qq.lt hC) (by rw [z]; exact Nat.lt_irrefl _)) (fun p hp z => by
      exact absurd (Nat.lt_of_lt_of_le (Heap.lt_size (I2.pin p hp).1) hC) (by rw [z]; exact Nat.lt_irrefl _))
theorem compL {K : PySem.W.Frag} {k : Nat} {a : Addr} {xs : List V} {g : TG} {tt : TT} {te : TE} {Q : VK} {σ : St} {H : Hp} (Pv : Nat → List V → Hp → Prop) (h0 : Pv 0 [] H) (hb : xs.length ≤ 1000) (hz : ∀ i ys H, Pv i ys H → ys.length ≤ i) (hl : ∀ i ys H, i ≤ xs.length → Pv i ys H → SqL K H a xs)
    (hs : ∀ i x ys H (pre : St), pre.length = k → xs[i]? = some x → Pv i ys H → g x (pre ++ σ) H fun σ' H2 => (∃ pre' : St, σ' = pre' ++ σ ∧ pre'.length = k) ∧ tt σ' H2 fun ok H3 => if ok = true then te σ' H3 fun y H4 => Pv (i + 1) (ys ++ [y]) H4 else Pv (i + 1) ys H3) (hd : ∀ ys H, Pv xs.length ys H → ∀ D, H D = none → Q (.ref D) (upd H D (.lst ys))) : CGo k (Itl K a) g tt te Q σ H := by
  refine ⟨fun i m ys H => m = xs.length - i ∧ i ≤ xs.length ∧ Pv i ys H, ⟨xs.length, by simp, Nat.zero_le _, h0⟩, ?_⟩
  rintro i m ys H ⟨rfl, hi, p⟩
  have q := hl i ys H hi p
  by_cases hlt : i < xs.length
  · refine .inr ⟨⟨xs, xs[i], q, by simp [hlt]⟩, Nat.lt_of_le_of_lt (hz i ys H p) (small1000 (by omega)), Pv (i + 1), fun zs H' p' => ⟨xs.length - (i + 1), by omega, rfl, hlt, p'⟩, fun x H' pre hp y => ?_⟩
    obtain ⟨e, y⟩ := y
    subst e
    exact hs i x ys _ pre hp (y xs q) p
  · have e : i = xs.length := by omega
    subst e
    exact .inl ⟨⟨xs, q, Nat.le_refl _⟩, hd ys H p⟩
theorem compT {K : PySem.W.Frag} {k : Nat} {a : Addr} {xs : List V} {g : TG} {tt : TT} {te : TE} {Q : VK} {σ : St} {H : Hp} (Pv : Nat → List V → Hp → Prop) (h0 : Pv 0 [] H) (hb : xs.length ≤ 1000) (hz : ∀ i ys H, Pv i ys H → ys.length ≤ i) (hl : ∀ i ys H, i ≤ xs.length → Pv i ys H → SqT K H a xs)
    (hs : ∀ i x ys H (pre : St), pre.length = k → xs[i]? = some x → Pv i ys H → g x (pre ++ σ) H fun σ' H2 => (∃ pre' : St, σ' = pre' ++ σ ∧ pre'.length = k) ∧ tt σ' H2 fun ok H3 => if ok = true then te σ' H3 fun y H4 => Pv (i + 1) (ys ++ [y]) H4 else Pv (i + 1) ys H3) (hd : ∀ ys H, Pv xs.length ys H → ∀ D, H D = none → Q (.ref D) (upd H D (.lst ys))) : CGo k (Itt K a) g tt te Q σ H := by
  refine ⟨fun i m ys H => m = xs.length - i ∧ i ≤ xs.length ∧ Pv i ys H, ⟨xs.length, by simp, Nat.zero_le _, h0⟩, ?_⟩
  rintro i m ys H ⟨rfl, hi, p⟩
  have q := hl i ys H hi p
  by_cases hlt : i < xs.length
  · refine .inr ⟨⟨xs, xs[i], q, by simp [hlt]⟩, Nat.lt_of_le_of_lt (hz i ys H p) (small1000 (by omega)), Pv (i + 1), fun zs H' p' => ⟨xs.length - (i + 1), by omega, rfl, hlt, p'⟩, fun x H' pre hp y => ?_⟩
    obtain ⟨e, y⟩ := y
    subst e
    exact hs i x ys _ pre hp (y xs q) p
  · have e : i = xs.length := by omega
    subst e
    exact .inl ⟨⟨xs, q, Nat.le_refl _⟩, hd ys H p⟩
theorem compR {k : Nat} {lo : Int} {n : Nat} {g : TG} {tt : TT} {te : TE} {Q : VK} {σ : St} {H : Hp} (Pv : Nat → List V → Hp → Prop) (h0 : Pv 0 [] H) (hb : n ≤ 1000) (hz : ∀ i ys H, Pv i ys H → ys.length ≤ i)
    (hs : ∀ (i : Nat) ys H (pre : St), pre.length = k → i < n → Pv i ys H → g (.int (lo + i)) (pre ++ σ) H fun σ' H2 => (∃ pre' : St, σ' = pre' ++ σ ∧ pre'.length = k) ∧ tt σ' H2 fun ok H3 => if ok = true then te σ' H3 fun y H4 => Pv (i + 1) (ys ++ [y]) H4 else Pv (i + 1) ys H3) (hd : ∀ ys H, Pv n ys H → ∀ D, H D = none → Q (.ref D) (upd H D (.lst ys))) : CGo k (Itr lo n) g tt te Q σ H := by
  refine ⟨fun i m ys H => m = n - i ∧ i ≤ n ∧ Pv i ys H, ⟨n, by simp, Nat.zero_le _, h0⟩, ?_⟩
  rintro i m ys H ⟨rfl, hi, p⟩
  by_cases hlt : i < n
  · refine .inr ⟨hlt, Nat.lt_of_le_of_lt (hz i ys H p) (small1000 (by omega)), Pv (i + 1), fun zs H' p' => ⟨n - (i + 1), by omega, rfl, hlt, p'⟩, fun x H' pre hp y => ?_⟩
    obtain ⟨e, y⟩ := y
    subst e y
    exact hs i ys _ pre hp hlt p
  · have e : i = n := by omega
    subst e
    exact .inl ⟨Nat.le_refl _, hd ys H p⟩
end
end L2
set_option Elab.async false
set_option linter.all false
set_option maxRecDepth 100000
set_option maxHeartbeats 4000000
namespace L2
open PySem PySem.Spec PyProof.Rows
section
variable {X : Cx}
section
variable {prog : Program} {w : World} {A : Around} {R : Result → Shared → Prop} {s : Shared}
abbrev e2 (elt tg iter : Expr) (ifs : List Expr) (tg2 iter2 : Expr) (ifs2 : List Expr) (scope : Scope) (pos : PySem.Pos) : Expr := .ListComp elt [⟨tg, iter, ifs, 0⟩, ⟨tg2, iter2, ifs2, 0⟩] scope pos
end
end
end L2
set_option Elab.async false
set_option linter.all false
set_option maxRecDepth 100000
set_option maxHeartbeats 4000000
namespace L2
open PySem PySem.Spec PyProof.Rows
section
variable {X : Cx}
theorem pg_tupK {K : PySem.W.Frag} {es : List Expr} {k : Nat} {t : TGs} {n : Nat} {pos : PySem.Pos} (hc : X.calm = true) (h : PGs X es t) (hK : X.K = K := by rfl)
    (hn : (assignEach es X.env).length = n := by rfl) (hst : (assignEach es X.env).findIdx? (·.1) = none := by rfl) : PG X (.Tuple es k pos) (gTup K n t) := by
  subst hK; exact pg_tup hc h hn hst
theorem sl_listK {K : PySem.W.Frag} (hK : X.K = K := by rfl) : SlR X (rSlL K) := by subst hK; exact sl_list
end
def dT (ns : List Int) : PyData := .tuple (ns.map .int)
theorem eqvAll_ints : ∀ ns ms : List Int, PyData.eqvAll (ns.map .int) (ms.map .int) = decide (ns = ms)
  | [], [] => rfl
  | [], _ :: _ => rfl
  | _ :: _, [] => rfl
  | n :: ns, m :: ms => by
    show (PyData.eqv (.int n) (.int m) && PyData.eqvAll (ns.map .int) (ms.map .int)) = _
    rw [eqvAll_ints ns ms]
    show ((n == m) && _) = _
    by_cases h : n = m
    · subst h; by_cases h2 : ns = ms <;> simp [h2]
    · simp [h]
theorem eqv_dT (ns ms : List Int) : PyData.eqv (dT ns) (dT ms) = decide (ns = ms) := eqvAll_ints ns ms
theorem lay_ints : ∀ ns : List Int, PyData.canLayAll0 (ns.map .int) = true
  | [] => rfl
  | _ :: ns => by show (true && _) = true; rw [lay_ints ns]; rfl
theorem lay_dT (ns : List Int) : (dT ns).canLay0 = true := lay_ints ns
theorem dep_ints : ∀ ns : List Int, PyData.depthAll (ns.map .int) = 0
  | [] => rfl
  | _ :: ns => by show max 0 _ = 0; rw [dep_ints ns]; rfl
def Tups (H H' : Hp) : Prop := ∀ b ys, H b = some (.tup ys) → H' b = some (.tup ys)
theorem Tups.refl (H : Hp) : Tups H H := fun _ _ h => h
theorem Tups.trans {H H1 H2 : Hp} (a : Tups H H1) (b : Tups H1 H2) : Tups H H2 := fun c y h => b c y (a c y h)
theorem Tups.lst {H H1 : Hp} {p : Addr} {xs ys : List V} (a : Tups H H1) (h : H1 p = some (.lst xs)) : Tups H (upd H1 p (.lst ys)) := fun c y e => by
  have := a c y e
  have hn : c ≠ p := fun z => by rw [z, h] at this; cases this
  rw [upd_ne hn]; exact this
theorem Same.tups {H H' : Hp} (s : Same H H') : Tups H H' := fun b ys e => s b _ e
def tot (L : List (Int × List Int)) : Int := (L.map (·.1)).sum
theorem take_succ' {α : Type} {L : List α} {i : Nat} {e : α} (h : L[i]? = some e) : L.take (i + 1) = L.take i ++ [e] := by
  rw [List.take_add_one, h]; rfl
end L2
set_option Elab.async false
set_option linter.all false
set_option maxRecDepth 100000
set_option maxHeartbeats 4000000
namespace L2
open PySem PySem.Spec PyProof.Rows
section
variable {X : Cx}
theorem preSum_take (ns : List Int) : ∀ n, preSum (fun i => ns.getD i 0) n = (ns.take n).sum
  | 0 => rfl
  | n + 1 => by
    show preSum _ n + ns.getD n 0 = _
    rw [preSum_take ns n, List.take_add_one, List.getD_eq_getElem?_getD]
    cases ns[n]? with
    | none => simp
    | some z => simp
theorem call_sum (hc : X.calm = true) : CallR X (.builtin "sum") (fun xs H Q => ∃ (p : Addr) (ns : List Int), xs = [.ref p] ∧ SqL X.K H p (ns.map V.int) ∧ Q (.int ns.sum) H) := by
  intro pins s σ H xs us Q I r h
  obtain ⟨p, ns, rfl, hq, q⟩ := h
  obtain ⟨u, rfl, rx⟩ := vals1 r
  cases rx
  obtain ⟨its, rv, pl, hz⟩ := I.list hq
  have hlt : p < s.heap.objs.size := by
    obtain ⟨o, e, _⟩ := pl.isList
    exact Heap.lt_size e
  have hlen : its.length = ns.length := by have := rv.length; rw [List.length_map] at this; exact this.symm
  refine call_sum_walkAnyS (wpAny_pyIter_list pl.isList ?_)
  refine ⟨_, _, _, _, _, _, _, fun i => ns.getD i 0, rfl, (Walks.list (A := X.A.in1) (I.ok.hd hc) s.heap.objs.size p (Nat.ne_of_lt hlt) its.toArray).toS, ?_, ?_, ?_, fun s' t' hm => ?_⟩
  · exact ⟨⟨_, Heap.get?_push_size _ rfl, rfl, rfl⟩, (let ⟨o, e, c⟩ := pl.isList; ⟨o, Heap.get?_push_of_some _ e, c⟩)⟩
  · intro b hb
    simp at hb
    rcases hb with rfl | rfl
    · simp [Heap.size_push]
    · rw [Heap.size_push]; exact Nat.lt_succ_of_lt hlt
  · intro i v hP
    have hv : its[i]? = some v := by simpa using hP
    have hil : i < ns.length := by rw [← hlen]; exact (List.getElem?_eq_some_iff.mp hv).1
    obtain ⟨u, e, ru⟩ := rv.get (x := V.int (ns.getD i 0)) (i := i) (by rw [List.getElem?_map, List.getElem?_eq_getElem hil, List.getD_eq_getElem?_getD, List.getElem?_eq_getElem hil]; rfl)
    rw [hv] at e
    cases e
    exact ru
  · have e : preSum (fun i => ns.getD i 0) its.toArray.size = ns.sum := by
      rw [List.size_toArray, hlen, preSum_take, List.take_length]
    rw [e]
    obtain ⟨hk, hg, hd, ho, ht⟩ := hm
    refine ⟨.int _, H, ?_, ⟨t', rfl⟩, q⟩
    have es : s' = { s with heap := s'.heap, toks := s'.toks } := by
      cases s'; simp_all
    rw [es]
    exact I.kept fun b o eb => hk b o (by simp; exact Nat.ne_of_lt (Heap.lt_size eb)) (Heap.get?_push_of_some _ eb)
end
end L2
set_option Elab.async false
set_option linter.all false
set_option maxRecDepth 100000
set_option maxHeartbeats 4000000
namespace L2
open PySem PySem.Spec PyProof.Rows
section
variable {X : Cx}
section
variable {prog : Program} {w : World} {A : Around} {E : Value → Shared → Prop} {s : Shared}
theorem draw_lst {it t : Addr} {items : Array Value} (hne : t ≠ it) (n : Nat) : ∀ (i : Nat) (s : Shared) (Q : List Value → Shared → Prop), s.heap.IsListIter it t i → s.heap.IsList t items → i + n ≤ items.size →
    (∀ h', h'.IsListIter it t (i + n) → Heap.SameBut it s.heap h' → Q ((items.toList.drop i).take n) { s with heap := h' }) → wpAny (model prog w) A (draw (.ref it) n) Q E s := by
  induction n with
  | zero =>
    intro i s Q a _ _ hQ
    refine wpAny_pure ?_
    have := hQ s.heap a (Heap.SameBut.refl ..)
    simpa using this
  | succ n ih =>
    intro i s Q a b hle hQ
    have lt : i < items.size := by omega
    refine wpAny_bind (m := pyNext (.ref it)) (wpAny_pyNext_list_item a b (x := items[i]) (by simp [lt]) fun h1 a1 s1 => ?_)
    refine wpAny_bind (wpAny_holding (ih (i + 1) _ _ a1 (b.extBut s1.extBut hne) (by omega) fun h2 a2 s2 => wpAny_pure ?_))
    have := hQ h2 (by rw [show i + (n + 1) = i + 1 + n by omega]; exact a2) (s1.trans s2)
    rw [show items.toList.drop i = items[i] :: items.toList.drop (i + 1) by simp [List.drop_eq_getElem_cons, lt], List.take_succ_cons] at this
    exact this
theorem unpack_lst {t : Addr} {items : Array Value} {Q : List Value → Shared → Prop} (hh : A.handled = none) (ht : s.heap.IsList t items)
    (hQ : ∀ h', Heap.ExtBut s.heap.objs.size s.heap h' → Q items.toList { s with heap := h' }) : wpAny (model prog w) A (unpackItems (.ref t) items.size none) Q E s := by
  have ne : t ≠ s.heap.objs.size := by obtain ⟨o, ho, _⟩ := ht; exact Nat.ne_of_lt (Heap.lt_size ho)
  unfold unpackItems notIterableAtAll
  refine wpAny_bind (wpAny_bind (wpAny_specialOf ht.typeIs slot_list_iter.lookup (wpAny_pure ?_)))
  simp only [Bool.false_eq_true, if_false]
  refine wpAny_bind (wpAny_holding (wpAny_pyIter_list ht ?_))
  refine wpAny_bind (wpAny_holding (draw_lst ne items.size 0 _ _ ⟨_, Heap.get?_push_size _ rfl, rfl, rfl⟩ (ht.push _) (by omega) fun h1 a1 s1 => ?_))
  rw [show List.take items.size (List.drop 0 items.toList) = items.toList by rw [List.drop_zero]; exact List.take_of_length_le (by simp), if_neg (by simp)]
  have t1 : h1.IsList t items := (ht.push _).extBut s1.extBut ne
  refine wpAny_bind (wpAny_holding (wpAny_pyNext_list_end hh a1 t1 (by simp) fun h2 e2 => ?_))
  simp only [Option.isSome_none, Bool.false_eq_true, if_false]
  exact wpAny_pure (hQ h2 fun b o hb e => e2 b o hb (s1.extBut b o hb (Heap.get?_push_of_some _ e)))
end
def gLst (K : PySem.W.Frag) (n : Nat) (t : TGs) : TG := fun v σ H Q => ∃ a xs, v = .ref a ∧ SqL K H a xs ∧ xs.length = n ∧ t xs σ H Q
theorem pg_lst {es : List Expr} {k : Nat} {t : TGs} {n : Nat} {pos : PySem.Pos} (hc : X.calm = true) (h : PGs X es t)
    (hn : (assignEach es X.env).length = n := by rfl) (hst : (assignEach es X.env).findIdx? (·.1) = none := by rfl) : PG X (.Tuple es k pos) (gLst X.K n t) := by
  intro pins s σ H v u Q I r hw
  obtain ⟨a, xs, rfl, hq, hl, hw⟩ := hw
  cases r
  obtain ⟨its, rv, pl, hz⟩ := I.list hq
  rw [arm_assign_Tuple]
  refine wpAny_bind (wpAny_standAt ?_)
  unfold unpack
  rw [hst, show (assignEach es X.env).length = its.toArray.size by simp [hn, ← hl, rv.length]]
  refine wpAny_bind (wpAny_holding (unpack_lst (I.ok.hd hc) pl.isList fun h' hx => ?_))
  have I1 : Inv X pins σ H { s with heap := h' } := I.kept (t' := s.toks) fun b o e => hx b o (Nat.ne_of_lt (Heap.lt_size e)) e
  exact h pins _ σ H xs _ Q I1 (by simpa using rv) hw
end
end L2
set_option Elab.async false
set_option linter.all false
set_option maxRecDepth 100000
set_option maxHeartbeats 4000000
namespace L2
abbrev WL := List (Int × List Int)
def mx (i j : Int) : Int := if j > i then j else i
def Pos (L : WL) : Prop := ∀ e ∈ L, 0 < e.1
end L2
set_option Elab.async false
set_option linter.all false
set_option maxRecDepth 100000
set_option maxHeartbeats 4000000
namespace L2
open PySem PySem.Spec PyProof.Rows
inductive Th (H : Hp) : V → PyData → Prop where
  | non : Th H .non .none
  | bl (b : Bool) : Th H (.bl b) (.bool b)
  | int (i : Int) : Th H (.int i) (.int i)
  | str (x : Str) : Th H (.str x) (.str x)
  | tup {a : Addr} {xs : List V} {ds : List PyData} : H a = some (.tup xs) → xs.length = ds.length → (∀ (i : Nat) (x : V) (d : PyData), xs[i]? = some x → ds[i]? = some d → Th H x d) → Th H (.ref a) (.tuple ds)
  | lst {a : Addr} {xs : List V} {ds : List PyData} : H a = some (.lst xs) → xs.length = ds.length → (∀ (i : Nat) (x : V) (d : PyData), xs[i]? = some x → ds[i]? = some d → Th H x d) → Th H (.ref a) (.list ds)
theorem Th.di {K : PySem.W.Frag} {H : Hp} {x : V} {d : PyData} (h : Th H x d) : DI K H x d := by
  induction h with
  | non => exact .non
  | bl b => exact .bl b
  | int i => exact .int i
  | str x => exact .str x
  | tup a b _ ih => exact .tup (SqT.of a) b ih
  | lst a b _ ih => exact .lst (SqL.of a) b ih
def tyName : PyData → String
  | .none => "NoneType"
  | .bool _ => "bool"
  | .int _ => "int"
  | .str _ => "str"
  | .list _ => "list"
  | .tuple _ => "tuple"
  | .dict _ => "dict"
theorem Th.ty {K : PySem.W.Frag} {H : Hp} {x : V} {d : PyData} (h : Th H x d) : TyOf K H x (.type (tyName d)) := by
  cases h with
  | non => exact .non
  | bl b => exact .bl b
  | int i => exact .int i
  | str x => exact .str x
  | tup a _ _ => exact .tup a
  | lst a _ _ => exact .lst a
def isInt : PyData → Bool
  | .int _ | .bool _ => true
  | _ => false
def isBool : PyData → Bool
  | .bool _ => true
  | _ => false
theorem kit_int {K : PySem.W.Frag} (d : PyData) : PySem.W.kitOne K (.type (tyName d)) (.type "int") = some (isInt d) := by
  cases d <;> with_unfolding_all rfl
theorem kit_bool {K : PySem.W.Frag} (d : PyData) : PySem.W.kitOne K (.type (tyName d)) (.type "bool") = some (isBool d) := by
  cases d <;> with_unfolding_all rfl
section
variable {X : Cx} {es : List Expr} {te : TE} {t : TA}
theorem pa_Constant {c : Const} {j : Nat} {p : PySem.Pos} (ha : PE X (.Constant c j p) te) (hr : PA X es t) : PA X (.Constant c j p :: es) (tCons te t) := pa_cons ha hr rfl
theorem pa_Name {x : Str} {p : PySem.Pos} (ha : PE X (.Name x p) te) (hr : PA X es t) : PA X (.Name x p :: es) (tCons te t) := pa_cons ha hr rfl
theorem pa_Tuple {l : List Expr} {k : Nat} {p : PySem.Pos} (ha : PE X (.Tuple l k p) te) (hr : PA X es t) : PA X (.Tuple l k p :: es) (tCons te t) := pa_cons ha hr rfl
theorem pa_BinOp {a b : Expr} {o : Operator} {p : PySem.Pos} (ha : PE X (.BinOp a o b p) te) (hr : PA X es t) : PA X (.BinOp a o b p :: es) (tCons te t) := pa_cons ha hr rfl
theorem pa_Subscript {a b : Expr} {p : PySem.Pos} (ha : PE X (.Subscript a b p) te) (hr : PA X es t) : PA X (.Subscript a b p :: es) (tCons te t) := pa_cons ha hr rfl
theorem pa_Call {f : Expr} {l : List Expr} {kw : List Keyword} {p : PySem.Pos} (ha : PE X (.Call f l kw p) te) (hr : PA X es t) : PA X (.Call f l kw p :: es) (tCons te t) := pa_cons ha hr rfl
end
theorem pa_o2 {X : Cx} {e1 e2 : Expr} {t1 t2 : TE} {es : List Expr} {t : TA} (h1 : PE X e1 t1) (h2 : PE X e2 t2) (hr : PA X es t) (s1 : ∀ l, starEach (e1 :: l) X.env = (false, eval e1 X.env) :: starEach l X.env := by intro _; rfl) (s2 : ∀ l, starEach (e2 :: l) X.env = (false, eval e2 X.env) :: starEach l X.env := by intro _; rfl) : PA X (e1 :: e2 :: es) (tCons t1 (tCons t2 t)) := (pa_cons h1 (pa_cons h2 hr (s2 _)) (s1 _))
theorem pa_o3 {X : Cx} {e1 e2 e3 : Expr} {t1 t2 t3 : TE} {es : List Expr} {t : TA} (h1 : PE X e1 t1) (h2 : PE X e2 t2) (h3 : PE X e3 t3) (hr : PA X es t) (s1 : ∀ l, starEach (e1 :: l) X.env = (false, eval e1 X.env) :: starEach l X.env := by intro _; rfl) (s2 : ∀ l, starEach (e2 :: l) X.env = (false, eval e2 X.env) :: starEach l X.env := by intro _; rfl) (s3 : ∀ l, starEach (e3 :: l) X.env = (false, eval e3 X.env) :: starEach l X.env := by intro _; rfl) : PA X (e1 :: e2 :: e3 :: es) (tCons t1 (tCons t2 (tCons t3 t))) := (pa_cons h1 (pa_cons h2 (pa_cons h3 hr (s3 _)) (s2 _)) (s1 _))
theorem pa_o4 {X : Cx} {e1 e2 e3 e4 : Expr} {t1 t2 t3 t4 : TE} {es : List Expr} {t : TA} (h1 : PE X e1 t1) (h2 : PE X e2 t2) (h3 : PE X e3 t3) (h4 : PE X e4 t4) (hr : PA X es t) (s1 : ∀ l, starEach (e1 :: l) X.env = (false, eval e1 X.env) :: starEach l X.env := by intro _; rfl) (s2 : ∀ l, starEach (e2 :: l) X.env = (false, eval e2 X.env) :: starEach l X.env := by intro _; rfl) (s3 : ∀ l, starEach (e3 :: l) X.env = (false, eval e3 X.env) :: starEach l X.env := by intro _; rfl) (s4 : ∀ l, starEach (e4 :: l) X.env = (false, eval e4 X.env) :: starEach l X.env := by intro _; rfl) : PA X (e1 :: e2 :: e3 :: e4 :: es) (tCons t1 (tCons t2 (tCons t3 (tCons t4 t)))) := (pa_cons h1 (pa_cons h2 (pa_cons h3 (pa_cons h4 hr (s4 _)) (s3 _)) (s2 _)) (s1 _))
theorem sw_sub {a b : Expr} {p : PySem.Pos} {t : Option Expr} {l : Nat} {env : Env} : swapsWith (.Subscript a b p) t l env = pure false := rfl
end L2
set_option Elab.async false
set_option linter.all false
set_option maxRecDepth 100000
set_option maxHeartbeats 1000000
namespace L2
open PySem PySem.Spec PyProof.Rows
section
variable {X : Cx} {pins : List (Addr × Obj)} {σ : St} {H : Hp} {s : Shared} {h' : Heap}
theorem Inv.turnedNew {t' : Nat} {ch : List Addr} {p : Addr} {xs : List V} (I : Inv X pins σ H s) (k : ∀ b o, b ∉ ch → s.heap.get? b = some o → h'.get? b = some o) (hf : ∀ b ∈ ch, FpOk X pins H b) (hp : s.heap.objs.size ≤ p)
    (new : ObjOk X.prog X.w (upd H p (.tup xs)) h' p (.tup xs)) : Inv X pins σ (upd H p (.tup xs)) { s with heap := h', toks := t' } := by
  have hn : H p = none := I.hok.fresh hp
  have nit : ∀ b u, H b = some u → b ∉ ch := fun b u e z => by rw [(hf b z).1] at e; cases e
  have nL : X.env.locals ∉ ch := fun z => (hf _ z).2.1 rfl
  refine I.step (g' := s.gens) (d' := s.drawn) (ch := ch) (fun b hb => ?_) (fun b o _ _ hc e _ => k b o hc e) (fun b o _ _ hc e _ => ⟨o.slots, k b o hc e⟩) (fun b o _ e n => ?_)
    (fun b o hc e => ⟨o, k b o hc e⟩) (fun b xs e => ?_) (fun b o u e => ?_) (fun b ps e => ⟨#[], ?_⟩) (fun m hm => ?_) (fun b u e => ?_) I.bare
  · obtain ⟨f0, f1, f2, f3, f4, f5⟩ := hf b hb
    exact ⟨f3, f1, f4, f5⟩
  · rw [upd_ne (fun z => by rw [z] at e; exact absurd (Nat.lt_of_lt_of_le (Heap.lt_size e) hp) (Nat.lt_irrefl _))]
    exact n
  · rw [upd_ne (ne_of_none e hn)]; exact e
  · rw [upd_ne (ne_of_none e hn)]; exact e
  · rw [upd_ne (ne_of_none e hn), e]; simp
  · obtain ⟨o, es, ep, ho, r⟩ := hm
    exact ⟨o, es, ep, k _ o nL ho, r⟩
  · by_cases hb : b = p
    · subst hb; rw [upd_same] at e; cases e; exact new
    · rw [upd_ne hb] at e
      refine (I.hok b u e).stay (fun c v hc q => k c v ?_ q) (fun c q => by rw [upd_ne (ne_of_none q hn)]; exact q) fun c xs q => by rw [upd_ne (ne_of_none q hn)]; exact q
      rcases hc with z | z
      · rw [z]; exact nit b u e
      · exact nit c _ z
theorem Inv.turnedL {t' : Nat} {ch : List Addr} (I : Inv X pins σ H s) (k : ∀ b o, b ∉ ch → s.heap.get? b = some o → h'.get? b = some o) (hf : ∀ b ∈ ch, FpOk X pins H b) : Inv X pins σ H { s with heap := h', toks := t' } := by
  have nit : ∀ b u, H b = some u → b ∉ ch := fun b u e z => by rw [(hf b z).1] at e; cases e
  have nL : X.env.locals ∉ ch := fun z => (hf _ z).2.1 rfl
  refine I.step (g' := s.gens) (d' := s.drawn) (ch := ch) (fun b hb => ?_) (fun b o _ _ hc e _ => k b o hc e) (fun b o _ _ hc e _ => ⟨o.slots, k b o hc e⟩) (fun b o _ e n => n)
    (fun b o hc e => ⟨o, k b o hc e⟩) (fun b xs e => e) (fun b o u e => e) (fun b ps e => ⟨#[], by rw [e]; simp⟩) (fun m hm => ?_) (fun b u e => ?_) I.bare
  · obtain ⟨f0, f1, f2, f3, f4, f5⟩ := hf b hb
    exact ⟨f3, f1, f4, f5⟩
  · obtain ⟨o, es, ep, ho, r⟩ := hm
    exact ⟨o, es, ep, k _ o nL ho, r⟩
  · refine (I.hok b u e).stay (fun c v hc q => k c v ?_ q) (fun _ q => q) fun _ _ q => q
    rcases hc with z | z
    · rw [z]; exact nit b u e
    · exact nit c _ z
end
end L2
set_option Elab.async false
set_option linter.all false
set_option maxRecDepth 100000
set_option maxHeartbeats 1000000
namespace L2
open PySem PySem.Spec PyProof.Rows
def ThL (H : Hp) (xs : List V) (ds : List PyData) : Prop := xs.length = ds.length ∧ ∀ (i : Nat) (x : V) (d : PyData), xs[i]? = some x → ds[i]? = some d → Th H x d
theorem ThL.nil {H : Hp} : ThL H [] [] := ⟨rfl, fun i x d h => by simp at h⟩
theorem ThL.cons {H : Hp} {x : V} {d : PyData} {xs : List V} {ds : List PyData} (h : Th H x d) (k : ThL H xs ds) : ThL H (x :: xs) (d :: ds) := by
  refine ⟨by rw [List.length_cons, List.length_cons, k.1], fun i y e h1 h2 => ?_⟩
  cases i with
  | zero => cases h1; cases h2; exact h
  | succ i => exact k.2 i y e h1 h2
theorem ThL.tup {H : Hp} {a : Addr} {xs : List V} {ds : List PyData} (k : ThL H xs ds) (h : H a = some (.tup xs)) : Th H (.ref a) (.tuple ds) := .tup h k.1 k.2
theorem ThL.lst {H : Hp} {a : Addr} {xs : List V} {ds : List PyData} (k : ThL H xs ds) (h : H a = some (.lst xs)) : Th H (.ref a) (.list ds) := .lst h k.1 k.2
theorem ThL.ints {H : Hp} (ns : List Int) : ThL H (ns.map V.int) (ns.map .int) := by
  refine ⟨by simp, fun i x d h1 h2 => ?_⟩
  rw [List.getElem?_map] at h1 h2
  cases z : ns[i]? with
  | none => rw [z] at h1; cases h1
  | some n => rw [z] at h1 h2; cases h1; cases h2; exact .int n
theorem sIx_nat {n m d : Nat} (h : m ≤ n) : HT.sIx n d (some (m : Int)) = m := by
  rw [HT.sIx_nat]
  exact Nat.min_eq_left h
theorem cutV_take {xs : List V} {n : Nat} (h : n ≤ xs.length) : cutV xs none (some (n : Int)) = xs.take n := by
  unfold cutV
  rw [sIx_nat h]
  show (xs.drop 0).take (n - 0) = _
  simp
theorem cutV_drop {xs : List V} {n : Nat} (h : n ≤ xs.length) : cutV xs (some (n : Int)) none = xs.drop n := by
  unfold cutV
  rw [sIx_nat h]
  show (xs.drop n).take (xs.length - n) = _
  rw [List.take_of_length_le (by simp)]
end L2
set_option Elab.async false
set_option linter.all false
set_option maxRecDepth 100000
set_option maxHeartbeats 1000000
set_option Elab.async false
set_option linter.all false
set_option maxRecDepth 100000
set_option maxHeartbeats 1000000
set_option Elab.async false
set_option linter.all false
set_option maxRecDepth 100000
set_option maxHeartbeats 1000000
set_option Elab.async false
set_option linter.all false
set_option maxRecDepth 100000
set_option maxHeartbeats 2000000
set_option Elab.async false
set_option linter.all false
set_option maxRecDepth 100000
set_option maxHeartbeats 4000000
namespace L2
open PySem PySem.Spec PyProof.Rows
def ddStep (acc : List Int) (k : Int) : List Int := if k ∈ acc then acc else acc ++ [k]
def dd (ns : List Int) : List Int := ns.foldl ddStep []
end L2
set_option Elab.async false
set_option linter.all false
set_option maxRecDepth 100000
set_option maxHeartbeats 4000000
set_option Elab.async false
set_option linter.all false
set_option maxRecDepth 100000
set_option maxHeartbeats 4000000
set_option Elab.async false
set_option linter.all false
set_option maxRecDepth 100000
set_option maxHeartbeats 4000000
set_option Elab.async false
set_option linter.all false
set_option maxRecDepth 100000
set_option maxHeartbeats 4000000
set_option Elab.async false
set_option linter.all false
set_option maxRecDepth 100000
set_option maxHeartbeats 1000000
set_option Elab.async false
set_option linter.all false
set_option maxRecDepth 100000
set_option maxHeartbeats 1000000
set_option Elab.async false
set_option linter.all false
set_option maxRecDepth 100000
set_option maxHeartbeats 1000000
set_option Elab.async false
set_option linter.all false
set_option maxRecDepth 100000
set_option maxHeartbeats 1000000
namespace L2
open PySem PySem.Spec PyProof.Rows
section
variable {prog : Program} {w : World} {A : Around} {E : Value → Shared → Prop} {s : Shared}
theorem nxT {it t : Addr} {i : Nat} {its : Array Value} {x : Value} {Q : Value → Shared → Prop} (st : s.heap.IsTupleIter it t i) (ht : s.heap.IsTuple t its) (hx : its[i]? = some x)
    (k : ∀ h', h'.IsTupleIter it t (i + 1) → Heap.SameBut it s.heap h' → Q x { s with heap := h' }) : wpAny (model prog w) A (Builtin.SmallTypes.nextOf (.ref it)) Q E s := by
  obtain ⟨o, e, c, d⟩ := id st
  obtain ⟨ot, et, _, m, dt⟩ := ht
  unfold Builtin.SmallTypes.nextOf
  refine wpAny_bind (wpAny_callSpecial?_slot (name := Str.ofString "__next__") st.typeIs F.slot_tuple_iterator_next (wpAny_call_entry F.slot_tuple_iterator_next st.typeIs F.entry_tuple_iterator_next (show wpAny _ _ (field (.ref it) 0 >>= _) _ _ s from wpAny_bind (wpAny_field e d (x := .ref t) rfl ?_)) (F.args_tuple_iterator_next_1 _)))
  show wpAny _ _ (if (Value.ref t == Value.none) = true then _ else _) _ _ s
  rw [if_neg (show ¬ (Value.ref t == Value.none) = true by intro z; exact Bool.false_ne_true z)]
  refine (show wpAny _ _ (field (.ref it) 1 >>= _) _ _ s from wpAny_bind (wpAny_field e d (x := .int i 0) rfl (show wpAny _ _ (seqItems? (.ref t) >>= _) _ _ s from wpAny_bind (wpAny_seqItems et dt ?_))))
  simp only [Int.toNat_natCast, hx]
  refine wpAny_bind (wpAny_setField e d (by simp) (wpAny_pure ⟨x, rfl, wpAny_pure (k _ ⟨_, Heap.get?_update_self _ e (Obj.isFreed_of_fields (Obj.data_mapFields d _)), (Obj.cls_mapFields ..).trans c, ?_⟩ (Heap.SameBut.update ..))⟩))
  rw [Obj.data_mapFields d]
  simp [rawInt]
theorem nxTe {it t : Addr} {i : Nat} {its : Array Value} {Q : Value → Shared → Prop} (hh : A.handled = none) (st : s.heap.IsTupleIter it t i) (ht : s.heap.IsTuple t its) (hx : its[i]? = none)
    (k : ∀ h' e, Heap.ExtBut it s.heap h' → (∃ o, h'.get? e = some o ∧ o.cls = .type "StopIteration") → E (.ref e) { s with heap := h' }) : wpAny (model prog w) A (Builtin.SmallTypes.nextOf (.ref it)) Q E s := by
  obtain ⟨o, e, c, d⟩ := id st
  obtain ⟨ot, et, _, m, dt⟩ := ht
  unfold Builtin.SmallTypes.nextOf
  refine wpAny_bind (wpAny_callSpecial?_slot (name := Str.ofString "__next__") st.typeIs F.slot_tuple_iterator_next (wpAny_call_entry F.slot_tuple_iterator_next st.typeIs F.entry_tuple_iterator_next (show wpAny _ _ (field (.ref it) 0 >>= _) _ _ s from wpAny_bind (wpAny_field e d (x := .ref t) rfl ?_)) (F.args_tuple_iterator_next_1 _)))
  show wpAny _ _ (if (Value.ref t == Value.none) = true then _ else _) _ _ s
  rw [if_neg (show ¬ (Value.ref t == Value.none) = true by intro z; exact Bool.false_ne_true z)]
  refine (show wpAny _ _ (field (.ref it) 1 >>= _) _ _ s from wpAny_bind (wpAny_field e d (x := .int i 0) rfl (show wpAny _ _ (seqItems? (.ref t) >>= _) _ _ s from wpAny_bind (wpAny_seqItems et dt ?_))))
  simp only [Int.toNat_natCast, hx]
  refine wpAny_bind (wpAny_rule (wpAny_bind (wpAny_setField e d (by simp) (show wpAny _ _ (newExc (.type "StopIteration") [] >>= _) _ _ _ from wpAny_bind ?_))))
  simp only [newExc, newTuple]
  refine wpAny_bind (wpAny_newObj_type (wpAny_bind (m := firstArgMember _ _) (wpAny_of_eq (a := Value.none) (by first | rfl | (simp only [firstArgMember]; rfl)) (wpAny_newObj_type ?_ (by size_fits)))) (by size_fits))
  simp only [raiseNew]
  refine wpAny_bind (wpAny_handled ?_)
  first | rw [show A.in1.handled = none from hh] | rw [hh]
  exact wpAny_bind (wpAny_pure (wpAny_throw (k _ _ (((Heap.SameBut.update ..).extBut.push _).push _) ⟨_, Heap.get?_push_size _ rfl, rfl⟩)))
end
end L2
set_option Elab.async false
set_option linter.all false
set_option maxRecDepth 100000
set_option Elab.async false
set_option linter.all false
set_option maxRecDepth 100000
set_option maxHeartbeats 1000000
namespace L2
open PySem PySem.Spec PyProof.Rows
def Ite (K : PySem.W.Frag) (a : Addr) : It :=
  ⟨fun i H => ∃ xs x, SqL K H a xs ∧ xs[i]? = some x,
   fun i H v H' => ∃ p x, v = .ref p ∧ H p = none ∧ H' = upd H p (.tup [.int (i : Int), x]) ∧ ∀ xs, SqL K H a xs → xs[i]? = some x,
   fun i H => ∃ xs, SqL K H a xs ∧ xs[i]? = none⟩
def EnumAt (e it a : Addr) (i : Nat) (h : Heap) : Prop := (∃ old, IsEnum h e it (i : Int) old) ∧ h.IsListIter it a i
theorem turn_enum {P : Program} {w : World} {K : PySem.W.Frag} {es : List Expr} {k : Nat} {pos : PySem.Pos} (a e it : Addr) (hei : e ≠ it) (hle : a ≠ e) (hli : a ≠ it) : Turn P w K (.Tuple es k pos) (Ite K a) [e, it] e (EnumAt e it a) where
  mem := by simp
  obj := fun i h st c hc => by
    obtain ⟨⟨old, he⟩, ⟨o1, e1, c1, d1⟩⟩ := st
    simp only [List.mem_cons, List.not_mem_nil, or_false] at hc
    rcases hc with rfl | rfl
    · exact ⟨_, he, fun v q => by cases q⟩
    · exact ⟨o1, e1, fun v q => by rw [d1] at q; cases q⟩
  keep := fun i h h' st q => by
    obtain ⟨⟨old, he⟩, l1⟩ := st
    exact ⟨⟨old, q _ (by simp) _ he⟩, l1.at fun o x => q _ (by simp) o x⟩
  item := by
    intro X hP hw hK hc i pins s σ H E I hf st hg
    subst hP hw hK
    obtain ⟨xs, x, hq1, hx⟩ := hg
    obtain ⟨⟨old, he⟩, l1⟩ := st
    obtain ⟨its1, rv1, p1, _⟩ := I.list hq1
    obtain ⟨ux, hux, rux⟩ := rv1.get hx
    refine wpAny_pyNext_enum_item he l1 p1.isList (x := ux) (by simpa using hux) hei fun h' z1 j1 T1 sz kp => ?_
    refine ⟨_, rfl, wpAny_letOwnedTupleGo_enum z1 fun h2 z2 sb => ?_⟩
    have helt : e < s.heap.objs.size := Heap.lt_size he
    have hpe : s.heap.objs.size ≠ e := Nat.ne_of_gt helt
    have T2 := sb.extBut _ _ hpe T1
    have kp2 : ∀ c o, c ∉ [e, it] → s.heap.get? c = some o → h2.get? c = some o := fun c o hc x => by
      simp only [List.mem_cons, List.not_mem_nil, or_false, not_or] at hc
      exact sb.extBut _ _ hc.1 (kp c o hc.1 hc.2 x)
    have I2 : Inv X pins σ (upd H s.heap.objs.size (.tup [.int (i : Int), x])) { s with heap := h2, toks := s.toks + 1 } := I.turnedNew kp2 hf (Nat.le_refl _) ⟨by show 2 ≤ sizeLine; decide, [.int (i : Int) s.toks, ux], .cons ⟨_, rfl⟩ (.cons rux .nil), ⟨_, T2, rfl, _, rfl⟩⟩
    refine ⟨.ref s.heap.objs.size, _, I2, rfl, ⟨_, x, rfl, I.hok.fresh (Nat.le_refl _), rfl, fun xs' h => ?_⟩, ⟨⟨ux, by simpa using z2⟩, ?_⟩, fun c hc => ?_⟩
    · rw [I.list_inj h hq1]; exact hx
    · exact j1.at fun o x => sb.extBut _ _ (Ne.symm hei) x
    · have hlt : c < s.heap.objs.size := by
        simp only [List.mem_cons, List.not_mem_nil, or_false] at hc
        rcases hc with rfl | rfl
        · exact helt
        · obtain ⟨_, x, _⟩ := l1; exact Heap.lt_size x
      rw [upd_ne (Nat.ne_of_lt hlt)]
      exact (hf c hc).1
  done := by
    intro X hP hw hK hc i pins s σ H E I hf st hg
    subst hP hw hK
    obtain ⟨xs, hq1, hend⟩ := hg
    obtain ⟨⟨old, he⟩, l1⟩ := st
    obtain ⟨its1, rv1, p1, _⟩ := I.list hq1
    have e1 := rv1.length
    rw [List.getElem?_eq_none_iff] at hend
    refine wpAny_pyNext_enum_end (I.ok.hd hc) he l1 p1.isList (by simp; omega) fun h' kp => ⟨rfl, I.turnedL (t' := s.toks) (ch := [e, it]) (fun c o hc x => ?_) hf⟩
    simp only [List.mem_cons, List.not_mem_nil, or_false, not_or] at hc
    exact kp c o hc.2 x
  self := fun _ _ _ _ _ st h => by
    obtain ⟨⟨old, he⟩, _⟩ := st
    exact wpAny_pyIter_enum he h
theorem boot_enumerate : bootBuiltins "enumerate" = some (.type "enumerate") := by decide +kernel
section
variable {X : Cx}
def iEnum (K : PySem.W.Frag) (ta : TA) : TI := fun σ H R => ta σ H fun vs H1 => ∃ a, vs = [.ref a] ∧ (∃ xs, SqL K H1 a xs) ∧ R (Ite K a) H1
theorem pi_enum {tes : List Expr} {tk : Nat} {tpos p pos : PySem.Pos} {a : Expr} {ta : TA} (hg : Gl X "enumerate") (hm : X.mg "enumerate" = none) (ha : PA X [a] ta)
    (hs : starEach [a] X.env = [(false, eval a X.env)] := by rfl) : PI X (.Tuple tes tk tpos) (.Call (.Name "enumerate" p) [a] [] pos) (iEnum X.K ta) := by
  intro pins s σ H R I h
  refine wpAny_Call_Name_kw (ld_blt I hg hm boot_enumerate ?_)
  refine PyProof.Rows.callWith_type1 (rest := []) (thn (ha pos pins s σ H _ I h) fun us s1 ⟨vs, H1, I1, r1, l1, e, ⟨xs, hx⟩, q⟩ => ?_) hs rfl
  subst e
  obtain ⟨u1, rfl, rfl⟩ := vals1 r1
  obtain ⟨its1, rv1, p1, _⟩ := I1.list hx
  have a1 : l1 < s1.heap.objs.size := by obtain ⟨_, e, _⟩ := p1.isList; exact Heap.lt_size e
  refine call_enumerate_list p1.isList fun h' he hit sz kp => ?_
  refine wpAny_pyIter_enum he ?_
  refine ⟨_, [_, _], _, _, H1, rfl, I1.kept (t' := s1.toks) kp, turn_enum l1 _ _ (Nat.succ_ne_self _) (Nat.ne_of_lt (Nat.lt_succ_of_lt a1)) (Nat.ne_of_lt a1), ⟨⟨_, he⟩, hit⟩, fun c hc => ?_, q⟩
  have hge : s1.heap.objs.size ≤ c := by
    simp only [List.mem_cons, List.not_mem_nil, or_false] at hc
    rcases hc with rfl | rfl
    · exact Nat.le_succ _
    · exact Nat.le_refl _
  exact I1.fpOk hge (I1.hok.fresh hge)
theorem for_enum {K : PySem.W.Frag} {a : Addr} {xs : List V} {g : TG} {tb : TS} {D : Ends} {σ : St} {H : Hp} (Pv : Nat → St → Hp → Prop) (h0 : Pv 0 σ H) (hl : ∀ i σ H, i ≤ xs.length → Pv i σ H → SqL K H a xs)
    (hs : ∀ i x σ H (p : Addr), xs[i]? = some x → Pv i σ H → H p = none → g (.ref p) σ (upd H p (.tup [.int (i : Int), x])) fun σ2 H2 => tb { D with nx := Pv (i + 1), ct := Pv (i + 1), bk := D.nx } σ2 H2) (hd : ∀ σ H, Pv xs.length σ H → D.nx σ H) :
    ∃ W : Nat → Nat → St → Hp → Prop, (∃ m, W 0 m σ H) ∧ ∀ i m σ H, W i m σ H →
      ((Ite K a).stop i H ∧ D.nx σ H) ∨ ((Ite K a).go i H ∧ ∃ N : St → Hp → Prop, (∀ σ' H', N σ' H' → ∃ m', m' < m ∧ W (i + 1) m' σ' H') ∧ ∀ x H', (Ite K a).yld i H x H' → g x σ H' fun σ2 H2 => tb { D with nx := N, ct := N, bk := D.nx } σ2 H2) := by
  refine ⟨fun i m σ H => m = xs.length - i ∧ i ≤ xs.length ∧ Pv i σ H, ⟨xs.length, by simp, Nat.zero_le _, h0⟩, ?_⟩
  rintro i m σ H ⟨rfl, hi, p⟩
  have q1 := hl i σ H hi p
  by_cases hlt : i < xs.length
  · refine .inr ⟨⟨xs, xs[i], q1, by simp [hlt]⟩, Pv (i + 1), fun σ' H' p' => ⟨xs.length - (i + 1), by omega, rfl, hlt, p'⟩, fun x H' y => ?_⟩
    obtain ⟨q, x1, rfl, hq, rfl, e1⟩ := y
    exact hs i x1 σ _ q (e1 xs q1) p hq
  · have e : i = xs.length := by omega
    subst e
    exact .inl ⟨⟨xs, q1, List.getElem?_eq_none (Nat.le_refl _)⟩, hd σ H p⟩
end
end L2
set_option Elab.async false
set_option linter.all false
set_option maxRecDepth 100000
set_option maxHeartbeats 1000000
set_option Elab.async false
set_option linter.all false
set_option maxRecDepth 100000
set_option maxHeartbeats 1000000
namespace L2
open PySem PySem.Spec PyProof.Rows
def RK (rk : Value → Int) (xs : Array Keyed) (i : Nat) : Int := match xs[i]? with
  | some p => rk p.1
  | none => 0
theorem RK_of {rk : Value → Int} {xs ys : Array Keyed} {i j : Nat} (h : xs[i]? = ys[j]?) : RK rk xs i = RK rk ys j := by unfold RK; rw [h]
theorem RK_bub {rk : Value → Int} {xs : Array Keyed} {a d : Nat} (ha : a < xs.size) (hd : d ≤ a) (k : Nat) : RK rk (bubble xs a d) k = if k = a - d then RK rk xs a else if a - d < k ∧ k ≤ a then RK rk xs (k - 1) else RK rk xs k := by
  have z := getElem?_bubble ha d hd k
  split
  · rename_i h; rw [if_pos h] at z; exact RK_of z
  · rename_i h
    rw [if_neg h] at z
    split
    · rename_i g; rw [if_pos g] at z; exact RK_of z
    · rename_i g; rw [if_neg g] at z; exact RK_of z
theorem RK_mir {rk : Value → Int} {xs : Array Keyed} {a b : Nat} (hb : b ≤ xs.size) (k : Nat) : RK rk (mirror xs a b ((b - a) / 2)) k = if a ≤ k ∧ k < b then RK rk xs (a + b - 1 - k) else RK rk xs k := by
  have z := getElem?_mirror_all (i := a) hb k
  split
  · rename_i h; rw [if_pos h] at z; exact RK_of z
  · rename_i h; rw [if_neg h] at z; exact RK_of z
structure SB (k0 : SortKind) (a0 : Array Keyed) (st : SortSt) : Prop where
  pm : (arrOf st).Perm a0
  kd : kindOf st = k0
  fl : failedOf st = none
  pn : pendingOf st = #[]
theorem SB.sz {k0 : SortKind} {a0 : Array Keyed} {st : SortSt} (b : SB k0 a0 st) : (arrOf st).size = a0.size := b.pm.size_eq
theorem SB.put {k0 : SortKind} {a0 xs : Array Keyed} {st : SortSt} (b : SB k0 a0 st) (p : xs.Perm (arrOf st)) : SB k0 a0 (setArr st xs) := ⟨p.trans b.pm, b.kd, b.fl, b.pn⟩
def LtOk (prog : Program) (w : World) (A : Around) (s : Shared) (k0 : SortKind) (a0 : Array Keyed) (rk : Value → Int) : Prop :=
  ∀ (E : Value → Shared → Prop) (x y : Keyed) (Q : Bool → Shared → Prop), x ∈ a0.toList → y ∈ a0.toList → Q (decide (rk x.1 < rk y.1)) s → wpAny (model prog w) A (keyLt' k0 x.1 y.1) Q E s
section
variable {prog : Program} {w : World} {A : Around} {E : Value → Shared → Prop} {s : Shared} {k0 : SortKind} {a0 : Array Keyed} {rk : Value → Int}
theorem SB.got {st : SortSt} (b : SB k0 a0 st) {i : Nat} (hi : i < a0.size) : ∃ x, (arrOf st)[i]? = some x ∧ x ∈ a0.toList ∧ RK rk (arrOf st) i = rk x.1 := by
  have hi' : i < (arrOf st).size := by rw [b.sz]; exact hi
  have z := Array.getElem?_eq_getElem hi'
  refine ⟨_, z, (Array.perm_iff_toList_perm.mp b.pm).subset (Array.getElem_mem_toList hi'), ?_⟩
  unfold RK
  rw [z]
theorem lt_at (hL : LtOk prog w A s k0 a0 rk) {st : SortSt} (b : SB k0 a0 st) {i j : Nat} (hi : i < a0.size) (hj : j < a0.size) {Q : Option Bool → SortSt → Prop}
    (h : Q (some (decide (RK rk (arrOf st) i < RK rk (arrOf st) j))) st) : wpS (model prog w) A E s (ltAt' i j) Q st := by
  obtain ⟨x, ex, mx, rx⟩ := b.got (rk := rk) hi
  obtain ⟨y, ey, my, ry⟩ := b.got (rk := rk) hj
  rw [rx, ry] at h
  rw [ltAt'_eq]
  refine wpS_bind (wpS_get ?_)
  dsimp only
  rw [elem'_eq, elem'_eq, ex, ey]
  refine wpS_bind (wpS_pure (wpS_bind (wpS_pure ?_)))
  rw [lt'_eq]
  refine wpS_bind (wpS_get (wpS_bind (wpS_lift (wpAny_attempt ?_))))
  rw [b.kd]
  exact hL _ x y _ mx my ⟨rfl, wpS_pure h⟩
theorem asc_ok (hL : LtOk prog w A s k0 a0 rk) {st : SortSt} (b : SB k0 a0 st) {f m : Nat} (hm : m ≤ a0.size) (f1 : 1 ≤ f) (fm : f ≤ m) {Q : AscSt → SortSt → Prop} (up : ∀ i j, i ≤ j → j < f → RK rk (arrOf st) i ≤ RK rk (arrOf st) j)
    (h : ∀ n, f ≤ n → n ≤ m → (∀ i j, i ≤ j → j < n → RK rk (arrOf st) i ≤ RK rk (arrOf st) j) → (n = m ∨ RK rk (arrOf st) n < RK rk (arrOf st) (n - 1)) → Q (none, n) st) : wpS (model prog w) A E s (ascLoop f m) Q st := by
  unfold ascLoop
  refine wpS_forRange (fun n c t => t = st ∧ c = (none, n) ∧ ∀ i j, i ≤ j → j < n → RK rk (arrOf st) i ≤ RK rk (arrOf st) j) ?_ ?_ ⟨rfl, rfl, up⟩
  · rintro n c t fn nm ⟨rfl, rfl, u⟩
    refine wpS_bind (lt_at hL b (by omega) (by omega) ?_)
    dsimp only
    by_cases z : RK rk (arrOf t) n < RK rk (arrOf t) (n - 1)
    · rw [decide_eq_true z, if_pos rfl]
      exact wpS_pure (h n fn (by omega) u (.inr z))
    · rw [decide_eq_false z, if_neg (by simp)]
      refine wpS_pure ⟨rfl, rfl, fun i j ij jn => ?_⟩
      rcases Nat.lt_or_eq_of_le (Nat.le_of_lt_succ jn) with q | rfl
      · exact u i j ij q
      · rcases Nat.lt_or_eq_of_le ij with q | rfl
        · have := u i (j - 1) (by omega) (by omega)
          omega
        · exact Int.le_refl _
  · rintro c t ⟨rfl, rfl, u⟩
    rw [Nat.max_eq_right fm] at u ⊢
    exact h m fm (Nat.le_refl _) u (.inl rfl)
theorem tail_ok (hL : LtOk prog w A s k0 a0 rk) {st : SortSt} (b : SB k0 a0 st) {n m : Nat} (hm : m ≤ a0.size) (n1 : 1 ≤ n) (nm : n ≤ m) {Q : Option Nat → SortSt → Prop} (dn : ∀ i j, i ≤ j → j < n → RK rk (arrOf st) j ≤ RK rk (arrOf st) i)
    (h : ∀ r t, SB k0 a0 t → 1 ≤ r → r ≤ m → (∀ i j, i ≤ j → j < r → RK rk (arrOf t) i ≤ RK rk (arrOf t) j) → Q (some r) t) : wpS (model prog w) A E s (tail3 n m) Q st := by
  unfold tail3
  refine wpS_bind (wpS_reverse ?_)
  have b2 := b.put (mirror_perm (arrOf st) 0 n ((n - 0) / 2))
  have hn : n ≤ (arrOf st).size := by rw [b.sz]; omega
  refine wpS_bind (asc_ok hL b2 hm n1 nm (fun i j ij jn => ?_) fun r nr rm u _ => wpS_pure (h r _ b2 (by omega) rm u))
  have z1 := RK_mir (rk := rk) (xs := arrOf st) (a := 0) hn i
  have z2 := RK_mir (rk := rk) (xs := arrOf st) (a := 0) hn j
  rw [if_pos ⟨Nat.zero_le _, by omega⟩] at z1
  rw [if_pos ⟨Nat.zero_le _, jn⟩] at z2
  have z3 := dn (0 + n - 1 - j) (0 + n - 1 - i) (by omega) (by omega)
  rw [← z1, ← z2] at z3
  exact z3
theorem mir_same {xs : Array Keyed} {a b : Nat} (hb : b ≤ xs.size) (e : ∀ i, a ≤ i → i < b → RK rk xs i = RK rk xs (b - 1)) (k : Nat) : RK rk (mirror xs a b ((b - a) / 2)) k = RK rk xs k := by
  rw [RK_mir hb]
  split
  · rename_i h
    rw [e k h.1 h.2]
    exact e _ (by omega) (by omega)
  · rfl
theorem desc_ok (hL : LtOk prog w A s k0 a0 rk) {st : SortSt} (b : SB k0 a0 st) {f m : Nat} (hm : m ≤ a0.size) (f1 : 1 ≤ f) (fm : f ≤ m) {Q : DescSt → SortSt → Prop} (dn : ∀ i j, i ≤ j → j < f → RK rk (arrOf st) j ≤ RK rk (arrOf st) i)
    (h : ∀ n q t, SB k0 a0 t → f ≤ n → n ≤ m → (∀ i j, i ≤ j → j < n → RK rk (arrOf t) j ≤ RK rk (arrOf t) i) → q + 1 ≤ n → (∀ i, n - (q + 1) ≤ i → i < n → RK rk (arrOf t) i = RK rk (arrOf t) (n - 1)) → Q (none, n, q) t) : wpS (model prog w) A E s (descLoop f m) Q st := by
  unfold descLoop
  refine wpS_forRange (fun n c t => ∃ q, c = (none, n, q) ∧ SB k0 a0 t ∧ (∀ i j, i ≤ j → j < n → RK rk (arrOf t) j ≤ RK rk (arrOf t) i) ∧ q + 1 ≤ n ∧ ∀ i, n - (q + 1) ≤ i → i < n → RK rk (arrOf t) i = RK rk (arrOf t) (n - 1)) ?_ ?_ ⟨0, rfl, b, dn, f1, fun i h1 h2 => by rw [show i = f - 1 by omega]⟩
  · rintro n c t fn nm ⟨q, rfl, bt, d, qn, e⟩
    dsimp only
    refine wpS_bind (lt_at hL bt (by omega) (by omega) ?_)
    dsimp only
    have ext : ∀ xs : Array Keyed, (∀ k, RK rk xs k = RK rk (arrOf t) k) → RK rk (arrOf t) n ≤ RK rk (arrOf t) (n - 1) → ∀ i j, i ≤ j → j < n + 1 → RK rk xs j ≤ RK rk xs i := fun xs hx le i j ij jn => by
      rw [hx, hx]
      rcases Nat.lt_or_eq_of_le (Nat.le_of_lt_succ jn) with z | rfl
      · exact d i j ij z
      · rcases Nat.lt_or_eq_of_le ij with z | rfl
        · have := d i (j - 1) (by omega) (by omega)
          omega
        · exact Int.le_refl _
    by_cases z : RK rk (arrOf t) n < RK rk (arrOf t) (n - 1)
    · rw [decide_eq_true z, if_pos rfl]
      by_cases q0 : q > 0
      · rw [if_pos q0]
        have hn : n ≤ (arrOf t).size := by rw [bt.sz]; omega
        exact wpS_bind (wpS_reverse (wpS_pure ⟨0, rfl, bt.put (mirror_perm _ _ _ _), ext _ (mir_same hn e) (Int.le_of_lt z), by omega, fun i h1 h2 => by rw [show i = n + 1 - 1 by omega]⟩))
      · rw [if_neg q0]
        exact wpS_pure ⟨0, rfl, bt, ext _ (fun _ => rfl) (Int.le_of_lt z), by omega, fun i h1 h2 => by rw [show i = n + 1 - 1 by omega]⟩
    · rw [decide_eq_false z, if_neg (by simp)]
      refine wpS_bind (lt_at hL bt (by omega) (by omega) ?_)
      dsimp only
      by_cases y : RK rk (arrOf t) (n - 1) < RK rk (arrOf t) n
      · rw [decide_eq_true y, if_pos rfl]
        exact wpS_pure (h n q t bt fn (by omega) d qn e)
      · rw [decide_eq_false y, if_neg (by simp)]
        have same : RK rk (arrOf t) n = RK rk (arrOf t) (n - 1) := by omega
        refine wpS_pure ⟨q + 1, rfl, bt, ext _ (fun _ => rfl) (by omega), by omega, fun i h1 h2 => ?_⟩
        rw [Nat.add_sub_cancel]
        rcases Nat.lt_or_eq_of_le (Nat.le_of_lt_succ h2) with x | rfl
        · rw [same]; exact e i (by omega) x
        · rfl
  · rintro c t ⟨q, rfl, bt, d, qn, e⟩
    rw [Nat.max_eq_right fm] at d qn e ⊢
    exact h m q t bt fm (Nat.le_refl _) d qn e
theorem part_ok (hL : LtOk prog w A s k0 a0 rk) {st : SortSt} (b : SB k0 a0 st) {n m : Nat} (hm : m ≤ a0.size) (nm : n + 1 ≤ m) {Q : Option Nat → SortSt → Prop} (dn : ∀ i j, i ≤ j → j < n + 1 → RK rk (arrOf st) j ≤ RK rk (arrOf st) i)
    (h : ∀ r t, SB k0 a0 t → 1 ≤ r → r ≤ m → (∀ i j, i ≤ j → j < r → RK rk (arrOf t) i ≤ RK rk (arrOf t) j) → Q (some r) t) : wpS (model prog w) A E s (descPart n m) Q st := by
  unfold descPart
  refine wpS_bind (wpS_lift (wpAny_rule ⟨rfl, wpS_bind (desc_ok hL b hm (by omega) nm dn fun r q t bt nr rm d qr e => ?_)⟩))
  dsimp only
  by_cases q0 : q > 0
  · rw [if_pos q0]
    have hr : r ≤ (arrOf t).size := by rw [bt.sz]; omega
    refine wpS_bind (wpS_reverse (tail_ok hL (bt.put (mirror_perm _ _ _ _)) hm (by omega) rm (fun i j ij jr => ?_) h))
    have z1 := mir_same hr e i
    have z2 := mir_same hr e j
    have z3 := d i j ij jr
    rw [← z1, ← z2] at z3
    exact z3
  · rw [if_neg q0]
    exact tail_ok hL bt hm (by omega) rm d h
theorem run_ok (hL : LtOk prog w A s k0 a0 rk) {st : SortSt} (b : SB k0 a0 st) {m : Nat} (hm : m ≤ a0.size) (m1 : 1 ≤ m) {Q : Option Nat → SortSt → Prop}
    (h : ∀ r t, SB k0 a0 t → 1 ≤ r → r ≤ m → (∀ i j, i ≤ j → j < r → RK rk (arrOf t) i ≤ RK rk (arrOf t) j) → Q (some r) t) : wpS (model prog w) A E s (countRun' 0 m) Q st := by
  rw [countRun0_eq]
  refine wpS_bind (asc_ok hL b hm (Nat.le_refl _) m1 (fun i j ij j1 => by rw [show i = j by omega]; exact Int.le_refl _) fun n n1 nm u z => ?_)
  dsimp only
  by_cases e : n = m
  · rw [if_pos (by simpa using e)]
    exact wpS_pure (h n st b n1 nm u)
  · rw [if_neg (by simpa using e)]
    have lt := z.resolve_left e
    by_cases n2 : n > 1
    · rw [if_pos n2]
      refine wpS_bind (lt_at hL b (by omega) (by omega) ?_)
      dsimp only
      by_cases y : RK rk (arrOf st) 0 < RK rk (arrOf st) (n - 1)
      · rw [decide_eq_true y, if_pos rfl]
        exact wpS_pure (h n st b n1 nm u)
      · rw [decide_eq_false y, if_neg (by simp)]
        have hn : n ≤ (arrOf st).size := by rw [b.sz]; omega
        have al : ∀ i, 0 ≤ i → i < n → RK rk (arrOf st) i = RK rk (arrOf st) (n - 1) := fun i _ hi => by
          have q1 := u 0 i (Nat.zero_le _) hi
          have q2 := u i (n - 1) (by omega) (by omega)
          omega
        refine wpS_bind (wpS_reverse (part_ok hL (b.put (mirror_perm _ _ _ _)) hm (by omega) (fun i j ij jn => ?_) h))
        have z1 := mir_same hn al i
        have z2 := mir_same hn al j
        have z3 : RK rk (arrOf st) j ≤ RK rk (arrOf st) i := by
          rcases Nat.lt_or_eq_of_le (Nat.le_of_lt_succ jn) with q | rfl
          · rw [al i (Nat.zero_le _) (by omega), al j (Nat.zero_le _) q]; exact Int.le_refl _
          · rcases Nat.lt_or_eq_of_le ij with q | rfl
            · rw [al i (Nat.zero_le _) q]; omega
            · exact Int.le_refl _
        rw [← z1, ← z2] at z3
        exact z3
    · rw [if_neg n2]
      have e1 : n = 1 := by omega
      subst e1
      refine part_ok hL b hm (by omega) (fun i j ij j2 => ?_) h
      rcases Nat.lt_or_eq_of_le ij with q | rfl
      · rw [show i = 0 by omega, show j = 1 by omega]; exact Int.le_of_lt lt
      · exact Int.le_refl _
theorem ins_ok (hL : LtOk prog w A s k0 a0 rk) {st : SortSt} (b : SB k0 a0 st) {m r : Nat} (hm : m ≤ a0.size) (rm : r ≤ m) {Q : Bool → SortSt → Prop} (up : ∀ i j, i ≤ j → j < r → RK rk (arrOf st) i ≤ RK rk (arrOf st) j)
    (h : ∀ t, SB k0 a0 t → (∀ i j, i ≤ j → j < m → RK rk (arrOf t) i ≤ RK rk (arrOf t) j) → Q true t) : wpS (model prog w) A E s (binarySort' 0 m r) Q st := by
  rw [binarySort'_eq]
  simp only [Nat.zero_add]
  refine wpS_bind (wpS_mono (wpS_forRange (fun n c t => c = (none, ()) ∧ SB k0 a0 t ∧ ∀ i j, i ≤ j → j < min n m → RK rk (arrOf t) i ≤ RK rk (arrOf t) j) (Q := fun c t => c = (none, ()) ∧ SB k0 a0 t ∧ ∀ i j, i ≤ j → j < m → RK rk (arrOf t) i ≤ RK rk (arrOf t) j) ?_ ?_ ⟨rfl, b, fun i j ij jl => ?_⟩) ?_)
  · rintro n c t n1 nm ⟨rfl, bt, u⟩
    rw [Nat.min_eq_left (Nat.le_of_lt nm)] at u
    refine wpS_bind (wpS_mono (wpS_forRange (fun x c t2 => t2 = t ∧ ∃ l g, c = (none, l, g) ∧ l ≤ g ∧ g ≤ n ∧ g - l ≤ n - x ∧ (∀ i, i < l → RK rk (arrOf t) i ≤ RK rk (arrOf t) n) ∧ ∀ i, g ≤ i → i < n → RK rk (arrOf t) n < RK rk (arrOf t) i)
      (Q := fun c t2 => t2 = t ∧ ∃ l g, c = (none, l, g) ∧ l ≤ n ∧ (∀ i, i < l → RK rk (arrOf t) i ≤ RK rk (arrOf t) n) ∧ ∀ i, l ≤ i → i < n → RK rk (arrOf t) n < RK rk (arrOf t) i) ?_ ?_ ⟨rfl, 0, n, rfl, Nat.zero_le _, Nat.le_refl _, Nat.le_refl _, fun i hi => absurd hi (Nat.not_lt_zero _), fun i h1 h2 => by omega⟩) ?_)
    · rintro x c t2 _ xn ⟨rfl, l, g, rfl, lg, gn, gl, lo, hi⟩
      dsimp only
      by_cases z : l ≥ g
      · rw [if_pos z]
        have e : l = g := by omega
        subst e
        exact wpS_pure ⟨rfl, l, l, rfl, gn, lo, hi⟩
      · rw [if_neg z]
        refine wpS_bind (lt_at hL bt (by omega) (by omega) ?_)
        dsimp only
        by_cases y : RK rk (arrOf t2) n < RK rk (arrOf t2) ((l + g) / 2)
        · rw [decide_eq_true y, if_pos rfl]
          refine wpS_pure ⟨rfl, l, (l + g) / 2, rfl, by omega, by omega, by omega, lo, fun i h1 h2 => ?_⟩
          have := u _ i h1 h2
          omega
        · rw [decide_eq_false y, if_neg (by simp)]
          refine wpS_pure ⟨rfl, (l + g) / 2 + 1, g, rfl, by omega, by omega, by omega, fun i h1 => ?_, hi⟩
          have := u i ((l + g) / 2) (by omega) (by omega)
          omega
    · rintro c t2 ⟨rfl, l, g, rfl, lg, gn, gl, lo, hi⟩
      have e : l = g := by omega
      subst e
      exact ⟨rfl, l, l, rfl, gn, lo, hi⟩
    · rintro c t2 ⟨rfl, l, g, rfl, ln, lo, hi⟩
      show wpS _ _ _ _ (moveDown' n l >>= fun _ => pure _) _ _
      rw [moveDown'_eq]
      refine wpS_bind (wpS_modify (wpS_pure ⟨rfl, bt.put (bubble_perm _ _ _), fun i j ij jn => ?_⟩))
      rw [Nat.min_eq_left (by omega)] at jn
      have hn : n < (arrOf t2).size := by rw [bt.sz]; omega
      have z1 := RK_bub (rk := rk) hn (Nat.sub_le n l) i
      have z2 := RK_bub (rk := rk) hn (Nat.sub_le n l) j
      rw [show n - (n - l) = l by omega] at z1 z2
      show RK rk (bubble (arrOf t2) n (n - l)) i ≤ RK rk (bubble (arrOf t2) n (n - l)) j
      rw [z1, z2]
      by_cases c1 : i = l
      · rw [if_pos c1]
        by_cases c2 : j = l
        · rw [if_pos c2]; exact Int.le_refl _
        · rw [if_neg c2, if_pos (by omega)]
          have := hi (j - 1) (by omega) (by omega)
          omega
      · rw [if_neg c1]
        by_cases c3 : l < i ∧ i ≤ n
        · rw [if_pos c3, if_neg (by omega), if_pos (by omega)]
          exact u _ _ (by omega) (by omega)
        · rw [if_neg c3]
          by_cases c2 : j = l
          · rw [if_pos c2]; exact lo i (by omega)
          · rw [if_neg c2]
            by_cases c4 : l < j ∧ j ≤ n
            · rw [if_pos c4]; exact u _ _ (by omega) (by omega)
            · rw [if_neg c4]; exact u _ _ ij (by omega)
  · rintro c t ⟨rfl, bt, u⟩
    refine ⟨rfl, bt, fun i j ij jm => u i j ij (by omega)⟩
  · by_cases z : j < r
    · exact up i j ij z
    · rw [show i = j by omega]; exact Int.le_refl _
  · rintro c t ⟨rfl, bt, u⟩
    exact wpS_pure (h t bt u)
theorem runs_ok (hL : LtOk prog w A s k0 a0 rk) {st : SortSt} (b : SB k0 a0 st) (h2 : 2 ≤ a0.size) (h64 : a0.size < 64) {Q : Unit → SortSt → Prop}
    (h : ∀ t, (arrOf t).Perm a0 → failedOf t = none → (∀ i j, i ≤ j → j < a0.size → RK rk (arrOf t) i ≤ RK rk (arrOf t) j) → Q () t) : wpS (model prog w) A E s sortRuns' Q st := by
  rw [sortRuns'_eq]
  refine wpS_bind (wpS_get ?_)
  have mr : minRun' a0.size a0.size 0 = a0.size := by
    cases z : a0.size with
    | zero => omega
    | succ n => rw [minRun'_succ, if_pos (by omega), Nat.add_zero]
  dsimp only
  rw [b.sz, mr]
  let Fin' : SortSt → Prop := fun t => (arrOf t).Perm a0 ∧ failedOf t = none ∧ pendingOf t = #[(0, a0.size, 0)] ∧ ∀ i j, i ≤ j → j < a0.size → RK rk (arrOf t) i ≤ RK rk (arrOf t) j
  have fin : ∀ t, SB k0 a0 t → (∀ i j, i ≤ j → j < a0.size → RK rk (arrOf t) i ≤ RK rk (arrOf t) j) → Fin' (setPending t ((pendingOf t).push (0, a0.size, 0))) := fun t bt u =>
    ⟨bt.pm, bt.fl, (by show (pendingOf t).push _ = _; rw [bt.pn]; rfl), u⟩
  refine wpS_bind (wpS_mono (wpS_forRange (fun n c t => (n = 0 ∧ c = (none, 0) ∧ SB k0 a0 t) ∨ (0 < n ∧ c = (none, a0.size) ∧ Fin' t)) (Q := fun c t => c = (none, a0.size) ∧ Fin' t) ?_ ?_ (.inl ⟨rfl, rfl, b⟩)) ?_)
  · rintro n c t _ _ (⟨rfl, rfl, bt⟩ | ⟨n0, rfl, ft⟩)
    · dsimp only
      rw [if_neg (by omega)]
      simp only [Nat.zero_add, Nat.min_self, Nat.sub_zero]
      refine wpS_bind (run_ok hL bt (Nat.le_refl _) (by omega) fun r t2 b2 r1 r2 u2 => ?_)
      dsimp only
      have last : ∀ t3, SB k0 a0 t3 → (∀ i j, i ≤ j → j < a0.size → RK rk (arrOf t3) i ≤ RK rk (arrOf t3) j) → (pendingOf t3).back? = none ∧ Fin' (setPending t3 ((pendingOf t3).push (0, a0.size, 0))) := fun t3 b3 u3 => ⟨by rw [b3.pn]; rfl, fin t3 b3 u3⟩
      by_cases z : r < a0.size
      · rw [if_pos z]
        refine wpS_bind (wpS_lift (wpAny_rule ⟨rfl, wpS_bind (ins_ok hL b2 (Nat.le_refl _) r2 u2 fun t3 b3 u3 => ?_)⟩))
        rw [if_neg (by simp)]
        refine wpS_bind (wpS_get ?_)
        rw [(last t3 b3 u3).1]
        dsimp only
        exact wpS_bind (wpS_modify (wpS_pure (.inr ⟨Nat.succ_pos _, rfl, (last t3 b3 u3).2⟩)))
      · rw [if_neg z]
        have e : r = a0.size := by omega
        subst e
        refine wpS_bind (wpS_get ?_)
        rw [(last t2 b2 u2).1]
        dsimp only
        exact wpS_bind (wpS_modify (wpS_pure (.inr ⟨Nat.succ_pos _, rfl, (last t2 b2 u2).2⟩)))
    · dsimp only
      rw [if_pos (Nat.le_refl _)]
      exact wpS_pure ⟨rfl, ft⟩
  · rintro c t (⟨z, _, _⟩ | ⟨_, e, ft⟩)
    · omega
    · exact ⟨e, ft⟩
  · rintro c t ⟨rfl, ft⟩
    dsimp only
    refine wpS_bind (wpS_mono (wpS_forRange (fun _ c t2 => t2 = t ∧ c = (none, ())) (Q := fun c t2 => t2 = t ∧ c = (none, ())) ?_ (fun _ _ z => z) ⟨rfl, rfl⟩) ?_)
    · rintro n c t2 _ _ ⟨rfl, rfl⟩
      refine wpS_bind (wpS_get ?_)
      rw [if_pos (by rw [ft.2.2.1]; exact Nat.le_refl 1)]
      exact wpS_pure ⟨rfl, rfl⟩
    · rintro c t2 ⟨rfl, rfl⟩
      exact wpS_pure (h _ ft.1 ft.2.1 ft.2.2.2)
end
end L2
set_option Elab.async false
set_option linter.all false
set_option maxRecDepth 100000
set_option maxHeartbeats 1000000
namespace L2
open PySem PySem.Spec PyProof.Rows
def lexB : List Int → List Int → Bool
  | [], [] => false
  | [], _ :: _ => true
  | _ :: _, [] => false
  | a :: x, b :: y => if a = b then lexB x y else decide (a < b)
theorem lexB_irr : ∀ x : List Int, lexB x x = false
  | [] => rfl
  | a :: x => by unfold lexB; rw [if_pos rfl]; exact lexB_irr x
theorem lexB_trans : ∀ {x y z : List Int}, lexB x y = true → lexB y z = true → lexB x z = true
  | [], [], _, h, _ => by cases h
  | [], _ :: _, [], _, h => by cases h
  | [], _ :: _, _ :: _, _, _ => rfl
  | _ :: _, [], _, h, _ => by cases h
  | _ :: _, _ :: _, [], _, h => by cases h
  | a :: x, b :: y, c :: z, h1, h2 => by
    unfold lexB at h1 h2 ⊢
    by_cases e1 : a = b
    · subst e1
      rw [if_pos rfl] at h1
      by_cases e2 : a = c
      · rw [if_pos e2] at h2 ⊢; exact lexB_trans h1 h2
      · rw [if_neg e2] at h2 ⊢; exact h2
    · rw [if_neg e1] at h1
      have l1 := of_decide_eq_true h1
      by_cases e2 : b = c
      · subst e2; rw [if_neg e1]; exact h1
      · rw [if_neg e2] at h2
        have l2 := of_decide_eq_true h2
        rw [if_neg (by omega)]
        exact decide_eq_true (by omega)
theorem lexB_tot : ∀ {x y : List Int}, lexB x y = false → lexB y x = false → x = y
  | [], [], _, _ => rfl
  | [], _ :: _, h, _ => by cases h
  | _ :: _, [], _, h => by cases h
  | a :: x, b :: y, h1, h2 => by
    unfold lexB at h1 h2
    by_cases e : a = b
    · subst e
      rw [if_pos rfl] at h1 h2
      rw [lexB_tot h1 h2]
    · rw [if_neg e] at h1
      rw [if_neg (Ne.symm e)] at h2
      have l1 := of_decide_eq_false h1
      have l2 := of_decide_eq_false h2
      omega
theorem filter_fewer {α : Type} {p q : α → Bool} : ∀ {l : List α}, (∀ z ∈ l, p z = true → q z = true) → (l.filter p).length ≤ (l.filter q).length
  | [], _ => Nat.le_refl _
  | a :: l, h => by
    have ih := filter_fewer (l := l) fun z hz => h z (List.mem_cons_of_mem _ hz)
    have ha := h a List.mem_cons_self
    cases hp : p a with
    | true => rw [List.filter_cons_of_pos hp, List.filter_cons_of_pos (ha hp)]; simp only [List.length_cons]; omega
    | false =>
      rw [List.filter_cons_of_neg (by simp [hp])]
      cases hq : q a with
      | true => rw [List.filter_cons_of_pos hq]; simp only [List.length_cons]; omega
      | false => rw [List.filter_cons_of_neg (by simp [hq])]; exact ih
theorem filter_less {α : Type} {p q : α → Bool} : ∀ {l : List α} {x : α}, (∀ z ∈ l, p z = true → q z = true) → x ∈ l → q x = true → p x = false → (l.filter p).length < (l.filter q).length
  | [], x, _, hx, _, _ => by cases hx
  | a :: l, x, h, hx, q1, p1 => by
    have hl : ∀ z ∈ l, p z = true → q z = true := fun z hz => h z (List.mem_cons_of_mem _ hz)
    rcases List.mem_cons.mp hx with rfl | hx
    · rw [List.filter_cons_of_neg (by simp [p1]), List.filter_cons_of_pos q1]
      have := filter_fewer hl
      simp only [List.length_cons]; omega
    · have ih := filter_less hl hx q1 p1
      have ha := h a List.mem_cons_self
      cases hp : p a with
      | true => rw [List.filter_cons_of_pos hp, List.filter_cons_of_pos (ha hp)]; simp only [List.length_cons]; omega
      | false =>
        rw [List.filter_cons_of_neg (by simp [hp])]
        cases hq : q a with
        | true => rw [List.filter_cons_of_pos hq]; simp only [List.length_cons]; omega
        | false => rw [List.filter_cons_of_neg (by simp [hq])]; exact ih
def vInt : Value → Int
  | .int n _ => n
  | _ => 0
theorem ints_map : ∀ {vs : List Value} {u : List Int}, IntsAre vs u → vs.map vInt = u
  | _, _, .nil => rfl
  | _, _, .cons n t h => by rw [List.map_cons, ints_map h]; rfl
def kfI (h : Heap) (v : Value) : List Int := match v with
  | .ref a => match h.get? a with
    | some o => match o.data with
      | .seq its _ => its.toList.map vInt
      | _ => []
    | none => []
  | _ => []
def TupI (h : Heap) (v : Value) (u : List Int) : Prop := ∃ a o its n, v = .ref a ∧ h.get? a = some o ∧ o.cls = .type "tuple" ∧ o.data = .seq its n ∧ IntsAre its.toList u
theorem TupI.kf {h : Heap} {v : Value} {u : List Int} (t : TupI h v u) : kfI h v = u := by
  obtain ⟨a, o, its, n, rfl, e, c, d, i⟩ := t
  unfold kfI
  dsimp only
  rw [e]
  dsimp only
  rw [d]
  exact ints_map i
theorem TupI.keep' {h h' : Heap} {v : Value} {u : List Int} (t : TupI h v u) (k : ∀ (b : Addr) (o : Obj), o.cls = .type "tuple" → h.get? b = some o → h'.get? b = some o) : TupI h' v u := by
  obtain ⟨a, o, its, n, rfl, e, c, r⟩ := t
  exact ⟨a, o, its, n, rfl, k a o c e, c, r⟩
section
variable {prog : Program} {w : World} {A : Around} {E : Value → Shared → Prop} {s : Shared}
theorem keyLt'_tups (b : Bool) (x y : Value) : keyLt' (tuples' b) x y = (do
    let xs ← Builtin.List.listItems x
    let ys ← Builtin.List.listItems y
    for ((p, q), i) in (xs.toList.zip ys.toList).zipIdx do
      if !(← eqBool p q) then return ← oneLt' (b && i == 0) p q
    return decide (xs.size < ys.size)) := rfl
theorem one_int (b : Bool) {i j : Int} {t u : Tok} {Q : Bool → Shared → Prop} (h : Q (decide (i < j)) s) : wpAny (model prog w) A (oneLt' b (.int i t) (.int j u)) Q E s := by
  cases b with
  | true => exact oneLt_int h
  | false =>
    rw [oneLt'_eq, if_neg (by simp)]
    have q : wpAny (model prog w) A (richCompare .Lt (.int i t) (.int j u)) (fun v s' => wpAny (model prog w) A (truthOfDropped v) Q E s') E s := PyProof.Rows.lt_int (wpAny_truthy_bool h)
    exact wpAny_bind q
abbrev cmpStep (b : Bool) (z : (Value × Value) × Nat) (r : Option Bool × Unit) : Sem (ForInStep (Option Bool × Unit)) := do
  if !(← eqBool z.1.1 z.1.2) then
    let v ← oneLt' (b && z.2 == 0) z.1.1 z.1.2
    pure (ForInStep.done (some v, ()))
  else pure (ForInStep.yield (none, ()))
theorem cmp_loop (b : Bool) : ∀ {xs ys : List Value} {u v : List Int} (i : Nat) {Q : Option Bool × Unit → Shared → Prop}, IntsAre xs u → IntsAre ys v → (∀ r, (r = (some (lexB u v), ()) ∨ (r = (none, ()) ∧ lexB u v = decide (u.length < v.length))) → Q r s) →
    wpAny (model prog w) A (forIn ((xs.zip ys).zipIdx i) ((none, ()) : Option Bool × Unit) (cmpStep b)) Q E s
  | _, ys, _, v, i, Q, .nil, hy, h => by
    rw [List.zip_nil_left, List.zipIdx_nil, List.forIn_nil]
    refine wpAny_pure (h _ (.inr ⟨rfl, ?_⟩))
    cases hy <;> rfl
  | _, _, _, _, i, Q, .cons a t hx, .nil, h => by
    rw [List.zip_nil_right, List.zipIdx_nil, List.forIn_nil]
    refine wpAny_pure (h _ (.inr ⟨rfl, ?_⟩))
    rfl
  | _, _, _, _, i, Q, .cons (ns := u) a t hx, .cons (ns := v) c t' hy, h => by
    rw [List.zip_cons_cons, List.zipIdx_cons, List.forIn_cons]
    refine wpAny_bind (wpAny_bind ((intKind prog w).eqBool (a := a) (b := c) (intKind_is _ _ _ _) (intKind_is _ _ _ _) ?_))
    by_cases e : a = c
    · rw [decide_eq_true e]
      refine wpAny_pure ?_
      refine cmp_loop b (i + 1) hx hy fun r hr => h r ?_
      have l1 : lexB (a :: u) (c :: v) = lexB u v := by
        conv => lhs; unfold lexB
        rw [if_pos e]
      rw [l1]
      rcases hr with z | ⟨z, y⟩
      · exact .inl z
      · refine .inr ⟨z, ?_⟩
        rw [y]
        simp only [List.length_cons, Nat.add_lt_add_iff_right]
    · rw [decide_eq_false e]
      refine wpAny_bind (one_int _ ?_)
      refine wpAny_pure (wpAny_pure (h _ (.inl ?_)))
      have l1 : lexB (a :: u) (c :: v) = decide (a < c) := by
        conv => lhs; unfold lexB
        rw [if_neg e]
      rw [l1]
theorem lt_tups (b : Bool) {x y : Value} {u v : List Int} {Q : Bool → Shared → Prop} (hx : TupI s.heap x u) (hy : TupI s.heap y v) (h : Q (lexB u v) s) : wpAny (model prog w) A (keyLt' (tuples' b) x y) Q E s := by
  obtain ⟨a, o, its, n, rfl, e, c, d, i⟩ := hx
  obtain ⟨a', o', its', n', rfl, e', c', d', i'⟩ := hy
  rw [keyLt'_tups]
  refine wpAny_bind (listItems_at e d (wpAny_bind (listItems_at e' d' ?_)))
  refine wpAny_bind (cmp_loop b 0 i i' fun r hr => ?_)
  rcases hr with rfl | ⟨rfl, z⟩
  · exact wpAny_pure h
  · rw [z, ← i.length, ← i'.length, Array.length_toList, Array.length_toList] at h
    exact wpAny_pure h
end
end L2
set_option Elab.async false
set_option linter.all false
set_option maxRecDepth 100000
set_option maxHeartbeats 1000000
namespace L2
open PySem PySem.Spec PyProof.Rows
section
variable {prog : Program} {w : World} {A : Around} {E : Value → Shared → Prop} {s : Shared}
theorem wp_mapM {α β : Type} {f : α → Sem β} (R : α → β → Prop) : ∀ {l : List α} {Q : List β → Shared → Prop}, (∀ x ∈ l, ∀ Q' : β → Shared → Prop, (∀ y, R x y → Q' y s) → wpAny (model prog w) A (f x) Q' E s) → (∀ ys, Paired R l ys → Q ys s) → wpAny (model prog w) A (l.mapM f) Q E s
  | [], Q, _, h => by rw [List.mapM_nil]; exact wpAny_pure (h [] .nil)
  | x :: l, Q, hf, h => by
    rw [List.mapM_cons]
    refine wpAny_bind (hf x List.mem_cons_self _ fun y hy => wpAny_bind (wp_mapM R (fun z hz => hf z (List.mem_cons_of_mem _ hz)) fun ys hys => wpAny_pure (h _ (.cons hy hys))))
theorem first'_eq (v : Value) : firstOfTuple' v = (do
    if (← typeOf v) != .type "tuple" then return none
    return (← Builtin.List.listItems v)[0]?) := rfl
theorem first_tup {x : Value} {u : List Int} {Q : Option Value → Shared → Prop} (t : TupI s.heap x u) (hu : u ≠ []) (h : ∀ y, (∃ a tk, y = some (Value.int a tk)) → Q y s) : wpAny (model prog w) A (firstOfTuple' x) Q E s := by
  obtain ⟨a, o, its, n, rfl, e, c, d, i⟩ := t
  rw [first'_eq]
  refine wpAny_bind (wpAny_typeOf (T := "tuple") ⟨o, e, c⟩ ?_)
  rw [if_neg (by decide)]
  refine wpAny_bind (listItems_at e d (wpAny_pure (h _ ?_)))
  cases hi : its.toList with
  | nil => rw [hi] at i; cases i; exact absurd rfl hu
  | cons z zs =>
    rw [hi] at i
    cases i with
    | cons m t hr =>
      refine ⟨m, t, ?_⟩
      rw [← Array.getElem?_toList, hi]
      rfl
theorem kind_firsts : ∀ {vs : List Value} {ys : List (Option Value)}, Paired (fun _ y => ∃ a tk, y = some (Value.int a tk)) vs ys → ∃ zs : List Value, ys = zs.map some ∧ zs.length = vs.length ∧ ∀ z ∈ zs, ∃ a tk, z = Value.int a tk
  | _, _, .nil => ⟨[], rfl, rfl, fun z hz => by cases hz⟩
  | _, _, .cons ⟨a, tk, e⟩ t => by
    obtain ⟨zs, e1, e2, e3⟩ := kind_firsts t
    refine ⟨.int a tk :: zs, by rw [e, e1]; rfl, by simp [e2], fun z hz => ?_⟩
    rcases List.mem_cons.mp hz with rfl | hz
    · exact ⟨a, tk, rfl⟩
    · exact e3 z hz
theorem mapM_ints : ∀ {zs : List Value}, (∀ z ∈ zs, ∃ a tk, z = Value.int a tk) → zs.mapM typeOf = (pure (zs.map fun _ => Value.type "int") : Sem (List Value))
  | [], _ => by rw [List.mapM_nil]; rfl
  | z :: zs, h => by
    obtain ⟨a, tk, rfl⟩ := h z List.mem_cons_self
    rw [List.mapM_cons, mapM_ints fun y hy => h y (List.mem_cons_of_mem _ hy)]
    rfl
theorem kind_tups {vs : List Value} (hv : ∀ v ∈ vs, ∃ u, TupI s.heap v u ∧ u ≠ []) (h1 : vs ≠ []) {Q : SortKind → Shared → Prop} (h : Q (tuples' true) s) : wpAny (model prog w) A (keyKind' vs.toArray) Q E s := by
  rw [keyKind'_eq, List.mapM_toArray]
  refine wpAny_bind ?_
  have step : wpAny (model prog w) A (vs.mapM firstOfTuple') (fun ys s' => wpAny (model prog w) A (pure ys.toArray) (fun firsts s' => wpAny (model prog w) A (do
      if (firsts.all fun x => x.isSome) = true then
        rule "list.sort.keys-are-tuples"
        let __do_lift ← oneTypeOnly' (firsts.filterMap id)
        pure (tuples' (__do_lift.any fun x => x != Value.type "tuple"))
      else
        if (firsts[0]?.bind id).isSome = true then pure general'
        else do
          let __do_lift ← oneTypeOnly' vs.toArray
          pure (if __do_lift.isSome = true then oneType' else general')) Q E s') E s') E s := by
    refine wp_mapM (fun _ y => ∃ a tk, y = some (Value.int a tk)) (fun x hx Q' hq => ?_) fun ys hys => ?_
    · obtain ⟨u, t, hu⟩ := hv x hx
      exact first_tup t hu hq
    · obtain ⟨zs, e1, e2, e3⟩ := kind_firsts hys
      subst e1
      refine wpAny_pure ?_
      rw [if_pos (by simp)]
      refine wpAny_bind (wpAny_rule ?_)
      have ef : (zs.map some).toArray.filterMap id = zs.toArray := by
        rw [List.filterMap_toArray]
        congr 1
        induction zs with
        | nil => rfl
        | cons z zs ih => simp
      rw [ef, oneTypeOnly'_eq, List.mapM_toArray, mapM_ints e3]
      have z0 : ∃ z zs', zs = z :: zs' := by
        cases zs with
        | nil => rw [List.length_nil] at e2; exact absurd (List.eq_nil_of_length_eq_zero e2.symm) h1
        | cons z zs' => exact ⟨z, zs', rfl⟩
      obtain ⟨z, zs', rfl⟩ := z0
      simp only [map_pure, pure_bind]
      have g0 : (List.map (fun _ => Value.type "int") (z :: zs')).toArray[0]? = some (Value.type "int") := by simp
      have ga : ((List.map (fun _ => Value.type "int") (z :: zs')).toArray.all fun x => x == Value.type "int") = true := by
        rw [List.all_toArray, List.all_map, List.all_eq_true]
        intro _ _
        rfl
      rw [g0]
      dsimp only
      rw [ga, if_pos rfl]
      exact wpAny_bind (wpAny_pure (wpAny_pure h))
  exact wpAny_bind step
end
end L2
set_option Elab.async false
set_option linter.all false
set_option maxRecDepth 100000
set_option maxHeartbeats 1000000
namespace L2
open PySem PySem.Spec PyProof.Rows
section
variable {prog : Program} {w : World} {A : Around} {E : Value → Shared → Prop} {s : Shared}
theorem sort_gen {a : Addr} {vs : List Value} {n : Nat} {k0 : SortKind} {rk : Value → Int} {P : Fin → Shared → Prop} (hb : s.heap.get? a = some (seqObj "list" vs.toArray n)) (h64 : vs.length < 64)
    (hk : 2 ≤ vs.length → ∀ h' : Heap, (∀ b o, b ≠ a → s.heap.get? b = some o → h'.get? b = some o) → ∀ (E : Value → Shared → Prop) (Q : SortKind → Shared → Prop), Q k0 { s with heap := h' } → wpAny (model prog w) A (keyKind' vs.toArray) Q E { s with heap := h' })
    (hL : ∀ h' : Heap, (∀ b o, b ≠ a → s.heap.get? b = some o → h'.get? b = some o) → LtOk prog w A { s with heap := h' } k0 (pairsOf vs) rk)
    (h : ∀ xs : Array Keyed, xs.Perm (pairsOf vs) → (∀ i j, i ≤ j → j < (pairsOf vs).size → RK rk xs i ≤ RK rk xs j) → P (.done (.ret .none)) { s with heap := sortedHeap s.heap a vs (xs.map (·.2)) }) :
    wpAny (model prog w) A (Builtin.«list.sort» ⟨[.ref a], []⟩) P E s := by
  have la : a < s.heap.objs.size := Heap.lt_size hb
  have sv : vs.toArray.size = vs.length := List.size_toArray ..
  rw [list_sort_plain]
  refine wpAny_bind (listItems_at hb rfl (wpAny_bind (listUpdate_at hb rfl ?_)))
  have g1 := get?_update_seq hb (fun _ => (#[] : Array Value))
  have k1 : ∀ b o, b ≠ a → s.heap.get? b = some o → (s.heap.update a (Obj.mapSeq fun _ => #[])).get? b = some o := fun b o nb z => by
    rw [Heap.get?_update_ne _ _ _ _ nb]; exact z
  refine wpAny_bind (seqEpoch_at g1 rfl (wpAny_bind (wpAny_newTuple (wpAny_bind (wpAny_newList (wpAny_holding ?_))))))
  show wpAny (model prog w) A _ P E { s with heap := ((s.heap.update a (Obj.mapSeq fun _ => #[])).push (seqObj "tuple" vs.toArray 0)).push (seqObj "list" #[] 0) }
  have g6 := Heap.get?_push_of_some (seqObj "list" #[] 0) (Heap.get?_push_of_some (seqObj "tuple" vs.toArray 0) g1)
  have k6 : ∀ b o, b ≠ a → s.heap.get? b = some o → (((s.heap.update a (Obj.mapSeq fun _ => #[])).push (seqObj "tuple" vs.toArray 0)).push (seqObj "list" #[] 0)).get? b = some o := fun b o nb z => Heap.get?_push_of_some _ (Heap.get?_push_of_some _ (k1 b o nb z))
  have done : ∀ (xs : Array Keyed) (t : SortSt), arrOf t = xs → failedOf t = none → xs.Perm (pairsOf vs) → (∀ i j, i ≤ j → j < (pairsOf vs).size → RK rk xs i ≤ RK rk xs j) →
      wpAny (model prog w) A (do
        let touched := (← seqEpoch a) != (if (#[] : Array Value).size == vs.toArray.size then n else n + 1)
        Builtin.List.listUpdate (.ref a) fun _ => (arrOf t).map (·.2)
        if let some e := failedOf t then rule "list.sort.comparison-raised"; throw e
        if touched then rule "list.sort.modified"; raiseError "ValueError" "list modified during sort"
        ret .none) P E { s with heap := ((s.heap.update a (Obj.mapSeq fun _ => #[])).push (seqObj "tuple" vs.toArray 0)).push (seqObj "list" #[] 0) } := by
    rintro xs t rfl ft pm up
    refine wpAny_bind (seqEpoch_at g6 rfl (wpAny_bind (listUpdate_at g6 rfl ?_ (hsz2 := ?_))))
    · rw [ft]
      dsimp only
      rw [if_neg (by simp)]
      exact wpAny_pure (h _ pm up)
    · show ((arrOf t).map (·.2)).size ≤ sizeLine + 1
      rw [Array.size_map, pm.size_eq, pairsOf_size]
      exact Nat.le_trans (show vs.length ≤ 1000 by omega) (by decide)
  by_cases h2 : vs.toArray.size < 2
  · rw [if_pos h2, if_pos h2]
    refine wpAny_bind (wpAny_pure ?_)
    dsimp only
    rw [StateT.run_pure]
    refine wpAny_bind (wpAny_pure (done _ (SortSt.mk' general' (vs.toArray.zip vs.toArray) #[] 7 none) rfl rfl (Array.Perm.refl _) fun i j ij jl => ?_))
    rw [pairsOf_size] at jl
    rw [show i = j by omega]
    exact Int.le_refl _
  · rw [if_neg h2, if_neg h2]
    refine wpAny_bind (hk (by omega) _ k6 _ _ ?_)
    refine wpAny_bind (wpAny_mono (runs_ok (hL _ k6) (st := SortSt.mk' k0 (vs.toArray.zip vs.toArray) #[] 7 none) (a0 := pairsOf vs) ⟨Array.Perm.refl _, rfl, rfl, rfl⟩ (by rw [pairsOf_size]; omega) (by rw [pairsOf_size]; exact h64) (Q := fun _ t => (arrOf t).Perm (pairsOf vs) ∧ failedOf t = none ∧ ∀ i j, i ≤ j → j < (pairsOf vs).size → RK rk (arrOf t) i ≤ RK rk (arrOf t) j) fun t p1 p2 p3 => ⟨p1, p2, p3⟩) ?_ fun _ _ z => z)
    rintro ⟨⟨⟩, t⟩ s' ⟨rfl, p1, p2, p3⟩
    exact done _ t rfl p2 p1 p3
end
end L2
set_option Elab.async false
set_option linter.all false
set_option maxRecDepth 100000
set_option maxHeartbeats 1000000
set_option Elab.async false
set_option linter.all false
set_option maxRecDepth 100000
set_option maxHeartbeats 1000000
set_option Elab.async false
set_option linter.all false
set_option maxRecDepth 100000
set_option maxHeartbeats 1000000
set_option Elab.async false
set_option linter.all false
set_option maxRecDepth 100000
set_option maxHeartbeats 1000000
set_option Elab.async false
set_option linter.all false
set_option maxRecDepth 100000
set_option maxHeartbeats 1000000
set_option Elab.async false
set_option linter.all false
set_option maxRecDepth 100000
set_option maxHeartbeats 1000000
namespace L2
open PySem PySem.Spec PyProof.Rows
def hsh (prog : Program) (w : World) (u : List Int) : Int := tupleKeyHash (intKind prog w) u
end L2
set_option Elab.async false
set_option linter.all false
set_option maxRecDepth 100000
set_option maxHeartbeats 1000000
set_option Elab.async false
set_option linter.all false
set_option maxRecDepth 100000
set_option maxHeartbeats 4000000
set_option Elab.async false
set_option linter.all false
set_option maxRecDepth 100000
set_option maxHeartbeats 4000000
set_option Elab.async false
set_option linter.all false
set_option maxRecDepth 100000
set_option maxHeartbeats 1000000
namespace L2
open PySem PySem.Spec PyProof.Rows
def TuL (H : Hp) (xs : List V) (us : List (List Int)) : Prop := xs.length = us.length ∧ ∀ (i : Nat) (x : V) (u : List Int), xs[i]? = some x → us[i]? = some u → ∃ a : Addr, x = .ref a ∧ H a = some (.tup (u.map V.int))
theorem TuL.nil (H : Hp) : TuL H [] [] := ⟨rfl, fun i x u h => by cases h⟩
theorem TuL.up {H H' : Hp} {xs : List V} {us : List (List Int)} (h : TuL H xs us) (t : Tups H H') : TuL H' xs us := ⟨h.1, fun i x u h1 h2 => by
  obtain ⟨a, b, c⟩ := h.2 i x u h1 h2
  exact ⟨a, b, t _ _ c⟩⟩
theorem TuL.snoc {H : Hp} {xs : List V} {us : List (List Int)} {a : Addr} {u : List Int} (h : TuL H xs us) (ha : H a = some (.tup (u.map V.int))) : TuL H (xs ++ [.ref a]) (us ++ [u]) := by
  refine ⟨by rw [List.length_append, List.length_append, h.1]; rfl, fun i y r h1 h2 => ?_⟩
  by_cases z : i < xs.length
  · rw [List.getElem?_append_left z] at h1
    rw [List.getElem?_append_left (h.1 ▸ z)] at h2
    exact h.2 i y r h1 h2
  · rw [List.getElem?_append_right (by omega)] at h1
    rw [List.getElem?_append_right (by have := h.1; omega), ← h.1] at h2
    cases w : i - xs.length with
    | zero => rw [w] at h1 h2; cases h1; cases h2; exact ⟨a, rfl, ha⟩
    | succ m => rw [w] at h1; cases h1
def dTs (us : List (List Int)) : PyData := .list (us.map dT)
theorem lay_dTs : ∀ us : List (List Int), (dTs us).canLay0 = true := by
  have : ∀ us : List (List Int), PyData.canLayAll0 (us.map dT) = true := by
    intro us
    induction us with
    | nil => rfl
    | cons u us ih => show ((dT u).canLay0 && PyData.canLayAll0 (us.map dT)) = true; rw [lay_dT, ih]; rfl
  exact this
def vOf : Value → V
  | .ref a => .ref a
  | _ => .non
section
variable {X : Cx} {pins : List (Addr × Obj)} {σ : St} {H : Hp} {s : Shared}
theorem tup_of (I : Inv X pins σ H s) {a : Addr} {u : List Int} (h : H a = some (.tup (u.map V.int))) : TupI s.heap (.ref a) u := by
  obtain ⟨its, r, ⟨o, e, c, n, hd⟩, _⟩ := I.tuple (SqT.of (K := X.K) h)
  exact ⟨a, o, _, n, rfl, e, c, hd, by simpa using intsAre_of r⟩
theorem call_tuple_ofKK {K : PySem.W.Frag} (hK : X.K = K := by rfl) : CallR X (.type "tuple") (fun xs H Q => ∃ p ys, xs = [.ref p] ∧ ((SqL K H p ys ∧ ∀ l, H l = none → Q (.ref l) (upd H l (.tup ys))) ∨ (SqT K H p ys ∧ Q (.ref p) H))) := by subst hK; exact call_tuple_of
end
end L2
set_option Elab.async false
set_option linter.all false
set_option maxRecDepth 100000
set_option maxHeartbeats 1000000
set_option Elab.async false
set_option linter.all false
set_option maxRecDepth 100000
set_option maxHeartbeats 1000000
namespace L2
open PySem PySem.Spec PyProof.Rows
theorem ints_items {P : Program} {w : World} : ∀ {vs : List Value} {u : List Int}, IntsAre vs u → ItemsAre (intKind P w) u vs
  | _, _, .nil => .nil
  | _, _, .cons n t h => .cons (intKind_is _ _ _ _) (ints_items h)
theorem lexB_lt : ∀ (u v : List Int), HT.lexLt u v = lexB u v
  | [], [] => rfl
  | [], _ :: _ => rfl
  | _ :: _, [] => rfl
  | a :: u, b :: v => by rw [HT.lexLt_cons, lexB_lt u v]; rfl
end L2
set_option Elab.async false
set_option linter.all false
set_option maxRecDepth 100000
set_option maxHeartbeats 1000000
namespace L2
open PySem PySem.Spec PyProof.Rows
def cont (h : Heap) (b : Addr) : Option HO := match h.get? b with
  | some o => match o.data with
    | .seq its _ => match its.toList with
      | [.ref ka, .int m _] => some (.tup [.ref ka, .int m])
      | _ => none
    | _ => none
  | none => none
end L2
set_option Elab.async false
set_option linter.all false
set_option maxRecDepth 100000
set_option maxHeartbeats 1000000
set_option Elab.async false
set_option linter.all false
set_option maxRecDepth 100000
set_option maxHeartbeats 1000000
namespace L2
open PySem PySem.Spec PyProof.Rows
section
variable {X : Cx}
theorem call_range2 : CallR X (.type "range") (fun xs H Q => ∃ i j : Int, xs = [.int i, .int j] ∧ ∀ p, H p = none → Q (.ref p) (upd H p (.rng i j))) := by
  intro pins s σ H xs us Q I r h
  obtain ⟨i, j, rfl, q⟩ := h
  obtain ⟨u1, u2, rfl, ⟨t1, rfl⟩, ⟨t2, rfl⟩⟩ := vals2 r
  refine call_range_2 ?_
  exact ⟨.ref _, upd H s.heap.objs.size (.rng i j), I.laid (fun b u e => Heap.get?_push_of_some _ e) (Nat.le_refl _) ⟨_, _, _, Heap.get?_push_size _ rfl⟩, rfl, q _ (I.hok.fresh (Nat.le_refl _))⟩
def upto (lo : Int) (n : Nat) : List Int := (List.range n).map fun (i : Nat) => lo + (i : Int)
theorem call_list_rng2 (hc : X.calm = true) : CallR X (.type "list") (fun xs H Q => ∃ (p : Addr) (i j : Int), xs = [.ref p] ∧ H p = some (.rng i j) ∧ -1000 ≤ i ∧ i ≤ j ∧ j ≤ 1000 ∧ ∀ l, H l = none → Q (.ref l) (upd H l (.lst ((upto i (j - i).toNat).map V.int)))) := by
  intro pins s σ H xs us Q I r h
  obtain ⟨p, lo, j, rfl, hp, h0, h1, h2, q⟩ := h
  obtain ⟨u, rfl, rx⟩ := vals1 r
  cases rx
  obtain ⟨t, u, v, e⟩ := I.hok p _ hp
  refine call_list_range (n := (j - lo).toNat) (I.ok.hd hc) e (small_one (by omega) (by omega) (by omega) (by omega)) (by rw [rangeSize_one]; split <;> omega) (by omega) fun h' tk acc' c' hk hS hacc => ?_
  have hln : ((upto lo (j - lo).toNat).map V.int).length = acc'.toList.length := by unfold upto; simp [hacc.1]
  refine ⟨.ref _, _, I.laid (o := .lst ((upto lo (j - lo).toNat).map V.int)) hk (Nat.le_refl _) ⟨?_, acc'.toList, c', Vals.of_get hln fun i x w' e1 e2 => ?_, by simpa using hS⟩, rfl, q _ (I.hok.fresh (Nat.le_refl _))⟩
  · unfold upto
    rw [List.length_map, List.length_map, List.length_range]
    exact Nat.le_trans (show (j - lo).toNat ≤ 2000 by omega) (by decide)
  · have hi : i < (j - lo).toNat := by
      have := (List.getElem?_eq_some_iff.mp e1).1
      unfold upto at this
      rw [List.length_map, List.length_map, List.length_range] at this
      exact this
    unfold upto at e1
    rw [List.getElem?_map, List.getElem?_map, List.getElem?_range hi] at e1
    cases e1
    obtain ⟨tk', z⟩ := hacc.2 i w' (by simpa using e2)
    rw [z]
    exact ⟨tk', by simp⟩
def rRepR : R2 := fun x y H Q => ∃ l k xs, y = .ref l ∧ x = .int k ∧ H l = some (.lst xs) ∧ -(2 ^ 63) ≤ k ∧ k < 2 ^ 63 ∧ xs.length * k.toNat ≤ sizeLine ∧
  ∀ p, H p = none → Q (.ref p) (upd H p (.lst (List.replicate k.toNat xs).flatten))
theorem op_repR : OpR X (binaryOp .Mult) rRepR := by
  intro pins s σ H x y v u Q I rx ry h
  obtain ⟨l, k, xs, rfl, rfl, hH, h1, h2, hz, q⟩ := h
  cases ry
  obtain ⟨t, rfl⟩ := rx
  obtain ⟨z, its, n, r, hl, e⟩ := I.lstM hH
  have hlen : its.toArray.size * k.toNat ≤ sizeLine := by rw [List.size_toArray, ← hl]; exact hz
  have hcap : ¬ its.toArray.size * k.toNat > (2 ^ 63 - 1) / 8 := by
    have : (sizeLine : Nat) ≤ (2 ^ 63 - 1) / 8 := by decide
    omega
  have hfit : ¬ (!Builtin.List.listFitsIndex k) = true := by
    rw [fitsIndex_both h1 h2]
    exact Bool.false_ne_true
  have hlong : ¬ Builtin.List.listTooLong (its.toArray.size * k.toNat) = true := by
    rw [notLongL hlen]
    exact Bool.false_ne_true
  have hnew : List.foldl (fun x1 x2 => x1 ++ x2) #[] (List.replicate (if its.toArray.isEmpty = true then 0 else k.toNat) its.toArray) = (List.replicate k.toNat its).flatten.toArray := by
    have f0 : ∀ m : Nat, List.foldl (fun x1 x2 => x1 ++ x2) #[] (List.replicate m its.toArray) = (List.replicate m its).flatten.toArray := fun m => by
      have := foldl_rep its m []
      rw [List.nil_append] at this
      exact this
    rw [f0]
    cases its with
    | nil => simp
    | cons a r' => rw [if_neg (by simp)]
  refine lm_binaryOp_repeat_right (T := "list") (U := "int") (by decide) (fun s' => typeIs_int s' k t) ⟨_, e, rfl⟩ F.fills_int_mul noFill_list_mul F.slot_int_mul lm_noRepeat_int repeat_list F.slot_int_index.lookup
    (call_meets F.slot_int_mul (typeIs_int s k t) F.entry_int_mul (F.args_int_mul_2 _ _) (int___mul___int_list k t l its.toArray n)
      ⟨e, rfl, ⟨_, e, rfl⟩, call_meets F.slot_list_mul ⟨_, e, rfl⟩ F.entry_list_mul (F.args_list_mul_2 _ _) (AutoListH.list___mul___list_int_3 l its.toArray n k t hfit hcap hlong) ⟨e, ?_⟩⟩)
  rw [hnew]
  exact ⟨.ref _, _, I.lnew (t' := s.toks) (r.rep k.toNat) (by rw [len_rep, Nat.mul_comm]; exact hz), rfl, q _ I.fresh⟩
theorem pi_tupK {K : PySem.W.Frag} {tg l : Expr} {tl : TE} (hl : PE X l tl) (hK : X.K = K := by rfl) : PI X tg l (iTup K tl) := by subst hK; exact pi_tup hl
theorem pe_bmK {K : PySem.W.Frag} {o e : Expr} {es : List Expr} {to : TE} {t : TA} {name : Str} {apos cpos : PySem.Pos} {T id : String} {r : V → List V → Hp → VK → Prop} (pa : PlainAttrs T) (slot : Slot T name id) (hty : typeOf (.builtin id) = pure (.type "method_descriptor")) (hm : MtR X id r) (ho : PE X o to) (ha : PA X (e :: es) t) (hK : X.K = K := by rfl)
    (hbase : attributeBase o name X.env (eval o X.env) = eval o X.env := by rfl)
    (hfew : ((backTo cpos (starEach (e :: es) X.env)).all (fun x => !x.1) && (backToKw cpos (keywordEach [] X.env)).all (fun x => x.1.isSome)
      && decide ((e :: es).length + ([] : List Keyword).length + (if ([] : List Keyword).isEmpty then 0 else 1) < 30)) = true := by rfl)
    (hline : (apos.endLine == cpos.line) = true := by rfl) (hs : starEach (e :: es) X.env = (false, eval e X.env) :: starEach es X.env := by rfl) (hplain : (backTo cpos (starEach es X.env)).any (·.1) = false := by rfl) :
    PE X (.Call (.Attribute o name apos) (e :: es) [] cpos) (tBM K T r to t) := by subst hK; exact pe_bm pa slot hty hm ho ha hbase hfew hline hs hplain
end
end L2
set_option Elab.async false
set_option linter.all false
set_option maxRecDepth 100000
set_option maxHeartbeats 1000000
namespace L2
open PySem PySem.Spec PyProof.Rows
def absI (i : Int) : Int := if i < 0 then -i else i
def pool (n : Nat) : List Int := upto 1 n ++ upto 1 n
structure ShOk (S : List (List Int)) : Prop where
  even : ∃ m : Nat, S.length = 2 * m ∧ 1 ≤ m ∧ m ≤ 6
  three : ∀ t ∈ S, t.length = 3
  ties : (S.flatten.map absI).Perm (pool (S.length / 2 * 3))
theorem mem_upto {lo : Int} {n : Nat} {i : Int} : i ∈ upto lo n ↔ lo ≤ i ∧ i < lo + (n : Int) := by
  unfold upto
  rw [List.mem_map]
  constructor
  · rintro ⟨k, hk, rfl⟩
    have := List.mem_range.mp hk
    omega
  · rintro ⟨h1, h2⟩
    exact ⟨(i - lo).toNat, List.mem_range.mpr (by omega), by omega⟩
theorem upto_len (lo : Int) (n : Nat) : (upto lo n).length = n := by unfold upto; rw [List.length_map, List.length_range]
theorem chunks (os : List Int) : ∀ n : Nat, ((List.range n).map fun k => (os.drop (3 * k)).take 3).flatten = os.take (3 * n)
  | 0 => by simp
  | n + 1 => by
    rw [List.range_succ, List.map_append, List.flatten_append, chunks os n]
    simp only [List.map_cons, List.map_nil, List.flatten_cons, List.flatten_nil, List.append_nil]
    rw [show 3 * (n + 1) = 3 * n + 3 by omega, List.take_add]
theorem rep2 (xs : List V) : (List.replicate (2 : Int).toNat xs).flatten = xs ++ xs := by
  show xs ++ (xs ++ []) = xs ++ xs
  rw [List.append_nil]
def dI (ns : List Int) : PyData := .list (ns.map .int)
theorem di_lst {K : PySem.W.Frag} {H : Hp} {a : Addr} {ns : List Int} (h : SqL K H a (ns.map V.int)) : DI K H (.ref a) (dI ns) := by
  refine .lst h (by rw [List.length_map, List.length_map]) fun i x d h1 h2 => ?_
  rw [List.getElem?_map] at h1 h2
  cases z : ns[i]? with
  | none => rw [z] at h1; cases h1
  | some m => rw [z] at h1 h2; cases h1; cases h2; exact .int m
theorem eqv_dI (ns ms : List Int) : PyData.eqv (dI ns) (dI ms) = decide (ns = ms) := eqvAll_ints ns ms
theorem lay_dI (ns : List Int) : (dI ns).canLay0 = true := lay_ints ns
theorem dep_dI (ns : List Int) : (dI ns).depth ≤ 60 := by show PyData.depthAll _ + 1 ≤ 60; rw [dep_ints]; decide
theorem erase_permK {α : Type} : ∀ {l : List α} {k : Nat} {y : α}, l[k]? = some y → l.Perm (y :: l.eraseIdx k)
  | [], k, y, h => by cases h
  | a :: l, 0, y, h => by cases h; exact List.Perm.refl _
  | a :: l, k + 1, y, h => by
    have ih := erase_permK (l := l) (k := k) (y := y) (by simpa using h)
    exact (List.Perm.cons a ih).trans (List.Perm.swap y a _)
theorem map_erase {α β : Type} (f : α → β) : ∀ (l : List α) (k : Nat), (l.map f).eraseIdx k = (l.eraseIdx k).map f
  | [], _ => rfl
  | _ :: _, 0 => rfl
  | a :: l, k + 1 => by
    show f a :: (l.map f).eraseIdx k = f a :: (l.eraseIdx k).map f
    rw [map_erase f l k]
theorem cut_midL (xs : List V) {u m : Int} (u0 : 0 ≤ u) (m1 : 0 ≤ m) (h : u + m ≤ (xs.length : Int)) : cutV xs (some u) (some (u + m)) = (xs.drop u.toNat).take m.toNat := by
  unfold cutV
  have a1 : HT.sIx xs.length 0 (some u) = u.toNat := by
    show (if u < 0 then _ else min u.toNat xs.length) = _
    rw [if_neg (by omega)]
    omega
  have a2 : HT.sIx xs.length xs.length (some (u + m)) = u.toNat + m.toNat := by
    show (if u + m < 0 then _ else min (u + m).toNat xs.length) = _
    rw [if_neg (by omega)]
    omega
  rw [a1, a2, Nat.add_sub_cancel_left]
theorem abs_sign {y r : Int} (hy : 0 ≤ y) (h0 : 0 ≤ r) (h1 : r < 2) : absI (y * (1 - 2 * r)) = y := by
  have : r = 0 ∨ r = 1 := by omega
  unfold absI
  rcases this with rfl | rfl
  · rw [show y * (1 - 2 * 0) = y by omega, if_neg (by omega)]
  · rw [show y * (1 - 2 * 1) = -y by omega]
    split <;> omega
theorem pool_len (n : Nat) : (pool n).length = 2 * n := by unfold pool; rw [List.length_append, upto_len]; omega
theorem mem_pool {n : Nat} {i : Int} (h : i ∈ pool n) : 1 ≤ i ∧ i ≤ (n : Int) := by
  unfold pool at h
  rcases List.mem_append.mp h with h | h <;> (have := mem_upto.mp h; omega)
theorem sheet_ok {m : Nat} {os : List Int} (m1 : 1 ≤ m) (m6 : m ≤ 6) (h : (os.map absI).Perm (pool (3 * m))) : ShOk ((List.range (2 * m)).map fun k => (os.drop (3 * k)).take 3) := by
  have hl : os.length = 6 * m := by
    have := h.length_eq
    rw [List.length_map, pool_len] at this
    omega
  have lS : ((List.range (2 * m)).map fun k => (os.drop (3 * k)).take 3).length = 2 * m := by rw [List.length_map, List.length_range]
  refine ⟨⟨m, lS, m1, m6⟩, fun t ht => ?_, ?_⟩
  · obtain ⟨k, hk, rfl⟩ := List.mem_map.mp ht
    have hk := List.mem_range.mp hk
    rw [List.length_take, List.length_drop]
    omega
  · rw [chunks, List.take_of_length_le (by omega), lS]
    rw [show 2 * m / 2 * 3 = 3 * m by omega]
    exact h
end L2
set_option Elab.async false
set_option linter.all false
set_option maxRecDepth 100000
set_option maxHeartbeats 1000000
namespace L2
open PySem PySem.Spec PyProof.Rows
def wholeD : PyData → Bool
  | .int _ => true
  | _ => false
theorem whole_ib (d : PyData) : wholeD d = (isInt d && !isBool d) := by cases d <;> rfl
theorem three3 {α : Type} {xs : List α} (h : xs.length = 3) : ∃ a b c, xs = [a, b, c] := by
  match xs, h with
  | [a, b, c], _ => exact ⟨a, b, c, rfl⟩
theorem upto_succ (lo : Int) (n : Nat) : upto lo (n + 1) = upto lo n ++ [lo + (n : Int)] := by unfold upto; rw [List.range_succ, List.map_append]; rfl
theorem count_upto (t : Int) : ∀ n : Nat, (upto 1 n).countP (fun z => decide (z = t)) = if 1 ≤ t ∧ t ≤ (n : Int) then 1 else 0
  | 0 => by rw [if_neg (by omega)]; rfl
  | n + 1 => by
    rw [upto_succ, List.countP_append, count_upto t n]
    by_cases h : (1 : Int) + (n : Int) = t
    · rw [if_neg (by omega), if_pos (by omega)]
      simp [h]
    · have e : List.countP (fun z => decide (z = t)) [(1 : Int) + (n : Int)] = 0 := by simp [h]
      rw [e]
      by_cases q : 1 ≤ t ∧ t ≤ (n : Int)
      · rw [if_pos q, if_pos (by omega)]
      · rw [if_neg q, if_neg (by omega)]
theorem count_pool (t : Int) (n : Nat) : (pool n).countP (fun z => decide (z = t)) = if 1 ≤ t ∧ t ≤ (n : Int) then 2 else 0 := by
  unfold pool
  rw [List.countP_append, count_upto]
  split <;> rfl
theorem TuL.th {H : Hp} {xs : List V} {us : List (List Int)} (h : TuL H xs us) : ThL H xs (us.map dT) := by
  refine ⟨by rw [List.length_map]; exact h.1, fun i x d h1 h2 => ?_⟩
  rw [List.getElem?_map] at h2
  cases z : us[i]? with
  | none => rw [z] at h2; cases h2
  | some u =>
    rw [z] at h2
    cases h2
    obtain ⟨a, rfl, ha⟩ := h.2 i x u h1 z
    exact (ThL.ints u).tup ha
end L2
set_option Elab.async false
set_option linter.all false
set_option maxRecDepth 100000
set_option maxHeartbeats 1000000
namespace L2
open PySem PySem.Spec PyProof.Rows
theorem ShOk.side {S : List (List Int)} (h : ShOk S) {t : List Int} (ht : t ∈ S) {i : Int} (hi : i ∈ t) : 1 ≤ absI i ∧ absI i ≤ ((S.length / 2 * 3 : Nat) : Int) := by
  have : absI i ∈ pool (S.length / 2 * 3) := h.ties.subset (List.mem_map_of_mem (List.mem_flatten.mpr ⟨t, ht, hi⟩))
  exact mem_pool this
theorem ShOk.len {S : List (List Int)} (h : ShOk S) : 2 ≤ S.length ∧ S.length ≤ 12 ∧ S.length % 2 = 0 := by
  obtain ⟨m, a, b, c⟩ := h.even
  omega
theorem mem_set' {α : Type} {l : List α} {n : Nat} {a b : α} (h : a ∈ l.set n b) : a ∈ l ∨ a = b := by
  rcases List.mem_or_eq_of_mem_set h with h | h
  · exact .inl h
  · exact .inr h
end L2
set_option linter.all false
namespace L2
inductive Conn {α : Type} (R : α → α → Prop) : α → α → Prop where
  | refl (a : α) : Conn R a a
  | step {a b c : α} : Conn R a b → R b c → Conn R a c
section
variable {α β : Type} {R : α → α → Prop}
theorem Conn.trans {a b c : α} (h : Conn R a b) (k : Conn R b c) : Conn R a c := by
  induction k with
  | refl => exact h
  | step _ r ih => exact .step ih r
theorem Conn.one {a b : α} (h : R a b) : Conn R a b := .step (.refl a) h
theorem Conn.symm (hs : ∀ a b, R a b → R b a) {a b : α} (h : Conn R a b) : Conn R b a := by
  induction h with
  | refl => exact .refl _
  | step _ r ih => exact (Conn.one (hs _ _ r)).trans ih
structure Parts (R : α → α → Prop) (ts : List α) (hs : List (List α)) : Prop where
  perm : hs.flatten.Perm ts
  ne : ∀ h ∈ hs, h ≠ []
  conn : ∀ h ∈ hs, ∀ x ∈ h, ∀ y ∈ h, Conn R x y
  closed : ∀ h ∈ hs, ∀ x ∈ h, ∀ y, R x y → y ∈ h
theorem Parts.mem {ts : List α} {hs : List (List α)} (p : Parts R ts hs) {x : α} (hx : x ∈ ts) : ∃ h ∈ hs, x ∈ h := by
  have := p.perm.symm.subset hx
  obtain ⟨h, h1, h2⟩ := List.mem_flatten.mp this
  exact ⟨h, h1, h2⟩
theorem Parts.perm_in {ts : List α} {hs gs : List (List α)} (p : Parts R ts hs) (hl : hs.length = gs.length) (h : ∀ (i : Nat) (a b : List α), hs[i]? = some a → gs[i]? = some b → b.Perm a) : Parts R ts gs := by
  have back : ∀ b ∈ gs, ∃ a ∈ hs, b.Perm a := by
    intro b hb
    obtain ⟨i, hi⟩ := List.getElem?_of_mem hb
    have il : i < hs.length := by rw [hl]; exact (List.getElem?_eq_some_iff.mp hi).1
    exact ⟨hs[i], List.getElem_mem il, h i _ b (List.getElem?_eq_getElem il) hi⟩
  refine ⟨?_, ?_, ?_, ?_⟩
  · refine List.Perm.trans ?_ p.perm
    clear p back
    induction hs generalizing gs with
    | nil => cases gs with
      | nil => exact .refl _
      | cons b gs => simp at hl
    | cons a hs ih => cases gs with
      | nil => simp at hl
      | cons b gs =>
        rw [List.flatten_cons, List.flatten_cons]
        exact (h 0 a b rfl rfl).append (ih (by simpa using hl) fun i x y h1 h2 => h (i + 1) x y (by simpa using h1) (by simpa using h2))
  · intro b hb e
    obtain ⟨a, ha, q⟩ := back b hb
    subst e
    exact p.ne a ha q.nil_eq.symm
  · intro b hb x hx y hy
    obtain ⟨a, ha, q⟩ := back b hb
    exact p.conn a ha x (q.subset hx) y (q.subset hy)
  · intro b hb x hx y r
    obtain ⟨a, ha, q⟩ := back b hb
    exact q.symm.subset (p.closed a ha x (q.subset hx) y r)
theorem Parts.perm_out {ts : List α} {hs gs : List (List α)} (p : Parts R ts hs) (q : gs.Perm hs) : Parts R ts gs :=
  ⟨(List.Perm.flatten q).trans p.perm, fun h hh => p.ne h (q.subset hh), fun h hh => p.conn h (q.subset hh), fun h hh => p.closed h (q.subset hh)⟩
end
end L2
set_option Elab.async false
set_option linter.all false
set_option maxRecDepth 100000
set_option maxHeartbeats 1000000
namespace L2
open PySem PySem.Spec PyProof.Rows
inductive Itm (H : Hp) : Bool → V → List Int → Prop where
  | int (i : Int) : Itm H false (.int i) [i]
  | tup {a : Addr} {u : List Int} : H a = some (.tup (u.map V.int)) → Itm H true (.ref a) u
def ItL (H : Hp) (tp : Bool) (xs : List V) (us : List (List Int)) : Prop := xs.length = us.length ∧ ∀ (i : Nat) (x : V) (u : List Int), xs[i]? = some x → us[i]? = some u → Itm H tp x u
theorem Itm.up {H H' : Hp} {tp : Bool} {x : V} {u : List Int} (h : Itm H tp x u) (t : Tups H H') : Itm H' tp x u := by
  cases h with
  | int i => exact .int i
  | tup e => exact .tup (t _ _ e)
theorem ItL.up {H H' : Hp} {tp : Bool} {xs : List V} {us : List (List Int)} (h : ItL H tp xs us) (t : Tups H H') : ItL H' tp xs us := ⟨h.1, fun i x u h1 h2 => (h.2 i x u h1 h2).up t⟩
theorem ItL.nil (H : Hp) (tp : Bool) : ItL H tp [] [] := ⟨rfl, fun i x u h => by cases h⟩
theorem ItL.cons {H : Hp} {tp : Bool} {x : V} {u : List Int} {xs : List V} {us : List (List Int)} (a : Itm H tp x u) (h : ItL H tp xs us) : ItL H tp (x :: xs) (u :: us) := by
  refine ⟨by simp [h.1], fun i y v h1 h2 => ?_⟩
  cases i with
  | zero => cases h1; cases h2; exact a
  | succ i => exact h.2 i y v (by simpa using h1) (by simpa using h2)
theorem ItL.head {H : Hp} {tp : Bool} {x : V} {u : List Int} {xs : List V} {us : List (List Int)} (h : ItL H tp (x :: xs) (u :: us)) : Itm H tp x u := h.2 0 x u rfl rfl
theorem ItL.tail {H : Hp} {tp : Bool} {x : V} {u : List Int} {xs : List V} {us : List (List Int)} (h : ItL H tp (x :: xs) (u :: us)) : ItL H tp xs us :=
  ⟨by simpa using h.1, fun i y v h1 h2 => h.2 (i + 1) y v (by simpa using h1) (by simpa using h2)⟩
theorem ItL.append {H : Hp} {tp : Bool} {xs ys : List V} {us vs : List (List Int)} (h : ItL H tp xs us) (k : ItL H tp ys vs) : ItL H tp (xs ++ ys) (us ++ vs) := by
  refine ⟨by simp [h.1, k.1], fun i x u h1 h2 => ?_⟩
  by_cases c : i < xs.length
  · rw [List.getElem?_append_left c] at h1
    rw [List.getElem?_append_left (h.1 ▸ c)] at h2
    exact h.2 i x u h1 h2
  · rw [List.getElem?_append_right (by omega)] at h1
    rw [List.getElem?_append_right (by rw [← h.1]; omega), ← h.1] at h2
    exact k.2 _ x u h1 h2
theorem ItL.erase {H : Hp} {tp : Bool} {xs : List V} {us : List (List Int)} (h : ItL H tp xs us) (n : Nat) : ItL H tp (xs.eraseIdx n) (us.eraseIdx n) := by
  refine ⟨by rw [List.length_eraseIdx, List.length_eraseIdx, h.1], fun i x u h1 h2 => ?_⟩
  rw [List.getElem?_eraseIdx] at h1 h2
  split at h1
  · rename_i c; rw [if_pos c] at h2; exact h.2 i x u h1 h2
  · rename_i c; rw [if_neg c] at h2; exact h.2 _ x u h1 h2
theorem ItL.at {H : Hp} {tp : Bool} {xs : List V} {us : List (List Int)} (h : ItL H tp xs us) {i : Nat} {u : List Int} (e : us[i]? = some u) : ∃ x, xs[i]? = some x ∧ Itm H tp x u := by
  have il : i < xs.length := by rw [h.1]; exact (List.getElem?_eq_some_iff.mp e).1
  exact ⟨xs[i], List.getElem?_eq_getElem il, h.2 i _ u (List.getElem?_eq_getElem il) e⟩
theorem TuL.it {H : Hp} {xs : List V} {us : List (List Int)} (h : TuL H xs us) : ItL H true xs us := ⟨h.1, fun i x u h1 h2 => by
  obtain ⟨a, rfl, e⟩ := h.2 i x u h1 h2
  exact .tup e⟩
theorem ItL.tu {H : Hp} {xs : List V} {us : List (List Int)} (h : ItL H true xs us) : TuL H xs us := ⟨h.1, fun i x u h1 h2 => by
  cases h.2 i x u h1 h2 with
  | tup e => exact ⟨_, rfl, e⟩⟩
inductive ItV (h : Heap) : Bool → Value → List Int → Prop where
  | int (i : Int) (t : Tok) : ItV h false (.int i t) [i]
  | tup {v : Value} {u : List Int} : TupI h v u → ItV h true v u
def cdV (tp : Bool) (h : Heap) (v : Value) : List Int := if tp then kfI h v else [vInt v]
theorem ItV.cd {h : Heap} {tp : Bool} {v : Value} {u : List Int} (x : ItV h tp v u) : cdV tp h v = u := by
  cases x with
  | int i t => rfl
  | tup t => exact t.kf
theorem ItV.keep {h h' : Heap} {tp : Bool} {v : Value} {u : List Int} (x : ItV h tp v u) (k : ∀ (b : Addr) (o : Obj), o.cls = .type "tuple" → h.get? b = some o → h'.get? b = some o) : ItV h' tp v u := by
  cases x with
  | int i t => exact .int i t
  | tup t => exact .tup (t.keep' k)
theorem it_of {X : Cx} {pins : List (Addr × Obj)} {σ : L2.St} {H : Hp} {s : Shared} (I : Inv X pins σ H s) {tp : Bool} {x : V} {u : List Int} (h : Itm H tp x u) {v : Value} (r : RelV x v) : ItV s.heap tp v u := by
  cases h with
  | int i => obtain ⟨t, rfl⟩ := r; exact .int i t
  | tup e => cases r; exact .tup (tup_of I e)
theorem its_of {X : Cx} {pins : List (Addr × Obj)} {σ : L2.St} {H : Hp} {s : Shared} (I : Inv X pins σ H s) {tp : Bool} : ∀ {xs : List V} {vs : List Value} {us : List (List Int)}, Vals xs vs → ItL H tp xs us → vs.length = us.length ∧ ∀ (i : Nat) (v : Value) (u : List Int), vs[i]? = some v → us[i]? = some u → ItV s.heap tp v u
  | _, _, us, .nil, h => by
    have := h.1
    refine ⟨by simpa using this, fun i v u e => by cases e⟩
  | _, _, [], .cons r t, h => by have := h.1; simp at this
  | _, _, u :: us, .cons r t, h => by
    obtain ⟨l, k⟩ := its_of I t h.tail
    refine ⟨by simp [l], fun i v w e1 e2 => ?_⟩
    cases i with
    | zero => cases e1; cases e2; exact it_of I h.head r
    | succ i => exact k i v w (by simpa using e1) (by simpa using e2)
theorem lexB_one (i j : Int) : lexB [i] [j] = decide (i < j) := by
  by_cases h : i = j
  · subst h
    rw [lexB_irr]
    exact (decide_eq_false (by omega)).symm
  · show (if i = j then lexB [] [] else decide (i < j)) = _
    rw [if_neg h]
section
variable {prog : Program} {w : World} {A : Around} {E : Value → Shared → Prop} {s : Shared}
theorem ItV.eq {tp : Bool} {x y : Value} {u v : List Int} (hu : A.units < cLine) (hx : ItV s.heap tp x u) (hy : ItV s.heap tp y v) : SeqAt.EqAt A s x y (decide (u = v)) := by
  cases hx with
  | int i t =>
    cases hy with
    | int j t' =>
      have := SeqAt.EqAt.int_int (A := A) (s := s) i t j t'
      have e : (i == j) = decide ([i] = [j]) := by
        by_cases z : i = j <;> simp [z]
      rw [e] at this
      exact this
  | tup tx =>
    cases hy with
    | tup ty =>
      obtain ⟨p, op, ip, np, rfl, g1, g2, g3, g4⟩ := tx
      obtain ⟨q, oq, iq, nq, rfl, k1, k2, k3, k4⟩ := ty
      intro prog w E Q hQ
      exact wpAny_eqBool_tuple (knd := intKind prog w) hu ⟨op, ip, np, g1, g2, g3, ints_items g4⟩ ⟨oq, iq, nq, k1, k2, k3, ints_items k4⟩ hQ
theorem ItV.lt {tp : Bool} {x y : Value} {u v : List Int} {Q : Value → Shared → Prop} (hu : A.units < cLine) (hx : ItV s.heap tp x u) (hy : ItV s.heap tp y v) (h : Q (.bool (lexB u v)) s) : wpAny (model prog w) A (richCompare .Lt x y) Q E s := by
  cases hx with
  | int i t =>
    cases hy with
    | int j t' =>
      rw [lexB_one] at h
      exact HT.rcLt_int A s i t j t' prog w E Q h
  | tup tx =>
    cases hy with
    | tup ty =>
      obtain ⟨p, op, ip, np, rfl, g1, g2, g3, g4⟩ := tx
      obtain ⟨q, oq, iq, nq, rfl, k1, k2, k3, k4⟩ := ty
      refine HT.lt_tupInts (items := ip) (items2 := iq) ⟨op, g1, g2, np, g3⟩ ⟨oq, k1, k2, nq, k3⟩ g4 k4 hu ?_
      rw [lexB_lt]
      exact h
end
def lexLL : List (List Int) → List (List Int) → Bool
  | [], [] => false
  | [], _ :: _ => true
  | _ :: _, [] => false
  | a :: u, b :: v => if a = b then lexLL u v else lexB a b
theorem lexLL_irr : ∀ u : List (List Int), lexLL u u = false
  | [] => rfl
  | a :: u => by show (if a = a then lexLL u u else _) = false; rw [if_pos rfl]; exact lexLL_irr u
theorem lexLL_cons (a b : List Int) (u v : List (List Int)) : lexLL (a :: u) (b :: v) = if a = b then lexLL u v else lexB a b := rfl
theorem lexLL_trans : ∀ {x y z : List (List Int)}, lexLL x y = true → lexLL y z = true → lexLL x z = true
  | [], [], _, h, _ => by cases h
  | [], _ :: _, [], _, h => by cases h
  | [], _ :: _, _ :: _, _, _ => rfl
  | _ :: _, [], _, h, _ => by cases h
  | _ :: _, _ :: _, [], _, h => by cases h
  | a :: x, b :: y, c :: z, h1, h2 => by
    rw [lexLL_cons] at h1 h2 ⊢
    by_cases e1 : a = b
    · subst e1
      rw [if_pos rfl] at h1
      by_cases e2 : a = c
      · rw [if_pos e2] at h2 ⊢
        exact lexLL_trans h1 h2
      · rw [if_neg e2] at h2 ⊢
        exact h2
    · rw [if_neg e1] at h1
      by_cases e2 : b = c
      · subst e2
        rw [if_neg e1]
        exact h1
      · rw [if_neg e2] at h2
        have h3 := lexB_trans h1 h2
        have e3 : a ≠ c := fun z => by rw [z, lexB_irr] at h3; cases h3
        rw [if_neg e3]
        exact h3
theorem lexLL_tot : ∀ {x y : List (List Int)}, lexLL x y = false → lexLL y x = false → x = y
  | [], [], _, _ => rfl
  | [], _ :: _, h, _ => by cases h
  | _ :: _, [], _, h => by cases h
  | a :: x, b :: y, h1, h2 => by
    rw [lexLL_cons] at h1 h2
    by_cases e : a = b
    · subst e
      rw [if_pos rfl] at h1 h2
      rw [lexLL_tot h1 h2]
    · rw [if_neg e] at h1
      rw [if_neg (Ne.symm e)] at h2
      exact absurd (lexB_tot h1 h2) e
def rnkG {α : Type} (lt : α → α → Bool) (ks : List α) (u : α) : Int := ((ks.filter fun z => lt z u).length : Nat)
theorem rnkG_ok {α : Type} {lt : α → α → Bool} (irr : ∀ x, lt x x = false) (tr : ∀ {x y z}, lt x y = true → lt y z = true → lt x z = true) (tot : ∀ {x y}, lt x y = false → lt y x = false → x = y) {ks : List α} {x y : α} (hx : x ∈ ks) (hy : y ∈ ks) : decide (rnkG lt ks x < rnkG lt ks y) = lt x y := by
  have less : ∀ {a b : α}, a ∈ ks → lt a b = true → rnkG lt ks a < rnkG lt ks b := fun {a b} ha h => by
    have := filter_less (p := fun z => lt z a) (q := fun z => lt z b) (l := ks) (x := a) (fun z _ q => tr q h) ha h (irr a)
    show (((ks.filter fun z => lt z a).length : Nat) : Int) < ((ks.filter fun z => lt z b).length : Nat)
    omega
  cases h : lt x y with
  | true => exact decide_eq_true (less hx h)
  | false =>
    refine decide_eq_false fun q => ?_
    cases h2 : lt y x with
    | true => have := less hy h2; omega
    | false => rw [tot h h2] at q; omega
section
variable {prog : Program} {w : World} {A : Around} {E : Value → Shared → Prop} {s : Shared}
def LsV (h : Heap) (tp : Bool) (v : Value) (us : List (List Int)) : Prop := ∃ (a : Addr) (its : Array Value), v = .ref a ∧ h.IsList a its ∧ its.size = us.length ∧ ∀ (i : Nat) (x : Value) (u : List Int), its[i]? = some x → us[i]? = some u → ItV h tp x u
theorem LsV.at {h : Heap} {tp : Bool} {its : Array Value} {us : List (List Int)} (l : its.size = us.length) (k : ∀ (i : Nat) (x : Value) (u : List Int), its[i]? = some x → us[i]? = some u → ItV h tp x u) {i : Nat} (hi : i < us.length) : ∃ x, its[i]? = some x ∧ ItV h tp x us[i] :=
  ⟨its[i]'(by omega), Array.getElem?_eq_getElem (by omega), k i _ _ (Array.getElem?_eq_getElem (by omega)) (List.getElem?_eq_getElem hi)⟩
section
open PySem.SeqAt
open PySem.AutoSeq1 (wpAny_loadPart')
open PySem.MeetsSeq PySem.MeetsSeq2 PySem.MeetsSeq3
theorem llt_loop (tp : Bool) (l b : Addr) (items items2 : Array Value) (n n2 : Nat) (dd dd2 : Option Addr) (sl sl2 : Array (Option Value)) (us vs : List (List Int)) (z1 : items.size = us.length) (z2 : items2.size = vs.length) (k : Nat) :
    ∀ i : Nat, us.length - i = k → i ≤ us.length → i ≤ vs.length → Meets (Builtin.«list.__eq__.loop» ⟨[.ref l, .ref b, rawInt i, rawInt 0], []⟩)
      (fun A R s => A.units + 4 < cLine ∧ s.heap.get? l = some { cls := .type "list", dict := dd, data := .seq items n, slots := sl } ∧ s.heap.get? b = some { cls := .type "list", dict := dd2, data := .seq items2 n2, slots := sl2 } ∧
        (∀ (i : Nat) (x : Value) (u : List Int), items[i]? = some x → us[i]? = some u → ItV s.heap tp x u) ∧ (∀ (i : Nat) (x : Value) (u : List Int), items2[i]? = some x → vs[i]? = some u → ItV s.heap tp x u) ∧
        R (.ok (.ret (.bool (lexLL (us.drop i) (vs.drop i))))) s) := by
  induction k with
  | zero =>
    intro i hk iu iv prog w A R st hh
    obtain ⟨hp, g, d, tk, os⟩ := st
    obtain ⟨hun, hl, hb, ka, kb, hR⟩ := hh
    wp_walk using wpAny_loadPart' hl, wpAny_loadPart' hb
    have a1 : items[((i : Nat) : Int).toNat]? = none := by simp; omega
    have e1 : us.drop i = [] := List.drop_eq_nil_iff.mpr (by omega)
    rw [e1] at hR
    rw [a1]
    wp_walk using wpAny_loadPart' hl, wpAny_loadPart' hb
    show R (.ok (.ret (.bool (decide (items.size < items2.size))))) _
    have e2 : lexLL [] (vs.drop i) = decide (items.size < items2.size) := by
      cases q : vs.drop i with
      | nil =>
        have := List.drop_eq_nil_iff.mp q
        exact (decide_eq_false (by omega)).symm
      | cons c r =>
        have : ¬ vs.length ≤ i := fun z => by rw [List.drop_eq_nil_iff.mpr z] at q; cases q
        exact (decide_eq_true (by omega)).symm
    rw [e2] at hR
    exact hR
  | succ k ih =>
    intro i hk iu iv prog w A R st hh
    obtain ⟨hp, g, d, tk, os⟩ := st
    obtain ⟨hun, hl, hb, ka, kb, hR⟩ := hh
    wp_walk using wpAny_loadPart' hl, wpAny_loadPart' hb
    have il : i < us.length := by omega
    have a1 : items[((i : Nat) : Int).toNat]? = some (items[i]'(by omega)) := by simp [show i < items.size by omega]
    have eu : us.drop i = us[i] :: us.drop (i + 1) := List.drop_eq_getElem_cons il
    by_cases jl : i < vs.length
    · have a2 : items2[((i : Nat) : Int).toNat]? = some (items2[i]'(by omega)) := by simp [show i < items2.size by omega]
      have ev : vs.drop i = vs[i] :: vs.drop (i + 1) := List.drop_eq_getElem_cons jl
      rw [eu, ev, lexLL_cons] at hR
      rw [a1, a2]
      have p1 := ka i _ _ (Array.getElem?_eq_getElem (by omega)) (List.getElem?_eq_getElem il)
      have p2 := kb i _ _ (Array.getElem?_eq_getElem (by omega)) (List.getElem?_eq_getElem jl)
      have hu1 : A.in1.units < cLine := by show A.units + 1 < cLine; omega
      refine wpAny_bind (ItV.eq (s := ⟨hp, g, d, tk, os⟩) hu1 p1 p2 prog w _ _ ?_)
      by_cases q : us[i] = vs[i]
      · rw [decide_eq_true q]
        rw [if_pos q] at hR
        wp_walk
        rw [show ((i : Int) + 1) = ((i + 1 : Nat) : Int) by push_cast; rfl]
        refine ⟨plainId_quiet plain_eq_loop _, codeAny_builtin entry_eq_loop ?_⟩
        rw [Around.under_plainId plain_eq_loop _]
        exact ih (i + 1) (by omega) (by omega) (by omega) prog w A R _ ⟨hun, hl, hb, ka, kb, hR⟩
      · rw [decide_eq_false q]
        rw [if_neg q] at hR
        wp_walk using wpAny_loadPart' hl, wpAny_loadPart' hb
        rw [a1, a2]
        have fin := fun (E' : Value → Shared → Prop) (Q' : Value → Shared → Prop) (z : Q' (.bool (lexB us[i] vs[i])) ⟨hp, g, d, tk, os⟩) => ItV.lt (prog := prog) (w := w) (E := E') (s := ⟨hp, g, d, tk, os⟩) (A := A.in1) hu1 p1 p2 z
        wp_walk using fin
        exact hR
    · have a2 : items2[((i : Nat) : Int).toNat]? = none := by simp; omega
      have ev : vs.drop i = [] := List.drop_eq_nil_iff.mpr (by omega)
      rw [eu, ev] at hR
      rw [a1, a2]
      wp_walk using wpAny_loadPart' hl, wpAny_loadPart' hb
      show R (.ok (.ret (.bool (decide (items.size < items2.size))))) _
      rw [decide_eq_false (by omega)]
      exact hR
end
end
end L2
set_option Elab.async false
set_option linter.all false
set_option maxRecDepth 100000
set_option maxHeartbeats 1000000
namespace L2
open PySem PySem.Spec PyProof.Rows
section
variable {prog : Program} {w : World} {A : Around} {E : Value → Shared → Prop} {s : Shared}
section
open PySem.SeqAt
open PySem.AutoSeq1 (wpAny_loadPart')
open PySem.MeetsSeq PySem.MeetsSeq2 PySem.MeetsSeq3
theorem list_ltL (tp : Bool) (l b : Addr) (items items2 : Array Value) (n n2 : Nat) (dd dd2 : Option Addr) (sl sl2 : Array (Option Value)) (us vs : List (List Int)) (z1 : items.size = us.length) (z2 : items2.size = vs.length) :
    Meets (Builtin.«list.__lt__» ⟨[.ref l, .ref b], []⟩)
      (fun A R s => A.units + 4 < cLine ∧ s.heap.get? l = some { cls := .type "list", dict := dd, data := .seq items n, slots := sl } ∧ s.heap.get? b = some { cls := .type "list", dict := dd2, data := .seq items2 n2, slots := sl2 } ∧
        (∀ (i : Nat) (x : Value) (u : List Int), items[i]? = some x → us[i]? = some u → ItV s.heap tp x u) ∧ (∀ (i : Nat) (x : Value) (u : List Int), items2[i]? = some x → vs[i]? = some u → ItV s.heap tp x u) ∧
        R (.ok (.ret (.bool (lexLL us vs)))) s) := by
  intro prog w A R st hh
  obtain ⟨hp, g, d, tk, os⟩ := st
  obtain ⟨hun, hl, hb, ka, kb, hR⟩ := hh
  have f3 := AutoSeq1.sub_list_list
  wp_walk using wpAny_loadPart' hl, wpAny_loadPart' hb
  refine ⟨plainId_quiet plain_eq_loop _, codeAny_builtin entry_eq_loop ?_⟩
  rw [Around.under_plainId plain_eq_loop _]
  exact llt_loop tp l b items items2 n n2 dd dd2 sl sl2 us vs z1 z2 _ 0 rfl (Nat.zero_le _) (Nat.zero_le _) prog w A R _ ⟨hun, hl, hb, ka, kb, by simpa using hR⟩
theorem remove_at (l : Addr) (items : Array Value) (n : Nat) (dd : Option Addr) (sl : Array (Option Value)) (x : Value) (e : Value → Bool) (j : Nat) (hj : j < items.size) (hit : e items[j] = true) (k : Nat) (hs1 : items.size ≤ sizeLine) :
    ∀ i : Nat, j - i = k → i ≤ j → (∀ m (hm : m < items.size), i ≤ m → m < j → e items[m] = false) → Meets (Builtin.«list.remove.loop» ⟨[.ref l, x, rawInt i], []⟩)
      (fun A R s => s.heap.get? l = some { cls := .type "list", dict := dd, data := .seq items n, slots := sl } ∧ (∀ y, y ∈ items → EqAt A.in1 s y x (e y)) ∧ R (.ok (.ret .none)) { s with heap := s.heap.update l (Obj.mapSeq fun xs => xs.eraseIdxIfInBounds j) }) := by
  induction k with
  | zero =>
    intro i hk hij hno prog w A R st hh
    obtain ⟨hp, g, d, tk, os⟩ := st
    obtain ⟨hl, he, hR⟩ := hh
    obtain rfl : i = j := by omega
    wp_walk using wpAny_loadPart' hl
    rw [show items[((i : Nat) : Int).toNat]? = some items[i] by simp [hj]]
    refine wpAny_bind (he _ (Array.getElem_mem hj) prog w _ _ ?_)
    rw [hit]
    have hz : (items.eraseIdxIfInBounds i).size ≤ sizeLine + 1 := Nat.le_trans (size_erased items _) (Nat.le_succ_of_le hs1)
    wp_walk using (wpAny_updateSeq hl rfl (hz := hs1) (_hz' := hz)), wpAny_loadPart' hl
    simpa using hR
  | succ k ih =>
    intro i hk hij hno prog w A R st hh
    obtain ⟨hp, g, d, tk, os⟩ := st
    obtain ⟨hl, he, hR⟩ := hh
    have il : i < items.size := by omega
    wp_walk using wpAny_loadPart' hl
    rw [show items[((i : Nat) : Int).toNat]? = some items[i] by simp [il]]
    refine wpAny_bind (he _ (Array.getElem_mem il) prog w _ _ ?_)
    rw [hno i il (Nat.le_refl _) (by omega)]
    wp_walk
    rw [show ((i : Int) + 1) = ((i + 1 : Nat) : Int) by push_cast; rfl]
    refine ⟨plainId_quiet plain_remove_loop _, codeAny_builtin entry_remove_loop ?_⟩
    rw [Around.under_plainId plain_remove_loop _]
    exact ih (i + 1) (by omega) (by omega) (fun m hm h1 h2 => hno m hm (by omega) h2) prog w A R _ ⟨hl, he, hR⟩
theorem list_removeAt (l : Addr) (items : Array Value) (n : Nat) (dd : Option Addr) (sl : Array (Option Value)) (x : Value) (e : Value → Bool) (j : Nat) (hj : j < items.size) (hit : e items[j] = true) (hno : ∀ m (hm : m < items.size), m < j → e items[m] = false) (hs1 : items.size ≤ sizeLine) :
    Meets (Builtin.«list.remove» ⟨[.ref l, x], []⟩)
      (fun A R s => s.heap.get? l = some { cls := .type "list", dict := dd, data := .seq items n, slots := sl } ∧ (∀ y, y ∈ items → EqAt A.in1 s y x (e y)) ∧ R (.ok (.ret .none)) { s with heap := s.heap.update l (Obj.mapSeq fun xs => xs.eraseIdxIfInBounds j) }) := by
  intro prog w A R st hh
  obtain ⟨hp, g, d, tk, os⟩ := st
  obtain ⟨hl, he, hR⟩ := hh
  wp_walk using wpAny_loadPart' hl
  refine ⟨plainId_quiet plain_remove_loop _, codeAny_builtin entry_remove_loop ?_⟩
  rw [Around.under_plainId plain_remove_loop _]
  exact remove_at l items n dd sl x e j hj hit _ hs1 0 rfl (Nat.zero_le _) (fun m hm _ h2 => hno m hm h2) prog w A R _ ⟨hl, he, hR⟩
end
theorem lt_lists {tp : Bool} {x y : Value} {us vs : List (List Int)} {Q : Bool → Shared → Prop} (hu : A.units + 8 < cLine) (hx : LsV s.heap tp x us) (hy : LsV s.heap tp y vs) (h : Q (lexLL us vs) s) : wpAny (model prog w) A (keyLt' oneType' x y) Q E s := by
  obtain ⟨a, its, rfl, ⟨⟨c1, d1, t1, l1⟩, o1, k1, n1, e1⟩, z1, p1⟩ := hx
  obtain ⟨b, jts, rfl, ⟨⟨c2, d2, t2, l2⟩, o2, k2, n2, e2⟩, z2, p2⟩ := hy
  simp only at k1 e1 k2 e2
  subst k1 e1 k2 e2
  rw [keyLt'_oneType, oneLt'_eq]
  simp only [if_true]
  refine wpAny_bind (wpAny_cRoomFor (by omega) ?_)
  refine wpAny_bind (wpAny_callSpecialIfBound?_slot (T := "list") ⟨_, o1, rfl⟩ PySem.F.slot_list_lt (call_meets PySem.F.slot_list_lt ⟨_, o1, rfl⟩ PySem.F.entry_list_lt (PySem.F.args_list_lt_2 _ _) (list_ltL tp a b its jts n1 n2 d1 d2 l1 l2 us vs z1 z2) ⟨?_, o1, o2, p1, p2, ?_⟩))
  · omega
  · exact wpAny_truthy_bool h
end
end L2
set_option Elab.async false
set_option linter.all false
set_option maxRecDepth 100000
set_option maxHeartbeats 1000000
namespace L2
open PySem PySem.Spec PyProof.Rows
def Ext (h h' : Heap) : Prop := ∀ b o, h.get? b = some o → h'.get? b = some o
section
variable {prog : Program} {w : World} {A : Around} {E : Value → Shared → Prop} {s : Shared}
theorem sorted_any {α : Type} {l : Addr} {vs : List Value} {k0 : SortKind} {cv : Value → α} {lt : α → α → Bool} {Q : Value → Shared → Prop} (irr : ∀ x, lt x x = false) (tr : ∀ {x y z}, lt x y = true → lt y z = true → lt x z = true) (tot : ∀ {x y}, lt x y = false → lt y x = false → x = y)
    (hl : s.heap.IsList l vs.toArray) (h64 : vs.length < 64)
    (hk : 2 ≤ vs.length → ∀ h', Ext s.heap h' → ∀ (E : Value → Shared → Prop) (Q : SortKind → Shared → Prop), Q k0 { s with heap := h' } → wpAny (model prog w) A.in1.in1 (keyKind' vs.toArray) Q E { s with heap := h' })
    (hL : ∀ h', Ext s.heap h' → ∀ (E : Value → Shared → Prop) (x y : Value) (Q : Bool → Shared → Prop), x ∈ vs → y ∈ vs → Q (lt (cv x) (cv y)) { s with heap := h' } → wpAny (model prog w) A.in1.in1 (keyLt' k0 x y) Q E { s with heap := h' })
    (h : ∀ out : Array Value, out.toList.Perm vs → (out.toList.map cv).Pairwise (fun x y => lt y x = false) → Q (.ref (s.heap.objs.size + 1)) { s with heap := sortedAll s.heap vs out }) : wpAny (model prog w) A (call (.builtin "sorted") [.ref l]) Q E s := by
  refine Calls.call_function_entry kind_sorted plain_sorted entry_sorted (args_sorted1 _) ?_
  unfold Builtin.«sorted»
  refine wpAny_bind (m := checkCount "sorted" 1 1 _) (wpAny_pure (wpAny_bind (collect_list hl (wpAny_bind (wpAny_newList ?_)) (Nat.le_of_lt (small1000 (by omega))))))
  have hsz : ((s.heap.push (seqObj "list" #[] 0)).update s.heap.objs.size (Obj.mapSeq (· ++ vs.toArray))).objs.size = s.heap.objs.size + 1 := by rw [Heap.size_update, size_push']
  have hoL : (((s.heap.push (seqObj "list" #[] 0)).update s.heap.objs.size (Obj.mapSeq (· ++ vs.toArray))).push (seqObj "list" vs.toArray 0)).get? (s.heap.objs.size + 1) = some (seqObj "list" vs.toArray 0) := by
    rw [← hsz]
    exact Heap.get?_push_size _ rfl
  have k1 : Ext s.heap (((s.heap.push (seqObj "list" #[] 0)).update s.heap.objs.size (Obj.mapSeq (· ++ vs.toArray))).push (seqObj "list" vs.toArray 0)) := fun b o e => by
    have := Heap.lt_size e
    refine Heap.get?_push_of_some _ ?_
    rw [Heap.get?_update_ne _ _ _ _ (Nat.ne_of_lt this)]
    exact Heap.get?_push_of_some _ e
  show wpAny _ _ _ _ _ { s with heap := ((s.heap.push (seqObj "list" #[] 0)).update s.heap.objs.size (Obj.mapSeq (· ++ vs.toArray))).push (seqObj "list" vs.toArray 0) }
  rw [hsz]
  have ext : ∀ h', (∀ b o, b ≠ s.heap.objs.size + 1 → (((s.heap.push (seqObj "list" #[] 0)).update s.heap.objs.size (Obj.mapSeq (· ++ vs.toArray))).push (seqObj "list" vs.toArray 0)).get? b = some o → h'.get? b = some o) → Ext s.heap h' := fun h' k b o e => by
    have := Heap.lt_size e
    exact k b o (Nat.ne_of_lt (Nat.lt_succ_of_lt this)) (k1 b o e)
  have mz : ∀ p, p ∈ (pairsOf vs).toList → p.1 = p.2 ∧ p.1 ∈ vs := fun p q => by rw [pairsOf_toList] at q; exact mem_zip_self q
  refine wpAny_bind (wpAny_holding (wpAny_call_entry slot_list_sort ⟨_, hoL, rfl⟩ entry_list_sort (sort_gen (k0 := k0) (rk := fun v => rnkG lt (vs.map cv) (cv v)) hoL h64 (fun h2 h' k E' Q' q => hk h2 h' (ext h' k) E' Q' q) (fun h' k E' x y Q' hx hy q => hL h' (ext h' k) E' x.1 y.1 Q' (mz x hx).2 (mz y hy).2 ?_) fun xs pm up => ⟨_, rfl, ?_⟩) (args_list_sort _)))
  · rw [rnkG_ok irr tr tot (List.mem_map.mpr ⟨_, (mz x hx).2, rfl⟩) (List.mem_map.mpr ⟨_, (mz y hy).2, rfl⟩)] at q
    exact q
  · have pl : xs.toList.Perm (vs.zip vs) := by rw [← pairsOf_toList]; exact Array.perm_iff_toList_perm.mp pm
    have ps : (xs.map (·.2)).toList.Perm vs := by
      rw [Array.toList_map]
      have := pl.map (·.2)
      rw [List.map_snd_zip (Nat.le_refl _)] at this
      exact this
    suffices sr : ((xs.map (·.2)).toList.map cv).Pairwise (fun x y => lt y x = false) by
      have fin := h (xs.map (·.2)) ps sr
      unfold sortedAll at fin
      exact wpAny_pure ⟨_, rfl, fin⟩
    rw [List.pairwise_iff_getElem]
    intro i j hi hj ij
    have lx : (xs.map (·.2)).toList.length = xs.size := by rw [Array.length_toList, Array.size_map]
    rw [List.length_map, lx] at hi hj
    have hz : xs.size = (pairsOf vs).size := pm.size_eq
    have q := up i j (Nat.le_of_lt ij) (by omega)
    have mi : xs[i] ∈ (pairsOf vs).toList := (Array.perm_iff_toList_perm.mp pm).subset (Array.getElem_mem_toList hi)
    have mj : xs[j] ∈ (pairsOf vs).toList := (Array.perm_iff_toList_perm.mp pm).subset (Array.getElem_mem_toList hj)
    unfold RK at q
    rw [Array.getElem?_eq_getElem hi, Array.getElem?_eq_getElem hj] at q
    dsimp only at q
    have e := rnkG_ok irr tr tot (ks := vs.map cv) (x := cv xs[j].1) (y := cv xs[i].1) (List.mem_map.mpr ⟨_, (mz _ mj).2, rfl⟩) (List.mem_map.mpr ⟨_, (mz _ mi).2, rfl⟩)
    rw [decide_eq_false (by omega)] at e
    simp only [List.getElem_map, Array.getElem_toList, Array.getElem_map]
    rw [← (mz _ mi).1, ← (mz _ mj).1]
    exact e.symm
theorem LsV.keep {h h' : Heap} {tp : Bool} {v : Value} {us : List (List Int)} (x : LsV h tp v us) (k : Ext h h') : LsV h' tp v us := by
  obtain ⟨a, its, rfl, ⟨o, e, c, n, d⟩, z, p⟩ := x
  exact ⟨a, its, rfl, ⟨o, k _ _ e, c, n, d⟩, z, fun i y u h1 h2 => (p i y u h1 h2).keep fun b o _ q => k b o q⟩
def cvL (tp : Bool) (h : Heap) (v : Value) : List (List Int) := match v with
  | .ref a => match h.get? a with
    | some o => match o.data with
      | .seq its _ => its.toList.map (cdV tp h)
      | _ => []
    | none => []
  | _ => []
theorem LsV.cv {h : Heap} {tp : Bool} {v : Value} {us : List (List Int)} (x : LsV h tp v us) : cvL tp h v = us := by
  obtain ⟨a, its, rfl, ⟨o, e, c, n, d⟩, z, p⟩ := x
  unfold cvL
  dsimp only
  rw [e]
  dsimp only
  rw [d]
  dsimp only
  apply List.ext_getElem?
  intro i
  rw [List.getElem?_map, Array.getElem?_toList]
  by_cases il : i < us.length
  · obtain ⟨y, e1, e2⟩ := LsV.at z p il
    rw [e1, List.getElem?_eq_getElem il]
    show some (cdV tp h y) = some us[i]
    rw [e2.cd]
  · rw [Array.getElem?_eq_none (by omega), List.getElem?_eq_none (by omega)]
    rfl
theorem mapM_typeL {s : Shared} : ∀ {vs : List Value} {Q : List Value → Shared → Prop}, (∀ v ∈ vs, ∃ a o, v = .ref a ∧ s.heap.get? a = some o ∧ o.cls = .type "list") → Q (vs.map fun _ => .type "list") s → wpAny (model prog w) A (vs.mapM typeOf) Q E s
  | [], Q, _, h => by rw [List.mapM_nil]; exact wpAny_pure h
  | v :: vs, Q, hv, h => by
    rw [List.mapM_cons]
    obtain ⟨a, o, rfl, e, c⟩ := hv v List.mem_cons_self
    exact wpAny_bind (wpAny_typeOf (T := "list") ⟨o, e, c⟩ (wpAny_bind (mapM_typeL (fun z hz => hv z (List.mem_cons_of_mem _ hz)) (wpAny_pure h))))
theorem mapM_nones {s : Shared} : ∀ {vs : List Value} {Q : List (Option Value) → Shared → Prop}, (∀ v ∈ vs, ∃ a o, v = .ref a ∧ s.heap.get? a = some o ∧ o.cls = .type "list") → Q (vs.map fun _ => none) s → wpAny (model prog w) A (vs.mapM firstOfTuple') Q E s
  | [], Q, _, h => by rw [List.mapM_nil]; exact wpAny_pure h
  | v :: vs, Q, hv, h => by
    rw [List.mapM_cons]
    obtain ⟨a, o, rfl, e, c⟩ := hv v List.mem_cons_self
    rw [first'_eq]
    refine wpAny_bind (wpAny_bind (wpAny_typeOf (T := "list") ⟨o, e, c⟩ ?_))
    rw [if_pos (by decide)]
    exact wpAny_pure (wpAny_bind (mapM_nones (fun z hz => hv z (List.mem_cons_of_mem _ hz)) (wpAny_pure h)))
theorem kind_lists {vs : List Value} (hv : ∀ v ∈ vs, ∃ a o, v = .ref a ∧ s.heap.get? a = some o ∧ o.cls = .type "list") (h1 : 2 ≤ vs.length) {Q : SortKind → Shared → Prop} (h : Q oneType' s) : wpAny (model prog w) A (keyKind' vs.toArray) Q E s := by
  obtain ⟨v0, vr, rfl⟩ : ∃ v0 vr, vs = v0 :: vr := by
    cases vs with
    | nil => simp at h1
    | cons a r => exact ⟨a, r, rfl⟩
  rw [keyKind'_eq, List.mapM_toArray, oneTypeOnly'_eq, List.mapM_toArray]
  refine wpAny_bind ?_
  simp only [map_eq_pure_bind]
  refine wpAny_bind (mapM_nones hv (wpAny_pure ?_))
  rw [if_neg (by simp), if_neg (by simp)]
  refine wpAny_bind (wpAny_bind (wpAny_bind (mapM_typeL hv (wpAny_pure ?_))))
  have e0 : (List.map (fun _ => Value.type "list") (v0 :: vr)).toArray[0]? = some (Value.type "list") := by simp
  rw [e0]
  dsimp only
  have ea : ((List.map (fun _ => Value.type "list") (v0 :: vr)).toArray.all fun x => x == Value.type "list") = true := by
    simp only [List.all_toArray, List.all_map, List.all_eq_true]
    intro _ _
    rfl
  rw [if_pos ea]
  exact wpAny_pure (wpAny_pure h)
end
def LsL (H : Hp) (tp : Bool) (ys : List V) (uss : List (List (List Int))) : Prop := ys.length = uss.length ∧ ∀ (i : Nat) (y : V) (us : List (List Int)), ys[i]? = some y → uss[i]? = some us → ∃ (a : Addr) (xs : List V), y = .ref a ∧ H a = some (.lst xs) ∧ ItL H tp xs us
theorem LsL.up {H H' : Hp} {tp : Bool} {ys : List V} {uss : List (List (List Int))} (h : LsL H tp ys uss) (s : Same H H') : LsL H' tp ys uss := ⟨h.1, fun i y us h1 h2 => by
  obtain ⟨a, xs, rfl, e, k⟩ := h.2 i y us h1 h2
  exact ⟨a, xs, rfl, s _ _ e, k.up s.tups⟩⟩
theorem LsL.nil (H : Hp) (tp : Bool) : LsL H tp [] [] := ⟨rfl, fun i x u h => by cases h⟩
theorem LsL.snoc {H : Hp} {tp : Bool} {ys xs : List V} {uss : List (List (List Int))} {us : List (List Int)} {a : Addr} (h : LsL H tp ys uss) (ha : H a = some (.lst xs)) (k : ItL H tp xs us) : LsL H tp (ys ++ [.ref a]) (uss ++ [us]) := by
  refine ⟨by simp [h.1], fun i y vs h1 h2 => ?_⟩
  by_cases il : i < ys.length
  · rw [List.getElem?_append_left il] at h1
    rw [List.getElem?_append_left (h.1 ▸ il)] at h2
    exact h.2 i y vs h1 h2
  · rw [List.getElem?_append_right (by omega)] at h1
    rw [List.getElem?_append_right (by rw [← h.1]; omega), ← h.1] at h2
    cases e : i - ys.length with
    | zero =>
      rw [e] at h1 h2
      cases h1
      cases h2
      exact ⟨a, xs, rfl, ha, k⟩
    | succ j => rw [e] at h1; cases h1
section
variable {X : Cx} {pins : List (Addr × Obj)} {σ : L2.St} {H : Hp} {s : Shared}
theorem ls_of (I : Inv X pins σ H s) {tp : Bool} {a : Addr} {xs : List V} {us : List (List Int)} (e : H a = some (.lst xs)) (k : ItL H tp xs us) : LsV s.heap tp (.ref a) us := by
  obtain ⟨its, rv, pl, hz⟩ := I.list (SqL.of (K := X.K) e)
  obtain ⟨l, p⟩ := its_of I rv k
  exact ⟨a, its.toArray, rfl, pl.isList, by rw [List.size_toArray]; exact l, fun i x u h1 h2 => p i x u (by simpa using h1) h2⟩
theorem vals_refs : ∀ {l : List Value}, (∀ v ∈ l, ∃ a, v = Value.ref a) → Vals (l.map vOf) l
  | [], _ => .nil
  | v :: l, h => by
    obtain ⟨a, rfl⟩ := h v List.mem_cons_self
    exact .cons rfl (vals_refs fun z hz => h z (List.mem_cons_of_mem _ hz))
theorem perm_at {α : Type} {l m : List α} (p : l.Perm m) {i : Nat} {x : α} (e : l[i]? = some x) : ∃ j : Nat, m[j]? = some x := List.mem_iff_getElem?.mp (p.subset (List.mem_of_getElem? e))
theorem call_sortedLL (tp : Bool) {k : Nat} (hr : Room k X.A) : CallR X (.builtin "sorted") (fun xs H Q => ∃ (p : Addr) (ys : List V) (uss : List (List (List Int))), xs = [.ref p] ∧ SqL X.K H p ys ∧ LsL H tp ys uss ∧ uss.length < 64 ∧
    ∀ (l : Addr) (zs : List V) (ws : List (List (List Int))), H l = none → LsL H tp zs ws → ws.Perm uss → ws.Pairwise (fun x y => lexLL y x = false) → Q (.ref l) (upd H l (.lst zs))) := by
  intro pins s σ H xs us Q I r h
  obtain ⟨p, ys, uss, rfl, hp, hL, h64, q⟩ := h
  obtain ⟨u, rfl, rx⟩ := vals1 r
  cases rx
  obtain ⟨its, rv, pl, hz⟩ := I.list hp
  have hlen : its.length = uss.length := by rw [← rv.length]; exact hL.1
  have row : ∀ (i : Nat) (v : Value), its[i]? = some v → ∃ (a : Addr) (xs : List V) (us : List (List Int)), v = .ref a ∧ ys[i]? = some (.ref a) ∧ uss[i]? = some us ∧ H a = some (.lst xs) ∧ ItL H tp xs us ∧ LsV s.heap tp v us := fun i v e => by
    have il : i < its.length := (List.getElem?_eq_some_iff.mp e).1
    have e1 : ys[i]? = some (ys[i]'(by rw [hL.1]; omega)) := List.getElem?_eq_getElem _
    have e2 : uss[i]? = some (uss[i]'(by omega)) := List.getElem?_eq_getElem _
    obtain ⟨a, xs, ea, ha, k⟩ := hL.2 i _ _ e1 e2
    obtain ⟨v', ev', rr⟩ := rv.get e1
    rw [e] at ev'
    cases ev'
    rw [ea] at rr e1
    cases rr
    exact ⟨a, xs, _, rfl, e1, e2, ha, k, ls_of I ha k⟩
  have mem : ∀ v ∈ its, ∃ us, LsV s.heap tp v us ∧ ∃ a o, v = .ref a ∧ s.heap.get? a = some o ∧ o.cls = .type "list" := fun v hv => by
    obtain ⟨i, hi⟩ := List.mem_iff_getElem?.mp hv
    obtain ⟨a, xs, us, rfl, _, _, _, _, L⟩ := row i v hi
    have L' := L
    obtain ⟨a', jts, ea, ⟨o, eo, c, _⟩, _⟩ := L'
    cases ea
    exact ⟨us, L, a, o, rfl, eo, c⟩
  have hu := hr.un
  refine sorted_any (k0 := oneType') (cv := cvL tp s.heap) (lt := lexLL) lexLL_irr lexLL_trans lexLL_tot pl.isList (by omega) (fun h2 h' k E' Q' q' => ?_) (fun h' k E' x y Q' hx hy q' => ?_) fun out pm sr => ?_
  · refine kind_lists (s := { s with heap := h' }) (fun v hv => ?_) h2 q'
    obtain ⟨_, _, a, o, ev, eo, c⟩ := mem v hv
    exact ⟨a, o, ev, k _ _ eo, c⟩
  · obtain ⟨us, L, _⟩ := mem x hx
    obtain ⟨vs, L', _⟩ := mem y hy
    rw [L.cv, L'.cv] at q'
    exact lt_lists (s := { s with heap := h' }) (by show X.A.units + 1 + 1 + 8 < cLine; omega) (L.keep k) (L'.keep k) q'
  · obtain ⟨e, he⟩ := sortedAll_at s.heap its out
    have ol : out.toList.length = its.length := pm.length_eq
    have refs : ∀ v ∈ out.toList, ∃ a, v = Value.ref a := fun v hv => by
      obtain ⟨_, _, a, _, ev, _⟩ := mem v (pm.subset hv)
      exact ⟨a, ev⟩
    have cvs : its.map (cvL tp s.heap) = uss := by
      apply List.ext_getElem?
      intro i
      rw [List.getElem?_map]
      cases z : its[i]? with
      | none => rw [List.getElem?_eq_none (by have := List.getElem?_eq_none_iff.mp z; omega)]; rfl
      | some v =>
        obtain ⟨a, xs, us, _, _, e2, _, _, L⟩ := row i v z
        rw [e2]
        show some (cvL tp s.heap v) = some us
        rw [L.cv]
    refine ⟨.ref _, upd H (s.heap.objs.size + 1) (.lst (out.toList.map vOf)), I.laid (t' := s.toks) (fun b ob z => sortedAll_old z) (Nat.le_succ _) ⟨?_, out.toList, e, vals_refs refs, ?_⟩, rfl, q _ (out.toList.map vOf) (out.toList.map (cvL tp s.heap)) (I.hok.fresh (Nat.le_succ _)) ⟨by rw [List.length_map, List.length_map], fun i y us h1 h2 => ?_⟩ ?_ sr⟩
    · rw [List.length_map, ol]
      exact Nat.le_of_lt (small1000 (by omega))
    · rw [he]
    · rw [List.getElem?_map] at h1 h2
      cases z : out.toList[i]? with
      | none => rw [z] at h1; cases h1
      | some v =>
        rw [z] at h1 h2
        obtain ⟨j, hj⟩ := perm_at pm z
        obtain ⟨a, xs, us', rfl, _, _, ha, k, L⟩ := row j v hj
        cases h1
        cases h2
        refine ⟨a, xs, rfl, ha, ?_⟩
        rw [L.cv]
        exact k
    · rw [← cvs]
      exact pm.map _
theorem call_sortedTL {k : Nat} (hr : Room k X.A) : CallR X (.builtin "sorted") (fun xs H Q => ∃ (p : Addr) (ys : List V) (us : List (List Int)), xs = [.ref p] ∧ SqL X.K H p ys ∧ TuL H ys us ∧ us.length < 64 ∧ (∀ u ∈ us, u ≠ []) ∧
    ∀ (l : Addr) (zs : List V) (ws : List (List Int)), H l = none → TuL H zs ws → ws.Perm us → ws.Pairwise (fun x y => lexB y x = false) → Q (.ref l) (upd H l (.lst zs))) := by
  intro pins s σ H xs us Q I r h
  obtain ⟨p, ys, us, rfl, hp, hL, h64, hne, q⟩ := h
  obtain ⟨u, rfl, rx⟩ := vals1 r
  cases rx
  obtain ⟨its, rv, pl, hz⟩ := I.list hp
  have hlen : its.length = us.length := by rw [← rv.length]; exact hL.1
  have row : ∀ (i : Nat) (v : Value), its[i]? = some v → ∃ (a : Addr) (u : List Int), v = .ref a ∧ ys[i]? = some (.ref a) ∧ us[i]? = some u ∧ H a = some (.tup (u.map V.int)) ∧ TupI s.heap v u := fun i v e => by
    have il : i < its.length := (List.getElem?_eq_some_iff.mp e).1
    have e1 : ys[i]? = some (ys[i]'(by rw [hL.1]; omega)) := List.getElem?_eq_getElem _
    have e2 : us[i]? = some (us[i]'(by omega)) := List.getElem?_eq_getElem _
    obtain ⟨a, ea, ha⟩ := hL.2 i _ _ e1 e2
    obtain ⟨v', ev', rr⟩ := rv.get e1
    rw [e] at ev'
    cases ev'
    rw [ea] at rr e1
    cases rr
    exact ⟨a, _, rfl, e1, e2, ha, tup_of I ha⟩
  have mem : ∀ v ∈ its, ∃ u, TupI s.heap v u ∧ u ≠ [] ∧ ∃ a, v = .ref a := fun v hv => by
    obtain ⟨i, hi⟩ := List.mem_iff_getElem?.mp hv
    obtain ⟨a, u, rfl, _, e2, _, L⟩ := row i v hi
    exact ⟨u, L, hne u (List.mem_of_getElem? e2), a, rfl⟩
  refine sorted_any (k0 := tuples' true) (cv := kfI s.heap) (lt := lexB) lexB_irr lexB_trans lexB_tot pl.isList (by omega) (fun h2 h' k E' Q' q' => ?_) (fun h' k E' x y Q' hx hy q' => ?_) fun out pm sr => ?_
  · refine kind_tups (s := { s with heap := h' }) (fun v hv => ?_) (fun z => by rw [z] at h2; simp at h2) q'
    obtain ⟨u, t, nu, _⟩ := mem v hv
    exact ⟨u, t.keep' fun b o _ e => k b o e, nu⟩
  · obtain ⟨u, t, _⟩ := mem x hx
    obtain ⟨v, t', _⟩ := mem y hy
    rw [t.kf, t'.kf] at q'
    exact lt_tups (s := { s with heap := h' }) true (t.keep' fun b o _ e => k b o e) (t'.keep' fun b o _ e => k b o e) q'
  · obtain ⟨e, he⟩ := sortedAll_at s.heap its out
    have ol : out.toList.length = its.length := pm.length_eq
    have refs : ∀ v ∈ out.toList, ∃ a, v = Value.ref a := fun v hv => by
      obtain ⟨_, _, _, a, ev⟩ := mem v (pm.subset hv)
      exact ⟨a, ev⟩
    have cvs : its.map (kfI s.heap) = us := by
      apply List.ext_getElem?
      intro i
      rw [List.getElem?_map]
      cases z : its[i]? with
      | none => rw [List.getElem?_eq_none (by have := List.getElem?_eq_none_iff.mp z; omega)]; rfl
      | some v =>
        obtain ⟨a, u, _, _, e2, _, L⟩ := row i v z
        rw [e2]
        show some (kfI s.heap v) = some u
        rw [L.kf]
    refine ⟨.ref _, upd H (s.heap.objs.size + 1) (.lst (out.toList.map vOf)), I.laid (t' := s.toks) (fun b ob z => sortedAll_old z) (Nat.le_succ _) ⟨?_, out.toList, e, vals_refs refs, ?_⟩, rfl, q _ (out.toList.map vOf) (out.toList.map (kfI s.heap)) (I.hok.fresh (Nat.le_succ _)) ⟨by rw [List.length_map, List.length_map], fun i y us h1 h2 => ?_⟩ ?_ sr⟩
    · rw [List.length_map, ol]
      exact Nat.le_of_lt (small1000 (by omega))
    · rw [he]
    · rw [List.getElem?_map] at h1 h2
      cases z : out.toList[i]? with
      | none => rw [z] at h1; cases h1
      | some v =>
        rw [z] at h1 h2
        obtain ⟨j, hj⟩ := perm_at pm z
        obtain ⟨a, u', rfl, _, _, ha, L⟩ := row j v hj
        cases h1
        cases h2
        refine ⟨a, rfl, ?_⟩
        rw [L.kf]
        exact ha
    · rw [← cvs]
      exact pm.map _
def rInC (K : PySem.W.Frag) (tp : Bool) : R2 := fun x y H Q => ∃ p xs u us, y = .ref p ∧ SqL K H p xs ∧ Itm H tp x u ∧ ItL H tp xs us ∧ Q (.bl (decide (u ∈ us))) H
theorem op_inC (tp : Bool) {k : Nat} (hr : Room k X.A) : OpR X (compareOp .In) (rInC X.K tp) := by
  intro pins s σ H x y v v' Q I rx ry h
  obtain ⟨p, xs, u, us, rfl, hp, hx, hL, q⟩ := h
  cases ry
  obtain ⟨its, rv, pl, hz⟩ := I.list hp
  have hv := it_of I hx rx
  obtain ⟨l, at'⟩ := its_of I rv hL
  have hu := hr.un
  refine SeqAt.in_listAt (fun z => decide (cdV tp s.heap z = u)) pl.isList (fun z hz => ?_) ⟨.bl _, H, I, rfl, ?_⟩
  · obtain ⟨i, hi⟩ := List.mem_iff_getElem?.mp (by simpa using hz)
    have il := (List.getElem?_eq_some_iff.mp hi).1
    have hz' := at' i z _ hi (List.getElem?_eq_getElem (by omega))
    rw [hz'.cd]
    exact ItV.eq (by show X.A.units + 1 < cLine; omega) hz' hv
  · have cvs : its.map (cdV tp s.heap) = us := by
      apply List.ext_getElem?
      intro i
      rw [List.getElem?_map]
      cases z : its[i]? with
      | none => rw [List.getElem?_eq_none (by have := List.getElem?_eq_none_iff.mp z; omega)]; rfl
      | some w' =>
        have il := (List.getElem?_eq_some_iff.mp z).1
        have e2 := List.getElem?_eq_getElem (show i < us.length by omega)
        rw [e2]
        show some (cdV tp s.heap w') = some _
        rw [(at' i w' _ z e2).cd]
    have e : (its.toArray.any fun z => decide (cdV tp s.heap z = u)) = decide (u ∈ us) := by
      rw [← cvs, List.any_toArray]
      rw [Bool.eq_iff_iff, List.any_eq_true, decide_eq_true_iff, List.mem_map]
      exact ⟨fun ⟨a, b, c⟩ => ⟨a, b, of_decide_eq_true c⟩, fun ⟨a, b, c⟩ => ⟨a, b, decide_eq_true c⟩⟩
    rw [e]
    exact q
def rRemC (tp : Bool) : V → List V → Hp → VK → Prop := fun x vs H Q => ∃ (l : Addr) (y : V) (xs : List V) (u : List Int) (us : List (List Int)) (j : Nat), x = .ref l ∧ vs = [y] ∧ H l = some (.lst xs) ∧ Itm H tp y u ∧ ItL H tp xs us ∧ us[j]? = some u ∧ (∀ m, m < j → us[m]? ≠ some u) ∧ Q .non (upd H l (.lst (xs.eraseIdx j)))
theorem mt_remC (tp : Bool) {k : Nat} (hr : Room k X.A) : MtM X "list.remove" (rRemC tp) := by
  intro pins s σ H x vs v ws Q I rx rv0 h
  obtain ⟨l, y, xs, u, us, j, rfl, rfl, hH, hy, hL, ej, hno, q⟩ := h
  cases rx
  obtain ⟨w', rfl, ry⟩ := vals1 rv0
  obtain ⟨z, its, n, r, hl, e⟩ := I.lstM hH
  have hv := it_of I hy ry
  obtain ⟨ll, at'⟩ := its_of I r hL
  have hu := hr.un
  have jl : j < us.length := (List.getElem?_eq_some_iff.mp ej).1
  have cd : ∀ m (hm : m < its.length), cdV tp s.heap its[m] = us[m]'(by omega) := fun m hm => (at' m _ _ (List.getElem?_eq_getElem hm) (List.getElem?_eq_getElem (by omega))).cd
  refine call_meets F.slot_list_remove ⟨_, e, rfl⟩ F.entry_list_remove (F.args_list_remove_2 _ _) (list_removeAt l its.toArray n none #[] w' (fun z => decide (cdV tp s.heap z = u)) j (by simp; omega) ?_ (fun m hm mj => ?_) (by rw [List.size_toArray, ← hl]; exact z)) ⟨e, fun z hz => ?_, ?_⟩
  · refine decide_eq_true ?_
    have := cd j (by omega)
    rw [List.getElem_toArray, this]
    rw [List.getElem?_eq_getElem jl] at ej
    exact Option.some.inj ej
  · refine decide_eq_false fun q' => ?_
    have hm' : m < its.length := by simpa using hm
    rw [List.getElem_toArray, cd m hm'] at q'
    exact hno m mj (by rw [List.getElem?_eq_getElem (by omega), q'])
  · obtain ⟨i, hi⟩ := List.mem_iff_getElem?.mp (show z ∈ its by simpa using hz)
    have il := (List.getElem?_eq_some_iff.mp hi).1
    have hz' := at' i z _ hi (List.getElem?_eq_getElem (by omega))
    rw [hz'.cd]
    exact ItV.eq (by show X.A.units + 1 < cLine; omega) hz' hv
  · refine ⟨.non, _, I.lset (its' := its.eraseIdx j) hH e ?_ (r.eraseIdx j) ?_, rfl, q⟩
    · show its.toArray.eraseIdxIfInBounds j = (its.eraseIdx j).toArray
      rw [List.eraseIdxIfInBounds_toArray]
    · have := len_erase xs j
      omega
end
end L2
set_option Elab.async false
set_option linter.all false
set_option maxRecDepth 100000
set_option maxHeartbeats 1000000
namespace L2
open PySem PySem.Spec PyProof.Rows
section
variable {X : Cx}
theorem call_sortedTLK {K : PySem.W.Frag} {k : Nat} (hr : Room k X.A) (hK : X.K = K := by rfl) : CallR X (.builtin "sorted") (fun xs H Q => ∃ (p : Addr) (ys : List V) (us : List (List Int)), xs = [.ref p] ∧ SqL K H p ys ∧ TuL H ys us ∧ us.length < 64 ∧ (∀ u ∈ us, u ≠ []) ∧
    ∀ (l : Addr) (zs : List V) (ws : List (List Int)), H l = none → TuL H zs ws → ws.Perm us → ws.Pairwise (fun x y => lexB y x = false) → Q (.ref l) (upd H l (.lst zs))) := by subst hK; exact call_sortedTL hr
end
def datC (tp : Bool) (u : List Int) : PyData := if tp then dT u else .int (u.headD 0)
theorem Itm.di {K : PySem.W.Frag} {H : Hp} {tp : Bool} {x : V} {u : List Int} (h : Itm H tp x u) : DI K H x (datC tp u) := by
  cases h with
  | int i => exact .int i
  | tup e => exact ((ThL.ints u).tup e).di
theorem ItL.di {K : PySem.W.Frag} {H : Hp} {tp : Bool} {a : Addr} {xs : List V} {us : List (List Int)} (h : ItL H tp xs us) (ha : SqL K H a xs) : DI K H (.ref a) (.list (us.map (datC tp))) := by
  refine .lst ha (by rw [List.length_map]; exact h.1) fun i x d h1 h2 => ?_
  rw [List.getElem?_map] at h2
  cases z : us[i]? with
  | none => rw [z] at h2; cases h2
  | some u => rw [z] at h2; cases h2; exact (h.2 i x u h1 z).di
theorem lay_C (tp : Bool) (u : List Int) : (datC tp u).canLay0 = true := by
  cases tp with
  | false => rfl
  | true => have := lay_dTs [u]; simpa [dTs, PyData.canLay0, PyData.canLayAll0, datC] using this
theorem dep_C (tp : Bool) (u : List Int) : (datC tp u).depth ≤ 1 := by
  cases tp with
  | false => exact Nat.zero_le _
  | true => show PyData.depthAll _ + 1 ≤ 1; rw [dep_ints]; decide
theorem lay_CL (tp : Bool) : ∀ us : List (List Int), PyData.canLayAll0 (us.map (datC tp)) = true
  | [] => rfl
  | u :: us => by show ((datC tp u).canLay0 && PyData.canLayAll0 (us.map (datC tp))) = true; rw [lay_C, lay_CL tp us]; rfl
theorem dep_CL (tp : Bool) : ∀ us : List (List Int), PyData.depthAll (us.map (datC tp)) ≤ 1
  | [] => Nat.zero_le _
  | u :: us => by show max (datC tp u).depth (PyData.depthAll (us.map (datC tp))) ≤ 1; have := dep_C tp u; have := dep_CL tp us; omega
theorem eqv_nilC (tp : Bool) (us : List (List Int)) : PyData.eqv (.list (us.map (datC tp))) (.list []) = decide (us = []) := by
  cases us with
  | nil => rfl
  | cons u us => rfl
theorem eqv_C {tp : Bool} {u v : List Int} (hu : tp = false → u.length = 1) (hv : tp = false → v.length = 1) : PyData.eqv (datC tp u) (datC tp v) = decide (u = v) := by
  cases tp with
  | true => exact eqv_dT u v
  | false =>
    match u, v, hu rfl, hv rfl with
    | [i], [j], _, _ =>
      show decide (i = j) = decide ([i] = [j])
      by_cases z : i = j <;> simp [z]
theorem Itm.one {H : Hp} {tp : Bool} {x : V} {u : List Int} (h : Itm H tp x u) : tp = false → u.length = 1 := fun e => by
  subst e
  cases h
  rfl
end L2
set_option Elab.async false
set_option linter.all false
set_option maxRecDepth 100000
set_option maxHeartbeats 1000000
namespace L2
open PySem PySem.Spec PyProof.Rows
theorem Same.nw {p : Addr} {H H' : Hp} {o : HO} (a : Same H H') (h : H' p = none) : Same H (upd H' p o) := fun c u e => by
  have := a c u e
  rw [upd_ne (ne_of_none this h)]; exact this
theorem Same.ow {p : Addr} {H H' : Hp} {o : HO} (a : Same H H') (h : H p = none) : Same H (upd H' p o) := fun c u e => by
  rw [upd_ne (ne_of_none e h)]; exact a c u e
def RL (L : List (List Int × List Int)) (u v : List Int) : Prop := (u, v) ∈ L ∨ (v, u) ∈ L
theorem RL.symm {L : List (List Int × List Int)} (u v : List Int) (h : RL L u v) : RL L v u := h.elim .inr .inl
structure HInv (L : List (List Int × List Int)) (ts : List (List Int)) (hs : List (List (List Int))) (us : List (List Int)) : Prop where
  perm : (hs.flatten ++ us).Perm ts
  ne : ∀ h ∈ hs, h ≠ []
  conn : ∀ h ∈ hs, ∀ x ∈ h, ∀ y ∈ h, Conn (RL L) x y
  closed : ∀ h ∈ hs, ∀ x ∈ h, ∀ y, RL L x y → y ∈ h
structure WInv (L : List (List Int × List Int)) (ts : List (List Int)) (hs : List (List (List Int))) (vs us : List (List Int)) : Prop where
  perm : (hs.flatten ++ (vs ++ us)).Perm ts
  ne : ∀ h ∈ hs, h ≠ []
  conn : ∀ h ∈ hs, ∀ x ∈ h, ∀ y ∈ h, Conn (RL L) x y
  closed : ∀ h ∈ hs, ∀ x ∈ h, ∀ y, RL L x y → y ∈ h
  vne : vs ≠ []
  vcon : ∀ x ∈ vs, ∀ y ∈ vs, Conn (RL L) x y
theorem HInv.start {L : List (List Int × List Int)} {ts : List (List Int)} {hs : List (List (List Int))} {x : List Int} {us : List (List Int)} (h : HInv L ts hs (x :: us)) : WInv L ts hs [x] us :=
  ⟨h.perm, h.ne, h.conn, h.closed, by simp, fun a ha b hb => by rw [List.mem_singleton.mp ha, List.mem_singleton.mp hb]; exact .refl _⟩
theorem WInv.take {L : List (List Int × List Int)} {ts : List (List Int)} {hs : List (List (List Int))} {vs us : List (List Int)} {x w : List Int} {j : Nat} (h : WInv L ts hs vs us) (hx : x ∈ vs) (r : RL L x w) (e : us[j]? = some w) : WInv L ts hs (vs ++ [w]) (us.eraseIdx j) := by
  refine ⟨List.Perm.trans (List.Perm.append_left _ ?_) h.perm, h.ne, h.conn, h.closed, by simp, fun a ha b hb => ?_⟩
  · rw [List.append_assoc]
    exact List.Perm.append_left _ (erase_permK e).symm
  · have cw : ∀ a ∈ vs ++ [w], Conn (RL L) x a := fun a ha => by
      rcases List.mem_append.mp ha with q | q
      · exact h.vcon x hx a q
      · rw [List.mem_singleton.mp q]; exact Conn.one r
    exact ((cw a ha).symm RL.symm).trans (cw b hb)
theorem WInv.fin {L : List (List Int × List Int)} {ts : List (List Int)} {hs : List (List (List Int))} {vs us : List (List Int)} (h : WInv L ts hs vs us) (nd : ts.Nodup) (inT : ∀ p ∈ L, p.1 ∈ ts ∧ p.2 ∈ ts) (pr : ∀ x ∈ vs, ∀ w, RL L x w → w ∉ us) : HInv L ts (hs ++ [vs]) us := by
  refine ⟨?_, ?_, ?_, ?_⟩
  · rw [List.flatten_append, List.append_assoc]
    simpa using h.perm
  · intro g hg
    rcases List.mem_append.mp hg with q | q
    · exact h.ne g q
    · rw [List.mem_singleton.mp q]; exact h.vne
  · intro g hg
    rcases List.mem_append.mp hg with q | q
    · exact h.conn g q
    · rw [List.mem_singleton.mp q]; exact h.vcon
  · intro g hg
    rcases List.mem_append.mp hg with q | q
    · exact h.closed g q
    · rw [List.mem_singleton.mp q]
      intro x hx w r
      have wt : w ∈ ts := by
        rcases r with r | r
        · exact (inT _ r).2
        · exact (inT _ r).1
      have n2 := h.perm.nodup_iff.mpr nd
      rw [List.nodup_append] at n2
      rcases List.mem_append.mp (h.perm.symm.subset wt) with m | m
      · obtain ⟨g', hg', wg⟩ := List.mem_flatten.mp m
        have xg := h.closed g' hg' w wg x (RL.symm _ _ r)
        exact absurd rfl (n2.2.2 x (List.mem_flatten.mpr ⟨g', hg', xg⟩) x (List.mem_append_left _ hx))
      · rcases List.mem_append.mp m with m | m
        · exact m
        · exact absurd m (pr x hx w r)
theorem HInv.parts {L : List (List Int × List Int)} {ts : List (List Int)} {hs : List (List (List Int))} (h : HInv L ts hs []) : Parts (RL L) ts hs :=
  ⟨by simpa using h.perm, h.ne, h.conn, h.closed⟩
def PaL (H : Hp) (tp : Bool) (ps : List V) (L : List (List Int × List Int)) : Prop := ps.length = L.length ∧ ∀ (i : Nat) (y : V) (p : List Int × List Int), ps[i]? = some y → L[i]? = some p → ∃ (q : Addr) (x z : V), y = .ref q ∧ H q = some (.tup [x, z]) ∧ Itm H tp x p.1 ∧ Itm H tp z p.2
theorem PaL.up {H H' : Hp} {tp : Bool} {ps : List V} {L : List (List Int × List Int)} (h : PaL H tp ps L) (t : Tups H H') : PaL H' tp ps L := ⟨h.1, fun i y p h1 h2 => by
  obtain ⟨q, x, z, rfl, e, a, b⟩ := h.2 i y p h1 h2
  exact ⟨q, x, z, rfl, t _ _ e, a.up t, b.up t⟩⟩
theorem PaL.nil (H : Hp) (tp : Bool) : PaL H tp [] [] := ⟨rfl, fun i x u h => by cases h⟩
theorem PaL.snoc {H : Hp} {tp : Bool} {ps : List V} {L : List (List Int × List Int)} {q : Addr} {x z : V} {u v : List Int} (h : PaL H tp ps L) (e : H q = some (.tup [x, z])) (a : Itm H tp x u) (b : Itm H tp z v) : PaL H tp (ps ++ [.ref q]) (L ++ [(u, v)]) := by
  refine ⟨by simp [h.1], fun i y p h1 h2 => ?_⟩
  by_cases il : i < ps.length
  · rw [List.getElem?_append_left il] at h1
    rw [List.getElem?_append_left (h.1 ▸ il)] at h2
    exact h.2 i y p h1 h2
  · rw [List.getElem?_append_right (by omega)] at h1
    rw [List.getElem?_append_right (by rw [← h.1]; omega), ← h.1] at h2
    cases z' : i - ps.length with
    | zero =>
      rw [z'] at h1 h2
      cases h1
      cases h2
      exact ⟨q, x, z, rfl, e, a, b⟩
    | succ j => rw [z'] at h1; cases h1
structure Hst (H0 H : Hp) (tp : Bool) (c l : Addr) (zs xs : List V) (hs : List (List (List Int))) (us : List (List Int)) : Prop where
  same : Same H0 H
  fc : H0 c = none
  fl : H0 l = none
  hc : H c = some (.lst zs)
  lz : LsL H tp zs hs
  hl : H l = some (.lst xs)
  il : ItL H tp xs us
  av : ∀ y ∈ zs, y ≠ .ref l
  ac : ∀ y ∈ zs, y ≠ .ref c
  cl : c ≠ l
structure Wst (H0 H : Hp) (tp : Bool) (c l p : Addr) (zs xs ys : List V) (hs : List (List (List Int))) (us vs : List (List Int)) : Prop extends Hst H0 H tp c l zs xs hs us where
  fp : H0 p = none
  hp : H p = some (.lst ys)
  ip : ItL H tp ys vs
  ap : ∀ y ∈ zs, y ≠ .ref p
  pc : p ≠ c
  pl : p ≠ l
theorem LsL.set {H : Hp} {tp : Bool} {ys xs zs : List V} {uss : List (List (List Int))} {l : Addr} (h : LsL H tp ys uss) (hl : H l = some (.lst xs)) (av : ∀ y ∈ ys, y ≠ .ref l) : LsL (upd H l (.lst zs)) tp ys uss := ⟨h.1, fun i y us h1 h2 => by
  obtain ⟨a, xs', rfl, e, k⟩ := h.2 i y us h1 h2
  have na : a ≠ l := fun z => av _ (List.mem_of_getElem? h1) (by rw [z])
  exact ⟨a, xs', rfl, by rw [upd_ne na]; exact e, k.up (Tups.lst (Tups.refl H) hl)⟩⟩
section
variable {H0 H : Hp} {tp : Bool} {c l p : Addr} {zs xs ys : List V} {hs : List (List (List Int))} {us vs : List (List Int)}
theorem Hst.nw {q : Addr} {o : HO} (h : Hst H0 H tp c l zs xs hs us) (hq : H q = none) : Hst H0 (upd H q o) tp c l zs xs hs us :=
  have s := Same.nw (o := o) (Same.refl H) hq
  ⟨h.same.trans s, h.fc, h.fl, s _ _ h.hc, h.lz.up s, s _ _ h.hl, h.il.up s.tups, h.av, h.ac, h.cl⟩
theorem Wst.nw {q : Addr} {o : HO} (h : Wst H0 H tp c l p zs xs ys hs us vs) (hq : H q = none) : Wst H0 (upd H q o) tp c l p zs xs ys hs us vs :=
  have s := Same.nw (o := o) (Same.refl H) hq
  ⟨h.toHst.nw hq, h.fp, s _ _ h.hp, h.ip.up s.tups, h.ap, h.pc, h.pl⟩
theorem Wst.rem (h : Wst H0 H tp c l p zs xs ys hs us vs) (j : Nat) : Wst H0 (upd H l (.lst (xs.eraseIdx j))) tp c l p zs (xs.eraseIdx j) ys hs (us.eraseIdx j) vs := by
  have t : Tups H (upd H l (.lst (xs.eraseIdx j))) := Tups.lst (Tups.refl H) h.hl
  exact ⟨⟨h.same.ow h.fl, h.fc, h.fl, by rw [upd_ne h.cl]; exact h.hc, h.lz.set h.hl h.av, upd_same, (h.il.erase j).up t, h.av, h.ac, h.cl⟩, h.fp, by rw [upd_ne h.pl]; exact h.hp, h.ip.up t, h.ap, h.pc, h.pl⟩
theorem Wst.app (h : Wst H0 H tp c l p zs xs ys hs us vs) {x : V} {w : List Int} (a : Itm H tp x w) : Wst H0 (upd H p (.lst (ys ++ [x]))) tp c l p zs xs (ys ++ [x]) hs us (vs ++ [w]) := by
  have t : Tups H (upd H p (.lst (ys ++ [x]))) := Tups.lst (Tups.refl H) h.hp
  exact ⟨⟨h.same.ow h.fp, h.fc, h.fl, by rw [upd_ne (Ne.symm h.pc)]; exact h.hc, h.lz.set h.hp h.ap, by rw [upd_ne (Ne.symm h.pl)]; exact h.hl, h.il.up t, h.av, h.ac, h.cl⟩, h.fp, upd_same, ((h.ip.append (ItL.cons a (ItL.nil H tp)))).up t, h.ap, h.pc, h.pl⟩
theorem Wst.fin (h : Wst H0 H tp c l p zs xs ys hs us vs) : Hst H0 (upd H c (.lst (zs ++ [.ref p]))) tp c l (zs ++ [.ref p]) xs (hs ++ [vs]) us := by
  have t : Tups H (upd H c (.lst (zs ++ [.ref p]))) := Tups.lst (Tups.refl H) h.hc
  have lz : LsL (upd H c (.lst (zs ++ [.ref p]))) tp zs hs := h.lz.set h.hc h.ac
  refine ⟨h.same.ow h.fc, h.fc, h.fl, upd_same, LsL.snoc lz (by rw [upd_ne h.pc]; exact h.hp) (h.ip.up t), by rw [upd_ne (Ne.symm h.cl)]; exact h.hl, h.il.up t, fun y hy => ?_, fun y hy => ?_, h.cl⟩
  · rcases List.mem_append.mp hy with q | q
    · exact h.av y q
    · rw [List.mem_singleton.mp q]
      intro e
      exact h.pl (V.ref.inj e)
  · rcases List.mem_append.mp hy with q | q
    · exact h.ac y q
    · rw [List.mem_singleton.mp q]
      intro e
      exact h.pc (V.ref.inj e)
end
def tHeaps (K : PySem.W.Frag) (tp : Bool) : TS :=
  tSeq (tAsg (tLst tNil) (gName 2))
  (tSeq (tAsg (tCB (fun xs H Q => ∃ p ys, xs = [V.ref p] ∧ (SqL K H p ys ∨ SqT K H p ys) ∧ ∀ (l : Addr), H l = none → Q (V.ref l) (upd H l (HO.lst ys))) (tCons (tVar 0) tNil)) (gName 3))
  (tSeq (tWhile (tTest (tOp (rEqD K fun b => !b) (tVar 3) (tLst tNil)))
    (tSeq (tAsg (tLst (tCons (tBM K "list" rPopAt (tVar 3) (tCons (tC (V.int 0)) tNil)) tNil)) (gName 4))
    (tSeq (tAsg (tC (V.int 0)) (gName 5))
    (tSeq (tWhile (tTest (tOp (rI0 fun i j => V.bl (decide (i < j))) (tVar 5) (tCB (fun xs H Q => ∃ p ys, xs = [V.ref p] ∧ (SqL K H p ys ∨ SqT K H p ys) ∧ Q (V.int ((ys.length : Nat) : Int)) H) (tCons (tVar 4) tNil))))
      (tSeq (tFor (iList K (tVar 1)) (gTup K 2 (gCons (gName 6) (gCons (gName 7) gNil)))
        (tFor (iTup K (tTup (tCons (tTup (tCons (tVar 6) (tCons (tVar 7) tNil))) (tCons (tTup (tCons (tVar 7) (tCons (tVar 6) tNil))) tNil)))) (gTup K 2 (gCons (gName 8) (gCons (gName 9) gNil)))
          (tIfS (tAnd (tTest (tOp (rEqD K fun b => b) (tVar 8) (tOp (rIxL K) (tVar 4) (tVar 5)))) (tTest (tOp (rInC K tp) (tVar 9) (tVar 3))))
            (tSeq (tDrop (tBM K "list" (rRemC tp) (tVar 3) (tCons (tVar 9) tNil))) (tDrop (tBM K "list" rAppend (tVar 4) (tCons (tVar 9) tNil)))) tNext)))
        (tAsg (tOp (rI0 fun i j => V.int (i + j)) (tVar 5) (tC (V.int 1))) (gName 5))))
      (tDrop (tBM K "list" rAppend (tVar 2) (tCons (tVar 4) tNil)))))))
    (tRet (tVar 2))))
theorem Hst.pop {H0 H : Hp} {tp : Bool} {c l : Addr} {zs xs : List V} {x : V} {hs : List (List (List Int))} {u : List Int} {us : List (List Int)} (h : Hst H0 H tp c l zs (x :: xs) hs (u :: us)) : Hst H0 (upd H l (.lst xs)) tp c l zs xs hs us ∧ Itm (upd H l (.lst xs)) tp x u := by
  have t : Tups H (upd H l (.lst xs)) := Tups.lst (Tups.refl H) h.hl
  exact ⟨⟨h.same.ow h.fl, h.fc, h.fl, by rw [upd_ne h.cl]; exact h.hc, h.lz.set h.hl h.av, upd_same, h.il.tail.up t, h.av, h.ac, h.cl⟩, h.il.head.up t⟩
theorem Hst.open {H0 H : Hp} {tp : Bool} {c l p : Addr} {zs xs : List V} {x : V} {hs : List (List (List Int))} {u : List Int} {us : List (List Int)} (h : Hst H0 H tp c l zs xs hs us) (i : Itm H tp x u) (hp : H p = none) : Wst H0 (upd H p (.lst [x])) tp c l p zs xs [x] hs us [u] := by
  have s := Same.nw (o := .lst [x]) (Same.refl H) hp
  refine ⟨h.nw hp, h.same.free hp, upd_same, (ItL.cons i (ItL.nil _ _)).up s.tups, fun y hy e => ?_, fun z => ?_, fun z => ?_⟩
  · obtain ⟨i, hi⟩ := List.mem_iff_getElem?.mp hy
    have il := (List.getElem?_eq_some_iff.mp hi).1
    obtain ⟨a, ys, ea, ha, _⟩ := h.lz.2 i y _ hi (List.getElem?_eq_getElem (by rw [← h.lz.1]; exact il))
    rw [ea] at e
    cases e
    rw [hp] at ha
    cases ha
  · rw [z, h.hc] at hp; cases hp
  · rw [z, h.hl] at hp; cases hp
theorem len_flat {α : Type} : ∀ {hs : List (List α)}, (∀ h ∈ hs, h ≠ []) → hs.length ≤ hs.flatten.length
  | [], _ => Nat.le_refl _
  | h :: hs, ne => by
    have ih := len_flat fun g hg => ne g (List.mem_cons_of_mem _ hg)
    have : 0 < h.length := List.length_pos_iff.mpr (ne h List.mem_cons_self)
    rw [List.flatten_cons, List.length_append, List.length_cons]
    omega
theorem nd_erase {us : List (List Int)} {w : List Int} {j : Nat} (nd : us.Nodup) (e : us[j]? = some w) : w ∉ us.eraseIdx j := fun m => by
  have p := (erase_permK e).nodup_iff.mp nd
  exact (List.nodup_cons.mp p).1 m
theorem idx_first {us : List (List Int)} {w : List Int} (h : w ∈ us) : ∃ j : Nat, us[j]? = some w ∧ ∀ m, m < j → us[m]? ≠ some w := by
  induction us with
  | nil => cases h
  | cons a us ih =>
    by_cases e : a = w
    · exact ⟨0, by rw [e]; rfl, fun m hm => absurd hm (Nat.not_lt_zero _)⟩
    · obtain ⟨j, h1, h2⟩ := ih (by rcases List.mem_cons.mp h with q | q; exact absurd q.symm e; exact q)
      refine ⟨j + 1, by simpa using h1, fun m hm => ?_⟩
      cases m with
      | zero => intro q; exact e (Option.some.inj q)
      | succ m => simpa using h2 m (by omega)
theorem heaps_reads {K : PySem.W.Frag} {tp : Bool} {H : Hp} {Q : VK} {Z : L2.St → Hp → Prop} {a b : Addr} {xs ps : List V} {ts : List (List Int)} {L : List (List Int × List Int)} (ha : H a = some (.lst xs)) (iT : ItL H tp xs ts) (hb : H b = some (.lst ps)) (iP : PaL H tp ps L) (nd : ts.Nodup) (sz : ts.length ≤ 1000) (inT : ∀ p ∈ L, p.1 ∈ ts ∧ p.2 ∈ ts)
    (k : ∀ (c : Addr) (zs : List V) (hs : List (List (List Int))) (H' : Hp), Same H H' → H c = none → H' c = some (.lst zs) → LsL H' tp zs hs → Parts (RL L) ts hs → Q (.ref c) H') : tHeaps K tp { nx := Z, rt := Q } [some (.ref a), some (.ref b), none, none, none, none, none, none, none, none] H := by
  refine ⟨(by show 0 ≤ sizeLine; decide), fun c hc => ?_⟩
  have s1 := Same.nw (o := .lst []) (Same.refl H) hc
  have fc : (upd H c (.lst [])) c = some (.lst []) := upd_same
  have acne : a ≠ c := ne_of_none ha hc
  generalize upd H c (.lst []) = H1 at s1 fc ⊢
  refine ⟨_, rfl, a, xs, rfl, .inl (SqL.of (s1 _ _ ha)), fun l hl => ?_⟩
  have s2 := Same.nw (o := .lst xs) s1 hl
  have st0 : Hst H (upd H1 l (.lst xs)) tp c l [] xs [] ts := ⟨s2, hc, s1.free hl, Same.nw (o := .lst xs) (Same.refl H1) hl _ _ fc, LsL.nil _ _, upd_same, iT.up s2.tups, fun y hy => (by cases hy), fun y hy => (by cases hy), ne_of_none fc hl⟩
  generalize upd H1 l (.lst xs) = H2 at st0 ⊢
  refine while_by (fun σ H' => ∃ (x4 x5 x6 x7 x8 x9 : Option V) (zs xs : List V) (hs : List (List (List Int))) (us : List (List Int)), σ = [some (.ref a), some (.ref b), some (.ref c), some (.ref l), x4, x5, x6, x7, x8, x9] ∧ Hst H H' tp c l zs xs hs us ∧ HInv L ts hs us) (fun σ H' => match H' l with | some (.lst xs) => xs.length | _ => 0) ⟨_, _, _, _, _, _, [], xs, [], ts, rfl, st0, ⟨List.Perm.refl _, fun _ h => (by cases h), fun _ h => (by cases h), fun _ h => (by cases h)⟩⟩ ?_ (fun σ H Q Q' h hc => by obtain ⟨v, e, z, k⟩ := hc; exact ⟨v, e, z, fun p hp => by obtain ⟨d1, d2, a1, a2, a3, a4, a5, b, eb, q⟩ := k p hp; exact ⟨d1, d2, a1, a2, a3, a4, a5, b, eb, h _ _ q⟩⟩)
  rintro σ H3 ⟨x4, x5, x6, x7, x8, x9, zs, xs, hs, us, rfl, st, inv⟩
  refine ⟨_, rfl, (by show 0 ≤ sizeLine; decide), fun z hz => ?_⟩
  have st4 := st.nw (o := .lst []) hz
  have hz4 : (upd H3 z (.lst [])) z = some (.lst []) := upd_same
  have s34 := Same.nw (o := .lst []) (Same.refl H3) hz
  generalize upd H3 z (.lst []) = H4 at st4 hz4 s34 ⊢
  refine ⟨_, _, st4.il.di (SqL.of st4.hl), (ItL.nil H4 tp).di (SqL.of hz4), lay_CL tp us, lay_CL tp [], Nat.le_trans (Nat.succ_le_succ (dep_CL tp us)) (by decide), _, rfl, ?_⟩
  have ev : PyData.eqv (.list (us.map (datC tp))) (.list (([] : List (List Int)).map (datC tp))) = decide (us = []) := eqv_nilC tp us
  rw [ev]
  have ul : xs.length = us.length := st.il.1
  have tl : us.length ≤ ts.length := by rw [← inv.perm.length_eq, List.length_append]; omega
  have hm3 := st.hl
  cases us with
  | nil =>
    refine iteF ⟨_, rfl, ?_⟩
    exact k c zs hs H4 st4.same hc st4.hc st4.lz inv.parts
  | cons u us =>
    refine iteT ?_
    cases xs with
    | nil => simp at ul
    | cons x xs =>
      refine ⟨_, rfl, .inl ⟨rfl, _, SqL.of st4.hl⟩, l, _, 0, 0, x, rfl, rfl, st4.hl, by decide, by decide, (by show seqIndex? 0 (xs.length + 1) = some 0; exact seqIndex_of (by decide) (by omega)), rfl, ?_⟩
      obtain ⟨st5, i5⟩ := st4.pop
      rw [show (x :: xs).eraseIdx 0 = xs from rfl]
      generalize upd H4 l (.lst xs) = H5 at st5 i5 ⊢
      refine ⟨(by show 1 ≤ sizeLine; decide), fun p hp => ?_⟩
      have st6 := st5.open i5 hp
      generalize upd H5 p (.lst [x]) = H6 at st6 ⊢
      have ul' : us.length < ts.length := by simp only [List.length_cons] at tl; omega
      have lxs : xs.length = us.length := by simpa using ul
      refine while_by (fun σ H' => ∃ (x6 x7 x8 x9 : Option V) (i : Nat) (xs ys : List V) (us' vs : List (List Int)), σ = [some (.ref a), some (.ref b), some (.ref c), some (.ref l), some (.ref p), some (.int (i : Int)), x6, x7, x8, x9] ∧ Wst H H' tp c l p zs xs ys hs us' vs ∧ WInv L ts hs vs us' ∧ i ≤ vs.length ∧ us'.length ≤ us.length ∧ (∀ m, m < i → ∀ x, vs[m]? = some x → ∀ w, RL L x w → w ∉ us')) (fun (σ : L2.St) (H' : Hp) => match σ[5]? with | some (some (V.int i)) => ts.length - i.toNat | _ => 0) ⟨_, _, _, _, 0, xs, [x], us, [u], rfl, st6, inv.start, Nat.zero_le _, Nat.le_refl _, fun m hm => absurd hm (Nat.not_lt_zero _)⟩ ?_ (fun σ H Q Q' h hc => by obtain ⟨v, e, v2, e2, q1, q2, a1, a2, q3, q4, a3, a4, b, eb, q⟩ := hc; exact ⟨v, e, v2, e2, q1, q2, a1, a2, q3, q4, a3, a4, b, eb, h _ _ q⟩)
      rintro σ H7 ⟨x6, x7, x8, x9, i, xs', ys, us', vs, rfl, w7, wi, iv, uu, pr⟩
      have yl : ys.length = vs.length := w7.ip.1
      have vl : vs.length + us'.length ≤ ts.length := by rw [← wi.perm.length_eq, List.length_append, List.length_append]; omega
      refine ⟨_, rfl, _, rfl, p, ys, rfl, .inl (SqL.of w7.hp), _, _, rfl, rfl, _, rfl, ?_⟩
      by_cases il : i < vs.length
      · have ev2 : decide ((i : Int) < ((ys.length : Nat) : Int)) = true := decide_eq_true (by omega)
        rw [ev2]
        refine iteT ?_
        have eu0 : vs[i]? = some vs[i] := List.getElem?_eq_getElem il
        generalize vs[i] = u0 at eu0
        refine ⟨_, rfl, b, rfl, ⟨_, SqL.of (w7.same _ _ hb)⟩, for_list (K := K) (a := b) (xs := ps) (fun n σ H' => ∃ (x6 x7 x8 x9 : Option V) (xs ys : List V) (us' vs : List (List Int)), σ = [some (.ref a), some (.ref b), some (.ref c), some (.ref l), some (.ref p), some (.int (i : Int)), x6, x7, x8, x9] ∧ Wst H H' tp c l p zs xs ys hs us' vs ∧ WInv L ts hs vs us' ∧ vs[i]? = some u0 ∧ us'.length ≤ us.length ∧ (∀ m, m < i → ∀ x, vs[m]? = some x → ∀ w, RL L x w → w ∉ us') ∧ (∀ q ∈ L.take n, (q.1 = u0 → q.2 ∉ us') ∧ (q.2 = u0 → q.1 ∉ us'))) ⟨_, _, _, _, xs', ys, us', vs, rfl, w7, wi, eu0, uu, pr, fun q hq => (by rw [List.take_zero] at hq; cases hq)⟩ (fun n σ H' _ h => by obtain ⟨_, _, _, _, _, _, _, _, _, w', _⟩ := h; exact SqL.of (w'.same _ _ hb)) ?_ ?_⟩
        · rintro n y σ H8 hy ⟨x6, x7, x8, x9, xs8, ys8, us8, vs8, rfl, w8, wi8, eu8, uu8, pr8, pp8⟩
          have nl : n < L.length := by rw [← iP.1]; exact (List.getElem?_eq_some_iff.mp hy).1
          have eL : L[n]? = some L[n] := List.getElem?_eq_getElem nl
          obtain ⟨q, x1, z1, rfl, hq, ix, iz⟩ := (iP.up w8.same.tups).2 n y _ hy eL
          generalize L[n] = pq at eL ix iz
          refine ⟨q, _, rfl, SqT.of hq, rfl, _, _, rfl, _, _, rfl, rfl, ?_⟩
          refine ⟨_, rfl, _, rfl, (by show 2 ≤ sizeLine; decide), fun t1 ht1 => ?_⟩
          have w9 := w8.nw (o := .tup [x1, z1]) ht1
          have f1 : (upd H8 t1 (.tup [x1, z1])) t1 = some (.tup [x1, z1]) := upd_same
          have s9 := Same.nw (o := .tup [x1, z1]) (Same.refl H8) ht1
          generalize upd H8 t1 (.tup [x1, z1]) = H9 at w9 f1 s9 ⊢
          refine ⟨_, rfl, _, rfl, (by show 2 ≤ sizeLine; decide), fun t2 ht2 => ?_⟩
          have wA := w9.nw (o := .tup [z1, x1]) ht2
          have f2 : (upd H9 t2 (.tup [z1, x1])) t2 = some (.tup [z1, x1]) := upd_same
          have sA := Same.nw (o := .tup [z1, x1]) (Same.refl H9) ht2
          generalize upd H9 t2 (.tup [z1, x1]) = HA at wA f2 sA ⊢
          refine ⟨(by show 2 ≤ sizeLine; decide), fun t3 ht3 => ?_⟩
          have wB := wA.nw (o := .tup [.ref t1, .ref t2]) ht3
          have f3 : (upd HA t3 (.tup [.ref t1, .ref t2])) t3 = some (.tup [.ref t1, .ref t2]) := upd_same
          have sB := Same.nw (o := .tup [.ref t1, .ref t2]) (Same.refl HA) ht3
          generalize upd HA t3 (.tup [.ref t1, .ref t2]) = HB at wB f3 sB ⊢
          have g1 := sB _ _ (sA _ _ f1)
          have g2 := sB _ _ f2
          have ixB := ix.up ((s9.trans sA).trans sB).tups
          have izB := iz.up ((s9.trans sA).trans sB).tups
          have mL : pq ∈ L := List.mem_of_getElem? eL
          refine ⟨t3, rfl, ⟨_, SqT.of f3⟩, for_tup (K := K) (a := t3) (xs := [.ref t1, .ref t2]) (fun m σ H' => ∃ (x8 x9 : Option V) (xs ys : List V) (us' vs : List (List Int)), σ = [some (.ref a), some (.ref b), some (.ref c), some (.ref l), some (.ref p), some (.int (i : Int)), some x1, some z1, x8, x9] ∧ Wst H H' tp c l p zs xs ys hs us' vs ∧ Tups HB H' ∧ WInv L ts hs vs us' ∧ vs[i]? = some u0 ∧ us'.length ≤ us.length ∧ (∀ m, m < i → ∀ x, vs[m]? = some x → ∀ w, RL L x w → w ∉ us') ∧ (∀ q ∈ L.take n, (q.1 = u0 → q.2 ∉ us') ∧ (q.2 = u0 → q.1 ∉ us')) ∧ (1 ≤ m → pq.1 = u0 → pq.2 ∉ us') ∧ (2 ≤ m → pq.2 = u0 → pq.1 ∉ us')) ⟨_, _, xs8, ys8, us8, vs8, rfl, wB, Tups.refl _, wi8, eu8, uu8, pr8, pp8, fun h => absurd h (by decide), fun h => absurd h (by decide)⟩ (fun m σ H' _ h => by obtain ⟨_, _, _, _, _, _, _, _, t', _⟩ := h; exact SqT.of (t' _ _ f3)) ?_ ?_⟩
          · have body : ∀ (D : Ends) (H' : Hp) (xs ys : List V) (us' vs : List (List Int)) (hh th : V) (ch ct : List Int), Wst H H' tp c l p zs xs ys hs us' vs → Tups HB H' → WInv L ts hs vs us' → vs[i]? = some u0 → us'.length ≤ us.length → (∀ m, m < i → ∀ x, vs[m]? = some x → ∀ w, RL L x w → w ∉ us') → Itm HB tp hh ch → Itm HB tp th ct → RL L ch ct →
                (∀ H'' xs ys us'' vs', Wst H H'' tp c l p zs xs ys hs us'' vs' → Tups HB H'' → WInv L ts hs vs' us'' → vs'[i]? = some u0 → us''.length ≤ us.length → (∀ m, m < i → ∀ x, vs'[m]? = some x → ∀ w, RL L x w → w ∉ us'') → (∀ w, w ∈ us'' → w ∈ us') → (ch = u0 → ct ∉ us'') → D.nx [some (.ref a), some (.ref b), some (.ref c), some (.ref l), some (.ref p), some (.int (i : Int)), some x1, some z1, some hh, some th] H'') →
                tIfS (tAnd (tTest (tOp (rEqD K fun b => b) (tVar 8) (tOp (rIxL K) (tVar 4) (tVar 5)))) (tTest (tOp (rInC K tp) (tVar 9) (tVar 3)))) (tSeq (tDrop (tBM K "list" (rRemC tp) (tVar 3) (tCons (tVar 9) tNil))) (tDrop (tBM K "list" rAppend (tVar 4) (tCons (tVar 9) tNil)))) tNext D [some (.ref a), some (.ref b), some (.ref c), some (.ref l), some (.ref p), some (.int (i : Int)), some x1, some z1, some hh, some th] H' := by
              intro D H' xs ys us' vs hh th ch ct w' t' wi' eu' uu' pr' ih it r kN
              obtain ⟨yv, ey, iy⟩ := w'.ip.at eu'
              have ih' := ih.up t'
              have it' := it.up t'
              have ndu : us'.Nodup := by
                have := wi'.perm.nodup_iff.mpr nd
                rw [List.nodup_append, List.nodup_append] at this
                exact this.2.1.2.1
              have vl' : vs.length ≤ ts.length := by rw [← wi'.perm.length_eq, List.length_append, List.length_append]; omega
              refine ⟨_, rfl, _, rfl, _, rfl, p, ys, _, yv, rfl, rfl, SqL.of w'.hp, atI_nat ey, _, _, ih'.di, iy.di, lay_C tp ch, lay_C tp u0, Nat.le_trans (dep_C tp ch) (by decide), _, rfl, ?_⟩
              rw [eqv_C ih'.one iy.one]
              by_cases e : ch = u0
              · rw [decide_eq_true e]
                refine iteT ⟨_, rfl, _, rfl, l, xs, ct, us', rfl, SqL.of w'.hl, it', w'.il, _, rfl, ?_⟩
                by_cases m : ct ∈ us'
                · rw [decide_eq_true m]
                  refine iteT ?_
                  obtain ⟨j, ej, hno⟩ := idx_first m
                  refine ⟨_, rfl, .inl ⟨rfl, _, SqL.of w'.hl⟩, _, rfl, l, th, xs, ct, us', j, rfl, rfl, w'.hl, it', w'.il, ej, hno, ?_⟩
                  have w2 := w'.rem j
                  have t2 : Tups H' (upd H' l (.lst (xs.eraseIdx j))) := Tups.lst (Tups.refl H') w'.hl
                  generalize upd H' l (.lst (xs.eraseIdx j)) = H2 at w2 t2 ⊢
                  have ylen : ys.length ≤ 1000 := by rw [w'.ip.1]; omega
                  refine ⟨_, rfl, .inl ⟨rfl, _, SqL.of w2.hp⟩, _, rfl, p, _, _, rfl, rfl, w2.hp, Nat.lt_of_le_of_lt ylen (by decide), ?_⟩
                  have sub : ∀ w, w ∈ us'.eraseIdx j → w ∈ us' := fun w hw => List.mem_of_mem_eraseIdx hw
                  have iv' := (List.getElem?_eq_some_iff.mp eu').1
                  refine kN _ _ _ _ _ (w2.app (it'.up t2)) ((t'.trans t2).trans (Tups.lst (Tups.refl H2) w2.hp)) (wi'.take (List.mem_of_getElem? eu') (e ▸ r) ej) (by rw [List.getElem?_append_left iv']; exact eu') (Nat.le_trans (List.length_eraseIdx_le _ _) uu') (fun m hm x hx w r' hw => ?_) sub (fun _ => nd_erase ndu ej)
                  rw [List.getElem?_append_left (by omega)] at hx
                  exact pr' m hm x hx w r' (sub w hw)
                · rw [decide_eq_false m]
                  exact iteF (kN _ _ _ _ _ w' t' wi' eu' uu' pr' (fun w h => h) (fun _ => m))
              · rw [decide_eq_false e]
                exact iteF (iteF (kN _ _ _ _ _ w' t' wi' eu' uu' pr' (fun w h => h) (fun z => absurd z e)))
            rintro m y' σ H' hy' ⟨x8, x9, xs', ys', us'', vs'', rfl, w', t', wi', eu', uu', pr', pp', c1, c2⟩
            rcases m with _ | _ | m
            · cases hy'
              refine ⟨t1, _, rfl, SqT.of (t' _ _ g1), rfl, _, _, rfl, _, _, rfl, rfl, ?_⟩
              refine body _ H' xs' ys' us'' vs'' x1 z1 pq.1 pq.2 w' t' wi' eu' uu' pr' ixB izB (.inl mL) fun H'' xs ys us3 vs3 w3 t3' wi3 eu3 uu3 pr3 sub c3 => ?_
              exact ⟨_, _, xs, ys, us3, vs3, rfl, w3, t3', wi3, eu3, uu3, pr3, fun q hq => ⟨fun e h => (pp' q hq).1 e (sub _ h), fun e h => (pp' q hq).2 e (sub _ h)⟩, fun _ => c3, fun h => absurd h (by decide)⟩
            · cases hy'
              refine ⟨t2, _, rfl, SqT.of (t' _ _ g2), rfl, _, _, rfl, _, _, rfl, rfl, ?_⟩
              refine body _ H' xs' ys' us'' vs'' z1 x1 pq.2 pq.1 w' t' wi' eu' uu' pr' izB ixB (.inr mL) fun H'' xs ys us3 vs3 w3 t3' wi3 eu3 uu3 pr3 sub c3 => ?_
              exact ⟨_, _, xs, ys, us3, vs3, rfl, w3, t3', wi3, eu3, uu3, pr3, fun q hq => ⟨fun e h => (pp' q hq).1 e (sub _ h), fun e h => (pp' q hq).2 e (sub _ h)⟩, fun _ e h => c1 (Nat.le_refl _) e (sub _ h), fun _ => c3⟩
            · cases hy'
          · rintro σ H' ⟨x8, x9, xs', ys', us'', vs'', rfl, w', t', wi', eu', uu', pr', pp', c1, c2⟩
            refine ⟨_, _, _, _, xs', ys', us'', vs'', rfl, w', wi', eu', uu', pr', fun q hq => ?_⟩
            rw [List.take_succ, eL] at hq
            rcases List.mem_append.mp hq with hq | hq
            · exact pp' q hq
            · have : q = pq := by simpa using hq
              subst this
              exact ⟨c1 (Nat.le_of_ble_eq_true rfl), c2 (Nat.le_of_ble_eq_true rfl)⟩
        · rintro σ H' ⟨x6, x7, x8, x9, xs8, ys8, us8, vs8, rfl, w8, wi8, eu8, uu8, pr8, pp8⟩
          rw [iP.1, List.take_length] at pp8
          have i8 := (List.getElem?_eq_some_iff.mp eu8).1
          refine ⟨_, rfl, _, _, rfl, rfl, ⟨_, _, _, _, i + 1, xs8, ys8, us8, vs8, rfl, w8, wi8, i8, uu8, fun m hm x hx w r => ?_⟩, ?_⟩
          · by_cases e : m = i
            · subst e
              rw [eu8] at hx
              cases hx
              rcases r with r | r
              · exact (pp8 _ r).1 rfl
              · exact (pp8 _ r).2 rfl
            · exact pr8 m (by omega) x hx w r
          · show ts.length - ((i : Int) + 1).toNat < ts.length - (i : Int).toNat
            omega
      · have ev2 : decide ((i : Int) < ((ys.length : Nat) : Int)) = false := decide_eq_false (by omega)
        rw [ev2]
        refine iteF ?_
        have zl : zs.length ≤ 1000 := by
          rw [w7.lz.1]
          have h1 := wi.perm.length_eq
          have h2 := len_flat wi.ne
          rw [List.length_append] at h1
          omega
        refine ⟨_, rfl, .inl ⟨rfl, _, SqL.of w7.hc⟩, _, rfl, c, _, _, rfl, rfl, w7.hc, Nat.lt_of_le_of_lt zl (by decide), ⟨_, _, _, _, _, _, _, xs', _, us', rfl, w7.fin, wi.fin nd inT fun x hx w r => ?_⟩, ?_⟩
        · obtain ⟨m, hm⟩ := List.mem_iff_getElem?.mp hx
          have ml := (List.getElem?_eq_some_iff.mp hm).1
          exact pr m (by omega) x hm w r
        · rw [upd_ne (Ne.symm w7.cl), w7.hl, hm3]
          show xs'.length < (x :: xs).length
          have := w7.il.1
          simp only [List.length_cons]
          omega
end L2
set_option Elab.async false
set_option linter.all false
set_option maxRecDepth 100000
set_option maxHeartbeats 1000000
namespace L2
open PySem PySem.Spec PyProof.Rows
def eC (s : Int) (last : Bool) : List Int := [absI s, if decide (0 < s) = last then 1 else 0]
def meet3 : List Int → List (List Int × List Int)
  | [a, b, c] => [(eC a true, eC b false), (eC b true, eC c false), (eC c true, eC a false)]
  | _ => []
def meetsL (S : List (List Int)) : List (List Int × List Int) := (S.map meet3).flatten
def endsL (n : Nat) : List (List Int) := ((upto 1 n).map fun t => [[t, 0], [t, 1]]).flatten
theorem meetsL_snoc (S : List (List Int)) (t : List Int) : meetsL (S ++ [t]) = meetsL S ++ meet3 t := by
  unfold meetsL
  rw [List.map_append, List.flatten_append]
  simp
theorem endsL_snoc (n : Nat) : endsL (n + 1) = endsL n ++ [[1 + (n : Int), 0], [1 + (n : Int), 1]] := by
  unfold endsL
  rw [upto_succ, List.map_append, List.flatten_append]
  simp
theorem mem_ends {n : Nat} {u : List Int} : u ∈ endsL n ↔ ∃ t b : Int, u = [t, b] ∧ 1 ≤ t ∧ t ≤ (n : Int) ∧ (b = 0 ∨ b = 1) := by
  unfold endsL
  rw [List.mem_flatten]
  constructor
  · rintro ⟨l, hl, hu⟩
    obtain ⟨t, ht, rfl⟩ := List.mem_map.mp hl
    have := mem_upto.mp ht
    simp at hu
    rcases hu with rfl | rfl
    · exact ⟨t, 0, rfl, by omega, by omega, .inl rfl⟩
    · exact ⟨t, 1, rfl, by omega, by omega, .inr rfl⟩
  · rintro ⟨t, b, rfl, h1, h2, hb⟩
    refine ⟨[[t, 0], [t, 1]], List.mem_map.mpr ⟨t, mem_upto.mpr (by omega), rfl⟩, ?_⟩
    rcases hb with rfl | rfl <;> simp
theorem ends_len : ∀ n : Nat, (endsL n).length = 2 * n
  | 0 => rfl
  | n + 1 => by rw [endsL_snoc, List.length_append, ends_len n]; simp only [List.length_cons, List.length_nil]; omega
theorem ends_nd : ∀ n : Nat, (endsL n).Nodup
  | 0 => List.nodup_nil
  | n + 1 => by
    rw [endsL_snoc, List.nodup_append]
    refine ⟨ends_nd n, by simp, fun a ha b hb => ?_⟩
    obtain ⟨t, c, rfl, h1, h2, _⟩ := mem_ends.mp ha
    simp at hb
    intro e
    rcases hb with rfl | rfl <;> (injection e with e1 e2; omega)
theorem eC_mem {S : List (List Int)} (h : ShOk S) {t : List Int} (ht : t ∈ S) {s : Int} (hs : s ∈ t) (b : Bool) : eC s b ∈ endsL (S.length / 2 * 3) := by
  have := h.side ht hs
  refine mem_ends.mpr ⟨_, _, rfl, this.1, this.2, ?_⟩
  split
  · exact .inr rfl
  · exact .inl rfl
theorem meets_in {S : List (List Int)} (h : ShOk S) : ∀ p ∈ meetsL S, p.1 ∈ endsL (S.length / 2 * 3) ∧ p.2 ∈ endsL (S.length / 2 * 3) := by
  intro p hp
  unfold meetsL at hp
  obtain ⟨l, hl, hp⟩ := List.mem_flatten.mp hp
  obtain ⟨t, ht, rfl⟩ := List.mem_map.mp hl
  obtain ⟨a, b, c, rfl⟩ := three3 (h.three t ht)
  have ma := fun q => eC_mem h ht (s := a) (by simp) q
  have mb := fun q => eC_mem h ht (s := b) (by simp) q
  have mc := fun q => eC_mem h ht (s := c) (by simp) q
  simp [meet3] at hp
  rcases hp with rfl | rfl | rfl
  · exact ⟨ma _, mb _⟩
  · exact ⟨mb _, mc _⟩
  · exact ⟨mc _, ma _⟩
structure PtsOk (S : List (List Int)) (ws : List (List (List Int))) : Prop where
  parts : Parts (RL (meetsL S)) (endsL (S.length / 2 * 3)) ws
  up : ∀ w ∈ ws, w.Pairwise (fun x y => lexB y x = false)
  ups : ws.Pairwise (fun x y => lexLL y x = false)
theorem TuL.take {H : Hp} {xs : List V} {us : List (List Int)} (h : TuL H xs us) {i : Nat} {x : V} (e : xs[i]? = some x) : ∃ u a, us[i]? = some u ∧ x = .ref a ∧ H a = some (.tup (u.map V.int)) := by
  have il : i < us.length := by rw [← h.1]; exact (List.getElem?_eq_some_iff.mp e).1
  obtain ⟨a, ea, ha⟩ := h.2 i x _ e (List.getElem?_eq_getElem il)
  exact ⟨us[i], a, List.getElem?_eq_getElem il, ea, ha⟩
end L2
set_option Elab.async false
set_option linter.all false
set_option maxRecDepth 100000
set_option maxHeartbeats 1000000
namespace L2
open PySem PySem.Spec PyProof.Rows
section
variable {prog : Program} {w : World} {A : Around} {E : Value → Shared → Prop} {s : Shared}
theorem eT_next {e it l : Addr} {i : Nat} {its : Array Value} {x old : Value} {Q : Value → Shared → Prop} (ge : IsEnum s.heap e it i old) (gi : s.heap.IsTupleIter it l i) (gt : s.heap.IsTuple l its) (gx : its[i]? = some x) (ne : e ≠ it)
    (k : ∀ h', IsEnumOut h' e it ((i : Int) + 1) x s.heap.objs.size → h'.IsTupleIter it l (i + 1) → h'.get? s.heap.objs.size = some { cls := .type "tuple", data := .seq #[.int i s.toks, x] } → h'.objs.size = s.heap.objs.size + 1 →
      (∀ b o, b ≠ e → b ≠ it → s.heap.get? b = some o → h'.get? b = some o) → Q (.ref s.heap.objs.size) { s with heap := h', toks := s.toks + 1 }) :
    wpAny (model prog w) A (Builtin.«enumerate.__next__» ⟨[.ref e], []⟩) (fun fin s' => ∃ v, fin = .done (.ret v) ∧ Q v s') E s := by
  obtain ⟨m0, G, D, T, O⟩ := s
  show wpAny _ _ (field (.ref e) 2 >>= _) _ _ _
  refine wpAny_bind (wpAny_field ge rfl (x := .ref it) rfl (wpAny_bind (nxT gi gt gx fun m1 j1 b1 => ?_)))
  have b1 : Heap.SameBut it m0 m1 := b1
  have g1 : IsEnum m1 e it i old := (b1.2 e ne).trans ge
  show wpAny _ _ (field (.ref e) 3 >>= _) _ _ ⟨m1, G, D, T, O⟩
  refine wpAny_bind (wpAny_field g1 rfl (x := rawInt i) rfl ?_)
  show wpAny _ _ (field (.ref e) 4 >>= _) _ _ ⟨m1, G, D, T, O⟩
  refine wpAny_bind (wpAny_field g1 rfl (x := .none) rfl ?_)
  show wpAny _ _ (mkInt i >>= _) _ _ ⟨m1, G, D, T, O⟩
  refine wpAny_bind (wpAny_mkInt ?_)
  show wpAny _ _ (setField (.ref e) 3 (rawInt ((i : Int) + 1)) >>= _) _ _ ⟨m1, G, D, T + 1, O⟩
  refine wpAny_bind (wpAny_setField_rec g1 (by simp) fun m2 g2 b2 => ?_)
  have b2 : Heap.SameBut e m1 m2 := b2
  have g2 : IsEnum m2 e it ((i : Int) + 1) old := g2
  show wpAny _ _ (setField (.ref e) 4 .none >>= _) _ _ ⟨m2, G, D, T + 1, O⟩
  refine wpAny_bind (wpAny_setField_rec g2 (by simp) fun m3 g3 b3 => ?_)
  have b3 : Heap.SameBut e m2 m3 := b3
  have g3 : IsEnum m3 e it ((i : Int) + 1) old := g3
  show wpAny _ _ (newTuple [.int i T, x] >>= _) _ _ ⟨m3, G, D, T + 1, O⟩
  refine wpAny_bind (wpAny_newTuple ?_)
  have g4 : IsEnum (m3.push { cls := .type "tuple", data := .seq #[.int i T, x] }) e it ((i : Int) + 1) old := Heap.get?_push_of_some _ g3
  generalize q4 : m3.push { cls := .type "tuple", data := .seq #[.int i T, x] } = m4 at g4
  have z3 : m3.objs.size = m0.objs.size := by rw [b3.1, b2.1, b1.1]
  have le : e < m0.objs.size := Heap.lt_size ge
  have t4 : m4.get? m0.objs.size = some { cls := .type "tuple", data := .seq #[.int i T, x] } := by rw [← q4, ← z3]; exact Heap.get?_push_size _ rfl
  have z4 : m4.objs.size = m0.objs.size + 1 := by rw [← q4, Heap.size_push, z3]
  have kp : ∀ b o, b ≠ e → b ≠ it → m0.get? b = some o → m4.get? b = some o := fun b o n1 n2 q => by
    rw [← q4]
    exact Heap.get?_push_of_some _ (b3.extBut b o n1 (b2.extBut b o n1 (b1.extBut b o n2 q)))
  have j4 : m4.IsTupleIter it l (i + 1) := by
    obtain ⟨o, ho, c, d⟩ := j1
    rw [← q4]
    exact ⟨o, Heap.get?_push_of_some _ (b3.extBut _ _ (Ne.symm ne) (b2.extBut _ _ (Ne.symm ne) ho)), c, d⟩
  show wpAny _ _ (Builtin.SmallTypes.ownedTupleIsFree (.ref e) >>= _) _ _ ⟨m4, G, D, T + 1, O⟩
  rw [z3]
  refine wpAny_bind ?_
  unfold Builtin.SmallTypes.ownedTupleIsFree
  refine wpAny_bind (wpAny_field g4 rfl (x := .none) rfl (wpAny_pure ?_))
  simp only [if_true]
  refine wpAny_bind (wpAny_rule (wpAny_bind (wpAny_field g4 rfl (x := old) rfl (wpAny_bind (wpAny_setField_rec g4 (by simp) fun m5 g5 b5 => ?_)))))
  have b5 : Heap.SameBut e m4 m5 := b5
  have g5 : IsEnum m5 e it ((i : Int) + 1) x := g5
  show wpAny _ _ (Builtin.SmallTypes.ownedTupleHandOut (.ref e) (.ref m0.objs.size) >>= _) _ _ ⟨m5, G, D, T + 1, O⟩
  refine wpAny_bind ?_
  unfold Builtin.SmallTypes.ownedTupleHandOut
  refine wpAny_bind (wpAny_setField_rec g5 (by simp) fun m6 g6 b6 => ?_)
  have b6 : Heap.SameBut e m5 m6 := b6
  have g6 : IsEnumOut m6 e it ((i : Int) + 1) x m0.objs.size := g6
  refine wpAny_setField_rec g6 (by simp) fun m7 g7 b7 => ?_
  have b7 : Heap.SameBut e m6 m7 := b7
  have g7 : IsEnumOut m7 e it ((i : Int) + 1) x m0.objs.size := g7
  refine wpAny_bind (wpAny_letGo (wpAny_pure ⟨_, rfl, k m7 g7 ?_ ?_ ?_ ?_⟩))
  · obtain ⟨o, ho, c, d⟩ := j4
    exact ⟨o, b7.extBut _ _ (Ne.symm ne) (b6.extBut _ _ (Ne.symm ne) (b5.extBut _ _ (Ne.symm ne) ho)), c, d⟩
  · exact b7.extBut _ _ (Nat.ne_of_gt le) (b6.extBut _ _ (Nat.ne_of_gt le) (b5.extBut _ _ (Nat.ne_of_gt le) t4))
  · rw [b7.1, b6.1, b5.1, z4]
  · exact fun b o n1 n2 q => b7.extBut b o n1 (b6.extBut b o n1 (b5.extBut b o n1 (kp b o n1 n2 q)))
theorem eT_item {e it l : Addr} {i : Nat} {its : Array Value} {x old : Value} {Q : Option Value → Shared → Prop} (ge : IsEnum s.heap e it i old) (gi : s.heap.IsTupleIter it l i) (gt : s.heap.IsTuple l its) (gx : its[i]? = some x) (ne : e ≠ it)
    (k : ∀ h', IsEnumOut h' e it ((i : Int) + 1) x s.heap.objs.size → h'.IsTupleIter it l (i + 1) → h'.get? s.heap.objs.size = some { cls := .type "tuple", data := .seq #[.int i s.toks, x] } → h'.objs.size = s.heap.objs.size + 1 →
      (∀ b o, b ≠ e → b ≠ it → s.heap.get? b = some o → h'.get? b = some o) → Q (some (.ref s.heap.objs.size)) { s with heap := h', toks := s.toks + 1 }) : wpAny (model prog w) A (pyNext (.ref e)) Q E s := by
  have ty : s.TypeIs (.ref e) "enumerate" := ⟨_, ge, rfl⟩
  unfold pyNext
  exact wpAny_bind (wpAny_attempt (wpAny_callSpecial?_slot (name := Str.ofString "__next__") ty F.slot_enumerate_next (wpAny_call_entry F.slot_enumerate_next ty F.entry_enumerate_next (eT_next ge gi gt gx ne fun h' a b c d q => wpAny_pure (k h' a b c d q)) (F.args_enumerate_next_1 _))))
theorem eT_end {e it l : Addr} {i : Nat} {its : Array Value} {old : Value} {Q : Option Value → Shared → Prop} (hh : A.handled = none) (ge : IsEnum s.heap e it i old) (gi : s.heap.IsTupleIter it l i) (gt : s.heap.IsTuple l its) (gx : its[i]? = none)
    (k : ∀ h', Heap.ExtBut it s.heap h' → Q none { s with heap := h' }) : wpAny (model prog w) A (pyNext (.ref e)) Q E s := by
  have ty : s.TypeIs (.ref e) "enumerate" := ⟨_, ge, rfl⟩
  unfold pyNext
  refine wpAny_bind (wpAny_attempt (wpAny_callSpecial?_slot (name := Str.ofString "__next__") ty F.slot_enumerate_next (wpAny_call_entry F.slot_enumerate_next ty F.entry_enumerate_next ?_ (F.args_enumerate_next_1 _))))
  show wpAny _ _ (field (.ref e) 2 >>= _) _ _ _
  refine wpAny_bind (wpAny_field ge rfl (x := .ref it) rfl (wpAny_bind (nxTe hh gi gt gx fun h' x he' hx' => ?_)))
  obtain ⟨o, ho, hc⟩ := hx'
  exact wpAny_bind (wpAny_isInstance (T := "StopIteration") (b := true) ⟨o, ho, hc⟩ isSubtype_stop (wpAny_pure (k _ he')))
open PySem.AutoSeq1 (wpAny_loadPart') in
theorem new_enT (l : Addr) (its : Array Value) (n : Nat) (dct : Option Addr) (sl : Array (Option Value)) :
    Meets (Builtin.«enumerate.__new__» ⟨[.type "enumerate", .ref l], []⟩) (fun _ R s => s.heap.get? l = some { cls := .type "tuple", dict := dct, data := .seq its n, slots := sl } ∧
      R (.ok (.ret (.ref (s.heap.push { cls := .type "tuple_iterator", data := .fields #[.ref l, .int 0 0] }).objs.size))) { s with heap := (s.heap.push { cls := .type "tuple_iterator", data := .fields #[.ref l, .int 0 0] }).push { cls := .type "enumerate", data := .fields #[.none, .bool false, .ref s.heap.objs.size, rawInt 0, .none, .none] } }) :=
  .of_wp fun prog w A R st hh => by
    obtain ⟨m0, G, D, T, O⟩ := st
    obtain ⟨hl, hR⟩ := hh
    have hsub := sub_enumerate
    have hT : Heap.IsTuple (Shared.heap ⟨m0, G, D, T, O⟩) l its := ⟨_, hl, rfl, n, rfl⟩
    wp_walk using wpAny_loadPart' hl
    refine wpAny_stack_any fun st => wpAny_pure ?_
    split
    · rename_i c _ _ _ _ _
      cases (c == Value.type "enumerate")
      · wp_walk using wpAny_loadPart' hl, wpAny_pyIter_tuple hT
        exact ⟨_, rfl, hR⟩
      · wp_walk using wpAny_loadPart' hl, wpAny_pyIter_tuple hT
        exact ⟨_, rfl, hR⟩
    · wp_walk using wpAny_loadPart' hl, wpAny_pyIter_tuple hT
      exact ⟨_, rfl, hR⟩
theorem call_enT {l : Addr} {its : Array Value} {Q : Value → Shared → Prop} (ht : s.heap.IsTuple l its)
    (k : ∀ h', IsEnum h' (s.heap.objs.size + 1) s.heap.objs.size 0 .none → h'.IsTupleIter s.heap.objs.size l 0 → h'.objs.size = s.heap.objs.size + 2 → (∀ b o, s.heap.get? b = some o → h'.get? b = some o) → Q (.ref (s.heap.objs.size + 1)) { s with heap := h' }) :
    wpAny (model prog w) A (call (.type "enumerate") [.ref l]) Q E s := by
  obtain ⟨⟨c, dct, dt, sl⟩, hl, hc, n, hd⟩ := ht
  simp only at hc hd
  subst hc hd
  refine callType_new F.called_enumerate (by decide) (F.typeCall_enumerate_1 _) (F.newCall_enumerate_1 _) (fun obj => F.args_object_init_2 obj _) F.entry_enumerate_new (new_enT l its n dct sl) ⟨hl, ?_⟩
  have hz : (s.heap.push { cls := .type "tuple_iterator", data := .fields #[.ref l, .int 0 0] }).objs.size = s.heap.objs.size + 1 := Heap.size_push ..
  show _ ∧ _
  rw [hz]
  have ge : IsEnum ((s.heap.push { cls := .type "tuple_iterator", data := .fields #[.ref l, .int 0 0] }).push { cls := .type "enumerate", data := .fields #[.none, .bool false, .ref s.heap.objs.size, rawInt 0, .none, .none] }) (s.heap.objs.size + 1) s.heap.objs.size 0 .none := by
    have := Heap.get?_push_size (s.heap.push { cls := .type "tuple_iterator", data := .fields #[.ref l, .int 0 0] }) (o := { cls := .type "enumerate", data := .fields #[.none, .bool false, .ref s.heap.objs.size, rawInt 0, .none, .none] }) rfl
    rw [hz] at this
    exact this
  exact ⟨⟨_, ge, rfl⟩, k _ ge ⟨_, Heap.get?_push_of_some _ (Heap.get?_push_size _ rfl), rfl, rfl⟩ (by rw [Heap.size_push, hz]) fun b o q => Heap.get?_push_of_some _ (Heap.get?_push_of_some _ q)⟩
end
def Iteu (K : PySem.W.Frag) (a : Addr) : It :=
  ⟨fun i H => ∃ xs x, SqT K H a xs ∧ xs[i]? = some x,
   fun i H v H' => ∃ p x, v = .ref p ∧ H p = none ∧ H' = upd H p (.tup [.int (i : Int), x]) ∧ ∀ xs, SqT K H a xs → xs[i]? = some x,
   fun i H => ∃ xs, SqT K H a xs ∧ xs[i]? = none⟩
def EnuAt (e it a : Addr) (i : Nat) (h : Heap) : Prop := (∃ old, IsEnum h e it (i : Int) old) ∧ h.IsTupleIter it a i
theorem turn_enu {P : Program} {w : World} {K : PySem.W.Frag} {es : List Expr} {k : Nat} {pos : PySem.Pos} (a e it : Addr) (hei : e ≠ it) (hle : a ≠ e) (hli : a ≠ it) : Turn P w K (.Tuple es k pos) (Iteu K a) [e, it] e (EnuAt e it a) where
  mem := by simp
  obj := fun i h st c hc => by
    obtain ⟨⟨old, he⟩, ⟨o1, e1, c1, d1⟩⟩ := st
    simp only [List.mem_cons, List.not_mem_nil, or_false] at hc
    rcases hc with rfl | rfl
    · exact ⟨_, he, fun v q => by cases q⟩
    · exact ⟨o1, e1, fun v q => by rw [d1] at q; cases q⟩
  keep := fun i h h' st q => by
    obtain ⟨⟨old, he⟩, ⟨o1, e1, c1, d1⟩⟩ := st
    exact ⟨⟨old, q _ (by simp) _ he⟩, ⟨o1, q _ (by simp) o1 e1, c1, d1⟩⟩
  item := by
    intro X hP hw hK hc i pins s σ H E I hf st hg
    subst hP hw hK
    obtain ⟨xs, x, hq1, hx⟩ := hg
    obtain ⟨⟨old, he⟩, l1⟩ := st
    obtain ⟨its1, rv1, p1, _⟩ := I.tuple hq1
    obtain ⟨ux, hux, rux⟩ := rv1.get hx
    refine eT_item he l1 p1 (x := ux) (by simpa using hux) hei fun h' z1 j1 T1 sz kp => ?_
    refine ⟨_, rfl, wpAny_letOwnedTupleGo_enum z1 fun h2 z2 sb => ?_⟩
    have helt : e < s.heap.objs.size := Heap.lt_size he
    have T2 := sb.extBut _ _ (Nat.ne_of_gt helt) T1
    have kp2 : ∀ c o, c ∉ [e, it] → s.heap.get? c = some o → h2.get? c = some o := fun c o hc x => by
      simp only [List.mem_cons, List.not_mem_nil, or_false, not_or] at hc
      exact sb.extBut _ _ hc.1 (kp c o hc.1 hc.2 x)
    have I2 : Inv X pins σ (upd H s.heap.objs.size (.tup [.int (i : Int), x])) { s with heap := h2, toks := s.toks + 1 } := I.turnedNew kp2 hf (Nat.le_refl _) ⟨by show 2 ≤ sizeLine; decide, [.int (i : Int) s.toks, ux], .cons ⟨_, rfl⟩ (.cons rux .nil), ⟨_, T2, rfl, _, rfl⟩⟩
    refine ⟨.ref s.heap.objs.size, _, I2, rfl, ⟨_, x, rfl, I.hok.fresh (Nat.le_refl _), rfl, fun xs' h => ?_⟩, ⟨⟨ux, by simpa using z2⟩, ?_⟩, fun c hc => ?_⟩
    · rw [I.tuple_inj h hq1]; exact hx
    · obtain ⟨o, ho, c', d'⟩ := j1
      exact ⟨o, sb.extBut _ _ (Ne.symm hei) ho, c', d'⟩
    · have hlt : c < s.heap.objs.size := by
        simp only [List.mem_cons, List.not_mem_nil, or_false] at hc
        rcases hc with rfl | rfl
        · exact helt
        · obtain ⟨_, x, _⟩ := l1; exact Heap.lt_size x
      rw [upd_ne (Nat.ne_of_lt hlt)]
      exact (hf c hc).1
  done := by
    intro X hP hw hK hc i pins s σ H E I hf st hg
    subst hP hw hK
    obtain ⟨xs, hq1, hend⟩ := hg
    obtain ⟨⟨old, he⟩, l1⟩ := st
    obtain ⟨its1, rv1, p1, _⟩ := I.tuple hq1
    have e1 := rv1.length
    rw [List.getElem?_eq_none_iff] at hend
    refine eT_end (I.ok.hd hc) he l1 p1 (by simp; omega) fun h' kp => ⟨rfl, I.turnedL (t' := s.toks) (ch := [e, it]) (fun c o hc x => ?_) hf⟩
    simp only [List.mem_cons, List.not_mem_nil, or_false, not_or] at hc
    exact kp c o hc.2 x
  self := fun _ _ _ _ _ st h => by
    obtain ⟨⟨old, he⟩, _⟩ := st
    exact wpAny_pyIter_enum he h
section
variable {X : Cx}
def iEnumT (K : PySem.W.Frag) (ta : TA) : TI := fun σ H R => ta σ H fun vs H1 => ∃ a, vs = [.ref a] ∧ (∃ xs, SqT K H1 a xs) ∧ R (Iteu K a) H1
theorem pi_enumT {tes : List Expr} {tk : Nat} {tpos p pos : PySem.Pos} {a : Expr} {ta : TA} (hg : Gl X "enumerate") (hm : X.mg "enumerate" = none) (ha : PA X [a] ta)
    (hs : starEach [a] X.env = [(false, eval a X.env)] := by rfl) : PI X (.Tuple tes tk tpos) (.Call (.Name "enumerate" p) [a] [] pos) (iEnumT X.K ta) := by
  intro pins s σ H R I h
  refine wpAny_Call_Name_kw (ld_blt I hg hm boot_enumerate ?_)
  refine PyProof.Rows.callWith_type1 (rest := []) (thn (ha pos pins s σ H _ I h) fun us s1 ⟨vs, H1, I1, r1, l1, e, ⟨xs, hx⟩, q⟩ => ?_) hs rfl
  subst e
  obtain ⟨u1, rfl, rfl⟩ := vals1 r1
  obtain ⟨its1, rv1, p1, _⟩ := I1.tuple hx
  have a1 : l1 < s1.heap.objs.size := by obtain ⟨_, e, _⟩ := p1; exact Heap.lt_size e
  refine call_enT p1 fun h' he hit sz kp => ?_
  refine wpAny_pyIter_enum he ?_
  refine ⟨_, [_, _], _, _, H1, rfl, I1.kept (t' := s1.toks) kp, turn_enu l1 _ _ (Nat.succ_ne_self _) (Nat.ne_of_lt (Nat.lt_succ_of_lt a1)) (Nat.ne_of_lt a1), ⟨⟨_, he⟩, hit⟩, fun c hc => ?_, q⟩
  have hge : s1.heap.objs.size ≤ c := by
    simp only [List.mem_cons, List.not_mem_nil, or_false] at hc
    rcases hc with rfl | rfl
    · exact Nat.le_succ _
    · exact Nat.le_refl _
  exact I1.fpOk hge (I1.hok.fresh hge)
theorem for_enumT {K : PySem.W.Frag} {a : Addr} {xs : List V} {g : TG} {tb : TS} {D : Ends} {σ : L2.St} {H : Hp} (Pv : Nat → L2.St → Hp → Prop) (h0 : Pv 0 σ H) (hl : ∀ i σ H, i ≤ xs.length → Pv i σ H → SqT K H a xs)
    (hs : ∀ i x σ H (p : Addr), xs[i]? = some x → Pv i σ H → H p = none → g (.ref p) σ (upd H p (.tup [.int (i : Int), x])) fun σ2 H2 => tb { D with nx := Pv (i + 1), ct := Pv (i + 1), bk := D.nx } σ2 H2) (hd : ∀ σ H, Pv xs.length σ H → D.nx σ H) :
    ∃ W : Nat → Nat → L2.St → Hp → Prop, (∃ m, W 0 m σ H) ∧ ∀ i m σ H, W i m σ H →
      ((Iteu K a).stop i H ∧ D.nx σ H) ∨ ((Iteu K a).go i H ∧ ∃ N : L2.St → Hp → Prop, (∀ σ' H', N σ' H' → ∃ m', m' < m ∧ W (i + 1) m' σ' H') ∧ ∀ x H', (Iteu K a).yld i H x H' → g x σ H' fun σ2 H2 => tb { D with nx := N, ct := N, bk := D.nx } σ2 H2) := by
  refine ⟨fun i m σ H => m = xs.length - i ∧ i ≤ xs.length ∧ Pv i σ H, ⟨xs.length, by simp, Nat.zero_le _, h0⟩, ?_⟩
  rintro i m σ H ⟨rfl, hi, p⟩
  have q1 := hl i σ H hi p
  by_cases hlt : i < xs.length
  · refine .inr ⟨⟨xs, xs[i], q1, by simp [hlt]⟩, Pv (i + 1), fun σ' H' p' => ⟨xs.length - (i + 1), by omega, rfl, hlt, p'⟩, fun x H' y => ?_⟩
    obtain ⟨q, x1, rfl, hq, rfl, e1⟩ := y
    exact hs i x1 σ _ q (e1 xs q1) p hq
  · have e : i = xs.length := by omega
    subst e
    exact .inl ⟨⟨xs, q1, List.getElem?_eq_none (Nat.le_refl _)⟩, hd σ H p⟩
end
end L2
set_option Elab.async false
set_option linter.all false
set_option maxRecDepth 100000
set_option maxHeartbeats 1000000
namespace Toy
open PySem L2 PyProof.Rows
def top (i : Nat) : Stmt := PySem.Challenge.pw_farcords_k63_rows_carried_and_back.main.body.getD i (.Pass ⟨0, 0, 0, 0⟩)
structure Kn (P : Program) (w : World) (K : PySem.W.Frag) (mg : Str → Option Value) (base : Heap) (x : Str) (k : Nat) (ps : List Str) (sp : Sp) : Prop where
  ex : ∃ (f : Addr) (fd : FuncData), FnOk P w K mg base CX0 k f fd ps sp ∧ mg x = some (.ref f) ∧ PySem.W.keepIn K (.ref f) = true ∧ Binds K fd ps []
theorem pe_callD {X : Cx} {x : Str} {k j : Nat} {ps : List Str} {sp : Sp} {e : Expr} {es : List Expr} {t : TA} {p pos : PySem.Pos} (G : Kn X.prog X.w X.K X.mg X.base x k ps sp) (hr : Room j X.A) (hg : Gl X x) (ha : PA X (e :: es) t) (hle : k ≤ j := by decide)
    (hdb : (x == ("__debug__" : Str)) = false := by decide)
    (he : starEach (e :: es) X.env = (false, eval e X.env) :: starEach es X.env := by rfl) (hpl : (backTo pos (starEach es X.env)).any (·.1) = false := by rfl) : PE X (.Call (.Name x p) (e :: es) [] pos) (tCall sp [] E0 t) := by
  obtain ⟨f, fd, F, hm, hk, hb⟩ := G.ex
  exact pe_call F (hr.mono hle) hg hm hk hb .nil pass0 ha hdb he hpl
structure Txt (mg : Str → Option Value) : Prop where
  len : mg "len" = none
  range : mg "range" = none
  min : mg "min" = none
  max : mg "max" = none
  isinstance : mg "isinstance" = none
  bool : mg "bool" = none
  int : mg "int" = none
  tuple : mg "tuple" = none
  list : mg "list" = none
  str : mg "str" = none
  all : mg "all" = none
  sum : mg "sum" = none
  sorted : mg "sorted" = none
def But (d : Addr) (H H' : Hp) : Prop := ∀ c o, H c = some o → c ≠ d → H' c = some o
theorem But.refl (d : Addr) (H : Hp) : But d H H := fun _ _ e _ => e
theorem But.trans {d : Addr} {H H1 H2 : Hp} (a : But d H H1) (b : But d H1 H2) : But d H H2 := fun c o e n => b c o (a c o e n) n
theorem But.upd {d : Addr} {H H' : Hp} {o : HO} (a : But d H H') : But d H (upd H' d o) := fun c u e n => by rw [upd_ne n]; exact a c u e n
theorem But.new {d p : Addr} {H H' : Hp} {o : HO} (a : But d H H') (h : H' p = none) : But d H (L2.upd H' p o) := fun c u e n => by
  have := a c u e n
  rw [upd_ne (ne_of_none this h)]; exact this
theorem Same.new {p : Addr} {H H' : Hp} {o : HO} (a : Same H H') (h : H' p = none) : Same H (L2.upd H' p o) := fun c u e => by
  have := a c u e
  rw [upd_ne (ne_of_none this h)]; exact this
theorem log_ok {m : Int} (h0 : 0 < m) (h : m < 10 ^ 100) : m.natAbs.log2 < 9000 := by
  have h2 : m.natAbs < 2 ^ 400 := by
    have : (10 : Int) ^ 100 ≤ 2 ^ 400 := by decide +kernel
    omega
  have := (Nat.log2_lt (n := m.natAbs) (k := 400) (by omega)).mpr h2
  omega
section
variable {P : Program} {w : World} {K : PySem.W.Frag} {mg : Str → Option Value} {base : Heap}
abbrev s__law_cell_at : Stmt := top 19
theorem sc__law_cell_at : FnScope ["_law_script", "_law_k"] ["_law_script", "_law_k"] (defScope s__law_cell_at) := ⟨rfl, rfl, rfl, by decide +kernel, rfl, by decide +kernel, by decide +kernel⟩
def spCell (K : PySem.W.Frag) : Sp := fun vs H Q _ => ∃ (a : Addr) (ns : List Int) (k : Int), vs = [.ref a, .int k] ∧ SqL K H a (ns.map V.int) ∧ 0 ≤ k ∧ ∀ n : Int, Q (.int n) H
theorem ok_cell {f : Addr} {fd : FuncData} (F : Fun K "_law_cell_at" "_law_cell_at" s__law_cell_at f fd) (M : Txt mg) : FnOk P w K mg base CX0 1 f fd ["_law_script", "_law_k"] (spCell K) := by
  have sc := sc__law_cell_at
  refine F.ok sc (fun vs H Q E h => ?_) (fun cdv A outer s H vs Q E hr h => ?_)
  · obtain ⟨a, ns, k, rfl, _⟩ := h
    rfl
  · obtain ⟨a, ns, i, rfl, hS, h0, k⟩ := h
    refine ⟨_, (pss_cons (ps_if (pt_cmpR op_lt (pv 1) (pe_callB (call_lenK (K := K)) (by rfl) M.len PySem.boot_len (pa_Name (pv 0) pa_nil)) (nomark _)) (pss_one (ps_ret (pe_ix (ix_listK (K := K)) (pv 0) (pv 1) (fun _ _ => rfl)))) pss_nil)
      (pss_one (ps_ret pe_int))), ?_⟩
    refine ⟨_, rfl, _, rfl, a, _, rfl, .inl hS, _, _, rfl, rfl, _, rfl, ?_⟩
    refine ite2 (fun e => ?_) (fun e => ?_)
    · have e := of_decide_eq_true e
      rw [List.length_map] at e
      have hlt : i.toNat < ns.length := by omega
      refine ⟨_, rfl, _, rfl, a, _, _, V.int (ns[i.toNat]), rfl, rfl, hS, ?_, k _⟩
      have := atI_nat (xs := ns.map V.int) (j := i.toNat) (v := V.int (ns[i.toNat])) (by rw [List.getElem?_map, List.getElem?_eq_getElem hlt]; rfl)
      rw [Int.toNat_of_nonneg h0] at this
      exact this
    · exact k 0
end
end Toy
namespace Toy
open PySem L2 PyProof.Rows
def Dgt (m : Int) : Prop := m ≤ 10 ^ 60
theorem dg {m : Int} (h : m ≤ 1000) : Dgt m := Int.le_trans h (by decide +kernel)
theorem Dgt.log {m : Int} (h : Dgt m) (h0 : 0 < m) : m.natAbs.log2 < 9000 := log_ok h0 (Int.lt_of_le_of_lt h (by decide +kernel))
def Rest (H : Hp) (d : Addr) : Prop := ∃ n : Int, H d = some (.lst [.int n])
theorem Rest.new {d p : Addr} {H : Hp} {o : HO} (a : Rest H d) (h : H p = none) : Rest (L2.upd H p o) d := by
  obtain ⟨n, e⟩ := a
  exact ⟨n, by rw [upd_ne (ne_of_none e h)]; exact e⟩
theorem Rest.ne {d p : Addr} {H : Hp} (a : Rest H d) (h : H p = none) : p ≠ d := by
  obtain ⟨n, e⟩ := a
  exact fun z => by rw [z, e] at h; cases h
theorem Rest.same {d : Addr} {H H' : Hp} (a : Rest H d) (s : Same H H') : Rest H' d := let ⟨n, e⟩ := a; ⟨n, s _ _ e⟩
theorem But.tupsR {d : Addr} {H H' : Hp} (b : But d H H') (r : Rest H d) : Tups H H' := fun c xs e => b c _ e fun z => by
  obtain ⟨n, q⟩ := r
  rw [z, q] at e
  cases e
theorem But.same {d : Addr} {H H' : Hp} (s : Same H H') : But d H H' := fun c o e _ => s c o e
theorem But.fr {d p : Addr} {H H' : Hp} (b : But d H H') (h : H' p = none) (n : p ≠ d) : H p = none := by
  cases e : H p with
  | none => rfl
  | some o => rw [b p o e n] at h; cases h
theorem at8 {a0 a1 a2 a3 a4 a5 a6 a7 r : Int} (r0 : 0 ≤ r) (r1 : r < 8) (h : ∀ z ∈ [a0, a1, a2, a3, a4, a5, a6, a7], 0 < z ∧ z < 100000) : ∃ z : Int, atI [V.int a0, V.int a1, V.int a2, V.int a3, V.int a4, V.int a5, V.int a6, V.int a7] r = some (V.int z) ∧ 0 < z ∧ z < 100000 := by
  have hc : r = 0 ∨ r = 1 ∨ r = 2 ∨ r = 3 ∨ r = 4 ∨ r = 5 ∨ r = 6 ∨ r = 7 := by omega
  rcases hc with rfl | rfl | rfl | rfl | rfl | rfl | rfl | rfl
  · exact ⟨a0, rfl, h a0 (by simp)⟩
  · exact ⟨a1, rfl, h a1 (by simp)⟩
  · exact ⟨a2, rfl, h a2 (by simp)⟩
  · exact ⟨a3, rfl, h a3 (by simp)⟩
  · exact ⟨a4, rfl, h a4 (by simp)⟩
  · exact ⟨a5, rfl, h a5 (by simp)⟩
  · exact ⟨a6, rfl, h a6 (by simp)⟩
  · exact ⟨a7, rfl, h a7 (by simp)⟩
section
variable {P : Program} {w : World} {K : PySem.W.Frag} {mg : Str → Option Value} {base : Heap}
abbrev s__law_big : Stmt := top 20
theorem sc__law_big : FnScope ["_law_script", "_law_at", "_law_by", "_law_prime", "_law_cell", "_law_big_here", "_law_k", "_law_one"] ["_law_script", "_law_at"] (defScope s__law_big) := ⟨rfl, rfl, rfl, by decide +kernel, rfl, by decide +kernel, by decide +kernel⟩
def spBig (K : PySem.W.Frag) : Sp := fun vs H Q _ => ∃ (a : Addr) (ns : List Int) (k : Int), vs = [.ref a, .int k] ∧ SqL K H a (ns.map V.int) ∧ 0 ≤ k ∧ ∀ (n : Int) H', Same H H' → Q (.int n) H'
theorem ok_big {f : Addr} {fd : FuncData} (F : Fun K "_law_big" "_law_big" s__law_big f fd) (M : Txt mg) (G_law_cell_at : Kn P w K mg base "_law_cell_at" 1 ["_law_script", "_law_k"] (spCell K)) : FnOk P w K mg base CX0 2 f fd ["_law_script", "_law_at"] (spBig K) := by
  have sc := sc__law_big
  refine F.ok sc (fun vs H Q E h => ?_) (fun cdv A outer s H vs Q E hr h => ?_)
  · obtain ⟨a, ns, k, rfl, _⟩ := h
    rfl
  · obtain ⟨a, ns, i, rfl, hS, h0, k⟩ := h
    refine ⟨_, (pss_cons (ps_set (i := 2) sc.nd rfl (Or.inl rfl) (pe_tup (pa_o4 pe_int pe_int pe_int pe_int (pa_o4 pe_int pe_int pe_int pe_int pa_nil))))
      (pss_cons (ps_set (i := 3) sc.nd rfl (Or.inl rfl) (pe_tup (pa_o4 pe_int pe_int pe_int pe_int (pa_o4 pe_int pe_int pe_int pe_int pa_nil))))
      (pss_cons (ps_set (i := 4) sc.nd rfl (Or.inl rfl) (pe_callD G_law_cell_at hr rfl (pa_Name (pv 0) (pa_Name (pv 1) pa_nil))))
      (pss_cons (ps_if (pt_cmpR op_ge (pv 4) (pe_op op_pow pe_int pe_int) (nomark _)) (pss_one (ps_ret (pv 4))) pss_nil)
      (pss_cons (ps_set (i := 5) sc.nd rfl (Or.inl rfl) pe_int)
      (pss_cons (ps_for PassesOwn.never rfl (pi_range1 rfl M.range (pa_Constant pe_int pa_nil)) (pg_name (i := 6) sc.nd rfl (Or.inl rfl))
      (pss_cons (ps_set (i := 7) sc.nd rfl (Or.inl rfl) (pe_op op_add (pe_op op_add (pe_op op_mod (pe_callD G_law_cell_at hr rfl (pa_Name (pv 0) (pa_BinOp (pe_op op_add (pv 1) (pe_op op_mod (pv 6) pe_int)) pa_nil))) (pe_op op_pow pe_int pe_int)) pe_int) (pe_op op_mul (pv 6) (pv 6))))
      (pss_one (ps_set (i := 5) sc.nd rfl (Or.inl rfl) (pe_op op_add (pe_op op_mul (pv 5) pe_int) (pe_op op_mod (pe_op op_mod (pe_op op_mul (pv 7) (pe_ix (ix_tupK (K := K)) (pv 2) (pe_op op_mod (pv 6) pe_int) (fun _ _ => rfl))) (pe_ix (ix_tupK (K := K)) (pv 3) (pe_op op_mod (pv 6) pe_int) (fun _ _ => rfl))) pe_int))))))
      (pss_one (ps_ret (pv 5))))))))), ?_⟩
    refine ⟨(by show 8 ≤ sizeLine; decide), fun t1 ht1 => ?_⟩
    have s1 := Same.new (o := .tup [.int 48271, .int 69621, .int 16807, .int 39373, .int 21401, .int 60493, .int 87721, .int 31337]) (Same.refl H) ht1
    have h1 : (upd H t1 (.tup [.int 48271, .int 69621, .int 16807, .int 39373, .int 21401, .int 60493, .int 87721, .int 31337])) t1 = some (.tup [.int 48271, .int 69621, .int 16807, .int 39373, .int 21401, .int 60493, .int 87721, .int 31337]) := upd_same
    generalize upd H t1 (.tup [.int 48271, .int 69621, .int 16807, .int 39373, .int 21401, .int 60493, .int 87721, .int 31337]) = H1 at s1 h1 ⊢
    refine ⟨(by show 8 ≤ sizeLine; decide), fun t2 ht2 => ?_⟩
    have s2 := Same.new (o := .tup [.int 99991, .int 99989, .int 99971, .int 99961, .int 99929, .int 99923, .int 99907, .int 99901]) (Same.refl H1) ht2
    have h2 : (upd H1 t2 (.tup [.int 99991, .int 99989, .int 99971, .int 99961, .int 99929, .int 99923, .int 99907, .int 99901])) t2 = some (.tup [.int 99991, .int 99989, .int 99971, .int 99961, .int 99929, .int 99923, .int 99907, .int 99901]) := upd_same
    generalize upd H1 t2 (.tup [.int 99991, .int 99989, .int 99971, .int 99961, .int 99929, .int 99923, .int 99907, .int 99901]) = H2 at s2 h2 ⊢
    have h1' := s2 _ _ h1
    have s02 := s1.trans s2
    refine ⟨_, rfl, _, rfl, a, ns, i, rfl, s02.seq hS, h0, fun cell => ?_⟩
    refine ⟨_, rfl, _, _, rfl, rfl, ⟨by decide, by decide, by decide⟩, _, _, rfl, rfl, _, rfl, ite2 (fun _ => ?_) (fun _ => ?_)⟩
    · exact ⟨_, rfl, k cell H2 s02⟩
    refine ⟨60, rfl, by decide, by decide, for_range (n := 60) (fun j σ H' => ∃ (x6 x7 : Option V) (b : Int), σ = [some (.ref a), some (.int i), some (.ref t1), some (.ref t2), some (.int cell), some (.int b), x6, x7] ∧ H2 = H') ⟨_, _, 0, rfl, rfl⟩ ?_ ?_⟩
    · rintro j σ H' hj ⟨x6, x7, b, rfl, rfl⟩
      have j9 : 0 ≤ (0 + (j : Int)) % 9 := Int.emod_nonneg _ (by decide)
      refine ⟨_, rfl, _, rfl, _, rfl, _, _, rfl, rfl, (by show (0 : Int) < 9; decide), _, _, rfl, rfl, a, ns, _, rfl, s02.seq hS, by omega, fun c2 => ?_⟩
      refine ⟨_, _, rfl, rfl, ⟨by decide, by decide, by decide⟩, _, _, rfl, rfl, (by show (0 : Int) < 10 ^ 18; decide), _, _, rfl, rfl, _, rfl, _, rfl, _, _, rfl, rfl, .inl ⟨by omega, by omega⟩, _, _, rfl, rfl, ?_⟩
      obtain ⟨z1, e1, p1, q1⟩ := at8 (a0 := 48271) (a1 := 69621) (a2 := 16807) (a3 := 39373) (a4 := 21401) (a5 := 60493) (a6 := 87721) (a7 := 31337) (r := (0 + (j : Int)) % 8) (Int.emod_nonneg _ (by decide)) (Int.emod_lt_of_pos _ (by decide)) (by decide)
      obtain ⟨z2, e2, p2, q2⟩ := at8 (a0 := 99991) (a1 := 99989) (a2 := 99971) (a3 := 99961) (a4 := 99929) (a5 := 99923) (a6 := 99907) (a7 := 99901) (r := (0 + (j : Int)) % 8) (Int.emod_nonneg _ (by decide)) (Int.emod_lt_of_pos _ (by decide)) (by decide)
      refine ⟨_, rfl, _, _, rfl, rfl, .inr ⟨by decide, by decide⟩, _, rfl, _, rfl, _, rfl, _, _, rfl, rfl, (by show (0 : Int) < 8; decide), t1, _, _, _, rfl, rfl, SqT.of h1', e1, _, z1, rfl, rfl, .inr ⟨by omega, by omega⟩, _, rfl, _, rfl, _, _, rfl, rfl, (by show (0 : Int) < 8; decide), t2, _, _, _, rfl, rfl, SqT.of h2, e2, _, z2, rfl, rfl, p2, _, _, rfl, rfl, (by show (0 : Int) < 7919; decide), _, _, rfl, rfl, ?_⟩
      exact ⟨_, _, _, rfl, rfl⟩
    · rintro σ H' ⟨x6, x7, b, rfl, rfl⟩
      exact ⟨_, rfl, k b _ s02⟩
abbrev s__law_digit : Stmt := top 21
theorem sc__law_digit : FnScope ["_law_rest", "_law_many", "_law_found"] ["_law_rest", "_law_many"] (defScope s__law_digit) := ⟨rfl, rfl, rfl, by decide +kernel, rfl, by decide +kernel, by decide +kernel⟩
def spDigit : Sp := fun vs H Q _ => ∃ (d : Addr) (m : Int), vs = [.ref d, .int m] ∧ Rest H d ∧ 0 < m ∧ Dgt m ∧ ∀ (r : Int) (H' : Hp), 0 ≤ r → r < m → Rest H' d → But d H H' → Q (.int r) H'
theorem ok_digit {f : Addr} {fd : FuncData} (F : Fun K "_law_digit" "_law_digit" s__law_digit f fd) (M : Txt mg) : FnOk P w K mg base CX0 1 f fd ["_law_rest", "_law_many"] spDigit := by
  have sc := sc__law_digit
  refine F.ok sc (fun vs H Q E h => ?_) (fun cdv A outer s H vs Q E hr h => ?_)
  · obtain ⟨d, m, rfl, _⟩ := h
    rfl
  · obtain ⟨d, m, rfl, ⟨n, hd⟩, m0, m1, k⟩ := h
    refine ⟨_, (pss_cons (ps_set (i := 2) sc.nd rfl (Or.inl rfl) (pe_op op_mod (pe_ix (ix_listK (K := K)) (pv 0) pe_int (fun _ _ => rfl)) (pv 1)))
      (pss_cons (ps_asg (pe_op op_fdivL (pe_ix (ix_listK (K := K)) (pv 0) pe_int (fun _ _ => rfl)) (pv 1)) (pg_sub (pv 0) pe_int set_list))
      (pss_one (ps_ret (pv 2))))), ?_⟩
    refine ⟨_, rfl, d, _, _, _, rfl, rfl, SqL.of hd, rfl, _, rfl, _, _, rfl, rfl, m0, ?_⟩
    refine ⟨_, rfl, d, _, _, _, rfl, rfl, SqL.of hd, rfl, _, rfl, _, _, rfl, rfl, ⟨m0, m1.log m0⟩, _, rfl, d, _, _, _, rfl, rfl, hd, rfl, ?_⟩
    exact ⟨_, rfl, k _ _ (Int.emod_nonneg _ (by omega)) (Int.emod_lt_of_pos _ m0) ⟨_, upd_same⟩ (But.upd (But.refl _ _))⟩
abbrev s__law_sheet : Stmt := top 22
theorem sc__law_sheet : FnScope ["_law_rest", "_law_many", "_law_pool", "_law_order"] ["_law_rest"] (defScope s__law_sheet) := ⟨rfl, rfl, rfl, by decide +kernel, rfl, by decide +kernel, by decide +kernel⟩
def spSheet : Sp := fun vs H Q _ => ∃ (d : Addr), vs = [.ref d] ∧ Rest H d ∧ ∀ (b : Addr) (xs : List V) (S : List (List Int)) (H' : Hp), H b = none → H' b = some (.lst xs) → TuL H' xs S → ShOk S → Rest H' d → But d H H' → Q (.ref b) H'
theorem ok_sheet {f : Addr} {fd : FuncData} (F : Fun K "_law_sheet" "_law_sheet" s__law_sheet f fd) (M : Txt mg) (G_law_digit : Kn P w K mg base "_law_digit" 1 ["_law_rest", "_law_many"] spDigit) : FnOk P w K mg base CX0 2 f fd ["_law_rest"] spSheet := by
  have sc := sc__law_sheet
  refine F.ok sc (fun vs H Q E h => ?_) (fun cdv A outer s H vs Q E hr h => ?_)
  · obtain ⟨d, rfl, _⟩ := h
    rfl
  · obtain ⟨d, rfl, R0, k⟩ := h
    refine ⟨_, (pss_cons (ps_set (i := 1) sc.nd rfl (Or.inl rfl) (pe_op op_add pe_int (pe_op op_mul pe_int (pe_callD G_law_digit hr rfl (pa_Name (pv 0) (pa_Constant pe_int pa_nil))))))
      (pss_cons (ps_if (pt_cmpR op_eq (pe_callD G_law_digit hr rfl (pa_Name (pv 0) (pa_Constant pe_int pa_nil))) pe_int (nomark _)) (pss_one (ps_set (i := 1) sc.nd rfl (Or.inl rfl) (pe_op op_add pe_int (pe_op op_mul pe_int (pe_callD G_law_digit hr rfl (pa_Name (pv 0) (pa_Constant pe_int pa_nil))))))) pss_nil)
      (pss_cons (ps_set (i := 2) sc.nd rfl (Or.inl rfl) (pe_op op_repR pe_int (pe_callTy (call_list_rng2 rfl) (by rfl) M.list boot_list (pa_Call (pe_callTy call_range2 (by rfl) M.range boot_range (pa_Constant pe_int (pa_BinOp (pe_op op_add (pe_op op_fdivL (pe_op op_mul (pv 1) pe_int) pe_int) pe_int) pa_nil))) pa_nil))))
      (pss_cons (ps_set (i := 3) sc.nd rfl (Or.inr rfl) (pe_lst pa_nil))
      (pss_cons (ps_while PassesOwn.never (pt_cmpR (op_neD hr) (pv 2) (pe_lst pa_nil) (nomark _)) (pss_one (ps_expr (pe_bm PySem.F.plainAttrs_list PySem.F.slot_list_append PySem.F.type_list_append mt_append (pv 3) (pa_BinOp (pe_op op_mul (pe_bm PySem.F.plainAttrs_list PySem.F.slot_list_pop PySem.F.type_list_pop mt_popAt (pv 2) (pa_Call (pe_callD G_law_digit hr rfl (pa_Name (pv 0) (pa_Call (pe_callB (call_lenK (K := K)) (by rfl) M.len PySem.boot_len (pa_Name (pv 2) pa_nil)) pa_nil))) pa_nil)) (pe_op op_sub pe_int (pe_op op_mul pe_int (pe_callD G_law_digit hr rfl (pa_Name (pv 0) (pa_Constant pe_int pa_nil)))))) pa_nil)))))
      (pss_one (ps_ret (pe_compG (xs := ["_law_k"]) (Nb := ["_law_rest", "_law_many", "_law_pool", "_law_order"]) rfl (pi_range1 rfl M.range (pa_Name (pv 1) pa_nil)) rfl (by show ∀ p ∈ (List.zip ["_law_rest", "_law_many", "_law_pool", "_law_order"] ["_law_rest", "_law_many", "_law_pool", "_law_order"] : List (Str × Str)), _; decide +kernel) (by decide +kernel) (fun cl C s₂ H₂ fp => (pg_name (i := 0) (by show List.Nodup (["_law_k", "_law_rest", "_law_many", "_law_pool", "_law_order"] : List Str); decide +kernel) rfl (Or.inl (lookup_relabel_local rfl)) (Or.inr (lookup_relabel_local rfl)))) (fun cl C s₂ H₂ fp => pif_nil) (fun cl C s₂ H₂ fp => (pe_callTy (call_tuple_ofKK (K := K)) (by rfl) M.tuple boot_tuple (pa_Subscript (pe_slice (sl_listK (K := K)) (pv 4) (po_some (pe_op op_mul pe_int (pv 0))) (po_some (pe_op op_add (pe_op op_mul pe_int (pv 0)) pe_int))) pa_nil))) (by decide +kernel) rfl (by decide +kernel) (by show ∀ y ∈ (_ : List (Str × NameKind)), y.2 = NameKind.free → (defScope s__law_sheet).names.lookup y.1 = some .cell; decide +kernel))))))))), ?_⟩
    refine ⟨_, rfl, d, 4, rfl, R0, by decide, dg (by decide), fun r1 H1 r10 r11 R1 B1 => ⟨2, r1, rfl, rfl, .inl ⟨by decide, by decide⟩, 2, 2 * r1, rfl, rfl, ?_⟩⟩
    refine ⟨_, rfl, d, 8, rfl, R1, by decide, dg (by decide), fun r2 H2 _ _ R2 B2 => ⟨rfl, _, rfl, ite2 (fun e => ?_) (fun e => ?_)⟩⟩
    · refine ⟨_, rfl, d, 2, rfl, R2, by decide, dg (by decide), fun r3 H3 r30 r31 R3 B3 => ⟨2, r3, rfl, rfl, .inl ⟨by decide, by decide⟩, 10, 2 * r3, rfl, rfl, ?_⟩⟩
      have B03 := (B1.trans B2).trans B3
      obtain ⟨m, hm, m1, m6⟩ : ∃ m : Nat, (10 + 2 * r3) = 2 * (m : Int) ∧ 1 ≤ m ∧ m ≤ 6 := ⟨(10 + 2 * r3).toNat / 2, by omega, by omega, by omega⟩
      refine ⟨_, rfl, (10 + 2 * r3), 3, rfl, rfl, .inr ⟨by decide, by decide⟩, (10 + 2 * r3) * 3, 2, rfl, rfl, ⟨by decide, by decide⟩, _, _, rfl, rfl, 1, (10 + 2 * r3) * 3 / 2 + 1, rfl, fun p1 hp1 => ⟨p1, 1, (10 + 2 * r3) * 3 / 2 + 1, rfl, upd_same, by decide, by omega, by omega, fun l1 hl1 => ⟨l1, 2, _, rfl, rfl, upd_same, by decide, by decide, ?_, fun pl hpl => ?_⟩⟩⟩
      · rw [List.length_map, upto_len]
        exact Nat.le_trans (show ((10 + 2 * r3) * 3 / 2 + 1 - 1).toNat * (2 : Int).toNat ≤ 1000 by show _ * 2 ≤ 1000; omega) (by decide)
      have e3 : ((10 + 2 * r3) * 3 / 2 + 1 - 1).toNat = 3 * m := by omega
      rw [rep2, e3, ← List.map_append]
      have npd : pl ≠ d := ((R3.new hp1).new hl1).ne hpl
      have plfree : H pl = none := ((B03.new hp1).new hl1).fr hpl npd
      have B4 : But d H (upd (upd (upd H3 p1 (.rng 1 ((10 + 2 * r3) * 3 / 2 + 1))) l1 (.lst ((upto 1 (3 * m)).map V.int))) pl (.lst ((upto 1 (3 * m) ++ upto 1 (3 * m)).map V.int))) := by
        rw [e3] at hpl
        exact ((B03.new hp1).new hl1).new hpl
      have R4 : Rest (upd (upd (upd H3 p1 (.rng 1 ((10 + 2 * r3) * 3 / 2 + 1))) l1 (.lst ((upto 1 (3 * m)).map V.int))) pl (.lst ((upto 1 (3 * m) ++ upto 1 (3 * m)).map V.int))) d := by
        rw [e3] at hpl
        exact ((R3.new hp1).new hl1).new hpl
      have hpl4 : (upd (upd (upd H3 p1 (.rng 1 ((10 + 2 * r3) * 3 / 2 + 1))) l1 (.lst ((upto 1 (3 * m)).map V.int))) pl (.lst ((upto 1 (3 * m) ++ upto 1 (3 * m)).map V.int))) pl = some (.lst ((pool (3 * m)).map V.int)) := upd_same
      generalize upd (upd (upd H3 p1 (.rng 1 ((10 + 2 * r3) * 3 / 2 + 1))) l1 (.lst ((upto 1 (3 * m)).map V.int))) pl (.lst ((upto 1 (3 * m) ++ upto 1 (3 * m)).map V.int)) = H4 at B4 R4 hpl4 ⊢
      refine ⟨(by show 0 ≤ sizeLine; decide), fun od hod => ?_⟩
      have B5 := B4.new (o := .lst []) hod
      have R5 := R4.new (o := .lst []) hod
      have hod5 : (upd H4 od (.lst [])) od = some (.lst (([] : List Int).map V.int)) := upd_same
      have hpl5 : (upd H4 od (.lst [])) pl = some (.lst ((pool (3 * m)).map V.int)) := by rw [upd_ne (ne_of_none hpl4 hod)]; exact hpl4
      have nod : od ≠ d := R4.ne hod
      have odfree : H od = none := B4.fr hod nod
      have npo : pl ≠ od := ne_of_none hpl4 hod
      generalize upd H4 od (.lst []) = H5 at B5 R5 hod5 hpl5 ⊢
      refine while_by (fun σ H' => ∃ (ps os : List Int), σ = [some (.ref d), some (.int (10 + 2 * r3)), some (.ref pl), some (.ref od)] ∧ H' pl = some (.lst (ps.map V.int)) ∧ H' od = some (.lst (os.map V.int)) ∧ (os.map absI ++ ps).Perm (pool (3 * m)) ∧ Rest H' d ∧ But d H H') (fun σ H' => match H' pl with | some (.lst xs) => xs.length | _ => 0) ⟨pool (3 * m), [], rfl, hpl5, hod5, List.Perm.refl _, R5, B5⟩ ?_ (fun σ H Q Q' h hc => by obtain ⟨v, e, z, k⟩ := hc; exact ⟨v, e, z, fun p hp => by obtain ⟨d1, d2, a1, a2, a3, a4, a5, b, eb, q⟩ := k p hp; exact ⟨d1, d2, a1, a2, a3, a4, a5, b, eb, h _ _ q⟩⟩)
      rintro σ H6 ⟨ps, os, rfl, hpl6, hod6, pm, R6, B6⟩
      have len6 : os.length + ps.length = 6 * m := by
        have := pm.length_eq
        rw [List.length_append, List.length_map, pool_len] at this
        omega
      refine ⟨_, rfl, (by show 0 ≤ sizeLine; decide), fun z hz => ?_⟩
      have s7 := Same.new (o := .lst []) (Same.refl H6) hz
      have hz7 : (upd H6 z (.lst [])) z = some (.lst (([] : List Int).map V.int)) := upd_same
      generalize upd H6 z (.lst []) = H7 at s7 hz7 ⊢
      have hpl7 := s7 _ _ hpl6
      have hod7 := s7 _ _ hod6
      have R7 := R6.same s7
      have B7 : But d H H7 := B6.trans (But.same s7)
      refine ⟨_, _, di_lst (SqL.of hpl7), di_lst (SqL.of hz7), lay_dI _, lay_dI _, dep_dI _, _, rfl, ?_⟩
      rw [eqv_dI]
      by_cases pe : ps = []
      · rw [decide_eq_true pe]
        refine iteF ?_
        subst pe
        rw [List.append_nil] at pm
        have ol : os.length = 6 * m := by simpa using len6
        refine ⟨_, rfl, (10 + 2 * r3), rfl, by omega, by omega, compR (lo := 0) (n := (10 + 2 * r3).toNat) (fun i ys H' => TuL H' ys ((List.range i).map fun k => (os.drop (3 * k)).take 3) ∧ Same H7 H') ⟨TuL.nil _, Same.refl H7⟩ (by omega) (fun i ys H' h => by rw [h.1.1, List.length_map, List.length_range]; exact Nat.le_refl _) ?_ ?_⟩
        · rintro i ys H8 pre hpre hi ⟨tz, s8⟩
          rcases pre with _ | ⟨q0, _ | ⟨q1, pre⟩⟩
          · cases hpre
          · refine ⟨⟨[some _], rfl, rfl⟩, ?_⟩
            unfold tYes
            dsimp only
            rw [if_pos (rfl : true = true)]
            refine ⟨_, rfl, _, rfl, 3, (0 + (i : Int)), rfl, rfl, .inl ⟨by decide, by decide⟩, 3 * (0 + (i : Int)), rfl, _, rfl, 3, (0 + (i : Int)), rfl, rfl, .inl ⟨by decide, by decide⟩, _, _, rfl, rfl, 3 * (0 + (i : Int)) + 3, rfl, od, _, rfl, SqL.of (s8 _ _ hod7), fun q hq => ?_⟩
            rw [cut_midL _ (by omega) (by decide) (by rw [List.length_map]; omega)]
            have e4 : (3 * (0 + (i : Int))).toNat = 3 * i := by omega
            rw [e4]
            have e5 : (((os.map V.int).drop (3 * i)).take (3 : Int).toNat) = ((os.drop (3 * i)).take 3).map V.int := by rw [← List.map_drop, ← List.map_take]; rfl
            rw [e5]
            have s9 := Same.new (o := .lst (((os.drop (3 * i)).take 3).map V.int)) (Same.refl H8) hq
            refine ⟨q, _, rfl, .inl ⟨SqL.of upd_same, fun t ht => ?_⟩⟩
            have s10 := Same.new (o := .tup (((os.drop (3 * i)).take 3).map V.int)) s9 ht
            rw [List.range_succ, List.map_append]
            exact ⟨TuL.snoc (TuL.up tz s10.tups) upd_same, s8.trans s10⟩
          · cases hpre
        · rintro ys H8 ⟨tz, s8⟩ D hD
          have s9 := Same.new (o := .lst ys) s8 hD
          have B9 : But d H (upd H8 D (.lst ys)) := B7.trans (But.same s9)
          have nD : D ≠ d := (R7.same s8).ne hD
          have e6 : (10 + 2 * r3).toNat = 2 * m := by omega
          rw [e6] at tz
          exact k D ys _ _ (B7.fr (s8.free hD) nD) upd_same (TuL.up tz (Same.new (o := .lst ys) (Same.refl H8) hD).tups) (sheet_ok m1 m6 pm) (R7.same s9) B9
      · rw [decide_eq_false pe]
        refine iteT ?_
        have psl : 0 < ps.length := List.length_pos_iff.mpr pe
        refine ⟨_, rfl, .inl ⟨rfl, _, SqL.of hod7⟩, _, rfl, .inl ⟨rfl, _, SqL.of hpl7⟩, _, rfl, _, rfl, pl, _, rfl, .inl (SqL.of hpl7), d, ((ps.map V.int).length : Nat), rfl, R7, by rw [List.length_map]; omega, dg (by rw [List.length_map]; omega), fun r1 H8 r10 r11 R8 B8 => ?_⟩
        rw [List.length_map] at r11
        have hpl8 := B8 _ _ hpl7 npd
        have hod8 := B8 _ _ hod7 nod
        obtain ⟨y, hy⟩ : ∃ y, ps[r1.toNat]? = some y := ⟨_, List.getElem?_eq_getElem (by omega)⟩
        have si : seqIndex? r1 (ps.map V.int).length = some r1.toNat := seqIndex_of r10 (by rw [List.length_map]; exact r11)
        refine ⟨pl, _, r1, r1.toNat, V.int y, rfl, rfl, hpl8, by omega, by omega, si, by rw [List.getElem?_map, hy]; rfl, ?_⟩
        rw [map_erase]
        have R9 : Rest (upd H8 pl (.lst ((ps.eraseIdx r1.toNat).map V.int))) d := by
          obtain ⟨n, e⟩ := R8
          exact ⟨n, by rw [upd_ne (Ne.symm npd)]; exact e⟩
        have hod9 : (upd H8 pl (.lst ((ps.eraseIdx r1.toNat).map V.int))) od = some (.lst (os.map V.int)) := by rw [upd_ne (Ne.symm npo)]; exact hod8
        have hpl9 : (upd H8 pl (.lst ((ps.eraseIdx r1.toNat).map V.int))) pl = some (.lst ((ps.eraseIdx r1.toNat).map V.int)) := upd_same
        have B9 : But d H (upd H8 pl (.lst ((ps.eraseIdx r1.toNat).map V.int))) := fun c o e n => by
          by_cases z : c = pl
          · subst z
            rw [plfree] at e
            cases e
          · rw [upd_ne z]
            exact B8 c o (B7 c o e n) n
        generalize upd H8 pl (.lst ((ps.eraseIdx r1.toNat).map V.int)) = H9 at R9 hod9 hpl9 B9 ⊢
        refine ⟨_, rfl, d, 2, rfl, R9, by decide, dg (by decide), fun r2 HA r20 r21 RA BA => ⟨2, r2, rfl, rfl, .inl ⟨by decide, by decide⟩, 1, 2 * r2, rfl, rfl, y, 1 - 2 * r2, rfl, rfl, .inr ⟨by omega, by omega⟩, ?_⟩⟩
        have hodA := BA _ _ hod9 nod
        have hplA := BA _ _ hpl9 npd
        refine ⟨od, _, _, rfl, rfl, hodA, Nat.lt_of_le_of_lt (show (os.map V.int).length ≤ 1000 by rw [List.length_map]; omega) (by decide), ?_⟩
        have my : y ∈ pool (3 * m) := pm.subset (List.mem_append_right _ (List.mem_of_getElem? hy))
        have yb := mem_pool my
        have RB : Rest (upd HA od (.lst (os.map V.int ++ [(fun i j => V.int (i * j)) y (1 - 2 * r2)]))) d := by
          obtain ⟨n, e⟩ := RA
          exact ⟨n, by rw [upd_ne (Ne.symm nod)]; exact e⟩
        have BB' : But d H (upd HA od (.lst (os.map V.int ++ [(fun i j => V.int (i * j)) y (1 - 2 * r2)]))) := fun c o e n => by
          by_cases z : c = od
          · subst z
            rw [odfree] at e
            cases e
          · rw [upd_ne z]
            exact BA c o (B9 c o e n) n
        have hplB : (upd HA od (.lst (os.map V.int ++ [(fun i j => V.int (i * j)) y (1 - 2 * r2)]))) pl = some (.lst ((ps.eraseIdx r1.toNat).map V.int)) := by rw [upd_ne npo]; exact hplA
        refine ⟨⟨ps.eraseIdx r1.toNat, os ++ [y * (1 - 2 * r2)], rfl, hplB, ?_, ?_, RB, BB'⟩, ?_⟩
        · rw [upd_same, List.map_append]
          rfl
        · rw [List.map_append, List.append_assoc]
          refine List.Perm.trans (List.Perm.append_left _ ?_) pm
          show (absI (y * (1 - 2 * r2)) :: ps.eraseIdx r1.toNat).Perm ps
          rw [abs_sign (by omega) r20 r21]
          exact (erase_permK hy).symm
        · dsimp only
          rw [hplB, hpl6]
          dsimp only
          rw [List.length_map, List.length_map]
          have := (erase_permK hy).length_eq
          simp only [List.length_cons] at this
          omega
    · have B02 := B1.trans B2
      obtain ⟨m, hm, m1, m6⟩ : ∃ m : Nat, (2 + 2 * r1) = 2 * (m : Int) ∧ 1 ≤ m ∧ m ≤ 6 := ⟨(2 + 2 * r1).toNat / 2, by omega, by omega, by omega⟩
      refine ⟨_, rfl, (2 + 2 * r1), 3, rfl, rfl, .inr ⟨by decide, by decide⟩, (2 + 2 * r1) * 3, 2, rfl, rfl, ⟨by decide, by decide⟩, _, _, rfl, rfl, 1, (2 + 2 * r1) * 3 / 2 + 1, rfl, fun p1 hp1 => ⟨p1, 1, (2 + 2 * r1) * 3 / 2 + 1, rfl, upd_same, by decide, by omega, by omega, fun l1 hl1 => ⟨l1, 2, _, rfl, rfl, upd_same, by decide, by decide, ?_, fun pl hpl => ?_⟩⟩⟩
      · rw [List.length_map, upto_len]
        exact Nat.le_trans (show ((2 + 2 * r1) * 3 / 2 + 1 - 1).toNat * (2 : Int).toNat ≤ 1000 by show _ * 2 ≤ 1000; omega) (by decide)
      have e3 : ((2 + 2 * r1) * 3 / 2 + 1 - 1).toNat = 3 * m := by omega
      rw [rep2, e3, ← List.map_append]
      have npd : pl ≠ d := ((R2.new hp1).new hl1).ne hpl
      have plfree : H pl = none := ((B02.new hp1).new hl1).fr hpl npd
      have B4 : But d H (upd (upd (upd H2 p1 (.rng 1 ((2 + 2 * r1) * 3 / 2 + 1))) l1 (.lst ((upto 1 (3 * m)).map V.int))) pl (.lst ((upto 1 (3 * m) ++ upto 1 (3 * m)).map V.int))) := by
        rw [e3] at hpl
        exact ((B02.new hp1).new hl1).new hpl
      have R4 : Rest (upd (upd (upd H2 p1 (.rng 1 ((2 + 2 * r1) * 3 / 2 + 1))) l1 (.lst ((upto 1 (3 * m)).map V.int))) pl (.lst ((upto 1 (3 * m) ++ upto 1 (3 * m)).map V.int))) d := by
        rw [e3] at hpl
        exact ((R2.new hp1).new hl1).new hpl
      have hpl4 : (upd (upd (upd H2 p1 (.rng 1 ((2 + 2 * r1) * 3 / 2 + 1))) l1 (.lst ((upto 1 (3 * m)).map V.int))) pl (.lst ((upto 1 (3 * m) ++ upto 1 (3 * m)).map V.int))) pl = some (.lst ((pool (3 * m)).map V.int)) := upd_same
      generalize upd (upd (upd H2 p1 (.rng 1 ((2 + 2 * r1) * 3 / 2 + 1))) l1 (.lst ((upto 1 (3 * m)).map V.int))) pl (.lst ((upto 1 (3 * m) ++ upto 1 (3 * m)).map V.int)) = H4 at B4 R4 hpl4 ⊢
      refine ⟨(by show 0 ≤ sizeLine; decide), fun od hod => ?_⟩
      have B5 := B4.new (o := .lst []) hod
      have R5 := R4.new (o := .lst []) hod
      have hod5 : (upd H4 od (.lst [])) od = some (.lst (([] : List Int).map V.int)) := upd_same
      have hpl5 : (upd H4 od (.lst [])) pl = some (.lst ((pool (3 * m)).map V.int)) := by rw [upd_ne (ne_of_none hpl4 hod)]; exact hpl4
      have nod : od ≠ d := R4.ne hod
      have odfree : H od = none := B4.fr hod nod
      have npo : pl ≠ od := ne_of_none hpl4 hod
      generalize upd H4 od (.lst []) = H5 at B5 R5 hod5 hpl5 ⊢
      refine while_by (fun σ H' => ∃ (ps os : List Int), σ = [some (.ref d), some (.int (2 + 2 * r1)), some (.ref pl), some (.ref od)] ∧ H' pl = some (.lst (ps.map V.int)) ∧ H' od = some (.lst (os.map V.int)) ∧ (os.map absI ++ ps).Perm (pool (3 * m)) ∧ Rest H' d ∧ But d H H') (fun σ H' => match H' pl with | some (.lst xs) => xs.length | _ => 0) ⟨pool (3 * m), [], rfl, hpl5, hod5, List.Perm.refl _, R5, B5⟩ ?_ (fun σ H Q Q' h hc => by obtain ⟨v, e, z, k⟩ := hc; exact ⟨v, e, z, fun p hp => by obtain ⟨d1, d2, a1, a2, a3, a4, a5, b, eb, q⟩ := k p hp; exact ⟨d1, d2, a1, a2, a3, a4, a5, b, eb, h _ _ q⟩⟩)
      rintro σ H6 ⟨ps, os, rfl, hpl6, hod6, pm, R6, B6⟩
      have len6 : os.length + ps.length = 6 * m := by
        have := pm.length_eq
        rw [List.length_append, List.length_map, pool_len] at this
        omega
      refine ⟨_, rfl, (by show 0 ≤ sizeLine; decide), fun z hz => ?_⟩
      have s7 := Same.new (o := .lst []) (Same.refl H6) hz
      have hz7 : (upd H6 z (.lst [])) z = some (.lst (([] : List Int).map V.int)) := upd_same
      generalize upd H6 z (.lst []) = H7 at s7 hz7 ⊢
      have hpl7 := s7 _ _ hpl6
      have hod7 := s7 _ _ hod6
      have R7 := R6.same s7
      have B7 : But d H H7 := B6.trans (But.same s7)
      refine ⟨_, _, di_lst (SqL.of hpl7), di_lst (SqL.of hz7), lay_dI _, lay_dI _, dep_dI _, _, rfl, ?_⟩
      rw [eqv_dI]
      by_cases pe : ps = []
      · rw [decide_eq_true pe]
        refine iteF ?_
        subst pe
        rw [List.append_nil] at pm
        have ol : os.length = 6 * m := by simpa using len6
        refine ⟨_, rfl, (2 + 2 * r1), rfl, by omega, by omega, compR (lo := 0) (n := (2 + 2 * r1).toNat) (fun i ys H' => TuL H' ys ((List.range i).map fun k => (os.drop (3 * k)).take 3) ∧ Same H7 H') ⟨TuL.nil _, Same.refl H7⟩ (by omega) (fun i ys H' h => by rw [h.1.1, List.length_map, List.length_range]; exact Nat.le_refl _) ?_ ?_⟩
        · rintro i ys H8 pre hpre hi ⟨tz, s8⟩
          rcases pre with _ | ⟨q0, _ | ⟨q1, pre⟩⟩
          · cases hpre
          · refine ⟨⟨[some _], rfl, rfl⟩, ?_⟩
            unfold tYes
            dsimp only
            rw [if_pos (rfl : true = true)]
            refine ⟨_, rfl, _, rfl, 3, (0 + (i : Int)), rfl, rfl, .inl ⟨by decide, by decide⟩, 3 * (0 + (i : Int)), rfl, _, rfl, 3, (0 + (i : Int)), rfl, rfl, .inl ⟨by decide, by decide⟩, _, _, rfl, rfl, 3 * (0 + (i : Int)) + 3, rfl, od, _, rfl, SqL.of (s8 _ _ hod7), fun q hq => ?_⟩
            rw [cut_midL _ (by omega) (by decide) (by rw [List.length_map]; omega)]
            have e4 : (3 * (0 + (i : Int))).toNat = 3 * i := by omega
            rw [e4]
            have e5 : (((os.map V.int).drop (3 * i)).take (3 : Int).toNat) = ((os.drop (3 * i)).take 3).map V.int := by rw [← List.map_drop, ← List.map_take]; rfl
            rw [e5]
            have s9 := Same.new (o := .lst (((os.drop (3 * i)).take 3).map V.int)) (Same.refl H8) hq
            refine ⟨q, _, rfl, .inl ⟨SqL.of upd_same, fun t ht => ?_⟩⟩
            have s10 := Same.new (o := .tup (((os.drop (3 * i)).take 3).map V.int)) s9 ht
            rw [List.range_succ, List.map_append]
            exact ⟨TuL.snoc (TuL.up tz s10.tups) upd_same, s8.trans s10⟩
          · cases hpre
        · rintro ys H8 ⟨tz, s8⟩ D hD
          have s9 := Same.new (o := .lst ys) s8 hD
          have B9 : But d H (upd H8 D (.lst ys)) := B7.trans (But.same s9)
          have nD : D ≠ d := (R7.same s8).ne hD
          have e6 : (2 + 2 * r1).toNat = 2 * m := by omega
          rw [e6] at tz
          exact k D ys _ _ (B7.fr (s8.free hD) nD) upd_same (TuL.up tz (Same.new (o := .lst ys) (Same.refl H8) hD).tups) (sheet_ok m1 m6 pm) (R7.same s9) B9
      · rw [decide_eq_false pe]
        refine iteT ?_
        have psl : 0 < ps.length := List.length_pos_iff.mpr pe
        refine ⟨_, rfl, .inl ⟨rfl, _, SqL.of hod7⟩, _, rfl, .inl ⟨rfl, _, SqL.of hpl7⟩, _, rfl, _, rfl, pl, _, rfl, .inl (SqL.of hpl7), d, ((ps.map V.int).length : Nat), rfl, R7, by rw [List.length_map]; omega, dg (by rw [List.length_map]; omega), fun r1 H8 r10 r11 R8 B8 => ?_⟩
        rw [List.length_map] at r11
        have hpl8 := B8 _ _ hpl7 npd
        have hod8 := B8 _ _ hod7 nod
        obtain ⟨y, hy⟩ : ∃ y, ps[r1.toNat]? = some y := ⟨_, List.getElem?_eq_getElem (by omega)⟩
        have si : seqIndex? r1 (ps.map V.int).length = some r1.toNat := seqIndex_of r10 (by rw [List.length_map]; exact r11)
        refine ⟨pl, _, r1, r1.toNat, V.int y, rfl, rfl, hpl8, by omega, by omega, si, by rw [List.getElem?_map, hy]; rfl, ?_⟩
        rw [map_erase]
        have R9 : Rest (upd H8 pl (.lst ((ps.eraseIdx r1.toNat).map V.int))) d := by
          obtain ⟨n, e⟩ := R8
          exact ⟨n, by rw [upd_ne (Ne.symm npd)]; exact e⟩
        have hod9 : (upd H8 pl (.lst ((ps.eraseIdx r1.toNat).map V.int))) od = some (.lst (os.map V.int)) := by rw [upd_ne (Ne.symm npo)]; exact hod8
        have hpl9 : (upd H8 pl (.lst ((ps.eraseIdx r1.toNat).map V.int))) pl = some (.lst ((ps.eraseIdx r1.toNat).map V.int)) := upd_same
        have B9 : But d H (upd H8 pl (.lst ((ps.eraseIdx r1.toNat).map V.int))) := fun c o e n => by
          by_cases z : c = pl
          · subst z
            rw [plfree] at e
            cases e
          · rw [upd_ne z]
            exact B8 c o (B7 c o e n) n
        generalize upd H8 pl (.lst ((ps.eraseIdx r1.toNat).map V.int)) = H9 at R9 hod9 hpl9 B9 ⊢
        refine ⟨_, rfl, d, 2, rfl, R9, by decide, dg (by decide), fun r2 HA r20 r21 RA BA => ⟨2, r2, rfl, rfl, .inl ⟨by decide, by decide⟩, 1, 2 * r2, rfl, rfl, y, 1 - 2 * r2, rfl, rfl, .inr ⟨by omega, by omega⟩, ?_⟩⟩
        have hodA := BA _ _ hod9 nod
        have hplA := BA _ _ hpl9 npd
        refine ⟨od, _, _, rfl, rfl, hodA, Nat.lt_of_le_of_lt (show (os.map V.int).length ≤ 1000 by rw [List.length_map]; omega) (by decide), ?_⟩
        have my : y ∈ pool (3 * m) := pm.subset (List.mem_append_right _ (List.mem_of_getElem? hy))
        have yb := mem_pool my
        have RB : Rest (upd HA od (.lst (os.map V.int ++ [(fun i j => V.int (i * j)) y (1 - 2 * r2)]))) d := by
          obtain ⟨n, e⟩ := RA
          exact ⟨n, by rw [upd_ne (Ne.symm nod)]; exact e⟩
        have BB' : But d H (upd HA od (.lst (os.map V.int ++ [(fun i j => V.int (i * j)) y (1 - 2 * r2)]))) := fun c o e n => by
          by_cases z : c = od
          · subst z
            rw [odfree] at e
            cases e
          · rw [upd_ne z]
            exact BA c o (B9 c o e n) n
        have hplB : (upd HA od (.lst (os.map V.int ++ [(fun i j => V.int (i * j)) y (1 - 2 * r2)]))) pl = some (.lst ((ps.eraseIdx r1.toNat).map V.int)) := by rw [upd_ne npo]; exact hplA
        refine ⟨⟨ps.eraseIdx r1.toNat, os ++ [y * (1 - 2 * r2)], rfl, hplB, ?_, ?_, RB, BB'⟩, ?_⟩
        · rw [upd_same, List.map_append]
          rfl
        · rw [List.map_append, List.append_assoc]
          refine List.Perm.trans (List.Perm.append_left _ ?_) pm
          show (absI (y * (1 - 2 * r2)) :: ps.eraseIdx r1.toNat).Perm ps
          rw [abs_sign (by omega) r20 r21]
          exact (erase_permK hy).symm
        · dsimp only
          rw [hplB, hpl6]
          dsimp only
          rw [List.length_map, List.length_map]
          have := (erase_permK hy).length_eq
          simp only [List.length_cons] at this
          omega
end
end Toy
set_option Elab.async false
set_option linter.all false
set_option maxRecDepth 100000
set_option maxHeartbeats 1000000
namespace L2
open PySem PySem.Spec PyProof.Rows
theorem xor_and : ∀ (n x y : Nat), x + y < n → x + y = (x ^^^ y) + 2 * (x &&& y)
  | 0, _, _, h => absurd h (Nat.not_lt_zero _)
  | n + 1, x, y, h => by
    by_cases z : x + y = 0
    · have hx : x = 0 := by omega
      have hy : y = 0 := by omega
      subst hx hy
      rfl
    · have ih := xor_and n (x / 2) (y / 2) (by omega)
      have a1 : (x ^^^ y) / 2 = x / 2 ^^^ y / 2 := by have := Nat.xor_div_two_pow (a := x) (b := y) (n := 1); simpa using this
      have a2 : (x &&& y) / 2 = x / 2 &&& y / 2 := by have := Nat.and_div_two_pow (a := x) (b := y) (n := 1); simpa using this
      have a3 : (x ^^^ y) % 2 = (x % 2) ^^^ (y % 2) := by have := Nat.xor_mod_two_pow (a := x) (b := y) (n := 1); simpa using this
      have a4 : (x &&& y) % 2 = (x % 2) &&& (y % 2) := by have := Nat.and_mod_two_pow (a := x) (b := y) (n := 1); simpa using this
      have h1 : x % 2 = 0 ∨ x % 2 = 1 := by omega
      have h2 : y % 2 = 0 ∨ y % 2 = 1 := by omega
      rcases h1 with h1 | h1 <;> rcases h2 with h2 | h2 <;> rw [h1, h2] at a3 a4
      · replace a3 : (x ^^^ y) % 2 = 0 := a3
        replace a4 : (x &&& y) % 2 = 0 := a4
        omega
      · replace a3 : (x ^^^ y) % 2 = 1 := a3
        replace a4 : (x &&& y) % 2 = 0 := a4
        omega
      · replace a3 : (x ^^^ y) % 2 = 1 := a3
        replace a4 : (x &&& y) % 2 = 0 := a4
        omega
      · replace a3 : (x ^^^ y) % 2 = 0 := a3
        replace a4 : (x &&& y) % 2 = 1 := a4
        omega
theorem xor_pp {x y : Int} (hx : 0 ≤ x) (hy : 0 ≤ y) : Builtin.bitXor x y = ((x.toNat ^^^ y.toNat : Nat) : Int) := by
  have e : Builtin.bitXor x y = Builtin.bitOr x y - Builtin.bitAnd x y := rfl
  rw [e, bitOr_and, bitAnd_pp hx hy]
  have := xor_and _ x.toNat y.toNat (Nat.lt_succ_self _)
  omega
def bitI (x : Int) (k : Nat) : Int := x / 2 ^ k % 2
theorem bit_and {x : Int} (hx : 0 ≤ x) (k : Nat) : Builtin.bitAnd (x / 2 ^ k) 1 = bitI x k := by
  have h0 : 0 ≤ x / 2 ^ k := Int.ediv_nonneg hx (Int.le_of_lt (Int.pow_pos (by decide)))
  rw [bitAnd_pp h0 (by decide)]
  have e1 : (1 : Int).toNat = 1 := rfl
  rw [e1, Nat.and_one_is_mod]
  unfold bitI
  omega
theorem bit_nat (x : Int) (hx : 0 ≤ x) (k : Nat) : bitI x k = ((x.toNat / 2 ^ k % 2 : Nat) : Int) := by
  unfold bitI
  obtain ⟨n, rfl⟩ : ∃ n : Nat, x = n := ⟨x.toNat, by omega⟩
  simp
theorem bit_xor {x y : Int} (hx : 0 ≤ x) (hy : 0 ≤ y) (k : Nat) : (bitI (Builtin.bitXor x y) k - (bitI x k + bitI y k)) % 2 = 0 := by
  have h0 : 0 ≤ Builtin.bitXor x y := by rw [xor_pp hx hy]; omega
  rw [bit_nat _ h0, bit_nat x hx, bit_nat y hy, xor_pp hx hy]
  simp only [Int.toNat_natCast]
  have a1 := Nat.xor_div_two_pow (a := x.toNat) (b := y.toNat) (n := k)
  have a3 := Nat.xor_mod_two_pow (a := x.toNat / 2 ^ k) (b := y.toNat / 2 ^ k) (n := 1)
  rw [a1]
  have h1 : x.toNat / 2 ^ k % 2 = 0 ∨ x.toNat / 2 ^ k % 2 = 1 := by omega
  have h2 : y.toNat / 2 ^ k % 2 = 0 ∨ y.toNat / 2 ^ k % 2 = 1 := by omega
  simp only [Nat.pow_one] at a3
  rw [a3]
  rcases h1 with h1 | h1 <;> rcases h2 with h2 | h2 <;> rw [h1, h2] <;> rfl
theorem bit_01 (x : Int) (k : Nat) : 0 ≤ bitI x k ∧ bitI x k ≤ 1 := by unfold bitI; omega
def parT (x : Int) (t : List Int) : Int := (t.map fun s => bitI x (absI s - 1).toNat).sum
def Even2 (x : Int) (t : List Int) : Prop := parT x t % 2 = 0
theorem par_xor {x y : Int} (hx : 0 ≤ x) (hy : 0 ≤ y) : ∀ t : List Int, (parT (Builtin.bitXor x y) t - (parT x t + parT y t)) % 2 = 0
  | [] => rfl
  | s :: t => by
    have a := bit_xor hx hy (absI s - 1).toNat
    have b := par_xor hx hy t
    unfold parT at b ⊢
    simp only [List.map_cons, List.sum_cons]
    omega
theorem xor_nn {x y : Int} (hx : 0 ≤ x) (hy : 0 ≤ y) : 0 ≤ Builtin.bitXor x y := by rw [xor_pp hx hy]; omega
def crs (r : List Int) (s : Int) : Int := r.getD (absI s - 1).toNat 0
structure EvRow (S : List (List Int)) (r : List Int) : Prop where
  len : r.length = S.length / 2 * 3
  nn : ∀ x ∈ r, 0 ≤ x
  tri : ∀ a b c : Int, [a, b, c] ∈ S → (crs r a + crs r b + crs r c) % 2 = 0 ∧ crs r a ≤ crs r b + crs r c ∧ crs r b ≤ crs r a + crs r c ∧ crs r c ≤ crs r a + crs r b
theorem crs_at {S : List (List Int)} {r : List Int} (oS : ShOk S) (l : r.length = S.length / 2 * 3) {t : List Int} (ht : t ∈ S) {s : Int} (hs : s ∈ t) : r[(absI s - 1).toNat]? = some (crs r s) := by
  have := oS.side ht hs
  have il : (absI s - 1).toNat < r.length := by omega
  unfold crs
  rw [List.getD_eq_getElem?_getD, List.getElem?_eq_getElem il]
  rfl
theorem ev_wide {S : List (List Int)} {r : List Int} {b m : Int} (oS : ShOk S) (l : r.length = S.length / 2 * 3) (hb : 1 ≤ b) (hm : 0 ≤ m) (hr : ∀ (k : Nat) (x : Int), r[k]? = some x → ∃ d, 0 ≤ d ∧ d < b ∧ x = 2 * (b + d) + bitI m k) (ev : ∀ t ∈ S, Even2 m t) : EvRow S r := by
  refine ⟨l, fun x hx => ?_, fun a b' c ht => ?_⟩
  · obtain ⟨k, hk⟩ := List.mem_iff_getElem?.mp hx
    obtain ⟨d, d0, d1, rfl⟩ := hr k x hk
    have := bit_01 m k
    omega
  · obtain ⟨d1, p1, q1, e1⟩ := hr _ _ (crs_at oS l ht (s := a) (by simp))
    obtain ⟨d2, p2, q2, e2⟩ := hr _ _ (crs_at oS l ht (s := b') (by simp))
    obtain ⟨d3, p3, q3, e3⟩ := hr _ _ (crs_at oS l ht (s := c) (by simp))
    have ev := ev _ ht
    unfold Even2 parT at ev
    simp only [List.map_cons, List.map_nil, List.sum_cons, List.sum_nil] at ev
    have b1 := bit_01 m (absI a - 1).toNat
    have b2 := bit_01 m (absI b' - 1).toNat
    have b3 := bit_01 m (absI c - 1).toNat
    rw [e1, e2, e3]
    refine ⟨?_, ?_, ?_, ?_⟩ <;> omega
structure RgOk (n : Nat) (ws : List (List (List Int))) (seen : List (List Int)) (r : List Int) (f : List Int → Int) : Prop where
  len : r.length = n
  nn : ∀ e, 0 ≤ f e
  off : ∀ e, e ∉ seen → f e = 0
  same : ∀ g ∈ ws, ∀ x ∈ g, ∀ y ∈ g, f x = f y
  val : ∀ t : Nat, t < n → r[t]? = some (f [1 + (t : Int), 0] + f [1 + (t : Int), 1])
theorem eC_two (s : Int) (f : List Int → Int) : f (eC s true) + f (eC s false) = f [absI s, 0] + f [absI s, 1] := by
  unfold eC
  by_cases h : 0 < s
  · simp [h]; omega
  · simp [h]
theorem rg_row {S : List (List Int)} {ws : List (List (List Int))} {r : List Int} {f : List Int → Int} (oS : ShOk S) (pt : PtsOk S ws) (h : RgOk (S.length / 2 * 3) ws (endsL (S.length / 2 * 3)) r f) : EvRow S r := by
  have cr : ∀ t ∈ S, ∀ s ∈ t, crs r s = f (eC s true) + f (eC s false) := fun t ht s hs => by
    have b := oS.side ht hs
    have e := crs_at oS h.len ht hs
    have v := h.val (absI s - 1).toNat (by omega)
    rw [e] at v
    have e2 : 1 + (((absI s - 1).toNat : Nat) : Int) = absI s := by omega
    rw [e2] at v
    rw [eC_two]
    exact Option.some.inj v
  have lk : ∀ u v, (u, v) ∈ meetsL S → f u = f v := fun u v m => by
    obtain ⟨g, hg, ug⟩ := pt.parts.mem (meets_in oS _ m).1
    exact h.same g hg u ug v (pt.parts.closed g hg u ug v (.inl m))
  refine ⟨h.len, fun x hx => ?_, fun a b c ht => ?_⟩
  · obtain ⟨k, hk⟩ := List.mem_iff_getElem?.mp hx
    have kl := (List.getElem?_eq_some_iff.mp hk).1
    have v := h.val k (by rw [← h.len]; exact kl)
    rw [hk] at v
    have := Option.some.inj v
    have := h.nn [1 + (k : Int), 0]
    have := h.nn [1 + (k : Int), 1]
    omega
  · have mm : ∀ p ∈ meet3 [a, b, c], p ∈ meetsL S := fun p hp => List.mem_flatten.mpr ⟨_, List.mem_map.mpr ⟨_, ht, rfl⟩, hp⟩
    have x1 := lk _ _ (mm (eC a true, eC b false) (by simp [meet3]))
    have x2 := lk _ _ (mm (eC b true, eC c false) (by simp [meet3]))
    have x3 := lk _ _ (mm (eC c true, eC a false) (by simp [meet3]))
    rw [cr _ ht a (by simp), cr _ ht b (by simp), cr _ ht c (by simp)]
    have := h.nn (eC a true)
    have := h.nn (eC b true)
    have := h.nn (eC c true)
    have := h.nn (eC a false)
    refine ⟨?_, ?_, ?_, ?_⟩ <;> omega
theorem RgOk.put {n : Nat} {ws : List (List (List Int))} {seen : List (List Int)} {r : List Int} {f : List Int → Int} (h : RgOk n ws seen r f) {t : Nat} {b m : Int} (ht : t < n) (hb : b = 0 ∨ b = 1) (hm : 0 ≤ m) (ns : [1 + (t : Int), b] ∉ seen) (nw : ∀ g ∈ ws, [1 + (t : Int), b] ∉ g) {x : Int} (ex : r[t]? = some x) :
    RgOk n ws (seen ++ [[1 + (t : Int), b]]) (r.set t (x + m)) (fun e => if e = [1 + (t : Int), b] then m else f e) := by
  have f0 := h.off _ ns
  refine ⟨by rw [List.length_set]; exact h.len, fun e => ?_, fun e he => ?_, fun g hg y hy z hz => ?_, fun t' ht' => ?_⟩
  · split
    · exact hm
    · exact h.nn e
  · rw [List.mem_append, not_or] at he
    rw [if_neg (by simpa using he.2)]
    exact h.off e he.1
  · rw [if_neg (fun q => nw g hg (by rw [← q]; exact hy)), if_neg (fun q => nw g hg (by rw [← q]; exact hz))]
    exact h.same g hg y hy z hz
  · rw [List.getElem?_set]
    have v := h.val t' ht'
    by_cases e : t = t'
    · subst e
      rw [if_pos rfl, if_pos (by rw [h.len]; exact ht)]
      rw [ex] at v
      have v := Option.some.inj v
      rcases hb with rfl | rfl
      · rw [if_pos rfl, if_neg (by simp)]
        rw [v]
        congr 1
        omega
      · rw [if_neg (by simp), if_pos rfl]
        rw [v]
        congr 1
        omega
    · rw [if_neg e, v]
      have n1 : ¬ [1 + (t' : Int), 0] = [1 + (t : Int), b] := fun q => by injection q with q1 _; omega
      have n2 : ¬ [1 + (t' : Int), 1] = [1 + (t : Int), b] := fun q => by injection q with q1 _; omega
      rw [if_neg n1, if_neg n2]
end L2
set_option Elab.async false
set_option linter.all false
set_option maxRecDepth 100000
set_option maxHeartbeats 1000000
namespace L2
open PySem PySem.Spec PyProof.Rows
def sideT (i : Nat) (t : List Int) : List (List Int × Int) := (List.range t.length).map fun (p : Nat) => ([(i : Int), (p : Int)], absI (t.getD p 0))
def sidesF (S : List (List Int)) : List (List Int × Int) := ((List.range S.length).map fun i => sideT i (S.getD i [])).flatten
def glueOf (P : List (List Int × Int)) (k : Nat) : List (List Int) := (P.filter fun q => decide (q.2 = (k : Int) + 1)).map (·.1)
theorem sidesF_snoc (S : List (List Int)) (t : List Int) : sidesF (S ++ [t]) = sidesF S ++ sideT S.length t := by
  unfold sidesF
  rw [List.length_append, List.length_cons, List.length_nil, List.range_succ, List.map_append, List.flatten_append]
  congr 1
  · congr 1
    refine List.map_congr_left fun i hi => ?_
    have := List.mem_range.mp hi
    rw [List.getD_eq_getElem?_getD, List.getD_eq_getElem?_getD, List.getElem?_append_left this]
  · simp [List.getD_eq_getElem?_getD]
theorem sideT_len (i : Nat) (t : List Int) : (sideT i t).length = t.length := by unfold sideT; rw [List.length_map, List.length_range]
theorem sideT_at {i p : Nat} {t : List Int} {s : Int} (h : t[p]? = some s) : (sideT i t)[p]? = some ([(i : Int), (p : Int)], absI s) := by
  unfold sideT
  have pl := (List.getElem?_eq_some_iff.mp h).1
  rw [List.getElem?_map, List.getElem?_range pl]
  show some ([(i : Int), (p : Int)], absI (t.getD p 0)) = _
  rw [List.getD_eq_getElem?_getD, h]
  rfl
theorem glue_snoc (P : List (List Int × Int)) (q : List Int × Int) (k : Nat) : glueOf (P ++ [q]) k = if q.2 = (k : Int) + 1 then glueOf P k ++ [q.1] else glueOf P k := by
  unfold glueOf
  rw [List.filter_append, List.map_append]
  by_cases h : q.2 = (k : Int) + 1
  · rw [if_pos h]
    simp [h]
  · rw [if_neg h]
    simp [h]
structure GlInv (n : Nat) (P : List (List Int × Int)) (gs : List (List (List Int))) : Prop where
  len : gs.length = n
  val : ∀ k, k < n → gs[k]? = some (glueOf P k)
theorem GlInv.put {n : Nat} {P : List (List Int × Int)} {gs : List (List (List Int))} (h : GlInv n P gs) {u : List Int} {k : Nat} (hk : k < n) : GlInv n (P ++ [(u, (k : Int) + 1)]) (gs.set k (glueOf P k ++ [u])) := by
  refine ⟨by rw [List.length_set]; exact h.len, fun j hj => ?_⟩
  rw [List.getElem?_set, glue_snoc]
  by_cases e : k = j
  · subst e
    rw [if_pos rfl, if_pos (by rw [h.len]; exact hk), if_pos rfl]
  · rw [if_neg e, if_neg (by show ¬ ((k : Int) + 1 = (j : Int) + 1); omega)]
    exact h.val j hj
theorem sidesF_ties : ∀ (n : Nat) (S : List (List Int)), S.length = n → (sidesF S).map (·.2) = S.flatten.map absI
  | 0, S, h => by
    cases S with
    | nil => rfl
    | cons _ _ => cases h
  | n + 1, S, h => by
    have ne : S ≠ [] := fun z => by rw [z] at h; cases h
    obtain ⟨S', t, rfl⟩ : ∃ S' t, S = S' ++ [t] := ⟨S.dropLast, S.getLast ne, (List.dropLast_concat_getLast ne).symm⟩
    have h' : S'.length = n := by simpa using h
    rw [sidesF_snoc, List.map_append, sidesF_ties n S' h', List.flatten_append, List.map_append]
    congr 1
    simp only [List.flatten_cons, List.flatten_nil, List.append_nil]
    unfold sideT
    rw [List.map_map]
    apply List.ext_getElem?
    intro p
    rw [List.getElem?_map, List.getElem?_map]
    by_cases pl : p < t.length
    · rw [List.getElem?_range pl, List.getElem?_eq_getElem pl]
      show some (absI (t.getD p 0)) = some (absI t[p])
      rw [List.getD_eq_getElem?_getD, List.getElem?_eq_getElem pl]
      rfl
    · rw [List.getElem?_eq_none (by simpa using pl), List.getElem?_eq_none (by omega)]
      rfl
theorem mem_sides {S : List (List Int)} {q : List Int × Int} (h : q ∈ sidesF S) : ∃ (i p : Nat) (t : List Int) (s : Int), S[i]? = some t ∧ t[p]? = some s ∧ q = ([(i : Int), (p : Int)], absI s) := by
  unfold sidesF at h
  obtain ⟨l, hl, hq⟩ := List.mem_flatten.mp h
  obtain ⟨i, hi, rfl⟩ := List.mem_map.mp hl
  have il := List.mem_range.mp hi
  unfold sideT at hq
  obtain ⟨p, hp, rfl⟩ := List.mem_map.mp hq
  have pl := List.mem_range.mp hp
  have ei : S[i]? = some (S.getD i []) := by rw [List.getD_eq_getElem?_getD, List.getElem?_eq_getElem il]; rfl
  refine ⟨i, p, S.getD i [], (S.getD i []).getD p 0, ei, ?_, rfl⟩
  rw [List.getD_eq_getElem?_getD (l := S.getD i []), List.getElem?_eq_getElem pl]
  rfl
theorem glue_two {S : List (List Int)} (oS : ShOk S) {k : Nat} (hk : k < S.length / 2 * 3) : (glueOf (sidesF S) k).length = 2 := by
  unfold glueOf
  rw [List.length_map, ← List.countP_eq_length_filter]
  have e : (sidesF S).countP (fun q => decide (q.2 = (k : Int) + 1)) = ((sidesF S).map (·.2)).countP fun z => decide (z = (k : Int) + 1) := by
    rw [List.countP_map]
    rfl
  rw [e, sidesF_ties _ S rfl, oS.ties.countP_eq, count_pool, if_pos (by omega)]
theorem glue_mem {S : List (List Int)} {k : Nat} {u : List Int} (h : u ∈ glueOf (sidesF S) k) : ∃ (i p : Nat) (t : List Int) (s : Int), S[i]? = some t ∧ t[p]? = some s ∧ u = [(i : Int), (p : Int)] ∧ absI s = (k : Int) + 1 := by
  unfold glueOf at h
  obtain ⟨q, hq, rfl⟩ := List.mem_map.mp h
  obtain ⟨h1, h2⟩ := List.mem_filter.mp hq
  obtain ⟨i, p, t, s, e1, e2, rfl⟩ := mem_sides h1
  exact ⟨i, p, t, s, e1, e2, rfl, of_decide_eq_true h2⟩
theorem two2 {α : Type} {l : List α} (h : l.length = 2) : ∃ a b, l = [a, b] := by
  match l, h with
  | [a, b], _ => exact ⟨a, b, rfl⟩
theorem LsL.put {H : Hp} {tp : Bool} {ys xs : List V} {uss : List (List (List Int))} {a : Addr} {k : Nat} {x : V} {u : List Int} {us : List (List Int)} (h : LsL H tp ys uss) (nd : ys.Nodup) (ek : ys[k]? = some (.ref a)) (eu : uss[k]? = some us) (ha : H a = some (.lst xs)) (i : Itm H tp x u) : LsL (upd H a (.lst (xs ++ [x]))) tp ys (uss.set k (us ++ [u])) := by
  have t : Tups H (upd H a (.lst (xs ++ [x]))) := Tups.lst (Tups.refl H) ha
  have kl : k < uss.length := (List.getElem?_eq_some_iff.mp eu).1
  refine ⟨by rw [List.length_set]; exact h.1, fun j y vs h1 h2 => ?_⟩
  rw [List.getElem?_set] at h2
  by_cases e : k = j
  · subst e
    rw [if_pos rfl, if_pos kl] at h2
    cases h2
    rw [ek] at h1
    cases h1
    obtain ⟨a', xs', ea, ha', it⟩ := h.2 k _ us ek eu
    cases ea
    rw [ha] at ha'
    cases ha'
    exact ⟨a, xs ++ [x], rfl, upd_same, (it.append (ItL.cons i (ItL.nil _ _))).up t⟩
  · rw [if_neg e] at h2
    obtain ⟨a', xs', ea, ha', it⟩ := h.2 j y vs h1 h2
    have na : a' ≠ a := fun z => by
      rw [ea, z] at h1
      have l1 := (List.getElem?_eq_some_iff.mp ek)
      have l2 := (List.getElem?_eq_some_iff.mp h1)
      exact e ((List.getElem_inj nd).mp (l1.2.trans l2.2.symm))
    exact ⟨a', xs', ea, by rw [upd_ne na]; exact ha', it.up t⟩
end L2
set_option Elab.async false
set_option linter.all false
set_option maxRecDepth 100000
set_option maxHeartbeats 1000000
namespace HT
open PySem PyProof.Rows
section
variable {prog : Program} {w : World} {A : Around} {E : Value → Shared → Prop} {s : Shared}
theorem getItem_tuple_all {t sl : Addr} {items : Array Value} {vl vu : Value} {lo hi : Option Int} {Q : Value → Shared → Prop} (ht : IsTup s.heap t items) (hs : s.heap.IsSliceOf sl vl vu .none) (pl : IsPart vl lo) (pu : IsPart vu hi)
    (hw : sIx items.size 0 lo = 0 ∧ sIx items.size items.size hi = items.size)
    (h : Q (.ref t) s) : wpAny (model prog w) A (getItem (.ref t) (.ref sl)) Q E s := by
  obtain ⟨os, hos, hcs, hds⟩ := id hs
  have hTs : s.TypeIs (.ref sl) "slice" := ⟨os, hos, hcs⟩
  unfold getItem
  try with_reducible refine wpAny_holding ?_
  first | refine wpAny_bind (wpAny_pure ?_) | skip
  refine wpAny_bind (wpAny_sequenceKey ht.typeIs (by decide) ?_)
  refine wpAny_bind (wpAny_callSpecial?_slot (name := Str.ofString "__getitem__") ht.typeIs PyProof.Rows.slot_tuple_getitem
    (wpAny_call_entry PyProof.Rows.slot_tuple_getitem ht.typeIs entry_tuple_getitem ?_ (args_tuple_getitem _ _)))
  show wpAny _ _ (Builtin.Tuple.tupleItemsOf (.ref t) >>= _) _ _ s
  refine wpAny_bind (tupleItemsOf_ ht ?_)
  refine wpAny_bind (wpAny_typeOf hTs ?_)
  rw [if_pos (by decide)]
  refine wpAny_bind (sliceApplied_gen hs pl pu ?_)
  have hyes : ((((sIx items.size 0 lo : Nat) : Int) == 0 && (1 : Int) == 1 && (sIx items.size items.size hi - sIx items.size 0 lo) == items.size) = true) := by
    rw [hw.1, hw.2]
    simp
  show wpAny _ _ (if (((sIx items.size 0 lo : Nat) : Int) == 0 && (1 : Int) == 1 && (sIx items.size items.size hi - sIx items.size 0 lo) == items.size) = true then _ else _) _ _ s
  rw [if_pos hyes]
  obtain ⟨o, ho, hc, n, hd⟩ := id ht
  refine wpAny_bind (m := Builtin.Tuple.tupleIsExact (.ref t)) ?_
  unfold Builtin.Tuple.tupleIsExact
  refine wpAny_bind (wpAny_typeOf ht.typeIs (wpAny_pure ?_))
  rw [if_pos (by decide)]
  exact wpAny_bind (wpAny_rule (wpAny_pure ⟨_, rfl, wpAny_pure h⟩))
end
end HT
namespace L2
open PySem PySem.Spec PyProof.Rows
section
variable {X : Cx}
def rSlA (K : PySem.W.Frag) : V → Option Int → Option Int → Hp → VK → Prop := fun x lo hi H Q => ∃ a xs, x = .ref a ∧ SqT K H a xs ∧
  ((HT.sIx xs.length 0 lo = 0 ∧ HT.sIx xs.length xs.length hi = xs.length) → Q (.ref a) H) ∧ (¬ (HT.sIx xs.length 0 lo = 0 ∧ HT.sIx xs.length xs.length hi = xs.length) → ∀ p, H p = none → Q (.ref p) (upd H p (.tup (cutV xs lo hi))))
theorem sl_tupA {K : PySem.W.Frag} (hK : X.K = K := by rfl) : SlR X (rSlA K) := by
  subst hK
  intro pins s σ H x v vl vu lo hi sl Q I rx hs pl pu h
  obtain ⟨a, xs, rfl, hx, q1, q2⟩ := h
  by_cases hw : HT.sIx xs.length 0 lo = 0 ∧ HT.sIx xs.length xs.length hi = xs.length
  · cases rx
    obtain ⟨its, r, ht, hz⟩ := I.tuple hx
    have hlen : its.toArray.size = xs.length := by rw [List.size_toArray]; exact r.length.symm
    refine ⟨"tuple", _, PyProof.Rows.slot_tuple_getitem.lookup, ht.typeIs, ?_⟩
    exact HT.getItem_tuple_all ht hs pl pu (by rw [hlen]; exact hw) ⟨.ref a, H, I, rfl, q1 hw⟩
  · exact sl_tup pins s σ H (.ref a) v vl vu lo hi sl Q I rx hs pl pu ⟨a, xs, rfl, hx, hw, q2 hw⟩
theorem ints_get : ∀ {us : List Value} {ns : List Int} {j : Nat} {i : Int}, IntsAre us ns → ns[j]? = some i → ∃ t, us[j]? = some (.int i t)
  | _, _, j, i, .nil, h => by simp at h
  | _, _, 0, i, .cons m t h, e => by simp at e; subst e; exact ⟨t, rfl⟩
  | _, _, j + 1, i, .cons m t h, e => by
    obtain ⟨t', e'⟩ := ints_get h (j := j) (by simpa using e)
    exact ⟨t', by simpa using e'⟩
theorem op_inK {K : PySem.W.Frag} (hK : X.K = K := by rfl) : OpR X (compareOp .In) (rIn K false) := by subst hK; exact op_in_seq
def rIndex : V → List V → Hp → VK → Prop := fun x vs H Q => ∃ (l : Addr) (ns : List Int) (i : Int) (j : Nat), x = .ref l ∧ vs = [.int i] ∧ H l = some (.lst (ns.map V.int)) ∧ ns[j]? = some i ∧ (∀ m, m < j → ns[m]? ≠ some i) ∧ ns.length ≤ 1000 ∧ Q (.int j) H
theorem mt_index : MtM X "list.index" rIndex := by
  intro pins s σ H x vs v us Q I rx rv h
  obtain ⟨l, ns, i, j, rfl, rfl, hH, hj, hno, hle, q⟩ := h
  cases rx
  obtain ⟨u, rfl, t, rfl⟩ := vals1 rv
  obtain ⟨z, its, n, r, hl, e⟩ := I.lstM hH
  have hI := intsAre_of r
  have hlen : its.length = ns.length := hI.length
  have jl : j < ns.length := (List.getElem?_eq_some_iff.mp hj).1
  refine call_meets F.slot_list_index ⟨_, e, rfl⟩ F.entry_list_index (F.args_list_index_2 _ _) (MeetsSeq.list_index l its.toArray n (.int i t) (PyProof.Rows.isInt i) (fun y hy => ?_) j ?_ ?_ ?_ ?_) ⟨e, ?_⟩
  · exact PyProof.Rows.eq_isInt i t hI y (by simpa using hy)
  · rw [List.size_toArray, hlen]; exact jl
  · have : j < 1000 := by omega
    omega
  · obtain ⟨tk, ek⟩ := ints_get hI hj
    have : its.toArray[j]'(by rw [List.size_toArray, hlen]; exact jl) = .int i tk := by
      rw [List.getElem_toArray]
      exact (List.getElem?_eq_some_iff.mp ek).2
    rw [this]
    show (i == i) = true
    simp
  · intro m hm hmj
    have ml : m < ns.length := by omega
    obtain ⟨tk, ek⟩ := ints_get hI (List.getElem?_eq_getElem ml)
    have : its.toArray[m]'hm = .int ns[m] tk := by
      rw [List.getElem_toArray]
      exact (List.getElem?_eq_some_iff.mp ek).2
    rw [this]
    show (ns[m] == i) = false
    have := hno m hmj
    rw [List.getElem?_eq_getElem ml] at this
    simpa using this
  · exact ⟨.int _, H, I.tok _, ⟨s.toks, rfl⟩, q⟩
end
end L2
set_option Elab.async false
set_option linter.all false
set_option maxRecDepth 100000
set_option maxHeartbeats 1000000
namespace L2
open PySem PySem.Spec PyProof.Rows
def rot (t : List Int) (p : Nat) : List Int := t.drop p ++ t.take p
theorem rot_perm (t : List Int) (p : Nat) : (rot t p).Perm t := by
  unfold rot
  have : (t.drop p ++ t.take p).Perm (t.take p ++ t.drop p) := List.perm_append_comm
  rwa [List.take_append_drop] at this
def Lx (a b : List Int × Int) : Prop := ∃ i p j r : Nat, a.1 = [(i : Int), (p : Int)] ∧ b.1 = [(j : Int), (r : Int)] ∧ (i < j ∨ (i = j ∧ p < r))
theorem sideT_lx (i : Nat) (t : List Int) : (sideT i t).Pairwise Lx := by
  unfold sideT
  rw [List.pairwise_map]
  refine List.Pairwise.imp ?_ (List.pairwise_lt_range (n := t.length))
  intro a b h
  exact ⟨i, a, i, b, rfl, rfl, .inr ⟨rfl, h⟩⟩
theorem sidesF_lx : ∀ (n : Nat) (S : List (List Int)), S.length = n → (sidesF S).Pairwise Lx
  | 0, S, h => by
    cases S with
    | nil => exact .nil
    | cons _ _ => cases h
  | n + 1, S, h => by
    have ne : S ≠ [] := fun z => by rw [z] at h; cases h
    obtain ⟨S', t, rfl⟩ : ∃ S' t, S = S' ++ [t] := ⟨S.dropLast, S.getLast ne, (List.dropLast_concat_getLast ne).symm⟩
    have h' : S'.length = n := by simpa using h
    rw [sidesF_snoc, List.pairwise_append]
    refine ⟨sidesF_lx n S' h', sideT_lx _ _, fun a ha b hb => ?_⟩
    obtain ⟨i, p, t', s, e1, e2, rfl⟩ := mem_sides ha
    unfold sideT at hb
    obtain ⟨r, hr, rfl⟩ := List.mem_map.mp hb
    exact ⟨i, p, S'.length, r, rfl, rfl, .inl (List.getElem?_eq_some_iff.mp e1).1⟩
theorem sides_mem {S : List (List Int)} {i p : Nat} {t : List Int} {s : Int} (h1 : S[i]? = some t) (h2 : t[p]? = some s) : ([(i : Int), (p : Int)], absI s) ∈ sidesF S := by
  unfold sidesF
  refine List.mem_flatten.mpr ⟨sideT i t, List.mem_map.mpr ⟨i, List.mem_range.mpr (List.getElem?_eq_some_iff.mp h1).1, ?_⟩, List.mem_of_getElem? (sideT_at h2)⟩
  rw [List.getD_eq_getElem?_getD, h1]
  rfl
theorem mem_glue {S : List (List Int)} {k i p : Nat} {t : List Int} {s : Int} (h1 : S[i]? = some t) (h2 : t[p]? = some s) (h3 : absI s = (k : Int) + 1) : [(i : Int), (p : Int)] ∈ glueOf (sidesF S) k := by
  unfold glueOf
  exact List.mem_map.mpr ⟨([(i : Int), (p : Int)], absI s), List.mem_filter.mpr ⟨sides_mem h1 h2, decide_eq_true h3⟩, rfl⟩
structure TieAt (S : List (List Int)) (k i p j r : Nat) (t u : List Int) : Prop where
  gl : glueOf (sidesF S) k = [[(i : Int), (p : Int)], [(j : Int), (r : Int)]]
  ei : S[i]? = some t
  ej : S[j]? = some u
  tp : ∃ s, t[p]? = some s ∧ absI s = (k : Int) + 1
  ur : ∃ s, u[r]? = some s ∧ absI s = (k : Int) + 1
  le : i < j ∨ (i = j ∧ p < r)
  all : ∀ (i' p' : Nat) (t' : List Int) (s' : Int), S[i']? = some t' → t'[p']? = some s' → absI s' = (k : Int) + 1 → (i' = i ∧ p' = p) ∨ (i' = j ∧ p' = r)
theorem tie_at {S : List (List Int)} (oS : ShOk S) {k : Nat} (hk : k < S.length / 2 * 3) : ∃ i p j r t u, TieAt S k i p j r t u := by
  obtain ⟨a, b, e⟩ := two2 (glue_two oS hk)
  have ha : a ∈ glueOf (sidesF S) k := by rw [e]; simp
  have hb : b ∈ glueOf (sidesF S) k := by rw [e]; simp
  obtain ⟨i, p, t, s, e1, e2, rfl, e3⟩ := glue_mem ha
  obtain ⟨j, r, u, s', f1, f2, rfl, f3⟩ := glue_mem hb
  have px : (((sidesF S).filter fun q => decide (q.2 = (k : Int) + 1)).map (·.1)).Pairwise fun x y => ∃ i p j r : Nat, x = [(i : Int), (p : Int)] ∧ y = [(j : Int), (r : Int)] ∧ (i < j ∨ (i = j ∧ p < r)) := by
    rw [List.pairwise_map]
    exact ((sidesF_lx _ S rfl).filter _)
  have px : (glueOf (sidesF S) k).Pairwise _ := px
  rw [e] at px
  obtain ⟨i', p', j', r', z1, z2, z3⟩ := (List.pairwise_cons.mp px).1 _ List.mem_cons_self
  have z1 := z1
  simp only [List.cons.injEq, and_true] at z1 z2
  refine ⟨i, p, j, r, t, u, e, e1, f1, ⟨s, e2, e3⟩, ⟨s', f2, f3⟩, by omega, fun i'' p'' t'' s'' h1 h2 h3 => ?_⟩
  have hm := mem_glue h1 h2 h3
  rw [e] at hm
  simp only [List.mem_cons, List.not_mem_nil, or_false, List.cons.injEq, and_true] at hm
  omega
structure TwoT (S : List (List Int)) (k i p j r : Nat) (t u : List Int) (P Q U V : Int) : Prop extends TieAt S k i p j r t u where
  lt : i < j
  sq : ∃ f g A B : Int, rot t p = [f, P, Q] ∧ rot u r = [g, A, B] ∧ absI f = (k : Int) + 1 ∧ absI g = (k : Int) + 1 ∧ (if f = g then U = -B ∧ V = -A else U = A ∧ V = B)
def BadT (S : List (List Int)) (tie : Int) : Prop := ¬ (1 ≤ tie ∧ tie ≤ ((S.length / 2 * 3 : Nat) : Int)) ∨ ∃ k i p r t u, tie = (k : Nat) + 1 ∧ k < S.length / 2 * 3 ∧ TieAt S k i p i r t u
theorem rot_first {t : List Int} {p : Nat} {s : Int} (h3 : t.length = 3) (h : t[p]? = some s) : ∃ a b, rot t p = [s, a, b] := by
  obtain ⟨x, y, z, rfl⟩ := three3 h3
  rcases p with _ | _ | _ | p
  · cases h; exact ⟨_, _, rfl⟩
  · cases h; exact ⟨_, _, rfl⟩
  · cases h; exact ⟨_, _, rfl⟩
  · cases h
def turnS (S : List (List Int)) (k i j : Nat) (P Q U V : Int) : List (List Int) := (S.set i [Q, U, -((k : Int) + 1)]).set j [V, P, (k : Int) + 1]
theorem set_perm {α : Type} {l : List α} {i : Nat} {a x : α} (h : l[i]? = some a) : (a :: l.set i x).Perm (x :: l) := by
  have il := (List.getElem?_eq_some_iff.mp h).1
  have h1 : l.Perm (a :: l.eraseIdx i) := erase_permK h
  have h2 : (l.set i x).Perm (x :: (l.set i x).eraseIdx i) := erase_permK (by rw [List.getElem?_set, if_pos rfl, if_pos il])
  rw [List.eraseIdx_set_eq] at h2
  exact ((h2.cons a).trans (List.Perm.swap x a _)).trans (h1.symm.cons x)
theorem turn_ok {S : List (List Int)} (oS : ShOk S) {k i p j r : Nat} {t u : List Int} {P Q U V : Int} (T : TwoT S k i p j r t u P Q U V) : ShOk (turnS S k i j P Q U V) := by
  have ll : (turnS S k i j P Q U V).length = S.length := by unfold turnS; rw [List.length_set, List.length_set]
  refine ⟨by rw [ll]; exact oS.even, fun w hw => ?_, ?_⟩
  · unfold turnS at hw
    rcases mem_set' hw with hw | rfl
    · rcases mem_set' hw with hw | rfl
      · exact oS.three w hw
      · rfl
    · rfl
  · rw [ll]
    refine List.Perm.trans ?_ oS.ties
    obtain ⟨f, g, A, B, ra, rb, af, ag, hs⟩ := T.sq
    have e1 : (t :: S.set i [Q, U, -((k : Int) + 1)]).Perm ([Q, U, -((k : Int) + 1)] :: S) := set_perm T.ei
    have e2 : (u :: turnS S k i j P Q U V).Perm ([V, P, (k : Int) + 1] :: S.set i [Q, U, -((k : Int) + 1)]) := set_perm (by rw [List.getElem?_set_ne (Nat.ne_of_lt T.lt)]; exact T.ej)
    have e3 : (t :: u :: turnS S k i j P Q U V).Perm ([V, P, (k : Int) + 1] :: [Q, U, -((k : Int) + 1)] :: S) := ((e2.cons t).trans (List.Perm.swap _ _ _)).trans (e1.cons _)
    have e4 := (e3.flatten).map absI
    simp only [List.flatten_cons, List.map_append] at e4
    have pt : (t.map absI).Perm [(k : Int) + 1, absI P, absI Q] := by
      have := (rot_perm t p).symm.map absI
      rw [ra] at this
      simpa [af] using this
    have pu : (u.map absI).Perm [(k : Int) + 1, absI A, absI B] := by
      have := (rot_perm u r).symm.map absI
      rw [rb] at this
      simpa [ag] using this
    have aneg : ∀ z : Int, absI (-z) = absI z := fun z => by unfold absI; split <;> split <;> omega
    have ak : absI ((k : Int) + 1) = (k : Int) + 1 := by unfold absI; rw [if_neg (by omega)]
    have uv : ([absI U, absI V] : List Int).Perm [absI A, absI B] := by
      split at hs
      · rw [hs.1, hs.2, aneg, aneg]; exact List.Perm.swap _ _ _
      · rw [hs.1, hs.2]
    have six : (t.map absI ++ (u.map absI)).Perm (([V, P, (k : Int) + 1].map absI) ++ ([Q, U, -((k : Int) + 1)].map absI)) := by
      refine (pt.append pu).trans ?_
      refine List.Perm.trans (l₂ := [(k : Int) + 1, absI P, absI Q, (k : Int) + 1] ++ [absI U, absI V]) (List.Perm.append_left [(k : Int) + 1, absI P, absI Q, (k : Int) + 1] uv.symm) ?_
      simp only [List.map_cons, List.map_nil, aneg, ak, List.cons_append, List.nil_append]
      rw [List.perm_iff_count]
      intro z
      simp only [List.count_cons, List.count_nil]
      omega
    have e5 : (t.map absI ++ (u.map absI) ++ (turnS S k i j P Q U V).flatten.map absI).Perm (([V, P, (k : Int) + 1].map absI) ++ ([Q, U, -((k : Int) + 1)].map absI) ++ S.flatten.map absI) := by
      simpa [List.append_assoc] using e4
    have e6 := (e5.trans ((six.symm).append_right _))
    exact (List.perm_append_left_iff _).mp e6
theorem TuL.set {H : Hp} {xs : List V} {S : List (List Int)} (h : TuL H xs S) {q : Addr} {w : List Int} (hq : H q = some (.tup (w.map V.int))) (n : Nat) : TuL H (xs.set n (.ref q)) (S.set n w) := by
  refine ⟨by rw [List.length_set, List.length_set]; exact h.1, fun m y v h1 h2 => ?_⟩
  rw [List.getElem?_set] at h1 h2
  by_cases e : n = m
  · subst e
    rw [if_pos rfl] at h1 h2
    split at h1
    · cases h1
      split at h2
      · cases h2; exact ⟨q, rfl, hq⟩
      · cases h2
    · cases h1
  · rw [if_neg e] at h1 h2
    exact h.2 m y v h1 h2
end L2
set_option Elab.async false
set_option linter.all false
set_option maxRecDepth 100000
set_option maxHeartbeats 1000000
namespace L2
open PySem PySem.Spec PyProof.Rows
structure XCls (K : PySem.W.Frag) (C : Addr) : Prop where
  ga : PySem.W.findIn K (.ref C) "__getattribute__" = some (some (.builtin "BaseException.__getattribute__"))
  na : PySem.W.findIn K (.ref C) "__getattr__" = some none
  cl : PySem.W.findIn K (.ref C) "__class__" = some (some (.builtin "object.__class__"))
  be : PySem.W.subIn K (.ref C) (.type "BaseException") = some true
  ob : PySem.W.subIn K (.ref C) (.type "object") = some true
  ty : PySem.W.typeIn K (.ref C) = some (.type "type")
  co : (PySem.W.clsIn K C).isSome = true
  rf : PySem.W.subIn K (.ref C) (.ref C) = some true
section
variable {prog : Program} {w : World} {A : Around} {E : Value → Shared → Prop} {h : Heap} {g : Array GenState} {d : Drawn} {t : Nat} {os : OsState} {a C : Addr} {o : Obj} {K : PySem.W.Frag}
theorem xc_get {R : Result → Shared → Prop} (X : K.In h) (c : XCls K C) (hx : h.get? a = some o) (hc : o.cls = .ref C) (hq : R (.ok (.ret (.ref C))) ⟨h, g, d, t, os⟩) :
    codeAny (model prog w) A (.call (.builtin "getset_descriptor.__get__") ⟨[.builtin "object.__class__", .ref a, .ref C], []⟩) R ⟨h, g, d, t, os⟩ := by
  have hT5 : (⟨h, g, d, t, os⟩ : Shared).TypeIs (.builtin "object.__class__") "getset_descriptor" := F.typeOf_object_class
  have hs : PySem.W.Looks (model prog w) h (isSubtype (.ref C) (.type (".".intercalate ("object.__class__".cutAt '.').dropLast))) true := by
    rw [F.owner_object_class]
    exact PySem.W.looks_subIn X c.ob
  refine codeAny_call_builtin F.slot_gs_get.plain F.entry_gs_get (F.slot_gs_get.check _ _ _ _ _ _ _ _ hT5 (F.args_gs_get _ _ _) ?_)
  repeat (any_goals (first | assumption | (with_reducible refine wpAny_loadPart_at hx ?_; rw [hc]) | with_reducible refine hs.at ?_ | wp_step))
  refine ⟨Code.quiet_builtin _ (by decide +kernel), codeAny_builtin F.entry_object_class ?_⟩
  repeat (any_goals (first | assumption | (with_reducible refine wpAny_loadPart_at hx ?_; rw [hc]) | wp_step))
theorem xc_entry {tk : Tok} {Q : Fin → Shared → Prop} (X : K.In h) (c : XCls K C) (hx : h.get? a = some o) (hc : o.cls = .ref C) (hq : Q (.done (.ret (.ref C))) ⟨h, g, d, t, os⟩) :
    wpAny (model prog w) A (Builtin.«object.__getattribute__» ⟨[.ref a, .str "__class__" tk], []⟩) Q E ⟨h, g, d, t, os⟩ := by
  have hT5 : (⟨h, g, d, t, os⟩ : Shared).TypeIs (.builtin "object.__class__") "getset_descriptor" := F.typeOf_object_class
  have f4 : PySem.W.Looks (model prog w) h (typeLookup (.ref C) "__class__") _ := PySem.W.looks_findIn X c.cl
  have f5 := F.typeOf_object_class
  have f6 := F.slot_gs_get.lookup
  have f7 := F.slot_gs_set.lookup
  repeat (any_goals (first | assumption | (with_reducible refine wpAny_loadPart_at hx ?_; rw [hc]) | with_reducible refine f4.at ?_ | wp_step))
  refine xc_get X c hx hc ?_
  repeat (any_goals (first | assumption | wp_step))
theorem xc_check {M : Model} {nameV : Value} {Q : Unit → Shared → Prop} (X : K.In h) (c : XCls K C) (hx : h.get? a = some o) (hc : o.cls = .ref C) (hq : Q () ⟨h, g, d, t, os⟩) : wpAny M A (checkBuiltinCall "BaseException.__getattribute__" ⟨[.ref a, nameV], []⟩) Q E ⟨h, g, d, t, os⟩ := by
  have hk : builtinKind "BaseException.__getattribute__" = some .slot := by decide +kernel
  have hsplit : splitId "BaseException.__getattribute__" = some ("BaseException", "__getattribute__") := by decide +kernel
  have hs : PySem.W.Looks M h (isSubtype (.ref C) (.type "BaseException")) true := PySem.W.looks_subIn X c.be
  have ha := F.args_bexc_ga (.ref a) nameV
  simp only [checkBuiltinCall, hk, hsplit]
  refine wpAny_bind ?_
  · unfold isInstance
    repeat (first | (with_reducible refine wpAny_loadPart_at hx ?_; rw [hc]) | with_reducible refine hs.at ?_ | wp_step)
    exact hq
theorem xc_call {tk : Tok} {R : Result → Shared → Prop} (X : K.In h) (c : XCls K C) (hx : h.get? a = some o) (hc : o.cls = .ref C) (hq : R (.ok (.ret (.ref C))) ⟨h, g, d, t, os⟩) :
    codeAny (model prog w) A (.call (.builtin "BaseException.__getattribute__") ⟨[.ref a, .str "__class__" tk], []⟩) R ⟨h, g, d, t, os⟩ :=
  codeAny_call_builtin (PySem.F.attr_ValueError).ga.plain F.entry_bexc_ga (xc_check X c hx hc (xc_entry X c hx hc hq))
theorem xc_by {tk : Tok} {Q : Value → Shared → Prop} (X : K.In h) (c : XCls K C) (hx : h.get? a = some o) (hc : o.cls = .ref C) (hq : Q (.ref C) ⟨h, g, d, t, os⟩) :
    wpAny (model prog w) A (getAttrBy (.ref a) (.str "__class__" tk) false) Q E ⟨h, g, d, t, os⟩ := by
  have f3 := (PySem.F.attr_ValueError).ga.bind (.ref a)
  have hx2 : (Value.builtin "BaseException.__getattribute__" == Value.builtin "object.__getattribute__") = false := by decide +kernel
  have hx1 : (onTheHeap (Value.ref C) && Value.builtin "BaseException.__getattribute__" == Value.builtin "object.__getattribute__") = false := by rw [hx2]; rfl
  have f1 : PySem.W.Looks (model prog w) h (typeLookup (.ref C) "__getattribute__") _ := PySem.W.looks_findIn X c.ga
  have f2 : PySem.W.Looks (model prog w) h (typeLookup (.ref C) "__getattr__") _ := PySem.W.looks_findIn X c.na
  repeat (any_goals (first | assumption | (with_reducible refine wpAny_loadPart_at hx ?_; rw [hc]) | with_reducible refine f1.at ?_ | with_reducible refine f2.at ?_ | wp_step))
  refine xc_call X c hx hc ?_
  repeat (any_goals (first | assumption | wp_step))
theorem xc_attr {Q : Option Value → Shared → Prop} (X : K.In h) (c : XCls K C) (hx : h.get? a = some o) (hc : o.cls = .ref C) (hq : Q (some (.ref C)) ⟨h, g, d, t + 1, os⟩) : wpAny (model prog w) A (getAttr? (.ref a) "__class__") Q E ⟨h, g, d, t, os⟩ := by
  unfold getAttr? getAttrBy?
  repeat (any_goals (first | assumption | with_reducible apply xc_by X c hx hc | wp_step))
end
theorem kitx_exc {K : PySem.W.Frag} {a C : Addr} (c : XCls K C) : PySem.W.KitX K (.ref a) (.ref C) (fun h => ∃ o, h.get? a = some o ∧ o.cls = .ref C) where
  ty := fun M h _ ⟨o, h1, h2⟩ => h2 ▸ (PySem.W.Looks.ld h1).andThen .now
  it := fun M h X _ => by
    have z := c.co
    unfold PySem.W.clsIn at z
    split at z
    · rename_i c' d' cd' sl' ho
      intro A' Q' E' s' k q
      unfold isType loadHead
      exact wpAny_bind (wpAny_loadPart (k _ _ (X _ _ ho)) (wpAny_pure q))
    · cases z
  ne := fun h tp dd its n sl X htp => by
    have z := c.co
    refine Bool.eq_false_iff.mpr fun q => ?_
    have e : C = tp := Value.ref.inj (beq_iff_eq.mp q)
    subst e
    unfold PySem.W.clsIn at z
    split at z
    · rename_i c' d' cd' sl' ho
      have z := (X _ _ ho).symm.trans htp
      cases z
    · cases z
  ca := fun {_ _ _ _ _ s} X ⟨o, h1, h2⟩ k => by
    obtain ⟨h, g, d, t, os⟩ := s
    exact xc_attr X c h1 h2 k
end L2
set_option Elab.async false
set_option linter.all false
set_option maxRecDepth 100000
set_option maxHeartbeats 1000000
namespace L2
open PySem PySem.Spec PyProof.Rows
def CXE (P : Program) (w : World) : CXT := fun outer H s E e s' => ∃ (a C : Addr) (a0 : Value) (B : Heap) (H' : Hp), e = .ref a ∧ s'.os = s.os ∧ AllBare s'.gens ∧ Un (frs outer) [] H H' s.heap s'.heap ∧ HOk P w H' s'.heap ∧
  Heap.FlyingW B outer a (.ref C) a0 s'.heap ∧ (∀ b o, s.heap.get? b = some o → b ∉ frs outer → ∃ o', B.get? b = some o') ∧ (∀ b o, H' b = some o → ∃ o', B.get? b = some o') ∧ E (.ref C) none H'
theorem ObjOk.there {P : Program} {w : World} {H : Hp} {h : Heap} {a : Addr} {o : HO} (x : ObjOk P w H h a o) : ∃ ob, h.get? a = some ob := by
  cases o with
  | lst xs => obtain ⟨_, _, _, _, e⟩ := x; exact ⟨_, e⟩
  | tup xs => obtain ⟨_, _, _, o, e, _⟩ := x; exact ⟨_, e⟩
  | dK kvs => obtain ⟨_, _, _, _, o, _, _, e, _⟩ := x; exact ⟨_, e⟩
  | dT kvs => obtain ⟨_, _, _, _, o, _, _, e, _⟩ := x; exact ⟨_, e⟩
  | set S n => obtain ⟨o, _, _, _, e, _⟩ := x; exact ⟨_, e⟩
  | ins C dx fs => obtain ⟨_, _, _, e, _⟩ := x; exact ⟨_, e⟩
  | own y => exact x
  | xd fs => obtain ⟨_, ⟨_, _, _, e, _⟩, _⟩ := x; exact ⟨_, e⟩
  | rng lo hi => obtain ⟨_, _, _, e⟩ := x; exact ⟨_, e⟩
  | frz ob u => exact ⟨_, x.1⟩
  | tbl ps => exact ⟨_, x⟩
  | met f y => exact ⟨_, x⟩
  | ext φ => exact x.2.1
section
variable {X : Cx} {pins : List (Addr × Obj)} {σ : St} {H1 H' : Hp} {s1 : Shared} {h1 h' B : Heap}
theorem leave_un (I : Inv X pins σ H1 s1) (hex : X.ex = []) (u : Un (frs X.stack) [] H1 H' s1.heap h1) (hok : HOk X.prog X.w H' h1) (b1 : B.StaysIn h1) (b2 : B.StaysIn h') (sm : h1.UpToSlots h')
    (c1 : ∀ b o, s1.heap.get? b = some o → b ∉ frs X.stack → ∃ o', B.get? b = some o') (c2 : ∀ b o, H' b = some o → ∃ o', B.get? b = some o') :
    Un X.fs [] X.H₀ H' X.s₀.heap h' ∧ HOk X.prog X.w H' h' ∧ ∀ b o, X.s₀.heap.get? b = some o → b ∉ X.fs → ∃ o', B.get? b = some o' := by
  have nex : ∀ b : Addr, b ∉ X.ex := fun b z => by rw [hex] at z; cases z
  have c0 : ∀ b o, X.s₀.heap.get? b = some o → b ∉ X.fs → ∃ o', B.get? b = some o' := fun b o e hb => by
    obtain ⟨o1, e1⟩ := I.base.there b o e (nex b)
    refine c1 b o1 e1 fun z => ?_
    rcases List.mem_cons.mp (I.stkSub b z) with q | q
    · exact absurd (Nat.lt_of_lt_of_le (Heap.lt_size e) I.ok.above) (by rw [q]; exact Nat.lt_irrefl _)
    · exact hb q
  have J := (I.call (g' := s1.gens) (t' := s1.toks) (d' := s1.drawn) (ch := []) u hok I.bare (fun b z => nomatch z)).base
  rw [hex] at J
  have same : ∀ b o, h1.get? b = some o → (∃ o', B.get? b = some o') → h'.get? b = some o := fun b o e ⟨o', q⟩ => by
    have := b1 b o' q
    rw [e] at this
    cases this
    exact b2 b _ q
  have frm : ∀ b ∈ X.fs, ∀ o, h1.get? b = some o → ∃ sl, h'.get? b = some { o with slots := sl } := fun b hb o e => by
    obtain ⟨_, o0, e0, hd⟩ := I.ok.funs.mem hb
    obtain ⟨sl, e1⟩ := J.slot b o0 e0 (I.ok.frf b hb) hb (by simp)
    have e1 : h1.get? b = some _ := e1
    rw [e] at e1
    cases e1
    exact sm b _ e hd
  refine ⟨⟨fun b o e n hb _ => ?_, fun b o e n hb _ => ?_, J.free, fun b o e _ => ?_, J.tups, J.frzs, J.tbls⟩, fun b u' e => ?_, c0⟩
  · exact same b o (J.keep b o e n hb (by simp)) (c0 b o e hb)
  · obtain ⟨sl, e1⟩ := J.slot b o e n hb (by simp)
    obtain ⟨sl', e2⟩ := frm b hb _ e1
    exact ⟨sl', e2⟩
  · obtain ⟨o1, e1⟩ := J.there b o e (by simp)
    by_cases hb : b ∈ X.fs
    · obtain ⟨sl, e2⟩ := frm b hb _ e1
      exact ⟨_, e2⟩
    · exact ⟨o1, same b o1 e1 (c0 b o e hb)⟩
  · refine (hok b u' e).stay (fun c v hc r => same c v r ?_) (fun _ q => q) fun _ _ q => q
    rcases hc with rfl | hc
    · exact c2 _ _ e
    · exact c2 _ _ hc
end
section
variable {P : Program} {w : World} {K : PySem.W.Frag} {mg : Str → Option Value} {base : Heap} {N : List Str} {qual : Str} {scope : Scope} {f : Addr} {cd : Value} {A : Around} {outer : List Env} {s : Shared} {H : Hp} {E : XK}
def PassesX (X : Cx) (Ex : Value → St → Hp → Prop) : Prop := ∀ (pins : List (Addr × Obj)) (σ : St) (H : Hp) (s : Shared) (e : Value) (s' : Shared), Inv X pins σ H s → CXE X.prog X.w X.stack H s (fun c _ H' => Ex c σ H') e s' → X.xe e s'
theorem passE : PassesX (cxOf (CXE P w) P w K mg base N qual scope f cd A outer s H E) (fun c _ H' => E c none H') := by
  rintro pins σ H1 s1 e s' I ⟨a, C, a0, B, H', rfl, ho, hb, un, hok, fl, c1, c2, q⟩
  refine wpAny_leaves_onW (I.ok.frames) rfl fl fun h' fl' sm => ?_
  obtain ⟨u2, hok2, c0⟩ := leave_un I rfl un hok fl.1 fl'.1 sm c1 c2
  exact ⟨a, C, a0, B, H', rfl, ho.trans I.os, hb, u2, hok2, fl', c0, c2, q⟩
def tRaise (E : XK) (C : Addr) : TS := fun _ _ H => E (.ref C) none H
theorem own_of {K : PySem.W.Frag} {h : Heap} {C : Addr} {bmB : List Value} {newId : String} (X : K.In h) (q : PySem.W.excIn K C bmB newId = true) :
    ∃ bm N nm q bs hdct sn sub ab col dd k0 k1 k2 k3 k5 mN, h.get? C = some (excClassObj nm q C N bs bm hdct sn sub ab col dd k0 k1 k2 k3 k5 newId) ∧ h.Ns N mN ∧ mN "__init__" = none ∧ OwnTail h bmB bm := by
  unfold PySem.W.excIn at q
  split at q
  · rename_i dd cd sl ho
    split at q
    · rename_i C' bm k0 k1 k2 k3 n k5 hm hs
      simp only [Bool.and_eq_true, beq_iff_eq, Bool.not_eq_true'] at q
      obtain ⟨⟨⟨⟨⟨rfl, rfl⟩, hdel⟩, ht⟩, hok⟩, hni⟩ := q
      obtain ⟨nm, bs, mro, ns, qn, hd, sn, sub, ab, col, del⟩ := cd
      dsimp only at hm hdel hok hni
      subst hm hdel
      have hsl : sl = #[k0, k1, k2, k3, some (.builtin n), k5] := by
        obtain ⟨l⟩ := sl
        simp only at hs
        rw [hs]
      subst hsl
      exact ⟨bm, ns, nm, qn, bs, hd, sn, sub, ab, col, dd, k0, k1, k2, k3, k5, _, X _ _ ho, .of_isNs (PySem.W.isNs_of_in X hok), PySem.W.nsMap_none_of_in X hok hni, PySem.W.tail_of_in X ht⟩
    · cases q
  · cases q
abbrev bmV : List Value := [.type "ValueError", .type "Exception", .type "BaseException", .type "object"]
theorem funs_hide {base h : Heap} {as : List Addr} {l : List Env} (hl : h.FunFrames base l) (hin : ∀ b ∈ frs l, b ∈ as) : h.FunFrames (PySem.W.hideAll h as) l := by
  refine PySem.W.funFrames_hide hl fun env he a hf => hin a ?_
  exact List.mem_filterMap.mpr ⟨env, he, hf⟩
theorem ps_raise {C : Addr} {x : Str} {np cpos pos : PySem.Pos} {e₀ : Expr} {v : V} (hc : PySem.W.excIn K C bmV "ValueError.__new__" = true) (hd : A.handled = none) (hm : mg x = some (.ref C)) (he₀ : PE (cxOf (CXE P w) P w K mg base N qual scope f cd A outer s H E) e₀ (tC v))
    (hg : Gl (cxOf (CXE P w) P w K mg base N qual scope f cd A outer s H E) x)
    (he : starEach [e₀] (cxOf (CXE P w) P w K mg base N qual scope f cd A outer s H E).env = (false, eval e₀ (cxOf (CXE P w) P w K mg base N qual scope f cd A outer s H E).env) :: starEach [] (cxOf (CXE P w) P w K mg base N qual scope f cd A outer s H E).env := by rfl) (hdb : (x == ("__debug__" : Str)) = false := by decide) :
    PS (cxOf (CXE P w) P w K mg base N qual scope f cd A outer s H E) (.Raise (some (.Call (.Name x np) [e₀] [] cpos)) none pos) (tRaise E C) := by
  intro pins s1 σ H1 D I h
  obtain ⟨tl, NN, nm, q, bs, hdct, sn, sub, ab, col, dd, k0, k1, k2, k3, k5, mN, hC, hN, hni, T⟩ := own_of I.ok.mod.kin hc
  refine wpAny_Raise_call_subU (C := C) (nm := nm) (q := q) (N := NN) (bs := bs) (bm := tl) (hdct := hdct) (sn := sn) (sub := sub) (ab := ab) (col := col) (dd := dd) (k0 := k0) (k1 := k1) (k2 := k2) (k3 := k3) (k5 := k5)
    PySem.F.excBase_ValueError (by decide) PySem.F.excBase_ValueError (mN := mN) (T.hasType PySem.F.excBase_ValueError.hasBase) hd (by rw [he]; rfl) hni (ld_glob I hg hm ⟨rfl, ?_⟩ hdb)
  have hp : PA (cxOf (CXE P w) P w K mg base N qual scope f cd A outer s H E) [e₀] (tCons (tC v) tNil) := pa_cons he₀ pa_nil he
  have hs := hp cpos pins s1 σ H1 (fun vs H' => vs.length = 1 ∧ E (.ref C) none H') I ⟨rfl, h⟩
  rw [he] at hs ⊢
  refine Calls.evalArgs_plain (wpAny_mono hs (fun us s2 h2 => ?_) fun _ _ y => y)
  obtain ⟨vs, H2, I2, rv, l1, q2⟩ := h2
  have lu : us.length = 1 := by rw [← rv.length]; exact l1
  refine ⟨rfl, by rw [lu]; decide, I2.bk _ _ hC, hN.keeps I2.bk, T.keeps I2.bk, fun h3 e mk => ?_⟩
  have hin : ∀ b ∈ frs (cxOf (CXE P w) P w K mg base N qual scope f cd A outer s H E).stack, b ∈ frs (cxOf (CXE P w) P w K mg base N qual scope f cd A outer s H E).stack := fun b z => z
  refine wpAny_leaves_madeW (h := s2.heap) (base := PySem.W.hideAll s2.heap (frs (cxOf (CXE P w) P w K mg base N qual scope f cd A outer s H E).stack)) I2.ok.frames rfl (fun b o z => PySem.W.of_hideAll _ z) (funs_hide I2.stack hin) mk fun h' t fl _ _ sm => ?_
  have c1 : ∀ b o, s2.heap.get? b = some o → b ∉ frs (cxOf (CXE P w) P w K mg base N qual scope f cd A outer s H E).stack → ∃ o', (PySem.W.hideAll s2.heap (frs (cxOf (CXE P w) P w K mg base N qual scope f cd A outer s H E).stack)).get? b = some o' := fun b o z n => ⟨o, PySem.W.hideAll_get _ z n⟩
  have c2 : ∀ b o, H2 b = some o → ∃ o', (PySem.W.hideAll s2.heap (frs (cxOf (CXE P w) P w K mg base N qual scope f cd A outer s H E).stack)).get? b = some o' := fun b o z => by
    obtain ⟨o', e'⟩ := ObjOk.there (I2.hok b o z)
    exact c1 b o' e' fun n => by rw [I2.stkFree b n] at z; cases z
  obtain ⟨u2, hok2, c0⟩ := leave_un I2 rfl (Un.kept mk.keeps) (I2.hok.kept mk.keeps) (fun b o z => mk.keeps b o (PySem.W.of_hideAll _ z)) fl.1 sm c1 c2
  exact ⟨e, C, _, _, H2, rfl, I2.os, I2.bare, u2, hok2, fl, c0, c2, q2⟩
end
end L2
set_option Elab.async false
set_option linter.all false
set_option maxRecDepth 100000
set_option maxHeartbeats 1000000
namespace L2
open PySem PySem.Spec PyProof.Rows
structure KnX (P : Program) (w : World) (K : PySem.W.Frag) (mg : Str → Option Value) (base : Heap) (x : Str) (k : Nat) (ps : List Str) (sp : Sp) : Prop where
  ex : ∃ (f : Addr) (fd : FuncData), FnOk P w K mg base (CXE P w) k f fd ps sp ∧ mg x = some (.ref f) ∧ PySem.W.keepIn K (.ref f) = true ∧ Binds K fd ps []
def tCallX (sp : Sp) (Ex : Value → St → Hp → Prop) (t : TA) : TE := fun σ H Q => t σ H fun vs H1 => sp vs H1 Q (fun c _ H' => Ex c σ H')
theorem pe_callX {X : Cx} {x : Str} {k j : Nat} {ps : List Str} {sp : Sp} {e : Expr} {es : List Expr} {t : TA} {p pos : PySem.Pos} {Ex : Value → St → Hp → Prop} (G : KnX X.prog X.w X.K X.mg X.base x k ps sp) (px : PassesX X Ex) (hr : Room j X.A) (hg : Gl X x) (ha : PA X (e :: es) t) (hle : k ≤ j := by decide)
    (hdb : (x == ("__debug__" : Str)) = false := by decide)
    (he : starEach (e :: es) X.env = (false, eval e X.env) :: starEach es X.env := by rfl) (hpl : (backTo pos (starEach es X.env)).any (·.1) = false := by rfl) : PE X (.Call (.Name x p) (e :: es) [] pos) (tCallX sp Ex t) := by
  obtain ⟨f, fd, F, hm, hk, hb⟩ := G.ex
  intro pins s σ H Q I h
  refine wpAny_Call_Name_kw (ld_glob I hg hm ?_ hdb)
  refine PySem.W.callWith_K (h₀ := X.base) I.ok.mod.kin hk (thn (ha pos pins s σ H _ I h) fun us s1 ⟨vs, H1, I1, r, q⟩ => ⟨I1.kIn, ?_⟩) he hpl
  have hl : us.length = ps.length := by rw [← r.length]; exact F.len _ _ _ _ q
  have hb1 := hb s1 us I1.kIn (by rw [List.append_nil]; exact hl)
  rw [List.append_nil] at hb1
  refine wpAny_call (codeAny_mono (F.run X.A X.stack s1 H1 ⟨us, []⟩ us vs Q (fun c _ H' => Ex c σ H') (hr.mono hle) I1.env0 hb1 r q) fun r s' hq => ?_)
  cases r with
  | error e => exact px pins σ H1 s1 e s' I1 hq
  | ok fl =>
    cases fl with
    | ret u => exact I1.after hq
    | next => exact False.elim hq
    | brk => exact False.elim hq
    | cont => exact False.elim hq
theorem Fun.okX {P : Program} {w : World} {K : PySem.W.Frag} {mg : Str → Option Value} {base : Heap} {x qual : Str} {st : Stmt} {f : Addr} {fd : FuncData} {N ps : List Str} {k : Nat} {sp : Sp} (F : Fun K x qual st f fd) (S : FnScope N ps (defScope st)) (len : ∀ vs H Q E, sp vs H Q E → vs.length = ps.length)
    (hbody : ∀ (cdv : Value) (A : Around) (outer : List Env) (s : Shared) (H : Hp) (vs : List V) (Q : VK) (E : XK), A.handled = none → Room k (A.deeper (envOfC qual (defScope st) s.heap.objs.size f cdv)) → sp vs H Q E →
      ∃ t, PSs (cxOf (CXE P w) P w K mg base N qual (defScope st) f cdv A outer s H E) (defBody st) t ∧ t { nx := fun _ H' => Q .non H', rt := Q } (start N vs) H) : FnOk P w K mg base (CXE P w) (k + 1) f fd ps sp := by
  obtain ⟨oc, od, kV, doc, pm, an, cdv, ct, osl, rfl, lk, hcd⟩ := F.ex
  exact fn_of lk hcd S len fun A outer s H vs Q E hr hsp => hbody cdv A outer s H vs Q E hr.hd hr hsp
theorem PS.nox {X : Cx} {st : Stmt} {t : TS} (h : PS X.nox st t) : PS X st t := fun pins s σ H D I hw =>
  wpAny_mono (h pins s σ H D (I.wish _) hw) (fun _ _ q => q.unwish) fun _ _ z => False.elim z
theorem flown {P : Program} {w : World} {fs : List Addr} {H1 H' : Hp} {h1 hs h' B : Heap} (un : Un fs [] H1 H' h1 hs) (hok : HOk P w H' hs) (b1 : B.StaysIn hs) (b2 : B.StaysIn h') (sm : hs.UpToSlots h')
    (c1 : ∀ b o, h1.get? b = some o → b ∉ fs → ∃ o', B.get? b = some o') (c2 : ∀ b o, H' b = some o → ∃ o', B.get? b = some o') (ff : ∀ b ∈ fs, H1 b = none ∧ ∃ o, h1.get? b = some o ∧ ∀ vs, o.data ≠ .fields vs) : Un fs [] H1 H' h1 h' ∧ HOk P w H' h' := by
  have same : ∀ b o, hs.get? b = some o → (∃ o', B.get? b = some o') → h'.get? b = some o := fun b o e ⟨o', q⟩ => by
    have := b1 b o' q
    rw [e] at this
    cases this
    exact b2 b _ q
  have frm : ∀ b ∈ fs, ∀ o, hs.get? b = some o → ∃ sl, h'.get? b = some { o with slots := sl } := fun b hb o e => by
    obtain ⟨hn, o0, e0, hd⟩ := ff b hb
    obtain ⟨sl, e1⟩ := un.slot b o0 e0 hn hb (by simp)
    rw [e] at e1
    cases e1
    exact sm b _ e hd
  refine ⟨⟨fun b o e n hb _ => ?_, fun b o e n hb _ => ?_, un.free, fun b o e _ => ?_, un.tups, un.frzs, un.tbls⟩, fun b u' e => ?_⟩
  · exact same b o (un.keep b o e n hb (by simp)) (c1 b o e hb)
  · obtain ⟨sl, e1⟩ := un.slot b o e n hb (by simp)
    obtain ⟨sl', e2⟩ := frm b hb _ e1
    exact ⟨sl', e2⟩
  · obtain ⟨o1, e1⟩ := un.there b o e (by simp)
    by_cases hb : b ∈ fs
    · obtain ⟨sl, e2⟩ := frm b hb _ e1
      exact ⟨_, e2⟩
    · exact ⟨o1, same b o1 e1 (c1 b o e hb)⟩
  · refine (hok b u' e).stay (fun c v hc r => same c v r ?_) (fun _ q => q) fun _ _ q => q
    rcases hc with rfl | hc
    · exact c2 _ _ e
    · exact c2 _ _ hc
abbrev Cx.tried (X : Cx) (pins : List (Addr × Obj)) (xe : Value → Shared → Prop) : Cx := { X with pn := X.pn ++ pins, xe := xe }
abbrev Cx.suite (X : Cx) (a : Addr) (oe : Obj) : Cx := { X with A := X.A.mark (some (.ref a)), calm := false, pn := X.pn ++ [(a, oe)], xe := fun _ _ => False }
section
variable {X : Cx} {pins : List (Addr × Obj)} {σ : St} {H : Hp} {s : Shared} {xe : Value → Shared → Prop}
theorem Cx.Ok.tried (ok : X.Ok) : (X.tried pins xe).Ok := ⟨ok.mod, ok.kind, ok.glob, ok.blt, ok.above, ok.inj, ok.has, ok.cab, ok.hd, ok.frames, ok.stk, ok.exf, ok.bs, ok.bsz, ok.noex, ok.exfs, ok.funs, ok.frf⟩
theorem Cx.Ok.untried (ok : (X.tried pins xe).Ok) : X.Ok := ⟨ok.mod, ok.kind, ok.glob, ok.blt, ok.above, ok.inj, ok.has, ok.cab, ok.hd, ok.frames, ok.stk, ok.exf, ok.bs, ok.bsz, ok.noex, ok.exfs, ok.funs, ok.frf⟩
theorem Inv.tried (I : Inv X pins σ H s) : Inv (X.tried pins xe) [] σ H s := ⟨I.ok.tried, I.os, I.bare, I.base, I.loc, I.cell, I.free, I.freeC, fun p hp => I.pin p (by simpa using hp), I.hok, I.len⟩
theorem Inv.untried {pins' : List (Addr × Obj)} (I : Inv (X.tried pins xe) pins' σ H s) : Inv X pins σ H s := ⟨I.ok.untried, I.os, I.bare, I.base, I.loc, I.cell, I.free, I.freeC, fun p hp => I.pin p (List.mem_append_left _ hp), I.hok, I.len⟩
theorem SP.untried {D : Ends} {f : Flow} {s' : Shared} {pins' : List (Addr × Obj)} (h : SP (X.tried pins xe) pins' D f s') : SP X pins D f s' := by
  cases f with
  | next => obtain ⟨σ', H', I, q⟩ := h; exact ⟨σ', H', I.untried, q⟩
  | brk => obtain ⟨σ', H', I, q⟩ := h; exact ⟨σ', H', I.untried, q⟩
  | cont => obtain ⟨σ', H', I, q⟩ := h; exact ⟨σ', H', I.untried, q⟩
  | ret u => obtain ⟨v, σ', H', I, r, q⟩ := h; exact ⟨v, σ', H', I.untried, r, q⟩
theorem Cx.Ok.suite {a : Addr} {oe : Obj} (ok : X.Ok) : (X.suite a oe).Ok := ⟨ok.mod, ok.kind, ok.glob, ok.blt, ok.above, ok.inj, ok.has, ok.cab, fun z => (nomatch z), ok.frames, ok.stk, ok.exf, ok.bs, ok.bsz, ok.noex, ok.exfs, ok.funs, ok.frf⟩
theorem Inv.suite {a : Addr} {oe : Obj} (I : Inv X pins σ H s) (ha : s.heap.get? a = some oe) (hn : H a = none) (hl : a ≠ X.env.locals) (hf : a ∉ X.fs) (hc : ∀ v, oe.data ≠ .cell v) : Inv (X.suite a oe) pins σ H s :=
  ⟨I.ok.suite, I.os, I.bare, I.base, I.loc, I.cell, I.free, I.freeC, fun p hp => by
    have hp : p ∈ X.pn ++ [(a, oe)] ++ pins := hp
    rcases List.mem_append.mp hp with hp | hp
    · rcases List.mem_append.mp hp with hp | hp
      · exact I.pin p (List.mem_append_left _ hp)
      · rcases List.mem_singleton.mp hp with rfl
        exact ⟨ha, hn, hl, hf, hc⟩
    · exact I.pin p (List.mem_append_right _ hp), I.hok, I.len⟩
theorem Inv.unsuite {a : Addr} {oe : Obj} (ok : X.Ok) (I : Inv (X.suite a oe) pins σ H s) : Inv X pins σ H s :=
  ⟨ok, I.os, I.bare, I.base, I.loc, I.cell, I.free, I.freeC, fun p hp => I.pin p (by
    rcases List.mem_append.mp hp with hp | hp
    · exact List.mem_append_left _ (List.mem_append_left _ hp)
    · exact List.mem_append_right _ hp), I.hok, I.len⟩
theorem Inv.gone {h' : Heap} {m' : Str → Option Value} {t' : Nat} (I : Inv X pins σ H s) (hn : h'.Ns X.env.locals m') (hs : Heap.SameBut X.env.locals s.heap h') : Inv X pins (List.replicate X.N.length none) H { s with heap := h', toks := t' } := by
  obtain ⟨m, hm, _⟩ := id I.loc
  obtain ⟨oL, _, _, hoL, _⟩ := id hm
  have cne := I.cne
  refine ⟨I.ok, I.os, I.bare, ⟨fun b o e n hb hx => ?_, fun b o e n hb hx => ?_, I.base.free, fun b o e hx => ?_, I.base.tups, I.base.frzs, I.base.tbls⟩, ⟨m', hn, fun j y v' e1 e2 e3 => ?_⟩, fun y c e => ?_, I.free, I.freeC, fun p hp => ?_, fun b ob e => ?_, by simp⟩
  · exact (hs.2 b (Nat.ne_of_lt (Nat.lt_of_lt_of_le (Heap.lt_size e) I.ok.above))).trans (I.base.keep b o e n hb hx)
  · obtain ⟨sl, e1⟩ := I.base.slot b o e n hb hx
    exact ⟨sl, (hs.2 b (Nat.ne_of_lt (Nat.lt_of_lt_of_le (Heap.lt_size e) I.ok.above))).trans e1⟩
  · obtain ⟨o', e1⟩ := I.base.there b o e hx
    exact ⟨o', (hs.2 b (Nat.ne_of_lt (Nat.lt_of_lt_of_le (Heap.lt_size e) I.ok.above))).trans e1⟩
  · rw [List.getElem?_replicate] at e2
    split at e2 <;> cases e2
  · obtain ⟨w', z⟩ := I.cell y c e
    exact ⟨w', z.sameBut hs (cne y c e)⟩
  · obtain ⟨e, n, ne, nf, d⟩ := I.pin p hp
    exact ⟨(hs.2 p.1 ne).trans e, n, ne, nf, d⟩
  · refine (I.hok b ob e).stay (fun c w' hc q => (hs.2 c ?_).trans q) (fun _ q => q) fun _ _ q => q
    rintro rfl
    rcases hc with rfl | hc
    · rw [I.free] at e; cases e
    · rw [I.free] at hc; cases hc
end
end L2
set_option Elab.async false
set_option linter.all false
set_option maxRecDepth 100000
set_option maxHeartbeats 1000000
namespace L2
open PySem PySem.Spec PyProof.Rows
theorem x_matches {M : Model} {A : Around} {E : Value → Shared → Prop} {K : PySem.W.Frag} {h : Heap} {g : Array GenState} {d : Drawn} {t : Nat} {os : OsState} {a C C' : Addr} {oe : Obj} {Q : Bool → Shared → Prop} (X : K.In h) (c : XCls K C') (he : h.get? a = some oe) (hcls : oe.cls = .ref C)
    (hsub : PySem.W.subIn K (.ref C) (.ref C') = some true) (hq : Q true ⟨h, g, d, t, os⟩) : wpAny M A (excMatches (.ref a) (.ref C')) Q E ⟨h, g, d, t, os⟩ := by
  have l1 : PySem.W.Looks M h (typeOf (.ref C')) (.type "type") := PySem.W.looks_typeIn X c.ty
  have l2 : PySem.W.Looks M h (isSubtype (.ref C') (.type "BaseException")) true := PySem.W.looks_subIn X c.be
  have l3 : PySem.W.Looks M h (typeOf (.ref a)) (.ref C) := hcls ▸ (PySem.W.Looks.ld he).andThen .now
  have l4 : PySem.W.Looks M h (isSubtype (.ref C) (.ref C')) true := PySem.W.looks_subIn X hsub
  have f := tc_notTuple
  have z := c.co
  unfold PySem.W.clsIn at z
  split at z
  · rename_i c' d' cd' sl' ho
    have hC := X _ _ ho
    unfold excMatches isInstance isExcClass
    repeat (first | with_reducible refine l1.at ?_ | with_reducible refine l2.at ?_ | with_reducible refine l3.at ?_ | with_reducible refine l4.at ?_ | with_reducible refine wpAny_loadPart_at hC ?_ | wp_step)
    exact hq
  · cases z
def endsAs (n : Nat) (D : Ends) : Ends := { nx := fun _ H => D.nx (List.replicate n none) H, rt := D.rt, bk := fun _ H => D.bk (List.replicate n none) H, ct := fun _ H => D.ct (List.replicate n none) H }
def tTry (K : PySem.W.Frag) (n i : Nat) (C' : Addr) (tb : (Value → St → Hp → Prop) → TS) (ts : Addr → Addr → TS) : TS := fun D σ H =>
  tb (fun c σ' H' => ∃ C, c = .ref C ∧ PySem.W.subIn K (.ref C) (.ref C') = some true ∧ ∀ a, H' a = none → ts C a (endsAs n D) (σ'.set i (some (.ref a))) H') D σ H
theorem frs_mem {X : Cx} {pins : List (Addr × Obj)} {σ : St} {H : Hp} {s : Shared} (I : Inv X pins σ H s) : ∀ b ∈ frs X.stack, H b = none ∧ ∃ o, s.heap.get? b = some o ∧ ∀ vs, o.data ≠ .fields vs := fun b hb => ⟨I.stkFree b hb, (I.stack.mem hb).2⟩
theorem ps_try {X : Cx} {x n : Str} {i : Nat} {C' : Addr} {np hp pos : PySem.Pos} {body : List Stmt} {b₀ : Stmt} {suite : List Stmt} {tb : (Value → St → Hp → Prop) → TS} {ts : Addr → Addr → TS} (hN : X.N.Nodup) (hi : X.N[i]? = some n) (hloc : X.env.scope.names.lookup n = some .local)
    (hst : X.stack = X.env :: X.outer) (hfr : X.env.frame = some X.env.locals) (hm : X.mg x = some (.ref C')) (hg : Gl X x) (hcl : XCls X.K C')
    (hb : ∀ pins xe Ex, PassesX (X.tried pins xe) Ex → PSs (X.tried pins xe) body (tb Ex))
    (hs : ∀ (C a : Addr) (oe : Obj), oe.cls = .ref C → PSs (X.suite a oe) (b₀ :: suite) (ts C a)) (hdb : (x == ("__debug__" : Str)) = false := by decide) :
    PS X (.Try body [.ExceptHandler (some (.Name x np)) (some n) (b₀ :: suite) hp] [] [] pos) (tTry X.K X.N.length i C' tb ts) := by
  intro pins s σ H D I h
  refine wpAny_Try_except ?_
  refine wpAny_mono (hb pins _ _ ?_ [] s σ H D I.tried h) (fun f s1 q => ?_) fun e s1 q => q
  · rintro pins' σ1 H1 s1 e s' I1 ⟨a, C, a0, B, H', rfl, ho, hbare, un, hok, fl, c1, c2, C0, ec, hsub, q⟩
    cases ec
    have ff := frs_mem I1
    refine wpAny_looks_onW (by rw [← hst]; exact I1.ok.frames) hfr (by rw [← hst]; exact fl) fun h4 held4 sm4 => ?_
    refine wpAny_landsW held4 fun h5 fl5 sm5 => ?_
    obtain ⟨u5, hok5⟩ := flown un hok fl.1 fl5.1 (sm4.trans sm5) c1 c2 ff
    have J5 : Inv X pins σ1 H' { s' with heap := h5 } := (I1.call' (s' := { s' with heap := h5 }) ho u5 hok5 hbare (fun b z => nomatch z)).untried
    obtain ⟨oe5, he5, hc5⟩ := fl5.there
    refine wpAny_handleBy_cons (codeAny_handlers_test ?_) (by intro q; cases q)
    refine Calls.Name_function_global J5.ok.kind hg (Calls.loadGlobal_global (by rw [J5.ok.glob]; exact J5.mod.glob.keeps J5.bk) hm ?_) hdb
    refine x_matches J5.kIn hcl he5 hc5 hsub (codeAny_handlers_suite_as ?_)
    refine lands_againW fl5 fun h6 fl6 sm6 => ?_
    obtain ⟨u6, hok6⟩ := flown un hok fl.1 fl6.1 ((sm4.trans sm5).trans sm6) c1 c2 ff
    have J6 : Inv X pins σ1 H' { s' with heap := h6 } := (I1.call' (s' := { s' with heap := h6 }) ho u6 hok6 hbare (fun b z => nomatch z)).untried
    obtain ⟨oe, vs, T, oT, tss, he, ⟨hc, h0⟩, hd, _⟩ := fl6.2.2.2
    have hna : H' a = none := by
      cases z : H' a with
      | none => rfl
      | some o =>
        obtain ⟨o', e'⟩ := c2 a o z
        rw [fl.2.1] at e'
        cases e'
    have nfr : a ∉ frs X.stack := fun z => by
      obtain ⟨_, o, e, nd⟩ := frs_mem J6 a z
      rw [he] at e
      cases e
      exact nd _ hd
    have nl : a ≠ X.env.locals := fun z => nfr (by rw [hst]; unfold frs; rw [List.filterMap_cons, hfr, z]; exact List.mem_cons_self)
    have nfs : a ∉ X.fs := fun z => nfr (by
      rw [hst]; unfold frs; rw [List.filterMap_cons, hfr]; exact List.mem_cons_of_mem _ z)
    have J7 : Inv (X.suite a oe) pins σ1 H' { s' with heap := h6 } := J6.suite he hna nl nfs (fun v z => by rw [hd] at z; cases z)
    refine store_ok (X := X.suite a oe) (i := i) (v := .ref a) J7 hN hi (.inl hloc) rfl (fun s7 J8 => ?_) (.inr hloc)
    refine wpAny_mono (hs C a oe hc pins s7 (σ1.set i (some (.ref a))) H' (endsAs X.N.length D) J8 (q a hna)) (fun f s8 r8 => ?_) fun e s8 z => False.elim z
    have fin : ∀ {σ8 : St} {H8 : Hp}, Inv (X.suite a oe) pins σ8 H8 s8 → (∀ s9, Inv X pins (List.replicate X.N.length none) H8 s9 → SP X pins D f s9) → wpAny (model X.prog X.w) X.A (do bindName X.env n .none; unbindBehindTheSuite X.env n hp) (fun _ s9 => SP X pins D f s9) X.xe s8 := fun {σ8 H8} J k => by
      obtain ⟨m, hn, _⟩ := J.loc
      refine wpAny_nameGoes hloc hn (by rw [show X.env.scope.kind = .function from J.ok.kind]; rfl) fun h' m' hn' hs' => k _ ?_
      exact (J.unsuite J6.ok).gone hn' hs'
    cases f with
    | next => obtain ⟨σ8, H8, J, r⟩ := r8; exact fin J fun s9 J9 => ⟨_, _, J9, r⟩
    | brk => obtain ⟨σ8, H8, J, r⟩ := r8; exact fin J fun s9 J9 => ⟨_, _, J9, r⟩
    | cont => obtain ⟨σ8, H8, J, r⟩ := r8; exact fin J fun s9 J9 => ⟨_, _, J9, r⟩
    | ret u => obtain ⟨v, σ8, H8, J, rv, r⟩ := r8; exact fin J fun s9 J9 => ⟨v, _, _, J9, rv, r⟩
  · cases f with
    | next => exact wpAny_execs_nil (SP.untried q)
    | brk => exact SP.untried q
    | cont => exact SP.untried q
    | ret u => exact SP.untried q
end L2
set_option Elab.async false
set_option linter.all false
set_option maxRecDepth 100000
set_option maxHeartbeats 1000000
namespace L2
open PySem PySem.Spec PyProof.Rows
def rIsi (K : PySem.W.Frag) (C a : Addr) : List V → Hp → VK → Prop := fun xs H Q => XCls K C ∧ ∃ b, ((∃ C2, xs = [.ref a, .ref C2] ∧ XCls K C2 ∧ PySem.W.subIn K (.ref C) (.ref C2) = some b) ∨ (∃ T, xs = [.ref a, .ty T] ∧ PySem.W.kitMeta T = true ∧ PySem.W.subIn K (.ref C) (.type T) = some b) ∨
  (∃ (tp : Addr) (Cs : List Addr), xs = [.ref a, .ref tp] ∧ H tp = some (.tup (Cs.map V.ref)) ∧ (∀ c ∈ Cs, XCls K c) ∧ (∀ c ∈ Cs, PySem.W.subIn K (.ref C) (.ref c) = some false) ∧ b = false)) ∧ Q (.bl b) H
theorem kitOne_own {K : PySem.W.Frag} {C C2 : Addr} {b : Bool} (c : XCls K C) (c2 : XCls K C2) (h : PySem.W.subIn K (.ref C) (.ref C2) = some b) : PySem.W.kitOne K (.ref C) (.ref C2) = some b := by
  unfold PySem.W.kitOne
  by_cases q : C = C2
  · subst q
    rw [c.rf] at h
    cases h
    rw [if_pos (by simp)]
  · rw [if_neg (by simpa using q)]
    unfold PySem.W.kitCls
    dsimp only
    rw [if_pos (by rw [c2.co, c2.ty]; rfl)]
    exact h
theorem kitAny_own {K : PySem.W.Frag} {C : Addr} (c : XCls K C) : ∀ {Cs : List Addr}, (∀ x ∈ Cs, XCls K x) → (∀ x ∈ Cs, PySem.W.subIn K (.ref C) (.ref x) = some false) → PySem.W.kitAny K (.ref C) (Cs.map Value.ref) = some false
  | [], _, _ => rfl
  | x :: r, h1, h2 => by
    show PySem.W.kitAny K (.ref C) (Value.ref x :: r.map Value.ref) = some false
    unfold PySem.W.kitAny
    rw [kitOne_own c (h1 x List.mem_cons_self) (h2 x List.mem_cons_self)]
    exact kitAny_own c (fun y hy => h1 y (List.mem_cons_of_mem _ hy)) fun y hy => h2 y (List.mem_cons_of_mem _ hy)
theorem vals_cls : ∀ {Cs : List Addr} {us : List Value}, Vals (Cs.map V.ref) us → us = Cs.map Value.ref
  | [], us, h => by cases h; rfl
  | c :: r, us, h => by
    cases h with
    | cons r1 r2 =>
      cases (show _ = Value.ref c from r1)
      rw [vals_cls r2]
      rfl
theorem call_isiX {X : Cx} {a C : Addr} {oe : Obj} {K : PySem.W.Frag} (hoe : oe.cls = .ref C) (hK : X.K = K := by rfl) : CallR (X.suite a oe) (.builtin "isinstance") (rIsi K C a) := by
  subst hK
  intro pins s σ H xs us Q I r h
  obtain ⟨c, b, h, q⟩ := h
  have he : s.heap.get? a = some oe := (I.pin (a, oe) (List.mem_append_left _ (List.mem_append_right _ (List.mem_singleton.mpr rfl)))).1
  have hx : Value.ref a ≠ .builtin "__main__.__loader__#opaque" := fun z => nomatch z
  have fin : ∀ tk, EP (X.suite a oe) pins σ Q (.bool b) { s with toks := tk } := fun tk => ⟨.bl b, H, I.tok _, rfl, q⟩
  rcases h with ⟨C2, rfl, c2, e⟩ | ⟨T, rfl, hm, e⟩ | ⟨tp, Cs, rfl, ht, h1, h2, rfl⟩
  · obtain ⟨u, v, rfl, r1, r2⟩ := vals2 r
    cases (show u = Value.ref a from r1)
    cases (show v = Value.ref C2 from r2)
    exact PySem.W.kia_one (kitx_exc c) I.kIn ⟨oe, he, hoe⟩ (kitOne_own c c2 e) hx fin
  · obtain ⟨u, v, rfl, r1, r2⟩ := vals2 r
    cases (show u = Value.ref a from r1)
    cases (show v = Value.type T from r2)
    refine PySem.W.kia_one (kitx_exc c) I.kIn ⟨oe, he, hoe⟩ ?_ hx fin
    unfold PySem.W.kitOne PySem.W.kitCls
    rw [if_neg (by simp)]
    dsimp only
    rw [if_pos hm]
    exact e
  · obtain ⟨u, v, rfl, r1, r2⟩ := vals2 r
    cases (show u = Value.ref a from r1)
    cases (show v = Value.ref tp from r2)
    obtain ⟨_, its, rv, ob, h3, h4, n, h5⟩ := (show ObjOk X.prog X.w H s.heap tp (.tup (Cs.map V.ref)) from I.hok tp _ ht)
    obtain rfl := vals_cls rv
    obtain ⟨oc, od, odt, osl⟩ := ob
    cases h4
    cases h5
    exact PySem.W.kia_tup (kitx_exc c) I.kIn ⟨oe, he, hoe⟩ h3 (kitAny_own c h1 h2) hx fin
end L2
namespace L2
open PySem PySem.Spec PyProof.Rows
theorem passN {X : Cx} : PassesX X (fun _ _ _ => False) := by
  rintro pins σ H1 s1 e s' I ⟨a, C, a0, B, H', rfl, ho, hb, un, hok, fl, c1, c2, q⟩
  exact q.elim
end L2
set_option Elab.async false
set_option linter.all false
set_option maxRecDepth 100000
set_option maxHeartbeats 1000000
set_option Elab.async false
set_option linter.all false
set_option maxRecDepth 100000
set_option maxHeartbeats 1000000
namespace L2
open PySem PySem.Spec PyProof.Rows
section
variable {X : Cx}
theorem op_catTKz {K : PySem.W.Frag} (hK : X.K = K := by rfl) : OpR X (binaryOp .Add) (rCatT K) := by subst hK; exact op_catT
end
end L2
set_option Elab.async false
set_option linter.all false
set_option maxRecDepth 100000
set_option maxHeartbeats 1000000
namespace L2
open PySem PySem.Spec PyProof.Rows
theorem perm_uniB {α : Type} {lt : α → α → Bool} (tot : ∀ {x y : α}, lt x y = false → lt y x = false → x = y) : ∀ (a b : List α), a.Perm b → a.Pairwise (fun x y => lt y x = false) → b.Pairwise (fun x y => lt y x = false) → a = b
  | [], b, p, _, _ => p.nil_eq
  | x :: a, [], p, _, _ => absurd p.length_eq (by simp)
  | x :: a, y :: b, p, h1, h2 => by
    obtain ⟨u1, u2⟩ := List.pairwise_cons.mp h1
    obtain ⟨v1, v2⟩ := List.pairwise_cons.mp h2
    have e : x = y := by
      have m1 : x ∈ y :: b := p.subset List.mem_cons_self
      have m2 : y ∈ x :: a := p.symm.subset List.mem_cons_self
      rcases List.mem_cons.mp m1 with q | q
      · exact q
      rcases List.mem_cons.mp m2 with r | r
      · exact r.symm
      exact tot (v1 x q) (u1 y r)
    subst e
    rw [perm_uniB tot a b p.cons_inv u2 v2]
end L2
set_option Elab.async false
set_option linter.all false
set_option maxRecDepth 100000
set_option maxHeartbeats 1000000
namespace L2
open PySem PySem.Spec PyProof.Rows
def pc (p : Nat × Nat) : List Int := [(p.1 : Int), (p.2 : Int)]
end L2
set_option Elab.async false
set_option linter.all false
set_option maxRecDepth 100000
set_option maxHeartbeats 1000000
namespace L2
open PySem PySem.Spec PyProof.Rows
theorem ixN_nat {n j : Nat} (h : j < n) : ixN n (j : Int) = some j := by
  unfold ixN
  rw [if_pos (by omega)]
  first
    | (rw [if_pos (by omega)]; simp)
    | (simp; omega)
end L2
set_option Elab.async false
set_option linter.all false
set_option maxRecDepth 100000
set_option maxHeartbeats 1000000
set_option Elab.async false
set_option linter.all false
set_option maxRecDepth 100000
set_option maxHeartbeats 1000000
namespace L2
open PySem PySem.Spec PyProof.Rows
def spTiesZ (K : PySem.W.Frag) : Sp := fun vs H Q _ => ∃ (a : Addr) (xs : List V), vs = [.ref a] ∧ SqL K H a xs ∧ Q (.int ((xs.length / 2 * 3 : Nat) : Int)) H
end L2
set_option Elab.async false
set_option linter.all false
set_option maxRecDepth 100000
set_option maxHeartbeats 1000000
namespace L2
open PySem PySem.Spec PyProof.Rows
section
variable {X : Cx}
theorem int_items : ∀ {ns : List Int} {its : List Value}, Vals (ns.map V.int) its → ∃ ps : List (Int × Tok), its = ps.map (fun p => Value.int p.1 p.2) ∧ ps.map (·.1) = ns
  | [], its, r => by cases r; exact ⟨[], rfl, rfl⟩
  | n :: ns, its, r => by
    cases r with
    | cons a b =>
      obtain ⟨t, rfl⟩ := a
      obtain ⟨ps, rfl, e⟩ := int_items b
      exact ⟨(n, t) :: ps, rfl, by rw [List.map_cons, e]⟩
theorem call_maxL (hc : X.calm = true) : CallR X (.builtin "max") (fun xs H Q => ∃ (p : Addr) (ns : List Int), xs = [.ref p] ∧ SqL X.K H p (ns.map V.int) ∧ ns ≠ [] ∧ ∀ m ∈ ns, (∀ n ∈ ns, n ≤ m) → Q (.int m) H) := by
  intro pins s σ H xs us Q I r h
  obtain ⟨p, ns, rfl, hq, ne, q⟩ := h
  obtain ⟨u, rfl, rx⟩ := vals1 r
  cases rx
  obtain ⟨its, rv, pl, hz⟩ := I.list hq
  obtain ⟨ps, rfl, e⟩ := int_items rv
  have hl := pl.isList
  have ei : (ps.map (fun p => Value.int p.1 p.2)).toArray = intItems ps.toArray := by simp [intItems]
  rw [ei] at hl
  have pn : 0 < ps.length := by
    cases ps with
    | nil => exact absurd e.symm ne
    | cons a b => simp
  have at1 : ∀ j, j < ps.length → ns[j]? = some (numAt ps.toArray j) := fun j hj => by
    rw [← e, List.getElem?_map, List.getElem?_eq_getElem hj]
    simp [numAt, hj]
  refine max_intList (I.ok.hd hc) hl (by simpa using pn) fun v h' tk hv hk => ?_
  obtain ⟨t, rfl⟩ := intItems_at hv
  obtain ⟨b1, b2⟩ := argBest_gt (numAt ps.toArray) (ps.toArray.size - 1)
  generalize argBest (fun i' j' => decide (numAt ps.toArray i' > numAt ps.toArray j')) (ps.toArray.size - 1) = k at b1 b2 ⊢
  rw [List.size_toArray] at b1 b2
  refine ⟨.int _, H, I.kept hk, ⟨t, rfl⟩, q _ (List.mem_of_getElem? (at1 k (by omega))) fun n hn => ?_⟩
  obtain ⟨j, hj⟩ := List.mem_iff_getElem?.mp hn
  have jl : j < ps.length := by
    have := (List.getElem?_eq_some_iff.mp hj).1
    rw [← e, List.length_map] at this
    exact this
  rw [at1 j jl] at hj
  cases hj
  exact b2 j (by omega)
end
end L2
set_option Elab.async false
set_option linter.all false
set_option maxRecDepth 100000
set_option maxHeartbeats 1000000
namespace L2
open PySem PySem.Spec PyProof.Rows
def spMay (K : PySem.W.Frag) : Sp := fun vs H Q _ => ∃ (p : Addr) (a b c : Int), vs = [.ref p] ∧ SqL K H p ([a, b, c].map V.int) ∧ (a + b + c) % 2 = 0 ∧ a ≤ b + c ∧ b ≤ a + c ∧ c ≤ a + b ∧ Q (.bl true) H
def tMay (K : PySem.W.Frag) : TS := tRet (tAndV (tOp rEq (tOp (rI (fun x j => 0 < j) fun i j => V.int (i % j)) (tCB (fun xs H_1 Q => ∃ p ns, xs = [V.ref p] ∧ SqL K H_1 p (List.map V.int ns) ∧ Q (V.int ns.sum) H_1) (tCons (tVar 0) tNil)) (tC (V.int 2))) (tC (V.int 0))) (tOp (rI0 fun i j => V.bl (decide (i ≤ j))) (tOp (rI CMul fun i j => V.int (i * j)) (tC (V.int 2)) (tCB (fun xs H_1 Q => ∃ p ns, xs = [V.ref p] ∧ SqL K H_1 p (List.map V.int ns) ∧ ns ≠ [] ∧ ∀ (m : Int), m ∈ ns → (∀ (n : Int), n ∈ ns → n ≤ m) → Q (V.int m) H_1) (tCons (tVar 0) tNil))) (tCB (fun xs H_1 Q => ∃ p ns, xs = [V.ref p] ∧ SqL K H_1 p (List.map V.int ns) ∧ Q (V.int ns.sum) H_1) (tCons (tVar 0) tNil))))
theorem may_reads {K : PySem.W.Frag} {H : Hp} {Q : VK} {Z : L2.St → Hp → Prop} {p : Addr} {a b c : Int} (hp : SqL K H p ([a, b, c].map V.int)) (h0 : (a + b + c) % 2 = 0) (h1 : a ≤ b + c) (h2 : b ≤ a + c) (h3 : c ≤ a + b) (k : Q (.bl true) H) : tMay K { nx := Z, rt := Q } [some (.ref p)] H := by
  have es : [a, b, c].sum = a + b + c := by simp; omega
  refine ⟨_, rfl, p, [a, b, c], rfl, hp, _, 2, rfl, rfl, (by show (0 : Int) < 2; decide), rfl, true, ?_, iteT ⟨_, rfl, p, [a, b, c], rfl, hp, by simp, fun m hm hle => ⟨2, m, rfl, rfl, .inl ⟨by decide, by decide⟩, _, rfl, p, [a, b, c], rfl, hp, _, _, rfl, rfl, ?_⟩⟩⟩
  · show V.bl (decide (V.int ([a, b, c].sum % 2) = V.int 0)) = V.bl true
    rw [es, h0]
    rfl
  · show Q (V.bl (decide (2 * m ≤ [a, b, c].sum))) H
    rw [es, decide_eq_true]
    · exact k
    · simp only [List.mem_cons, List.not_mem_nil, or_false] at hm
      rcases hm with rfl | rfl | rfl <;> omega
def spFromZ : Sp := fun vs H Q _ => ∃ i l : Int, vs = [.int i, .int l] ∧ Q (.bl (decide (l ≤ i))) H
def spCrossZ : Sp := fun vs H Q _ => ∃ (q c : Addr) (t r : List Int), vs = [.ref q, .ref c] ∧ H q = some (.tup (t.map V.int)) ∧ H c = some (.lst (r.map V.int)) ∧ t.length ≤ 10 ∧ (∀ s ∈ t, 1 ≤ absI s ∧ r[(absI s - 1).toNat]? = some (crs r s)) ∧ ∀ l, H l = none → Q (.ref l) (upd H l (.lst ((t.map (crs r)).map V.int)))
def spIsRow : Sp := fun vs H Q _ => ∃ (s o : Addr) (xs : List V) (S : List (List Int)) (r : List Int), vs = [.ref s, .ref o] ∧ H s = some (.lst xs) ∧ TuL H xs S ∧ ShOk S ∧ H o = some (.lst (r.map V.int)) ∧ EvRow S r ∧ ∀ H', Same H H' → Q (.bl true) H'
def tIsRow (K : PySem.W.Frag) : TS := tSeq (tIfS (tOr (tNot (tB (tCB (fun xs H Q => ∃ x t b, xs = [x, V.ty "list"] ∧ TyOf K H x t ∧ W.kitOne K t (Value.type "list") = some b ∧ Q (V.bl b) H) (tCons (tVar 1) (tCons (tC (V.ty "list")) tNil))))) (tTest (tOp rNe (tCB (fun xs H Q => ∃ p ys, xs = [V.ref p] ∧ (SqL K H p ys ∨ SqT K H p ys) ∧ Q (V.int ys.length) H) (tCons (tVar 1) tNil)) (tCall (spTiesZ K) [] E0 (tCons (tVar 0) tNil))))) (tRet (tC (V.bl false))) tNext) (tSeq (tIfS (tNot (tB (tCB (fun xs H_1 Q => ∃ p bs, xs = [V.ref p] ∧ SqL K H_1 p (List.map V.bl bs) ∧ Q (V.bl (bs.all id)) H_1) (tCons (tCompG 1 (iList K (tVar 1)) (gName 0) tYes (tCall spFromZ [] E0 (tCons (tVar 0) (tCons (tC (V.int 0)) tNil)))) tNil)))) (tRet (tC (V.bl false))) tNext) (tRet (tCB (fun xs H_1 Q => ∃ p bs, xs = [V.ref p] ∧ SqL K H_1 p (List.map V.bl bs) ∧ Q (V.bl (bs.all id)) H_1) (tCons (tCompG 1 (iList K (tVar 0)) (gName 0) tYes (tCall (spMay K) [] E0 (tCons (tCall spCrossZ [] E0 (tCons (tVar 0) (tCons (tVar 2) tNil))) tNil))) tNil))))
theorem isrow_reads {K : PySem.W.Frag} {H : Hp} {Q : VK} {Z : L2.St → Hp → Prop} {s o : Addr} {xs : List V} {S : List (List Int)} {r : List Int} (hs : H s = some (.lst xs)) (tS : TuL H xs S) (oS : ShOk S) (ho : H o = some (.lst (r.map V.int))) (ev : EvRow S r) (k : ∀ H', Same H H' → Q (.bl true) H') : tIsRow K { nx := Z, rt := Q } [some (.ref s), some (.ref o)] H := by
  have lS := oS.len
  have lx : xs.length = S.length := tS.1
  have lr := ev.len
  refine ⟨_, rfl, .ref o, _, true, rfl, .lst ho, rfl, true, rfl, iteF ⟨_, rfl, o, _, rfl, .inl (SqL.of ho), _, rfl, s, xs, rfl, SqL.of hs, rfl, false, ?_, iteF ?_⟩⟩
  · show V.bl (!decide (V.int (((r.map V.int).length : Nat) : Int) = V.int ((xs.length / 2 * 3 : Nat) : Int))) = V.bl false
    rw [List.length_map, lr, lx, decide_eq_true rfl]
    rfl
  refine ⟨_, rfl, o, rfl, ⟨_, SqL.of ho⟩, compL (K := K) (a := o) (xs := r.map V.int) (fun j ts H' => ts = List.replicate j (V.bl true) ∧ H' = H) ⟨rfl, rfl⟩ (by rw [List.length_map]; omega) (fun j ts H' h => by rw [h.1, List.length_replicate]; exact Nat.le_refl _) (fun j ts H' _ h => by rw [h.2]; exact SqL.of ho) ?_ ?_⟩
  · rintro j x ts H9 pre hpl hx ⟨rfl, rfl⟩
    rw [List.getElem?_map] at hx
    cases ej : r[j]? with
    | none => rw [ej] at hx; cases hx
    | some e =>
      rw [ej] at hx
      cases hx
      have en := ev.nn e (List.mem_of_getElem? ej)
      rcases pre with _ | ⟨q0, _ | ⟨q1, pre⟩⟩
      · cases hpl
      · refine ⟨⟨[some _], rfl, rfl⟩, ?_⟩
        unfold tYes
        dsimp only
        rw [if_pos (rfl : true = true)]
        refine ⟨_, rfl, e, 0, rfl, ?_, rfl⟩
        rw [decide_eq_true en, List.replicate_succ']
      · cases hpl
  rintro ts H9 ⟨rfl, rfl⟩ D hD
  rw [List.length_map]
  have sD := Same.nw (o := .lst (List.replicate r.length (V.bl true))) (Same.refl H9) hD
  have fD : (upd H9 D (.lst (List.replicate r.length (V.bl true)))) D = some (.lst (List.replicate r.length (V.bl true))) := upd_same
  generalize upd H9 D (.lst (List.replicate r.length (V.bl true))) = HA at sD fD ⊢
  refine ⟨D, List.replicate r.length true, rfl, by rw [List.map_replicate]; exact SqL.of fD, true, by rw [show (List.replicate r.length true).all id = true by simp], iteF ?_⟩
  refine ⟨_, rfl, s, rfl, ⟨_, SqL.of (sD _ _ hs)⟩, compL (K := K) (a := s) (xs := xs) (fun j ts H' => ts = List.replicate j (V.bl true) ∧ Same HA H') ⟨rfl, Same.refl _⟩ (by omega) (fun j ts H' h => by rw [h.1, List.length_replicate]; exact Nat.le_refl _) (fun j ts H' _ h => SqL.of (h.2 _ _ (sD _ _ hs))) ?_ ?_⟩
  · rintro j x ts HB pre hpl hx ⟨rfl, sB⟩
    obtain ⟨t, q, et, rfl, hq⟩ := (tS.up (sD.trans sB).tups).take hx
    have mt : t ∈ S := List.mem_of_getElem? et
    obtain ⟨a1, a2, a3, rfl⟩ := three3 (oS.three t mt)
    obtain ⟨e1, e2, e3, e4⟩ := ev.tri a1 a2 a3 mt
    rcases pre with _ | ⟨q0, _ | ⟨q1, pre⟩⟩
    · cases hpl
    · refine ⟨⟨[some _], rfl, rfl⟩, ?_⟩
      unfold tYes
      dsimp only
      rw [if_pos (rfl : true = true)]
      refine ⟨_, rfl, _, rfl, q, o, [a1, a2, a3], r, rfl, hq, sB _ _ (sD _ _ ho), by show 3 ≤ 10; decide, fun z hz => ⟨(oS.side mt hz).1, crs_at oS lr mt hz⟩, fun l hl => ?_⟩
      refine ⟨l, crs r a1, crs r a2, crs r a3, rfl, SqL.of upd_same, e1, e2, e3, e4, ?_, sB.trans (Same.nw (Same.refl HB) hl)⟩
      rw [List.replicate_succ']
    · cases hpl
  · rintro ts HB ⟨rfl, sB⟩ D2 hD2
    have sC := Same.nw (o := .lst (List.replicate xs.length (V.bl true))) (Same.refl HB) hD2
    have fC : (upd HB D2 (.lst (List.replicate xs.length (V.bl true)))) D2 = some (.lst (List.replicate xs.length (V.bl true))) := upd_same
    generalize upd HB D2 (.lst (List.replicate xs.length (V.bl true))) = HC at sC fC ⊢
    refine ⟨D2, List.replicate xs.length true, rfl, by rw [List.map_replicate]; exact SqL.of fC, ?_⟩
    rw [show (List.replicate xs.length true).all id = true by simp]
    exact k _ (sD.trans (sB.trans sC))
end L2
set_option Elab.async false
set_option linter.all false
set_option maxRecDepth 100000
set_option maxHeartbeats 1000000
set_option Elab.async false
set_option linter.all false
set_option maxRecDepth 100000
set_option maxHeartbeats 1000000
set_option Elab.async false
set_option linter.all false
set_option maxRecDepth 100000
set_option maxHeartbeats 1000000
namespace L2
open PySem PySem.Spec PyProof.Rows
theorem compEn {K : PySem.W.Frag} {k : Nat} {a : Addr} {xs : List V} {g : TG} {tt : TT} {te : TE} {Q : VK} {σ : St} {H : Hp} (Pv : Nat → List V → Hp → Prop) (h0 : Pv 0 [] H) (hb : xs.length ≤ 1000) (hz : ∀ i ys H, Pv i ys H → ys.length ≤ i) (hl : ∀ i ys H, i ≤ xs.length → Pv i ys H → SqL K H a xs)
    (hs : ∀ i x ys H (pre : St) (p : Addr), pre.length = k → xs[i]? = some x → Pv i ys H → H p = none → g (.ref p) (pre ++ σ) (upd H p (.tup [.int (i : Int), x])) fun σ' H2 => (∃ pre' : St, σ' = pre' ++ σ ∧ pre'.length = k) ∧ tt σ' H2 fun ok H3 => if ok = true then te σ' H3 fun y H4 => Pv (i + 1) (ys ++ [y]) H4 else Pv (i + 1) ys H3) (hd : ∀ ys H, Pv xs.length ys H → ∀ D, H D = none → Q (.ref D) (upd H D (.lst ys))) : CGo k (Ite K a) g tt te Q σ H := by
  refine ⟨fun i m ys H => m = xs.length - i ∧ i ≤ xs.length ∧ Pv i ys H, ⟨xs.length, by simp, Nat.zero_le _, h0⟩, ?_⟩
  rintro i m ys H ⟨rfl, hi, p⟩
  have q := hl i ys H hi p
  by_cases hlt : i < xs.length
  · refine .inr ⟨⟨xs, xs[i], q, by simp [hlt]⟩, Nat.lt_of_le_of_lt (hz i ys H p) (small1000 (by omega)), Pv (i + 1), fun zs H' p' => ⟨xs.length - (i + 1), by omega, rfl, hlt, p'⟩, fun v H' pre hp y => ?_⟩
    obtain ⟨pp, x, rfl, hq, rfl, e⟩ := y
    exact hs i x ys _ pre pp hp (e xs q) p hq
  · have e : i = xs.length := by omega
    subst e
    exact .inl ⟨⟨xs, q, by simp⟩, hd ys H p⟩
end L2
set_option Elab.async false
set_option linter.all false
set_option maxRecDepth 100000
set_option maxHeartbeats 1000000
namespace L2
open PySem PySem.Spec PyProof.Rows
theorem TuL.get {H : Hp} {xs : List V} {us : List (List Int)} (h : TuL H xs us) {i : Nat} {u : List Int} (e : us[i]? = some u) : ∃ a : Addr, H a = some (.tup (u.map V.int)) ∧ xs[i]? = some (.ref a) := by
  have il : i < xs.length := by rw [h.1]; exact (List.getElem?_eq_some_iff.mp e).1
  obtain ⟨a, ea, ha⟩ := h.2 i _ u (List.getElem?_eq_getElem il) e
  exact ⟨a, ha, by rw [List.getElem?_eq_getElem il, ea]⟩
theorem rot_reads {K : PySem.W.Frag} {H : Hp} {Q : VK} {q : Addr} {t : List Int} {p : Nat} {σ : L2.St} {i j : Nat} (hq : H q = some (.tup (t.map V.int))) (h3 : t.length = 3) (hp : p < 3) (e1 : σ[i]? = some (some (.ref q))) (e2 : σ[j]? = some (some (.int (p : Int))))
    (k : ∀ (c : Addr) (H' : Hp), Same H H' → H' c = some (.tup ((rot t p).map V.int)) → Q (.ref c) H') : tOp (rCatT K) (tSl (rSlA K) (tVar i) (tPart (tVar j)) tNoPart) (tSl (rSlA K) (tVar i) tNoPart (tPart (tVar j))) σ H Q := by
  obtain ⟨x, y, z, rfl⟩ := three3 h3
  rcases p with _ | _ | _ | p
  · refine ⟨_, e1, _, e2, 0, rfl, q, _, rfl, SqT.of hq, fun _ => ?_, fun n => absurd (by show HT.sIx 3 0 (some 0) = 0 ∧ HT.sIx 3 3 none = 3; decide) n⟩
    refine ⟨_, e1, _, e2, 0, rfl, q, _, rfl, SqT.of hq, fun n => absurd n (by show ¬ (HT.sIx 3 0 none = 0 ∧ HT.sIx 3 3 (some 0) = 3); decide), fun _ c hc => ?_⟩
    have s1 := Same.nw (o := .tup []) (Same.refl H) hc
    have f1 : (upd H c (.tup [])) c = some (.tup []) := upd_same
    have e3 : (cutV ([x, y, z].map V.int) none (some 0)) = [] := rfl
    rw [e3]
    generalize upd H c (.tup []) = H1 at s1 f1 ⊢
    exact ⟨q, c, _, [], rfl, rfl, SqT.of (s1 _ _ hq), SqT.of f1, (by simp), (by show 3 ≤ sizeLine; decide), fun _ => k q H1 s1 (s1 _ _ hq), fun n => absurd rfl n⟩
  all_goals first
    | (exfalso; omega)
    | (refine ⟨_, e1, _, e2, _, rfl, q, _, rfl, SqT.of hq, fun n => absurd n (by first | (show ¬ (HT.sIx 3 0 (some 1) = 0 ∧ HT.sIx 3 3 none = 3); decide) | (show ¬ (HT.sIx 3 0 (some 2) = 0 ∧ HT.sIx 3 3 none = 3); decide)), fun _ c hc => ?_⟩
       have s1 := fun o => Same.nw (o := o) (Same.refl H) hc
       refine ⟨_, e1, _, e2, _, rfl, q, _, rfl, SqT.of (s1 _ _ _ hq), fun n => absurd n (by first | (show ¬ (HT.sIx 3 0 none = 0 ∧ HT.sIx 3 3 (some 1) = 3); decide) | (show ¬ (HT.sIx 3 0 none = 0 ∧ HT.sIx 3 3 (some 2) = 3); decide)), fun _ d hd => ?_⟩
       have ncd := ne_of_none (upd_same (H := H) (a := c)) hd
       refine ⟨c, d, _, _, rfl, rfl, SqT.of ((upd_ne ncd).trans upd_same), SqT.of upd_same, (by first | (show [V.int y, V.int z] ≠ []; simp) | (show [V.int z] ≠ []; simp)), (by show 3 ≤ sizeLine; decide), fun n => absurd n (by first | (show [V.int x] ≠ []; simp) | (show [V.int x, V.int y] ≠ []; simp)), fun _ e he => ?_⟩
       exact k e _ (Same.nw (Same.nw (s1 _) hd) he) upd_same)
def spToldFrom : Sp := fun vs H Q _ => ∃ (q : Addr) (t : List Int) (p : Nat), vs = [.ref q, .int (p : Int)] ∧ H q = some (.tup (t.map V.int)) ∧ t.length = 3 ∧ p < 3 ∧ ∀ (c : Addr) (H' : Hp), Same H H' → H' c = some (.tup ((rot t p).map V.int)) → Q (.ref c) H'
def spSides (cN : Addr) : Sp := fun vs H Q E => ∃ (b : Addr) (xs : List V) (S : List (List Int)) (tie : Int), vs = [.ref b, .int tie] ∧ H b = some (.lst xs) ∧ TuL H xs S ∧ ShOk S ∧
  (BadT S tie → ∀ H', Same H H' → E (.ref cN) none H') ∧
  ∀ (k i p j r : Nat) (t u : List Int) (P Q' U W : Int), tie = (k : Int) + 1 → k < S.length / 2 * 3 → TwoT S k i p j r t u P Q' U W → ∀ (c d : Addr) (H' : Hp), Same H H' → H' c = some (.tup [.int (i : Int), .int (j : Int), .ref d]) → H' d = some (.tup ([P, Q', U, W].map V.int)) → Q (.ref c) H'
def spTurned (cN : Addr) : Sp := fun vs H Q E => ∃ (b : Addr) (xs : List V) (S : List (List Int)) (tie : Int), vs = [.ref b, .int tie] ∧ H b = some (.lst xs) ∧ TuL H xs S ∧ ShOk S ∧
  (BadT S tie → ∀ H', Same H H' → E (.ref cN) none H') ∧
  ∀ (k i p j r : Nat) (t u : List Int) (P Q' U W : Int), tie = (k : Int) + 1 → k < S.length / 2 * 3 → TwoT S k i p j r t u P Q' U W → ∀ (c : Addr) (ys : List V) (H' : Hp), Same H H' → H c = none → H' c = some (.lst ys) → TuL H' ys (turnS S k i j P Q' U W) → Q (.ref c) H'
def spFromI : Sp := fun vs H Q _ => ∃ i l : Int, vs = [.int i, .int l] ∧ Q (.bl (decide (l ≤ i))) H
def spGluedI : Sp := fun vs H Q _ => ∃ (b : Addr) (xs : List V) (S : List (List Int)), vs = [.ref b] ∧ H b = some (.lst xs) ∧ TuL H xs S ∧ ShOk S ∧ ∀ (c : Addr) (zs : List V) (gs : List (List (List Int))) (H' : Hp), Same H H' → H c = none → H' c = some (.lst zs) → LsL H' true zs gs → GlInv (S.length / 2 * 3) (sidesF S) gs → Q (.ref c) H'
def tSides (K : PySem.W.Frag) (E : XK) (cN : Addr) : TS := tSeq (tIfS (tOr (tNot (tB (tCall spFromI [] E0 (tCons (tVar 1) (tCons (tC (V.int 1)) tNil))))) (tTest (tOp (rI0 fun i j => V.bl (decide (j < i))) (tVar 1) (tCall (spTiesZ K) [] E0 (tCons (tVar 0) tNil))))) (tRaise E cN) tNext) (tSeq (tAsg (tOp (rIxL K) (tCall spGluedI [] E0 (tCons (tVar 0) tNil)) (tOp (rI0 fun i j => V.int (i - j)) (tVar 1) (tC (V.int 1)))) (gLst K 2 (gCons (gTup K 2 (gCons (gName 2) (gCons (gName 3) gNil))) (gCons (gTup K 2 (gCons (gName 4) (gCons (gName 5) gNil))) gNil)))) (tSeq (tIfS (tTest (tOp rEq (tVar 2) (tVar 4))) (tRaise E cN) tNext) (tSeq (tAsg (tCall spToldFrom [] E0 (tCons (tOp (rIxL K) (tVar 0) (tVar 2)) (tCons (tVar 3) tNil))) (gTup K 3 (gCons (gName 6) (gCons (gName 7) (gCons (gName 8) gNil))))) (tSeq (tAsg (tCall spToldFrom [] E0 (tCons (tOp (rIxL K) (tVar 0) (tVar 4)) (tCons (tVar 5) tNil))) (gTup K 3 (gCons (gName 9) (gCons (gName 10) (gCons (gName 11) gNil))))) (tSeq (tIfS (tTest (tOp rEq (tVar 6) (tVar 9))) (tPar 10 11 (tCons (tUn (rU fun i => V.int (-i)) (tVar 11)) (tCons (tUn (rU fun i => V.int (-i)) (tVar 10)) tNil))) tNext) (tRet (tTup (tCons (tVar 2) (tCons (tVar 4) (tCons (tTup (tCons (tVar 7) (tCons (tVar 8) (tCons (tVar 10) (tCons (tVar 11) tNil))))) tNil))))))))))
set_option maxHeartbeats 4000000 in
theorem sides_reads {K : PySem.W.Frag} {H : Hp} {Q : VK} {Z : L2.St → Hp → Prop} {E : XK} {cN b : Addr} {xs : List V} {S : List (List Int)} {tie : Int} (hb : H b = some (.lst xs)) (tS : TuL H xs S) (oS : ShOk S)
    (k1 : BadT S tie → ∀ H', Same H H' → E (.ref cN) none H')
    (k2 : ∀ (k i p j r : Nat) (t u : List Int) (P Q' U W : Int), tie = (k : Int) + 1 → k < S.length / 2 * 3 → TwoT S k i p j r t u P Q' U W → ∀ (c d : Addr) (H' : Hp), Same H H' → H' c = some (.tup [.int (i : Int), .int (j : Int), .ref d]) → H' d = some (.tup ([P, Q', U, W].map V.int)) → Q (.ref c) H') :
    tSides K E cN { nx := Z, rt := Q } [some (.ref b), some (.int tie), none, none, none, none, none, none, none, none, none, none] H := by
  have lx : xs.length = S.length := tS.1
  refine ⟨_, rfl, tie, 1, rfl, _, rfl, ?_⟩
  by_cases h1 : (1 : Int) ≤ tie
  · rw [decide_eq_true h1]
    refine iteF ⟨_, rfl, _, rfl, b, xs, rfl, SqL.of hb, _, _, rfl, rfl, _, rfl, ite2 (fun h2 => ?_) (fun h2 => ?_)⟩
    · have h2 := of_decide_eq_true h2
      rw [lx] at h2
      exact k1 (.inl (by omega)) H (Same.refl H)
    have h2 := of_decide_eq_false (Bool.eq_false_iff.mpr h2)
    rw [lx] at h2
    have hk : (tie - 1).toNat < S.length / 2 * 3 := by omega
    have ek : tie = (((tie - 1).toNat : Nat) : Int) + 1 := by omega
    obtain ⟨i, p, j, r, t, u, T⟩ := tie_at oS hk
    refine ⟨_, rfl, b, xs, S, rfl, hb, tS, oS, fun c zs gs H1 s1 cf hc lz gi => ?_⟩
    have eg := gi.val _ hk
    rw [T.gl] at eg
    have kz : (tie - 1).toNat < zs.length := by rw [lz.1, gi.len]; exact hk
    obtain ⟨a, ys, ea, ha, it⟩ := lz.2 _ _ _ (List.getElem?_eq_getElem kz) eg
    have at1 : atI zs (tie - 1) = some (.ref a) := by
      rw [show tie - 1 = (((tie - 1).toNat : Nat) : Int) by omega]
      exact atI_nat (by rw [List.getElem?_eq_getElem kz, ea])
    obtain ⟨y1, y2, rfl⟩ := two2 (show ys.length = 2 from it.1)
    obtain ⟨a1, rfl, f1⟩ := it.tu.2 0 y1 _ rfl rfl
    obtain ⟨a2, rfl, f2⟩ := it.tu.2 1 y2 _ rfl rfl
    refine ⟨_, rfl, _, _, rfl, rfl, c, _, _, _, rfl, rfl, SqL.of hc, at1, ?_⟩
    refine ⟨a, _, rfl, SqL.of ha, rfl, _, _, rfl, ⟨a1, _, rfl, SqT.of f1, rfl, _, _, rfl, _, _, rfl, rfl, ?_⟩⟩
    refine ⟨_, _, rfl, ⟨a2, _, rfl, SqT.of f2, rfl, _, _, rfl, _, _, rfl, rfl, rfl, ?_⟩⟩
    refine ⟨_, rfl, _, rfl, rfl, _, rfl, ?_⟩
    rcases T.le with lt | ⟨rfl, _⟩
    · rw [decide_eq_false (fun z => by have := V.int.inj z; omega)]
      refine iteF ?_
      obtain ⟨s, et, es⟩ := T.tp
      obtain ⟨s', eu, es'⟩ := T.ur
      have t3 := oS.three t (List.mem_of_getElem? T.ei)
      have u3 := oS.three u (List.mem_of_getElem? T.ej)
      have p3 : p < 3 := by rw [← t3]; exact (List.getElem?_eq_some_iff.mp et).1
      have r3 : r < 3 := by rw [← u3]; exact (List.getElem?_eq_some_iff.mp eu).1
      obtain ⟨P, Q1, ra⟩ := rot_first t3 et
      obtain ⟨A, B, rb⟩ := rot_first u3 eu
      have tS1 := tS.up s1.tups
      obtain ⟨qi, hqi, xi⟩ := tS1.get T.ei
      obtain ⟨qj, hqj, xj⟩ := tS1.get T.ej
      refine ⟨_, rfl, _, rfl, b, _, _, _, rfl, rfl, SqL.of (s1 _ _ hb), atI_nat xi, _, rfl, qi, t, p, rfl, hqi, t3, p3, fun c1 H2 s2 h2 => ?_⟩
      rw [ra] at h2
      refine ⟨c1, _, rfl, SqT.of h2, rfl, _, _, rfl, _, _, rfl, _, _, rfl, rfl, ?_⟩
      have s02 := s1.trans s2
      refine ⟨_, rfl, _, rfl, b, _, _, _, rfl, rfl, SqL.of (s02 _ _ hb), atI_nat xj, _, rfl, qj, u, r, rfl, s2 _ _ hqj, u3, r3, fun c2 H3 s3 h3 => ?_⟩
      rw [rb] at h3
      refine ⟨c2, _, rfl, SqT.of h3, rfl, _, _, rfl, _, _, rfl, _, _, rfl, rfl, ?_⟩
      have s03 := s02.trans s3
      refine ⟨_, rfl, _, rfl, rfl, _, rfl, ite2 (fun hc => ?_) (fun hc => ?_)⟩
      · have hc := V.int.inj (of_decide_eq_true hc)
        refine ⟨_, rfl, _, rfl, _, rfl, _, rfl, _, _, rfl, ?_⟩
        refine ⟨_, rfl, _, rfl, _, rfl, _, rfl, _, rfl, _, rfl, (by show 4 ≤ sizeLine; decide), fun d hd => ⟨(by show 3 ≤ sizeLine; decide), fun e he => ?_⟩⟩
        have s4 := Same.nw (o := .tup ([P, Q1, -B, -A].map V.int)) s03 hd
        have f4 : (upd H3 d (.tup ([P, Q1, -B, -A].map V.int))) d = some (.tup ([P, Q1, -B, -A].map V.int)) := upd_same
        exact k2 _ i p j r t u P Q1 (-B) (-A) ek hk ⟨T, lt, s, s', A, B, ra, rb, es, es', by rw [if_pos hc]; exact ⟨rfl, rfl⟩⟩ e d _ (Same.nw s4 he) upd_same ((upd_ne (ne_of_none f4 he)).trans f4)
      · have hc : ¬ (s = s') := fun z => of_decide_eq_false (Bool.eq_false_iff.mpr hc) (by rw [z])
        refine ⟨_, rfl, _, rfl, _, rfl, _, rfl, _, rfl, _, rfl, (by show 4 ≤ sizeLine; decide), fun d hd => ⟨(by show 3 ≤ sizeLine; decide), fun e he => ?_⟩⟩
        have s4 := Same.nw (o := .tup ([P, Q1, A, B].map V.int)) s03 hd
        have f4 : (upd H3 d (.tup ([P, Q1, A, B].map V.int))) d = some (.tup ([P, Q1, A, B].map V.int)) := upd_same
        exact k2 _ i p j r t u P Q1 A B ek hk ⟨T, lt, s, s', A, B, ra, rb, es, es', by rw [if_neg hc]; exact ⟨rfl, rfl⟩⟩ e d _ (Same.nw s4 he) upd_same ((upd_ne (ne_of_none f4 he)).trans f4)
    · rw [decide_eq_true rfl]
      exact iteT (k1 (.inr ⟨_, i, p, r, t, u, ek, hk, T⟩) H1 s1)
  · rw [decide_eq_false h1]
    exact iteT (k1 (.inl (by omega)) H (Same.refl H))
def tTurnedT (K : PySem.W.Frag) (E : XK) (cN : Addr) : TS := tSeq (tAsg (tCallX (spSides cN) (fun c x H' => E c none H') (tCons (tVar 0) (tCons (tVar 1) tNil))) (gTup K 3 (gCons (gName 2) (gCons (gName 3) (gCons (gTup K 4 (gCons (gName 4) (gCons (gName 5) (gCons (gName 6) (gCons (gName 7) gNil))))) gNil))))) (tSeq (tAsg (tCB (fun xs H_1 Q => ∃ p ys, xs = [V.ref p] ∧ (SqL K H_1 p ys ∨ SqT K H_1 p ys) ∧ ∀ (l : Addr), H_1 l = none → Q (V.ref l) (upd H_1 l (HO.lst ys))) (tCons (tVar 0) tNil)) (gName 8)) (tSeq (tAsg (tTup (tCons (tVar 5) (tCons (tVar 6) (tCons (tUn (rU fun i => V.int (-i)) (tVar 1)) tNil)))) (gSub (tVar 8) (tVar 2) rSetL)) (tSeq (tAsg (tTup (tCons (tVar 7) (tCons (tVar 4) (tCons (tVar 1) tNil)))) (gSub (tVar 8) (tVar 3) rSetL)) (tRet (tVar 8)))))
theorem put2 {H : Hp} {Q : VK} {b : Addr} {xs : List V} {S : List (List Int)} {i j : Nat} {t1 t2 : List Int} {l c1 c2 : Addr} (tS : TuL H xs S) (hl : H l = none)
    (h1 : (upd H l (.lst xs)) c1 = none) (h2 : (upd (upd (upd H l (.lst xs)) c1 (.tup (t1.map V.int))) l (.lst (xs.set i (.ref c1)))) c2 = none)
    (k : ∀ (ys : List V) (H' : Hp), Same H H' → H' l = some (.lst ys) → TuL H' ys ((S.set i t1).set j t2) → Q (.ref l) H') : Q (.ref l) (upd (upd (upd (upd (upd H l (.lst xs)) c1 (.tup (t1.map V.int))) l (.lst (xs.set i (.ref c1)))) c2 (.tup (t2.map V.int))) l (.lst ((xs.set i (.ref c1)).set j (.ref c2)))) := by
  have n1 : l ≠ c1 := ne_of_none upd_same h1
  have n2 : l ≠ c2 := ne_of_none upd_same h2
  have hc1 : H c1 = none := by rwa [upd_ne (Ne.symm n1)] at h1
  have s1 := Same.nw (o := .tup (t1.map V.int)) (Same.nw (o := .lst xs) (Same.refl H) hl) h1
  have s2 := s1.ow (o := .lst (xs.set i (.ref c1))) hl
  have s3 := Same.nw (o := .tup (t2.map V.int)) s2 h2
  have s4 := s3.ow (o := .lst ((xs.set i (.ref c1)).set j (.ref c2))) hl
  have n12 : c1 ≠ c2 := ne_of_none ((upd_ne (Ne.symm n1)).trans upd_same) h2
  refine k _ _ s4 upd_same ?_
  refine TuL.set (TuL.set (tS.up s4.tups) ?_ i) ?_ j
  · rw [upd_ne (Ne.symm n1), upd_ne n12, upd_ne (Ne.symm n1)]; exact upd_same
  · rw [upd_ne (Ne.symm n2)]; exact upd_same
set_option maxHeartbeats 4000000 in
theorem turned_reads {K : PySem.W.Frag} {H : Hp} {Q : VK} {Z : L2.St → Hp → Prop} {E : XK} {cN b : Addr} {xs : List V} {S : List (List Int)} {tie : Int} (hb : H b = some (.lst xs)) (tS : TuL H xs S) (oS : ShOk S)
    (k1 : BadT S tie → ∀ H', Same H H' → E (.ref cN) none H')
    (k2 : ∀ (k i p j r : Nat) (t u : List Int) (P Q' U W : Int), tie = (k : Int) + 1 → k < S.length / 2 * 3 → TwoT S k i p j r t u P Q' U W → ∀ (c : Addr) (ys : List V) (H' : Hp), Same H H' → H c = none → H' c = some (.lst ys) → TuL H' ys (turnS S k i j P Q' U W) → Q (.ref c) H') :
    tTurnedT K E cN { nx := Z, rt := Q } [some (.ref b), some (.int tie), none, none, none, none, none, none, none] H := by
  refine ⟨_, rfl, _, rfl, b, xs, S, tie, rfl, hb, tS, oS, k1, fun k i p j r t u P Q' U W ek hk T c d H1 s1 hc hd => ?_⟩
  have il : i < xs.length := by rw [tS.1]; exact (List.getElem?_eq_some_iff.mp T.ei).1
  have jl : j < xs.length := by rw [tS.1]; exact (List.getElem?_eq_some_iff.mp T.ej).1
  refine ⟨c, _, rfl, SqT.of hc, rfl, _, _, rfl, _, _, rfl, _, _, rfl, ⟨d, _, rfl, SqT.of hd, rfl, _, _, rfl, _, _, rfl, _, _, rfl, _, _, rfl, rfl, rfl, ?_⟩⟩
  refine ⟨_, rfl, b, xs, rfl, .inl (SqL.of (s1 _ _ hb)), fun l hl => ?_⟩
  refine ⟨_, rfl, _, rfl, _, rfl, _, rfl, (by show 3 ≤ sizeLine; decide), fun c1 h1 => ?_⟩
  have n1 : l ≠ c1 := ne_of_none upd_same h1
  refine ⟨_, rfl, _, rfl, l, xs, (i : Int), i, rfl, rfl, (upd_ne n1).trans upd_same, ixN_nat il, ?_⟩
  refine ⟨_, rfl, _, rfl, _, rfl, (by show 3 ≤ sizeLine; decide), fun c2 h2 => ?_⟩
  have n2 : l ≠ c2 := ne_of_none upd_same h2
  refine ⟨_, rfl, _, rfl, l, _, (j : Int), j, rfl, rfl, (upd_ne n2).trans upd_same, ixN_nat (by rw [List.length_set]; exact jl), ?_⟩
  refine ⟨_, rfl, ?_⟩
  subst ek
  exact put2 (Q := Q) (t1 := [Q', U, -((k : Int) + 1)]) (t2 := [W, P, (k : Int) + 1]) (b := b) (tS.up s1.tups) hl h1 h2 fun ys H' s' hl' t' => k2 k i p j r t u P Q' U W rfl hk T l ys H' (s1.trans s') (s1.free hl) hl' t'
end L2
set_option Elab.async false
set_option linter.all false
set_option maxRecDepth 100000
set_option maxHeartbeats 1000000
namespace L2
open PySem PySem.Spec PyProof.Rows
theorem two_uniq {S : List (List Int)} {k i p j r i' p' j' r' : Nat} {t u t' u' : List Int} {P Q U W P' Q' U' W' : Int} (T : TwoT S k i p j r t u P Q U W) (T' : TwoT S k i' p' j' r' t' u' P' Q' U' W') : i = i' ∧ j = j' ∧ P = P' ∧ Q = Q' ∧ U = U' ∧ W = W' := by
  have g := T.gl.symm.trans T'.gl
  simp only [List.cons.injEq, and_true] at g
  have e1 : i = i' := by omega
  have e2 : p = p' := by omega
  have e3 : j = j' := by omega
  have e4 : r = r' := by omega
  subst e1 e2 e3 e4
  have et := T.ei.symm.trans T'.ei
  have eu := T.ej.symm.trans T'.ej
  cases et
  cases eu
  obtain ⟨f, g, A, B, ra, rb, _, _, h1⟩ := T.sq
  obtain ⟨f', g', A', B', ra', rb', _, _, h2⟩ := T'.sq
  rw [ra] at ra'
  rw [rb] at rb'
  cases ra'
  cases rb'
  split at h1
  · rename_i hf
    rw [if_pos hf] at h2
    exact ⟨rfl, rfl, rfl, rfl, h1.1.trans h2.1.symm, h1.2.trans h2.2.symm⟩
  · rename_i hf
    rw [if_neg hf] at h2
    exact ⟨rfl, rfl, rfl, rfl, h1.1.trans h2.1.symm, h1.2.trans h2.2.symm⟩
theorem bad_two {S : List (List Int)} {k i p j r : Nat} {t u : List Int} {P Q U W : Int} (hk : k < S.length / 2 * 3) (h : BadT S ((k : Int) + 1)) (T : TwoT S k i p j r t u P Q U W) : False := by
  rcases h with h | ⟨k', i', p', r', t', u', ek, _, T'⟩
  · omega
  · have e : k = k' := by omega
    subst e
    have g := T.gl.symm.trans T'.gl
    simp only [List.cons.injEq, and_true] at g
    have := T.lt
    omega
def spLFrom : Sp := fun vs H Q _ => ∃ (q : Addr) (t : List Int) (p k : Nat), vs = [.ref q, .int ((k : Int) + 1)] ∧ H q = some (.tup (t.map V.int)) ∧ t.length = 3 ∧ (t.map absI)[p]? = some ((k : Int) + 1) ∧ (∀ m, m < p → (t.map absI)[m]? ≠ some ((k : Int) + 1)) ∧ ∀ (c : Addr) (H' : Hp), Same H H' → H' c = some (.tup ((rot t p).map V.int)) → Q (.ref c) H'
def tAbsC (K : PySem.W.Frag) (i : Nat) : TE := tCompG 1 (iTup K (tVar i)) (gName 0) tYes (tCB (fun xs H Q => ∃ i, xs = [V.int i] ∧ Q (V.int (if i < 0 then -i else i)) H) (tCons (tVar 0) tNil))
theorem absC_reads {K : PySem.W.Frag} {H : Hp} {Q : VK} {q : Addr} {t : List Int} {σ : L2.St} {i : Nat} (e : σ[i]? = some (some (.ref q))) (hq : H q = some (.tup (t.map V.int))) (tl : t.length ≤ 10) (k : ∀ D, H D = none → Q (.ref D) (upd H D (.lst ((t.map absI).map V.int)))) : tAbsC K i σ H Q := by
  refine ⟨_, e, q, rfl, ⟨_, SqT.of hq⟩, compT (K := K) (a := q) (xs := t.map V.int) (fun i ys H' => ys = ((t.take i).map absI).map V.int ∧ H = H') ⟨rfl, rfl⟩ (by rw [List.length_map]; omega) (fun m ys H' h => by rw [h.1, List.length_map, List.length_map, List.length_take]; exact Nat.min_le_left _ _) (fun m ys H' _ h => by rw [← h.2]; exact SqT.of hq) ?_ ?_⟩
  · rintro m z ys' H' pre hpl hz ⟨rfl, rfl⟩
    rw [List.getElem?_map] at hz
    cases ez : t[m]? with
    | none => rw [ez] at hz; cases hz
    | some sd =>
      rw [ez] at hz
      cases hz
      rcases pre with _ | ⟨q0, _ | ⟨q1, pre⟩⟩
      · cases hpl
      · refine ⟨⟨[some _], rfl, rfl⟩, ?_⟩
        unfold tYes
        dsimp only
        rw [if_pos (rfl : true = true)]
        refine ⟨_, rfl, sd, rfl, ?_, rfl⟩
        rw [take_succ' ez, List.map_append, List.map_append]
        rfl
      · cases hpl
  · rintro ys' H' ⟨rfl, rfl⟩ D hD
    rw [List.length_map, List.take_length]
    exact k D hD
def tLFrom (K : PySem.W.Frag) : TS := tSeq (tAsg (tBM K "list" rIndex (tAbsC K 0) (tCons (tVar 1) tNil)) (gName 2)) (tRet (tOp (rCatT K) (tSl (rSlA K) (tVar 0) (tPart (tVar 2)) tNoPart) (tSl (rSlA K) (tVar 0) tNoPart (tPart (tVar 2)))))
theorem lfrom_reads {K : PySem.W.Frag} {H : Hp} {Q : VK} {Z : L2.St → Hp → Prop} {q : Addr} {t : List Int} {p k : Nat} (hq : H q = some (.tup (t.map V.int))) (t3 : t.length = 3) (hp : (t.map absI)[p]? = some ((k : Int) + 1)) (hno : ∀ m, m < p → (t.map absI)[m]? ≠ some ((k : Int) + 1))
    (kk : ∀ (c : Addr) (H' : Hp), Same H H' → H' c = some (.tup ((rot t p).map V.int)) → Q (.ref c) H') : tLFrom K { nx := Z, rt := Q } [some (.ref q), some (.int ((k : Int) + 1)), none] H := by
  have p3 : p < 3 := by have := (List.getElem?_eq_some_iff.mp hp).1; rw [List.length_map, t3] at this; exact this
  refine absC_reads (i := 0) rfl hq (by omega) fun D hD => ?_
  have s1 := Same.nw (o := .lst ((t.map absI).map V.int)) (Same.refl H) hD
  have f1 : (upd H D (.lst ((t.map absI).map V.int))) D = some (.lst ((t.map absI).map V.int)) := upd_same
  refine ⟨.inl ⟨rfl, _, SqL.of f1⟩, _, rfl, D, t.map absI, (k : Int) + 1, p, rfl, rfl, f1, hp, hno, by rw [List.length_map]; omega, ?_⟩
  exact rot_reads (K := K) (i := 0) (j := 2) (s1 _ _ hq) t3 p3 rfl rfl fun c H' s' h' => kk c H' (s1.trans s') h'
def spSquare : Sp := fun vs H Q _ => ∃ (b : Addr) (xs : List V) (S : List (List Int)) (k : Nat), vs = [.ref b, .int ((k : Int) + 1)] ∧ H b = some (.lst xs) ∧ TuL H xs S ∧ ShOk S ∧ k < S.length / 2 * 3 ∧
  (BadT S ((k : Int) + 1) → ∀ H', Same H H' → Q .non H') ∧
  ∀ (i p j r : Nat) (t u : List Int) (P Q' U W : Int), TwoT S k i p j r t u P Q' U W → ∀ (c d e : Addr) (H' : Hp), Same H H' → H' c = some (.tup [.ref e, .ref d]) → H' e = some (.lst [.int (i : Int), .int (j : Int)]) → H' d = some (.tup ([P, Q', U, W].map V.int)) → Q (.ref c) H'
def spotsL (S : List (List Int)) (k n : Nat) : List Nat := (List.range n).filter fun i => decide ((k : Int) + 1 ∈ (S.getD i []).map absI)
theorem inV_int (i : Int) : ∀ ns : List Int, inV (.int i) (ns.map V.int) = decide (i ∈ ns)
  | [] => rfl
  | n :: r => by
    show ((n == i) || inV (.int i) (r.map V.int)) = decide (i ∈ n :: r)
    rw [inV_int i r, Bool.eq_iff_iff, Bool.or_eq_true, beq_iff_eq, decide_eq_true_iff, decide_eq_true_iff, List.mem_cons]
    constructor
    · rintro (h | h)
      · exact .inl h.symm
      · exact .inr h
    · rintro (h | h)
      · exact .inl h.symm
      · exact .inr h
theorem spots_at {S : List (List Int)} {k i p j r : Nat} {t u : List Int} (T : TieAt S k i p j r t u) (x : Nat) (hx : x < S.length) : (k : Int) + 1 ∈ (S.getD x []).map absI ↔ x = i ∨ x = j := by
  have ex : S[x]? = some (S.getD x []) := by rw [List.getD_eq_getElem?_getD, List.getElem?_eq_getElem hx]; rfl
  constructor
  · intro h
    obtain ⟨s, hs, e⟩ := List.mem_map.mp h
    obtain ⟨p', hp'⟩ := List.mem_iff_getElem?.mp hs
    rcases T.all x p' _ s ex hp' e with h | h
    · exact .inl h.1
    · exact .inr h.1
  · rintro (rfl | rfl)
    · obtain ⟨s, e1, e2⟩ := T.tp
      rw [T.ei] at ex
      rw [← Option.some.inj ex]
      exact List.mem_map.mpr ⟨s, List.mem_of_getElem? e1, e2⟩
    · obtain ⟨s, e1, e2⟩ := T.ur
      rw [T.ej] at ex
      rw [← Option.some.inj ex]
      exact List.mem_map.mpr ⟨s, List.mem_of_getElem? e1, e2⟩
theorem filt_one (i : Nat) : ∀ n, (List.range n).filter (fun x => decide (x = i)) = if i < n then [i] else []
  | 0 => rfl
  | n + 1 => by
    rw [List.range_succ, List.filter_append, filt_one i n]
    by_cases h : i < n
    · rw [if_pos h, if_pos (by omega), List.filter_cons_of_neg (by simp; omega)]; rfl
    · by_cases h2 : n = i
      · subst h2; rw [if_neg h, if_pos (by omega), List.filter_cons_of_pos (by simp)]; rfl
      · rw [if_neg h, if_neg (by omega), List.filter_cons_of_neg (by simpa using h2)]; rfl
theorem filt_two {i j : Nat} (lt : i < j) : ∀ n, (List.range n).filter (fun x => decide (x = i ∨ x = j)) = if j < n then [i, j] else if i < n then [i] else []
  | 0 => rfl
  | n + 1 => by
    rw [List.range_succ, List.filter_append, filt_two lt n]
    by_cases h : j < n
    · rw [if_pos h, if_pos (by omega), List.filter_cons_of_neg (by simp; omega)]; rfl
    · rw [if_neg h]
      by_cases h2 : n = j
      · subst h2
        rw [if_pos lt, if_pos (by omega), List.filter_cons_of_pos (by simp)]
        rfl
      · by_cases h3 : i < n
        · rw [if_pos h3, if_neg (by omega), if_pos (by omega), List.filter_cons_of_neg (by simp; omega)]; rfl
        · by_cases h4 : n = i
          · subst h4; rw [if_neg h3, if_neg (by omega), if_pos (by omega), List.filter_cons_of_pos (by simp)]; rfl
          · rw [if_neg h3, if_neg (by omega), if_neg (by omega), List.filter_cons_of_neg (by simp; omega)]; rfl
theorem spots_two {S : List (List Int)} {k i p j r : Nat} {t u : List Int} (T : TieAt S k i p j r t u) (lt : i < j) : spotsL S k S.length = [i, j] := by
  have jl := (List.getElem?_eq_some_iff.mp T.ej).1
  unfold spotsL
  rw [List.filter_congr (q := fun x => decide (x = i ∨ x = j)) fun x hx => by
    have := spots_at T x (List.mem_range.mp hx)
    rw [Bool.eq_iff_iff]; simpa using this, filt_two lt, if_pos jl]
theorem spots_one {S : List (List Int)} {k i p r : Nat} {t u : List Int} (T : TieAt S k i p i r t u) : spotsL S k S.length = [i] := by
  have il := (List.getElem?_eq_some_iff.mp T.ei).1
  unfold spotsL
  rw [List.filter_congr (q := fun x => decide (x = i)) fun x hx => by
    have := spots_at T x (List.mem_range.mp hx)
    rw [Bool.eq_iff_iff]; simpa using this, filt_one, if_pos il]
theorem spotsL_succ (S : List (List Int)) (k n : Nat) : spotsL S k (n + 1) = spotsL S k n ++ (if (k : Int) + 1 ∈ (S.getD n []).map absI then [n] else []) := by
  unfold spotsL
  rw [List.range_succ, List.filter_append]
  congr 1
  by_cases h : (k : Int) + 1 ∈ (S.getD n []).map absI
  · rw [if_pos h, List.filter_cons_of_pos (by simpa using h)]; rfl
  · rw [if_neg h, List.filter_cons_of_neg (by simpa using h)]; rfl
end L2
set_option Elab.async false
set_option linter.all false
set_option maxRecDepth 100000
set_option maxHeartbeats 1000000
namespace L2
open PySem PySem.Spec PyProof.Rows
def tSquare (K : PySem.W.Frag) : TS := tSeq (tAsg (tCompG 2 (iEnum K (tCons (tVar 0) tNil)) (gTup K 2 (gCons (gName 0) (gCons (gName 1) gNil))) (tTest (tOp (rIn K false) (tVar 3) (tAbsC K 1))) (tVar 0)) (gName 2)) (tSeq (tIfS (tTest (tOp rNe (tCB (fun xs H Q => ∃ p ys, xs = [V.ref p] ∧ (SqL K H p ys ∨ SqT K H p ys) ∧ Q (V.int ys.length) H) (tCons (tVar 2) tNil)) (tC (V.int 2)))) (tRet (tC V.non)) tNext) (tSeq (tAsg (tCall spLFrom [] E0 (tCons (tOp (rIxL K) (tVar 0) (tOp (rIxL K) (tVar 2) (tC (V.int 0)))) (tCons (tVar 1) tNil))) (gTup K 3 (gCons (gName 3) (gCons (gName 4) (gCons (gName 5) gNil))))) (tSeq (tAsg (tCall spLFrom [] E0 (tCons (tOp (rIxL K) (tVar 0) (tOp (rIxL K) (tVar 2) (tC (V.int 1)))) (tCons (tVar 1) tNil))) (gTup K 3 (gCons (gName 6) (gCons (gName 7) (gCons (gName 8) gNil))))) (tSeq (tIfS (tTest (tOp rEq (tVar 3) (tVar 6))) (tRet (tTup (tCons (tVar 2) (tCons (tTup (tCons (tVar 4) (tCons (tVar 5) (tCons (tUn (rU fun i => V.int (-i)) (tVar 8)) (tCons (tUn (rU fun i => V.int (-i)) (tVar 7)) tNil))))) tNil)))) tNext) (tRet (tTup (tCons (tVar 2) (tCons (tTup (tCons (tVar 4) (tCons (tVar 5) (tCons (tVar 7) (tCons (tVar 8) tNil))))) tNil))))))))
theorem abs_first {S : List (List Int)} {k i p j r : Nat} {t u : List Int} (T : TieAt S k i p j r t u) (ne : i ≠ j) : (t.map absI)[p]? = some ((k : Int) + 1) ∧ ∀ m, m < p → (t.map absI)[m]? ≠ some ((k : Int) + 1) := by
  obtain ⟨s, e1, e2⟩ := T.tp
  refine ⟨by rw [List.getElem?_map, e1]; exact congrArg some e2, fun m hm h => ?_⟩
  rw [List.getElem?_map] at h
  cases em : t[m]? with
  | none => rw [em] at h; cases h
  | some s' =>
    rw [em] at h
    rcases T.all i m t s' T.ei em (Option.some.inj h) with z | z
    · omega
    · exact ne z.1
theorem abs_second {S : List (List Int)} {k i p j r : Nat} {t u : List Int} (T : TieAt S k i p j r t u) (ne : i ≠ j) : (u.map absI)[r]? = some ((k : Int) + 1) ∧ ∀ m, m < r → (u.map absI)[m]? ≠ some ((k : Int) + 1) := by
  obtain ⟨s, e1, e2⟩ := T.ur
  refine ⟨by rw [List.getElem?_map, e1]; exact congrArg some e2, fun m hm h => ?_⟩
  rw [List.getElem?_map] at h
  cases em : u[m]? with
  | none => rw [em] at h; cases h
  | some s' =>
    rw [em] at h
    rcases T.all j m u s' T.ej em (Option.some.inj h) with z | z
    · exact ne z.1.symm
    · omega
set_option maxHeartbeats 4000000 in
theorem square_reads {K : PySem.W.Frag} {H : Hp} {Q : VK} {Z : L2.St → Hp → Prop} {b : Addr} {xs : List V} {S : List (List Int)} {k : Nat} (hb : H b = some (.lst xs)) (tS : TuL H xs S) (oS : ShOk S) (hk : k < S.length / 2 * 3)
    (k1 : BadT S ((k : Int) + 1) → ∀ H', Same H H' → Q .non H')
    (k2 : ∀ (i p j r : Nat) (t u : List Int) (P Q' U W : Int), TwoT S k i p j r t u P Q' U W → ∀ (c d e : Addr) (H' : Hp), Same H H' → H' c = some (.tup [.ref e, .ref d]) → H' e = some (.lst [.int (i : Int), .int (j : Int)]) → H' d = some (.tup ([P, Q', U, W].map V.int)) → Q (.ref c) H') :
    tSquare K { nx := Z, rt := Q } [some (.ref b), some (.int ((k : Int) + 1)), none, none, none, none, none, none, none] H := by
  have lS := oS.len
  have lx : xs.length = S.length := tS.1
  refine ⟨_, rfl, b, rfl, ⟨_, SqL.of hb⟩, compEn (K := K) (a := b) (xs := xs) (fun n ys H' => ys = (spotsL S k n).map (fun (i : Nat) => V.int (i : Int)) ∧ Same H H') ⟨rfl, Same.refl _⟩ (by omega) (fun n ys H' h => ?_) (fun n ys H' _ h => SqL.of (h.2 _ _ hb)) ?_ ?_⟩
  · rw [h.1, List.length_map]
    unfold spotsL
    have := List.length_filter_le (fun i => decide ((k : Int) + 1 ∈ (S.getD i []).map absI)) (List.range n)
    rwa [List.length_range] at this
  · rintro n x ys H1 pre pp hpre hx ⟨rfl, s1⟩ hpp
    obtain ⟨t, q, et, rfl, hq⟩ := (tS.up s1.tups).take hx
    have s2 := Same.nw (o := .tup [.int (n : Int), .ref q]) (Same.refl H1) hpp
    have f2 : (upd H1 pp (.tup [.int (n : Int), .ref q])) pp = some (.tup [.int (n : Int), .ref q]) := upd_same
    change gTup K 2 _ _ _ (upd H1 pp (.tup [.int (n : Int), .ref q])) _
    generalize upd H1 pp (.tup [.int (n : Int), .ref q]) = H2 at s2 f2 ⊢
    have s02 := s1.trans s2
    have eg : S.getD n [] = t := by rw [List.getD_eq_getElem?_getD, et]; rfl
    have t3 := oS.three t (List.mem_of_getElem? et)
    rcases pre with _ | ⟨q0, _ | ⟨q1, _ | ⟨q2, pre⟩⟩⟩
    · cases hpre
    · cases hpre
    · refine ⟨pp, _, rfl, SqT.of f2, rfl, _, _, rfl, _, _, rfl, rfl, ⟨[some _, some _], rfl, rfl⟩, ?_⟩
      refine ⟨_, rfl, ?_⟩
      refine absC_reads (i := 1) (q := q) rfl (s2 _ _ hq) (by omega) fun D hD => ?_
      have s3 := Same.nw (o := .lst ((t.map absI).map V.int)) s02 hD
      refine ⟨D, _, rfl, .inl (SqL.of upd_same), rfl, ?_, _, rfl, ?_⟩
      · rw [List.all_eq_true]
        intro v hv
        obtain ⟨i, _, rfl⟩ := List.mem_map.mp hv
        rfl
      · rw [if_neg (by decide), inV_int]
        refine ite2 (fun hc => ?_) (fun hc => ?_)
        · have hc := of_decide_eq_true hc
          refine ⟨_, rfl, ?_, s3⟩
          rw [spotsL_succ, eg, if_pos hc, List.map_append]
          rfl
        · have hc := of_decide_eq_false (Bool.eq_false_iff.mpr hc)
          refine ⟨?_, s3⟩
          rw [spotsL_succ, eg, if_neg hc, List.append_nil]
    · cases hpre
  rintro ys H1 ⟨rfl, s1⟩ D hD
  rw [lx]
  obtain ⟨i, p, j, r, t, u, T⟩ := tie_at oS hk
  rcases T.le with lt | ⟨rfl, _⟩
  · rw [spots_two T lt]
    have s2 := Same.nw (o := .lst [.int (i : Int), .int (j : Int)]) s1 hD
    have f2 : (upd H1 D (.lst [.int (i : Int), .int (j : Int)])) D = some (.lst [.int (i : Int), .int (j : Int)]) := upd_same
    change tSeq _ _ _ _ (upd H1 D (.lst [.int (i : Int), .int (j : Int)]))
    generalize upd H1 D (.lst [.int (i : Int), .int (j : Int)]) = H2 at s2 f2 ⊢
    refine ⟨_, rfl, D, _, rfl, .inl (SqL.of f2), rfl, _, rfl, iteF ?_⟩
    have ne : i ≠ j := Nat.ne_of_lt lt
    have t3 := oS.three t (List.mem_of_getElem? T.ei)
    have u3 := oS.three u (List.mem_of_getElem? T.ej)
    obtain ⟨s, et, es⟩ := T.tp
    obtain ⟨s', eu, es'⟩ := T.ur
    obtain ⟨P, Q1, ra⟩ := rot_first t3 et
    obtain ⟨A, B, rb⟩ := rot_first u3 eu
    have tS2 := tS.up s2.tups
    obtain ⟨qi, hqi, xi⟩ := tS2.get T.ei
    obtain ⟨qj, hqj, xj⟩ := tS2.get T.ej
    obtain ⟨a1, a2⟩ := abs_first T ne
    obtain ⟨b1, b2⟩ := abs_second T ne
    refine ⟨_, rfl, _, rfl, D, _, _, _, rfl, rfl, SqL.of f2, rfl, b, _, _, _, rfl, rfl, SqL.of (s2 _ _ hb), atI_nat xi, _, rfl, qi, t, p, k, rfl, hqi, t3, a1, a2, fun c1 H3 s3 h3 => ?_⟩
    rw [ra] at h3
    refine ⟨c1, _, rfl, SqT.of h3, rfl, _, _, rfl, _, _, rfl, _, _, rfl, rfl, ?_⟩
    have s03 := s2.trans s3
    refine ⟨_, rfl, _, rfl, D, _, _, _, rfl, rfl, SqL.of (s3 _ _ f2), rfl, b, _, _, _, rfl, rfl, SqL.of (s03 _ _ hb), atI_nat xj, _, rfl, qj, u, r, k, rfl, s3 _ _ hqj, u3, b1, b2, fun c2 H4 s4 h4 => ?_⟩
    rw [rb] at h4
    refine ⟨c2, _, rfl, SqT.of h4, rfl, _, _, rfl, _, _, rfl, _, _, rfl, rfl, ?_⟩
    have s04 := s03.trans s4
    have fD := s4 _ _ (s3 _ _ f2)
    refine ⟨_, rfl, _, rfl, rfl, _, rfl, ite2 (fun hc => ?_) (fun hc => ?_)⟩
    · have hc := V.int.inj (of_decide_eq_true hc)
      refine ⟨_, rfl, _, rfl, _, rfl, _, rfl, _, rfl, _, rfl, _, rfl, (by show 4 ≤ sizeLine; decide), fun d hd => ⟨(by show 2 ≤ sizeLine; decide), fun e he => ?_⟩⟩
      have s5 := Same.nw (o := .tup ([P, Q1, -B, -A].map V.int)) (Same.refl H4) hd
      have f5 : (upd H4 d (.tup ([P, Q1, -B, -A].map V.int))) d = some (.tup ([P, Q1, -B, -A].map V.int)) := upd_same
      exact k2 i p j r t u P Q1 (-B) (-A) ⟨T, lt, s, s', A, B, ra, rb, es, es', by rw [if_pos hc]; exact ⟨rfl, rfl⟩⟩ e d D _ (s04.trans (Same.nw s5 he)) upd_same ((Same.nw s5 he) _ _ fD) ((upd_ne (ne_of_none f5 he)).trans f5)
    · have hc : ¬ (s = s') := fun z => of_decide_eq_false (Bool.eq_false_iff.mpr hc) (by rw [z])
      refine ⟨_, rfl, _, rfl, _, rfl, _, rfl, _, rfl, (by show 4 ≤ sizeLine; decide), fun d hd => ⟨(by show 2 ≤ sizeLine; decide), fun e he => ?_⟩⟩
      have s5 := Same.nw (o := .tup ([P, Q1, A, B].map V.int)) (Same.refl H4) hd
      have f5 : (upd H4 d (.tup ([P, Q1, A, B].map V.int))) d = some (.tup ([P, Q1, A, B].map V.int)) := upd_same
      exact k2 i p j r t u P Q1 A B ⟨T, lt, s, s', A, B, ra, rb, es, es', by rw [if_neg hc]; exact ⟨rfl, rfl⟩⟩ e d D _ (s04.trans (Same.nw s5 he)) upd_same ((Same.nw s5 he) _ _ fD) ((upd_ne (ne_of_none f5 he)).trans f5)
  · rw [spots_one T]
    have s2 := Same.nw (o := .lst [.int (i : Int)]) s1 hD
    have f2 : (upd H1 D (.lst [.int (i : Int)])) D = some (.lst [.int (i : Int)]) := upd_same
    change tSeq _ _ _ _ (upd H1 D (.lst [.int (i : Int)]))
    generalize upd H1 D (.lst [.int (i : Int)]) = H2 at s2 f2 ⊢
    exact ⟨_, rfl, D, _, rfl, .inl (SqL.of f2), rfl, _, rfl, iteT (k1 (.inr ⟨k, i, p, r, t, u, rfl, hk, T⟩) H2 s2)⟩
def spLTurned : Sp := fun vs H Q _ => ∃ (b : Addr) (xs : List V) (S : List (List Int)) (k i p j r : Nat) (t u : List Int) (P Q' U W : Int), vs = [.ref b, .int ((k : Int) + 1)] ∧ H b = some (.lst xs) ∧ TuL H xs S ∧ ShOk S ∧ k < S.length / 2 * 3 ∧ TwoT S k i p j r t u P Q' U W ∧
  ∀ (c : Addr) (ys : List V) (H' : Hp), Same H H' → H c = none → H' c = some (.lst ys) → TuL H' ys (turnS S k i j P Q' U W) → Q (.ref c) H'
def tLTurned (K : PySem.W.Frag) : TS := tSeq (tAsg (tCall spSquare [] E0 (tCons (tVar 0) (tCons (tVar 1) tNil))) (gTup K 2 (gCons (gName 2) (gCons (gName 3) gNil)))) (tSeq (tAsg (tVar 3) (gTup K 4 (gCons (gName 4) (gCons (gName 5) (gCons (gName 6) (gCons (gName 7) gNil)))))) (tSeq (tAsg (tCB (fun xs H_1 Q => ∃ p ys, xs = [V.ref p] ∧ (SqL K H_1 p ys ∨ SqT K H_1 p ys) ∧ ∀ (l : Addr), H_1 l = none → Q (V.ref l) (upd H_1 l (HO.lst ys))) (tCons (tVar 0) tNil)) (gName 8)) (tSeq (tAsg (tTup (tCons (tVar 5) (tCons (tVar 6) (tCons (tUn (rU fun i => V.int (-i)) (tVar 1)) tNil)))) (gSub (tVar 8) (tOp (rIxL K) (tVar 2) (tC (V.int 0))) rSetL)) (tSeq (tAsg (tTup (tCons (tVar 7) (tCons (tVar 4) (tCons (tVar 1) tNil)))) (gSub (tVar 8) (tOp (rIxL K) (tVar 2) (tC (V.int 1))) rSetL)) (tRet (tVar 8))))))
set_option maxHeartbeats 4000000 in
theorem lturned_reads {K : PySem.W.Frag} {H : Hp} {Q : VK} {Z : L2.St → Hp → Prop} {b : Addr} {xs : List V} {S : List (List Int)} {k i p j r : Nat} {t u : List Int} {P Q' U W : Int} (hb : H b = some (.lst xs)) (tS : TuL H xs S) (oS : ShOk S) (hk : k < S.length / 2 * 3) (T : TwoT S k i p j r t u P Q' U W)
    (kk : ∀ (c : Addr) (ys : List V) (H' : Hp), Same H H' → H c = none → H' c = some (.lst ys) → TuL H' ys (turnS S k i j P Q' U W) → Q (.ref c) H') :
    tLTurned K { nx := Z, rt := Q } [some (.ref b), some (.int ((k : Int) + 1)), none, none, none, none, none, none, none] H := by
  refine ⟨_, rfl, _, rfl, b, xs, S, k, rfl, hb, tS, oS, hk, fun h => (bad_two hk h T).elim, fun i' p' j' r' t' u' P' Q2 U' W' T' c d e H1 s1 hc he hd => ?_⟩
  obtain ⟨rfl, rfl, rfl, rfl, rfl, rfl⟩ := two_uniq T T'
  have il : i < xs.length := by rw [tS.1]; exact (List.getElem?_eq_some_iff.mp T.ei).1
  have jl : j < xs.length := by rw [tS.1]; exact (List.getElem?_eq_some_iff.mp T.ej).1
  refine ⟨c, _, rfl, SqT.of hc, rfl, _, _, rfl, _, _, rfl, rfl, ?_⟩
  refine ⟨_, rfl, d, _, rfl, SqT.of hd, rfl, _, _, rfl, _, _, rfl, _, _, rfl, _, _, rfl, rfl, ?_⟩
  refine ⟨_, rfl, b, xs, rfl, .inl (SqL.of (s1 _ _ hb)), fun l hl => ?_⟩
  have hel : e ≠ l := ne_of_none he hl
  refine ⟨_, rfl, _, rfl, _, rfl, _, rfl, (by show 3 ≤ sizeLine; decide), fun c1 h1 => ?_⟩
  have n1 : l ≠ c1 := ne_of_none upd_same h1
  have he1 : (upd H1 l (.lst xs)) e = _ := (upd_ne hel).trans he
  have nec : e ≠ c1 := ne_of_none he1 h1
  refine ⟨_, rfl, _, rfl, e, _, _, _, rfl, rfl, SqL.of ((upd_ne nec).trans he1), rfl, l, xs, (i : Int), i, rfl, rfl, (upd_ne n1).trans upd_same, ixN_nat il, ?_⟩
  refine ⟨_, rfl, _, rfl, _, rfl, (by show 3 ≤ sizeLine; decide), fun c2 h2 => ?_⟩
  have n2 : l ≠ c2 := ne_of_none upd_same h2
  have he2 : (upd (upd (upd H1 l (.lst xs)) c1 (.tup [.int Q', .int U, .int (-((k : Int) + 1))])) l (.lst (xs.set i (.ref c1)))) e = some (.lst [.int (i : Int), .int (j : Int)]) := (upd_ne hel).trans ((upd_ne nec).trans he1)
  have ne2 : e ≠ c2 := ne_of_none he2 h2
  refine ⟨_, rfl, _, rfl, e, _, _, _, rfl, rfl, SqL.of ((upd_ne ne2).trans he2), rfl, l, _, (j : Int), j, rfl, rfl, (upd_ne n2).trans upd_same, ixN_nat (by rw [List.length_set]; exact jl), ?_⟩
  refine ⟨_, rfl, ?_⟩
  exact put2 (Q := Q) (t1 := [Q', U, -((k : Int) + 1)]) (t2 := [W, P, (k : Int) + 1]) (b := b) (tS.up s1.tups) hl h1 h2 fun ys H' s' hl' t' => kk l ys H' (s1.trans s') (s1.free hl) hl' t'
end L2
set_option Elab.async false
set_option linter.all false
set_option maxRecDepth 100000
set_option maxHeartbeats 1000000
namespace L2
open PySem PySem.Spec PyProof.Rows
def rowT (r : List Int) (k : Nat) (P Q U W : Int) : List Int := r.set k ((if crs r Q + crs r W > crs r P + crs r U then crs r Q + crs r W else crs r P + crs r U) - r.getD k 0)
theorem rowT_len (r : List Int) (k : Nat) (P Q U W : Int) : (rowT r k P Q U W).length = r.length := by unfold rowT; rw [List.length_set]
theorem aneg (z : Int) : absI (-z) = absI z := by unfold absI; split <;> split <;> omega
theorem crs_neg (r : List Int) (s : Int) : crs r (-s) = crs r s := by unfold crs; rw [aneg]
theorem crs_tie (r : List Int) {s : Int} {k : Nat} (h : absI s = (k : Int) + 1) : crs r s = r.getD k 0 := by
  unfold crs
  rw [h, show ((k : Int) + 1 - 1).toNat = k by omega]
theorem crs_set {r : List Int} {k : Nat} {x s : Int} (hs : 1 ≤ absI s) (h : absI s ≠ (k : Int) + 1) : crs (r.set k x) s = crs r s := by
  unfold crs
  rw [List.getD_eq_getElem?_getD, List.getD_eq_getElem?_getD, List.getElem?_set_ne (by omega)]
theorem crs_set_at {r : List Int} {k : Nat} {x s : Int} (hk : k < r.length) (h : absI s = (k : Int) + 1) : crs (r.set k x) s = x := by
  rw [crs_tie _ h, List.getD_eq_getElem?_getD, List.getElem?_set_self hk]
  rfl
theorem rot_row {S : List (List Int)} {r : List Int} (oS : ShOk S) (ev : EvRow S r) {t : List Int} (ht : t ∈ S) {p : Nat} {f A B : Int} (h : rot t p = [f, A, B]) : (crs r f + crs r A + crs r B) % 2 = 0 ∧ crs r f ≤ crs r A + crs r B ∧ crs r A ≤ crs r f + crs r B ∧ crs r B ≤ crs r f + crs r A := by
  obtain ⟨a, b, c, rfl⟩ := three3 (oS.three t ht)
  obtain ⟨e, l1, l2, l3⟩ := ev.tri a b c ht
  have key : rot [a, b, c] p = [a, b, c] ∨ rot [a, b, c] p = [b, c, a] ∨ rot [a, b, c] p = [c, a, b] := by
    match p with
    | 0 => exact .inl rfl
    | 1 => exact .inr (.inl rfl)
    | 2 => exact .inr (.inr rfl)
    | n + 3 =>
      left
      unfold rot
      rw [List.drop_of_length_le (by simp), List.take_of_length_le (by simp)]
      rfl
  rcases key with z | z | z <;> rw [h] at z <;> simp only [List.cons.injEq, and_true] at z <;> obtain ⟨rfl, rfl, rfl⟩ := z <;> omega
theorem two_ne {S : List (List Int)} (oS : ShOk S) {k i p j r : Nat} {t u : List Int} {P Q U W : Int} (T : TwoT S k i p j r t u P Q U W) : (absI P ≠ (k : Int) + 1 ∧ absI Q ≠ (k : Int) + 1) ∧ absI U ≠ (k : Int) + 1 ∧ absI W ≠ (k : Int) + 1 := by
  obtain ⟨f, g, A, B, ra, rb, af, ag, hs⟩ := T.sq
  have one : ∀ {i p : Nat} {t : List Int} {f A B : Int}, S[i]? = some t → (∀ p' s', t[p']? = some s' → absI s' = (k : Int) + 1 → p' = p) → rot t p = [f, A, B] → p < 3 → absI A ≠ (k : Int) + 1 ∧ absI B ≠ (k : Int) + 1 := fun {i p t f A B} ei uni h pl => by
    obtain ⟨a, b, c, rfl⟩ := three3 (oS.three t (List.mem_of_getElem? ei))
    have hp : p = 0 ∨ p = 1 ∨ p = 2 := by omega
    rcases hp with rfl | rfl | rfl
    · cases h
      exact ⟨fun z => absurd (uni 1 _ rfl z) (by decide), fun z => absurd (uni 2 _ rfl z) (by decide)⟩
    · cases h
      exact ⟨fun z => absurd (uni 2 _ rfl z) (by decide), fun z => absurd (uni 0 _ rfl z) (by decide)⟩
    · cases h
      exact ⟨fun z => absurd (uni 0 _ rfl z) (by decide), fun z => absurd (uni 1 _ rfl z) (by decide)⟩
  have lt := T.lt
  have pl : p < 3 := by
    obtain ⟨s, e, _⟩ := T.tp
    have := (List.getElem?_eq_some_iff.mp e).1
    rw [oS.three t (List.mem_of_getElem? T.ei)] at this
    exact this
  have rl : r < 3 := by
    obtain ⟨s, e, _⟩ := T.ur
    have := (List.getElem?_eq_some_iff.mp e).1
    rw [oS.three u (List.mem_of_getElem? T.ej)] at this
    exact this
  have h1 := one T.ei (fun p' s' e z => by
    rcases T.all i p' t s' T.ei e z with q | q
    · exact q.2
    · omega) ra pl
  have h2 := one T.ej (fun p' s' e z => by
    rcases T.all j p' u s' T.ej e z with q | q
    · omega
    · exact q.2) rb rl
  refine ⟨h1, ?_⟩
  split at hs
  · rw [hs.1, hs.2, aneg, aneg]; exact ⟨h2.2, h2.1⟩
  · rw [hs.1, hs.2]; exact h2
theorem two_row {S : List (List Int)} {r0 : List Int} (oS : ShOk S) (ev : EvRow S r0) {k i p j r : Nat} {t u : List Int} {P Q U W : Int} (T : TwoT S k i p j r t u P Q U W) : ((r0.getD k 0 + crs r0 P + crs r0 Q) % 2 = 0 ∧ r0.getD k 0 ≤ crs r0 P + crs r0 Q ∧ crs r0 P ≤ r0.getD k 0 + crs r0 Q ∧ crs r0 Q ≤ r0.getD k 0 + crs r0 P) ∧ ((r0.getD k 0 + crs r0 U + crs r0 W) % 2 = 0 ∧ r0.getD k 0 ≤ crs r0 U + crs r0 W ∧ crs r0 U ≤ r0.getD k 0 + crs r0 W ∧ crs r0 W ≤ r0.getD k 0 + crs r0 U) := by
  obtain ⟨f, g, A, B, ra, rb, af, ag, hs⟩ := T.sq
  have h1 := rot_row oS ev (List.mem_of_getElem? T.ei) ra
  have h2 := rot_row oS ev (List.mem_of_getElem? T.ej) rb
  rw [crs_tie r0 af] at h1
  rw [crs_tie r0 ag] at h2
  refine ⟨h1, ?_⟩
  split at hs
  · rw [hs.1, hs.2, crs_neg, crs_neg]; omega
  · rw [hs.1, hs.2]; exact h2
theorem two_pos {S : List (List Int)} (oS : ShOk S) {k i p j r : Nat} {t u : List Int} {P Q U W : Int} (T : TwoT S k i p j r t u P Q U W) : 1 ≤ absI P ∧ 1 ≤ absI Q ∧ 1 ≤ absI U ∧ 1 ≤ absI W := by
  have o := turn_ok oS T
  have m1 : [W, P, (k : Int) + 1] ∈ turnS S k i j P Q U W := by
    refine List.mem_of_getElem? (i := j) ?_
    unfold turnS
    rw [List.getElem?_set_self (by rw [List.length_set]; exact (List.getElem?_eq_some_iff.mp T.ej).1)]
  have m2 : [Q, U, -((k : Int) + 1)] ∈ turnS S k i j P Q U W := by
    refine List.mem_of_getElem? (i := i) ?_
    unfold turnS
    rw [List.getElem?_set_ne (by have := T.lt; omega), List.getElem?_set_self ((List.getElem?_eq_some_iff.mp T.ei).1)]
  exact ⟨(o.side m1 (by simp)).1, (o.side m2 (by simp)).1, (o.side m2 (by simp)).1, (o.side m1 (by simp)).1⟩
end L2
set_option Elab.async false
set_option linter.all false
set_option maxRecDepth 100000
set_option maxHeartbeats 1000000
namespace L2
open PySem PySem.Spec PyProof.Rows
section
variable {S : List (List Int)} {r0 : List Int} {k i p j r : Nat} {t u : List Int} {P Q U W : Int}
theorem turn_at (T : TwoT S k i p j r t u P Q U W) (n : Nat) : (turnS S k i j P Q U W)[n]? = if n = j then some [W, P, (k : Int) + 1] else if n = i then some [Q, U, -((k : Int) + 1)] else S[n]? := by
  have il := (List.getElem?_eq_some_iff.mp T.ei).1
  have jl := (List.getElem?_eq_some_iff.mp T.ej).1
  unfold turnS
  by_cases c : n = j
  · rw [if_pos c, c, List.getElem?_set_self (by rw [List.length_set]; exact jl)]
  · rw [if_neg c, List.getElem?_set_ne (fun z => c z.symm)]
    by_cases c2 : n = i
    · rw [if_pos c2, c2, List.getElem?_set_self il]
    · rw [if_neg c2, List.getElem?_set_ne (fun z => c2 z.symm)]
theorem turn_len (S : List (List Int)) (k i j : Nat) (P Q U W : Int) : (turnS S k i j P Q U W).length = S.length := by unfold turnS; rw [List.length_set, List.length_set]
theorem turn_row (oS : ShOk S) (ev : EvRow S r0) (hk : k < S.length / 2 * 3) (T : TwoT S k i p j r t u P Q U W) : EvRow (turnS S k i j P Q U W) (rowT r0 k P Q U W) := by
  obtain ⟨⟨nP, nQ⟩, nU, nW⟩ := two_ne oS T
  obtain ⟨a1, a2⟩ := two_row oS ev T
  obtain ⟨pP, pQ, pU, pW⟩ := two_pos oS T
  have kl : k < r0.length := by rw [ev.len]; exact hk
  have ak : absI ((k : Int) + 1) = (k : Int) + 1 := by unfold absI; rw [if_neg (by omega)]
  have ak' : absI (-((k : Int) + 1)) = (k : Int) + 1 := by rw [aneg]; exact ak
  have cP : crs (rowT r0 k P Q U W) P = crs r0 P := crs_set pP nP
  have cQ : crs (rowT r0 k P Q U W) Q = crs r0 Q := crs_set pQ nQ
  have cU : crs (rowT r0 k P Q U W) U = crs r0 U := crs_set pU nU
  have cW : crs (rowT r0 k P Q U W) W = crs r0 W := crs_set pW nW
  have ck : ∀ s, absI s = (k : Int) + 1 → crs (rowT r0 k P Q U W) s = (if crs r0 Q + crs r0 W > crs r0 P + crs r0 U then crs r0 Q + crs r0 W else crs r0 P + crs r0 U) - r0.getD k 0 := fun s hs => crs_set_at kl hs
  refine ⟨by rw [rowT_len, ev.len, turn_len], fun x hx => ?_, fun a b c h => ?_⟩
  · unfold rowT at hx
    rcases List.mem_or_eq_of_mem_set hx with z | z
    · exact ev.nn x z
    · rw [z]; split <;> omega
  · obtain ⟨n, hn⟩ := List.mem_iff_getElem?.mp h
    rw [turn_at T] at hn
    by_cases c1 : n = j
    · rw [if_pos c1] at hn
      cases hn
      rw [cW, cP, ck _ ak]
      split <;> omega
    · rw [if_neg c1] at hn
      by_cases c2 : n = i
      · rw [if_pos c2] at hn
        cases hn
        rw [cQ, cU, ck _ ak']
        split <;> omega
      · rw [if_neg c2] at hn
        have ms : [a, b, c] ∈ S := List.mem_of_getElem? hn
        have ne : ∀ (q : Nat) (s : Int), [a, b, c][q]? = some s → crs (rowT r0 k P Q U W) s = crs r0 s := fun q s hs => by
          refine crs_set (oS.side ms (List.mem_of_getElem? hs)).1 fun z => ?_
          rcases T.all n q _ s hn hs z with w | w
          · exact c2 w.1
          · exact c1 w.1
        rw [ne 0 a rfl, ne 1 b rfl, ne 2 c rfl]
        exact ev.tri a b c ms
theorem turn_two (oS : ShOk S) (hk : k < S.length / 2 * 3) (T : TwoT S k i p j r t u P Q U W) : TwoT (turnS S k i j P Q U W) k i 2 j 2 [Q, U, -((k : Int) + 1)] [W, P, (k : Int) + 1] Q U W P := by
  have lt := T.lt
  have ak : absI ((k : Int) + 1) = (k : Int) + 1 := by unfold absI; rw [if_neg (by omega)]
  have ak' : absI (-((k : Int) + 1)) = (k : Int) + 1 := by rw [aneg]; exact ak
  have ei : (turnS S k i j P Q U W)[i]? = some [Q, U, -((k : Int) + 1)] := by rw [turn_at T, if_neg (by omega), if_pos rfl]
  have ej : (turnS S k i j P Q U W)[j]? = some [W, P, (k : Int) + 1] := by rw [turn_at T, if_pos rfl]
  obtain ⟨i', p', j', r', t', u', X⟩ := tie_at (turn_ok oS T) (k := k) (by rw [turn_len]; exact hk)
  have h1 := X.all i 2 _ _ ei rfl ak'
  have h2 := X.all j 2 _ _ ej rfl ak
  have le := X.le
  have e : i = i' ∧ 2 = p' ∧ j = j' ∧ 2 = r' := by omega
  obtain ⟨rfl, rfl, rfl, rfl⟩ := e
  have et : t' = [Q, U, -((k : Int) + 1)] := by have := X.ei; rw [ei] at this; exact (Option.some.inj this).symm
  have eu : u' = [W, P, (k : Int) + 1] := by have := X.ej; rw [ej] at this; exact (Option.some.inj this).symm
  subst et eu
  refine ⟨X, lt, -((k : Int) + 1), (k : Int) + 1, W, P, rfl, rfl, ak', ak, ?_⟩
  rw [if_neg (by omega)]
  exact ⟨rfl, rfl⟩
theorem row_back (oS : ShOk S) (ev : EvRow S r0) (hk : k < S.length / 2 * 3) (T : TwoT S k i p j r t u P Q U W) : rowT (rowT r0 k P Q U W) k Q U W P = r0 := by
  obtain ⟨⟨nP, nQ⟩, nU, nW⟩ := two_ne oS T
  obtain ⟨pP, pQ, pU, pW⟩ := two_pos oS T
  have kl : k < r0.length := by rw [ev.len]; exact hk
  have cP : crs (rowT r0 k P Q U W) P = crs r0 P := crs_set pP nP
  have cQ : crs (rowT r0 k P Q U W) Q = crs r0 Q := crs_set pQ nQ
  have cU : crs (rowT r0 k P Q U W) U = crs r0 U := crs_set pU nU
  have cW : crs (rowT r0 k P Q U W) W = crs r0 W := crs_set pW nW
  have gk : (rowT r0 k P Q U W).getD k 0 = (if crs r0 Q + crs r0 W > crs r0 P + crs r0 U then crs r0 Q + crs r0 W else crs r0 P + crs r0 U) - r0.getD k 0 := by
    unfold rowT
    rw [List.getD_eq_getElem?_getD, List.getElem?_set_self kl]
    rfl
  have e0 : r0[k]? = some (r0.getD k 0) := by rw [List.getD_eq_getElem?_getD, List.getElem?_eq_getElem kl]; rfl
  have val : (if crs (rowT r0 k P Q U W) U + crs (rowT r0 k P Q U W) P > crs (rowT r0 k P Q U W) Q + crs (rowT r0 k P Q U W) W then crs (rowT r0 k P Q U W) U + crs (rowT r0 k P Q U W) P else crs (rowT r0 k P Q U W) Q + crs (rowT r0 k P Q U W) W) - (rowT r0 k P Q U W).getD k 0 = r0.getD k 0 := by
    rw [gk, cP, cQ, cU, cW]
    split <;> split <;> omega
  show (rowT r0 k P Q U W).set k _ = r0
  rw [val]
  unfold rowT
  rw [List.set_set]
  apply List.ext_getElem?
  intro n
  by_cases c : k = n
  · subst c
    rw [List.getElem?_set_self kl, e0]
  · rw [List.getElem?_set_ne c]
end
end L2
set_option Elab.async false
set_option linter.all false
set_option maxRecDepth 100000
set_option maxHeartbeats 1000000
namespace L2
open PySem PySem.Spec PyProof.Rows
def flipS (f : Int) (t : List Int) : List Int := t.map fun s => s * (1 - 2 * (if absI s = f then 1 else 0))
def negR (l : List Int) : List Int := l.reverse.map fun z => -z
def ways (s : List Int) : List (List Int) := [rot s 0, negR (rot s 0), rot s 1, negR (rot s 1), rot s 2, negR (rot s 2)]
def SameW (s s' : List Int) : Prop := ∀ x, x ∈ ways s ↔ x ∈ ways s'
theorem SameW.refl (s : List Int) : SameW s s := fun _ => Iff.rfl
theorem SameW.trans {a b c : List Int} (h : SameW a b) (k : SameW b c) : SameW a c := fun x => (h x).trans (k x)
theorem SameW.symm {a b : List Int} (h : SameW a b) : SameW b a := fun x => (h x).symm
theorem ways3 (a b c : Int) : ways [a, b, c] = [[a, b, c], [-c, -b, -a], [b, c, a], [-a, -c, -b], [c, a, b], [-b, -a, -c]] := rfl
theorem ways_turn (a b c : Int) : SameW [a, b, c] [b, c, a] := fun x => by
  rw [ways3, ways3]
  simp only [List.mem_cons, List.not_mem_nil, or_false]
  constructor <;> (intro h; rcases h with h | h | h | h | h | h <;> simp [h])
theorem ways_back (a b c : Int) : SameW [a, b, c] [-c, -b, -a] := fun x => by
  rw [ways3, ways3]
  simp only [List.mem_cons, List.not_mem_nil, or_false, Int.neg_neg]
  constructor <;> (intro h; rcases h with h | h | h | h | h | h <;> simp [h])
theorem ways_rot {t : List Int} {p : Nat} {f A B : Int} (h3 : t.length = 3) (hp : p < 3) (h : rot t p = [f, A, B]) : SameW t [f, A, B] := by
  obtain ⟨a, b, c, rfl⟩ := three3 h3
  have hc : p = 0 ∨ p = 1 ∨ p = 2 := by omega
  rcases hc with rfl | rfl | rfl
  · cases h; exact SameW.refl _
  · cases h; exact ways_turn _ _ _
  · cases h; exact (ways_turn _ _ _).trans (ways_turn _ _ _)
theorem flip_none {f : Int} {t : List Int} (h : ∀ s ∈ t, absI s ≠ f) : flipS f t = t := by
  unfold flipS
  conv => rhs; rw [← List.map_id t]
  refine List.map_congr_left fun s hs => ?_
  rw [if_neg (h s hs)]
  show s * (1 - 2 * 0) = s
  omega
theorem flip_hit {f s : Int} (h : absI s = f) : s * (1 - 2 * (if absI s = f then 1 else 0)) = -s := by rw [if_pos h]; omega
theorem flip_miss {f s : Int} (h : absI s ≠ f) : s * (1 - 2 * (if absI s = f then 1 else 0)) = s := by rw [if_neg h]; omega
section
variable {S : List (List Int)} {k i p j r : Nat} {t u : List Int} {P Q U W : Int}
theorem again_ways (oS : ShOk S) (T : TwoT S k i p j r t u P Q U W) : ∃ φ : Int, (φ = 0 ∨ φ = (k : Int) + 1) ∧ SameW (flipS φ [U, W, -((k : Int) + 1)]) u ∧ SameW (flipS φ [P, Q, (k : Int) + 1]) t ∧ ∀ (n : Nat) (t' : List Int), n ≠ i → n ≠ j → S[n]? = some t' → flipS φ t' = t' := by
  obtain ⟨⟨nP, nQ⟩, nU, nW⟩ := two_ne oS T
  obtain ⟨pP, pQ, pU, pW⟩ := two_pos oS T
  obtain ⟨f, g, A, B, ra, rb, af, ag, hs⟩ := T.sq
  have ak : absI ((k : Int) + 1) = (k : Int) + 1 := by unfold absI; rw [if_neg (by omega)]
  have ak' : absI (-((k : Int) + 1)) = (k : Int) + 1 := by rw [aneg]; exact ak
  have t3 := oS.three t (List.mem_of_getElem? T.ei)
  have u3 := oS.three u (List.mem_of_getElem? T.ej)
  have pl : p < 3 := by obtain ⟨s, e, _⟩ := T.tp; have := (List.getElem?_eq_some_iff.mp e).1; omega
  have rl : r < 3 := by obtain ⟨s, e, _⟩ := T.ur; have := (List.getElem?_eq_some_iff.mp e).1; omega
  have wt := ways_rot t3 pl ra
  have wu := ways_rot u3 rl rb
  have fe : f = (k : Int) + 1 ∨ f = -((k : Int) + 1) := by unfold absI at af; split at af <;> omega
  have ge : g = (k : Int) + 1 ∨ g = -((k : Int) + 1) := by unfold absI at ag; split at ag <;> omega
  have oth : ∀ (n : Nat) (t' : List Int), n ≠ i → n ≠ j → S[n]? = some t' → ∀ s ∈ t', absI s ≠ (k : Int) + 1 ∧ absI s ≠ 0 := fun n t' ni nj e s hs' => by
    obtain ⟨q, hq⟩ := List.mem_iff_getElem?.mp hs'
    refine ⟨fun z => ?_, by have := (oS.side (List.mem_of_getElem? e) hs').1; omega⟩
    rcases T.all n q t' s e hq z with w | w
    · exact ni w.1
    · exact nj w.1
  have z0 : ∀ l : List Int, (∀ s ∈ l, 1 ≤ absI s) → flipS 0 l = l := fun l hl => flip_none fun s hs' => by have := hl s hs'; omega
  rcases fe with rfl | rfl
  · refine ⟨0, .inl rfl, ?_, ?_, fun n t' ni nj e => flip_none fun s hs' => (oth n t' ni nj e s hs').2⟩
    · rw [z0 _ (fun s hs' => by simp only [List.mem_cons, List.not_mem_nil, or_false] at hs'; rcases hs' with rfl | rfl | rfl <;> omega)]
      refine SameW.trans ?_ wu.symm
      rcases ge with rfl | rfl
      · rw [if_pos rfl] at hs
        rw [hs.1, hs.2]
        exact (ways_back _ _ _).symm
      · rw [if_neg (by omega)] at hs
        rw [hs.1, hs.2]
        exact (ways_turn _ _ _).symm
    · rw [z0 _ (fun s hs' => by simp only [List.mem_cons, List.not_mem_nil, or_false] at hs'; rcases hs' with rfl | rfl | rfl <;> omega)]
      exact (ways_turn _ _ _).symm.trans wt.symm
  · refine ⟨(k : Int) + 1, .inr rfl, ?_, ?_, fun n t' ni nj e => flip_none fun s hs' => (oth n t' ni nj e s hs').1⟩
    · show SameW [_, _, _] u
      dsimp only
      rw [flip_miss nU, flip_miss nW, flip_hit ak', Int.neg_neg]
      refine SameW.trans ?_ wu.symm
      rcases ge with rfl | rfl
      · rw [if_neg (by omega)] at hs
        rw [hs.1, hs.2]
        exact (ways_turn _ _ _).symm
      · rw [if_pos rfl] at hs
        rw [hs.1, hs.2]
        have := (ways_back (-((k : Int) + 1)) A B).symm
        rw [Int.neg_neg] at this
        exact this
    · show SameW [_, _, _] t
      dsimp only
      rw [flip_miss nP, flip_miss nQ, flip_hit ak]
      exact (ways_turn _ _ _).symm.trans wt.symm
end
end L2
set_option Elab.async false
set_option linter.all false
set_option maxRecDepth 100000
set_option maxHeartbeats 1000000
namespace L2
open PySem PySem.Spec PyProof.Rows
section
variable {prog : Program} {w : World} {A : Around} {E : Value → Shared → Prop} {s : Shared}
theorem rc_lists {tp : Bool} {x y : Value} {us vs : List (List Int)} {Q : Value → Shared → Prop} (hu : A.units + 8 < cLine) (hx : LsV s.heap tp x us) (hy : LsV s.heap tp y vs) (h : Q (.bool (lexLL us vs)) s) : wpAny (model prog w) A (richCompare .Lt x y) Q E s := by
  obtain ⟨a, its, rfl, ⟨⟨c1, d1, t1, l1⟩, o1, k1, n1, e1⟩, z1, p1⟩ := hx
  obtain ⟨b, jts, rfl, ⟨⟨c2, d2, t2, l2⟩, o2, k2, n2, e2⟩, z2, p2⟩ := hy
  simp only at k1 e1 k2 e2
  subst k1 e1 k2 e2
  refine richCompare_meets_room (op := .Lt) ⟨_, o1, rfl⟩ ⟨_, o2, rfl⟩ PySem.F.slot_list_lt PySem.F.entry_list_lt (PySem.F.args_list_lt_2 _ _) (list_ltL tp a b its jts n1 n2 d1 d2 l1 l2 us vs z1 z2) ⟨by omega, o1, o2, p1, p2, ?_⟩ (by omega)
  exact (show Value.bool (lexLL us vs) ≠ Value.notImplemented ∧ Q (.bool (lexLL us vs)) s from ⟨(fun x => nomatch x), h⟩)
end
abbrev Kept (h0 h : Heap) : Prop := ∀ b o, h0.get? b = some o → h.get? b = some o
section
variable {prog : Program} {w : World} {A : Around} {R : Result → Shared → Prop} {I : Addr} {fp wr : List Addr} {n : Nat} {P : Nat → Value → Prop} {St : Nat → Heap → Prop}
theorem nameMin : (toString "min" ++ toString ".loop" : String) = "min.loop" := by decide
theorem min_goes (W : Walks prog w A.in1 I fp wr n P St) (bt : Nat → Nat → Bool) (h0 : Heap) (S : Addr) (nS : S ∉ fp) (old : ∀ b o, h0.get? b = some o → b ∉ wr ∧ b ≠ S)
    (cmp : ∀ i j vi vj (s : Shared) (Q : Value → Shared → Prop) (E : Value → Shared → Prop), Kept h0 s.heap → P i vi → P j vj → Q (.bool (bt i j)) s → wpAny (model prog w) A.in1 (richCompare .Lt vi vj) Q E s) :
    ∀ (m j : Nat) (s : Shared) (vb : Value) (c : Nat), n - (j + 1) = m → j + 1 ≤ n → St (j + 1) s.heap → P (argBest bt j) vb → Kept h0 s.heap → s.heap.get? S = some { cls := .type "list", dict := none, data := .seq #[vb, vb] c, slots := #[] } →
    (∀ v h' tk, P (argBest bt (n - 1)) v → Kept h0 h' → R (.ok (.ret v)) { s with heap := h', toks := tk }) → codeAny (model prog w) A (.builtin "min.loop" ⟨[.ref I, .none, .ref S], []⟩) R s := by
  have wS : S ∉ wr := fun h => nS (W.sub _ h)
  intro m
  induction m with
  | zero =>
    intro j s vb c hm hj st pb kp hS hR
    have ej : j + 1 = n := by omega
    refine codeAny_builtin F.entry_min_loop ?_
    rw [Around.under_plainId F.plain_min_loop _]
    show wpAny _ A.in1 (seqItems? (.ref S) >>= _) _ _ s
    refine wpAny_bind (wpAny_seqItems hS rfl ?_)
    show wpAny _ A.in1 (tryCatch (pyNext (.ref I)) _ >>= _) _ _ s
    refine wpAny_bind (wpAny_tryCatch (W.done s _ _ (ej ▸ st) fun h' tk kk => ?_))
    have hS' := kk S _ wS hS
    show wpAny _ A.in1 (updateSeq S (fun _ => #[]) >>= _) _ _ _
    refine wpAny_bind ?_
    refine wpAny_updateSeq hS' rfl (wpAny_bind (wpAny_letGo (wpAny_pure ?_)))
    exact hR vb _ tk (by rw [← ej]; exact pb) fun b o e => (Heap.get?_update_other _ _ (Ne.symm (old b o e).2)).trans (kk b o (old b o e).1 (kp b o e))
  | succ m ih =>
    intro j s vb c hm hj st pb kp hS hR
    have lt : j + 1 < n := by omega
    refine codeAny_builtin F.entry_min_loop ?_
    rw [Around.under_plainId F.plain_min_loop _]
    show wpAny _ A.in1 (seqItems? (.ref S) >>= _) _ _ s
    refine wpAny_bind (wpAny_seqItems hS rfl ?_)
    show wpAny _ A.in1 (tryCatch (pyNext (.ref I)) _ >>= _) _ _ s
    refine wpAny_bind (wpAny_tryCatch (W.item (j + 1) s _ _ lt st fun v h' tk pv st' kk => ?_))
    have hS' := kk S _ wS hS
    have kp' : Kept h0 h' := fun b o e => kk b o (old b o e).1 (kp b o e)
    show wpAny _ A.in1 (tryCatch (holding [v, v] (richCompare .Lt v vb >>= _)) _ >>= _) _ _ _
    refine wpAny_bind (wpAny_tryCatch (wpAny_holding (wpAny_bind (cmp (j + 1) (argBest bt j) v vb _ _ _ kp' pv pb ?_))))
    refine wpAny_bind (wpAny_holding (wpAny_truthy_bool ?_))
    refine wpAny_bind (wpAny_letGo (wpAny_pure ?_))
    cases hb : bt (j + 1) (argBest bt j) with
    | true =>
      simp only [if_true]
      refine wpAny_bind ?_
      refine wpAny_updateSeq hS' rfl (wpAny_bind (wpAny_letGo ?_))
      rw [nameMin]
      exact wpAny_pure ⟨plainId_quiet F.plain_min_loop _, ih (j + 1) _ v _ (by omega) lt (W.frame _ _ _ st' fun b hf o e => (Heap.get?_update_other _ _ (fun z : S = b => nS (by rw [z]; exact hf))).trans e) (by simp only [argBest, hb, if_true]; exact pv) (fun b o e => (Heap.get?_update_other _ _ (Ne.symm (old b o e).2)).trans (kp' b o e)) (Heap.get?_update_self _ hS' rfl) fun v' h'' tk'' p' k'' => hR v' h'' tk'' p' k''⟩
    | false =>
      simp only [Bool.false_eq_true, if_false]
      refine wpAny_bind (wpAny_letGo ?_)
      rw [nameMin]
      exact wpAny_pure ⟨plainId_quiet F.plain_min_loop _, ih (j + 1) _ vb c (by omega) lt st' (by simp only [argBest, hb, Bool.false_eq_true, if_false]; exact pb) kp' hS' fun v' h'' tk'' p' k'' => hR v' h'' tk'' p' k''⟩
theorem min_begins (W : Walks prog w A.in1 I fp wr n P St) (bt : Nat → Nat → Bool) (h0 : Heap) (S : Addr) (nS : S ∉ fp) (old : ∀ b o, h0.get? b = some o → b ∉ wr ∧ b ≠ S)
    (cmp : ∀ i j vi vj (s : Shared) (Q : Value → Shared → Prop) (E : Value → Shared → Prop), Kept h0 s.heap → P i vi → P j vj → Q (.bool (bt i j)) s → wpAny (model prog w) A.in1 (richCompare .Lt vi vj) Q E s) (n0 : 0 < n) {s : Shared} {c : Nat} (st : St 0 s.heap) (kp : Kept h0 s.heap)
    (hS : s.heap.get? S = some { cls := .type "list", dict := none, data := .seq #[] c, slots := #[] }) (hR : ∀ v h' tk, P (argBest bt (n - 1)) v → Kept h0 h' → R (.ok (.ret v)) { s with heap := h', toks := tk }) :
    codeAny (model prog w) A (.builtin "min.loop" ⟨[.ref I, .none, .ref S], []⟩) R s := by
  have wS : S ∉ wr := fun h => nS (W.sub _ h)
  refine codeAny_builtin F.entry_min_loop ?_
  rw [Around.under_plainId F.plain_min_loop _]
  show wpAny _ A.in1 (seqItems? (.ref S) >>= _) _ _ s
  refine wpAny_bind (wpAny_seqItems hS rfl ?_)
  show wpAny _ A.in1 (tryCatch (pyNext (.ref I)) _ >>= _) _ _ s
  refine wpAny_bind (wpAny_tryCatch (W.item 0 s _ _ n0 st fun v h' tk pv st' kk => ?_))
  have hS' := kk S _ wS hS
  have kp' : Kept h0 h' := fun b o e => kk b o (old b o e).1 (kp b o e)
  show wpAny _ A.in1 (updateSeq S (fun _ => #[v, v]) >>= _) _ _ _
  refine wpAny_bind ?_
  refine wpAny_updateSeq hS' rfl ?_
  rw [nameMin]
  exact wpAny_pure ⟨plainId_quiet F.plain_min_loop _, min_goes W bt h0 S nS old cmp _ 0 _ v _ rfl n0 (W.frame _ _ _ st' fun b hf o e => (Heap.get?_update_other _ _ (fun z : S = b => nS (by rw [z]; exact hf))).trans e) pv (fun b o e => (Heap.get?_update_other _ _ (Ne.symm (old b o e).2)).trans (kp' b o e)) (Heap.get?_update_self _ hS' rfl) fun v' h'' tk'' p' k'' => hR v' h'' tk'' p' k''⟩
end
section
variable {prog : Program} {w : World} {A : Around} {E : Value → Shared → Prop} {s : Shared}
theorem call_minH {l : Addr} {items : Array Value} {bt : Nat → Nat → Bool} {Q : Value → Shared → Prop} (hh : A.handled = none) (hl : s.heap.IsList l items) (hne : 0 < items.size)
    (cmp : ∀ i j vi vj (s' : Shared) (Q : Value → Shared → Prop) (E : Value → Shared → Prop), Kept s.heap s'.heap → items[i]? = some vi → items[j]? = some vj → Q (.bool (bt i j)) s' → wpAny (model prog w) A.in1 (richCompare .Lt vi vj) Q E s')
    (h : ∀ v h' tk, items[argBest bt (items.size - 1)]? = some v → Kept s.heap h' → Q v { s with heap := h', toks := tk }) : wpAny (model prog w) A (call (.builtin "min") [.ref l]) Q E s := by
  refine call_function_tree F.kind_min F.plain_min F.entry_min (F.args_min1 _) ?_
  show wpAny _ A.in1 (Builtin.Builtins.bindParams "min" ["key", "default"] 0 ⟨[], []⟩ >>= _) _ _ s
  refine wpAny_bind (wpAny_of_eq (show Builtin.Builtins.bindParams "min" ["key", "default"] 0 ⟨[], []⟩ = pure [none, none] from rfl) ?_)
  refine wpAny_bind (wpAny_pure ?_)
  have ll : l < s.heap.objs.size := by obtain ⟨_, e, _⟩ := hl; exact Heap.lt_size e
  refine wpAny_bind (wpAny_pyIter_list hl ?_)
  refine wpAny_bind (wpAny_newObj_type ?_)
  rw [nameMin]
  have e1 : (s.heap.push { cls := .type "list_iterator", data := .fields #[.ref l, .int 0 0] }).objs.size = s.heap.objs.size + 1 := Heap.size_push ..
  refine wpAny_pure ⟨plainId_quiet F.plain_min_loop _, min_begins (Walks.list (A := A.in1) hh s.heap.objs.size l (Nat.ne_of_lt ll) items) bt s.heap _ (fun hm => ?_) (fun b o e => ⟨fun hm => ?_, ?_⟩) cmp hne ⟨⟨_, Heap.get?_push_of_some _ (Heap.get?_push_size _ rfl), rfl, rfl⟩, (hl.push _).push _⟩ (fun b o e => Heap.get?_push_of_some _ (Heap.get?_push_of_some _ e)) (Heap.get?_push_size _ rfl) fun v h' tk hP hk => h v h' tk hP hk⟩
  · rcases List.mem_cons.mp hm with z | hm
    · rw [e1] at z; exact absurd z (Nat.succ_ne_self _)
    · rw [List.mem_singleton] at hm
      rw [e1] at hm; exact absurd ll (by rw [← hm]; exact Nat.not_lt.mpr (Nat.le_succ _))
  · rw [List.mem_singleton] at hm
    have := Heap.lt_size e
    rw [hm] at this; exact Nat.lt_irrefl _ this
  · have := Heap.lt_size e
    show b ≠ (s.heap.push _).objs.size
    rw [e1]; exact Nat.ne_of_lt (Nat.lt_succ_of_lt this)
end
section
variable {X : Cx}
theorem best_least {us : Nat → List (List Int)} : ∀ k, argBest (fun i j => lexLL (us i) (us j)) k ≤ k ∧ ∀ j, j ≤ k → lexLL (us j) (us (argBest (fun i j => lexLL (us i) (us j)) k)) = false
  | 0 => ⟨Nat.le_refl _, fun j hj => by rw [Nat.le_zero.mp hj]; exact lexLL_irr _⟩
  | k + 1 => by
    obtain ⟨h1, h2⟩ := best_least (us := us) k
    show (if lexLL (us (k + 1)) (us (argBest (fun i j => lexLL (us i) (us j)) k)) = true then k + 1 else argBest (fun i j => lexLL (us i) (us j)) k) ≤ k + 1 ∧ ∀ j, j ≤ k + 1 → lexLL (us j) (us (if lexLL (us (k + 1)) (us (argBest (fun i j => lexLL (us i) (us j)) k)) = true then k + 1 else argBest (fun i j => lexLL (us i) (us j)) k)) = false
    generalize argBest (fun i j => lexLL (us i) (us j)) k = m at h1 h2 ⊢
    by_cases c : lexLL (us (k + 1)) (us m) = true
    · rw [if_pos c]
      refine ⟨Nat.le_refl _, fun j hj => ?_⟩
      by_cases ej : j = k + 1
      · rw [ej]; exact lexLL_irr _
      · have := h2 j (by omega)
        cases z : lexLL (us j) (us (k + 1)) with
        | false => rfl
        | true => rw [lexLL_trans z c] at this; cases this
    · rw [if_neg c]
      refine ⟨by omega, fun j hj => ?_⟩
      by_cases ej : j = k + 1
      · rw [ej]; simpa using c
      · exact h2 j (by omega)
theorem call_minLL (tp : Bool) {k : Nat} (hc : X.calm = true) (hr : Room k X.A) : CallR X (.builtin "min") (fun xs H Q => ∃ (p : Addr) (ys : List V) (uss : List (List (List Int))), xs = [.ref p] ∧ SqL X.K H p ys ∧ LsL H tp ys uss ∧ uss ≠ [] ∧
    ∀ (i : Nat) (y : V) (u : List (List Int)), ys[i]? = some y → uss[i]? = some u → (∀ v ∈ uss, lexLL v u = false) → Q y H) := by
  intro pins s σ H xs us Q I r h
  obtain ⟨p, ys, uss, rfl, hp, hL, ne, q⟩ := h
  obtain ⟨u, rfl, rx⟩ := vals1 r
  cases rx
  obtain ⟨its, rv, pl, hz⟩ := I.list hp
  have hlen : its.length = uss.length := by rw [← rv.length]; exact hL.1
  have row : ∀ (i : Nat) (v : Value), its[i]? = some v → ∃ (a : Addr), v = .ref a ∧ ys[i]? = some (.ref a) ∧ uss[i]? = some (uss.getD i []) ∧ LsV s.heap tp v (uss.getD i []) := fun i v e => by
    have il : i < its.length := (List.getElem?_eq_some_iff.mp e).1
    have e1 : ys[i]? = some (ys[i]'(by rw [hL.1]; omega)) := List.getElem?_eq_getElem _
    have e2 : uss[i]? = some (uss[i]'(by omega)) := List.getElem?_eq_getElem _
    obtain ⟨a, xs, ea, ha, k⟩ := hL.2 i _ _ e1 e2
    obtain ⟨v', ev', rr⟩ := rv.get e1
    rw [e] at ev'
    cases ev'
    rw [ea] at rr e1
    cases rr
    have eg : uss.getD i [] = uss[i]'(by omega) := by rw [List.getD_eq_getElem?_getD, e2]; rfl
    rw [eg]
    exact ⟨a, rfl, e1, e2, ls_of I ha k⟩
  have hu := hr.un
  have n0 : 0 < its.length := by
    rw [hlen]
    cases uss with
    | nil => exact absurd rfl ne
    | cons a b => simp
  refine call_minH (bt := fun i j => lexLL (uss.getD i []) (uss.getD j [])) (I.ok.hd hc) pl.isList (by simpa using n0) (fun i j vi vj s' Q' E' kp hi hj q' => ?_) fun v h' tk hv kp => ?_
  · obtain ⟨_, _, _, _, L1⟩ := row i vi (by simpa using hi)
    obtain ⟨_, _, _, _, L2⟩ := row j vj (by simpa using hj)
    exact rc_lists (s := s') (by show X.A.units + 1 + 8 < cLine; omega) (L1.keep kp) (L2.keep kp) q'
  · obtain ⟨b1, b2⟩ := best_least (us := fun i => uss.getD i []) (its.toArray.size - 1)
    generalize argBest (fun i j => lexLL (uss.getD i []) (uss.getD j [])) (its.toArray.size - 1) = m at hv b1 b2
    obtain ⟨a, rfl, ey, eu, _⟩ := row m v (by simpa using hv)
    refine ⟨.ref a, H, I.kept kp, rfl, q m _ _ ey eu fun v hv' => ?_⟩
    obtain ⟨j, hj⟩ := List.mem_iff_getElem?.mp hv'
    have jl := (List.getElem?_eq_some_iff.mp hj).1
    have := b2 j (by rw [List.size_toArray]; omega)
    rw [show uss.getD j [] = v by rw [List.getD_eq_getElem?_getD, hj]; rfl] at this
    exact this
end
end L2
set_option Elab.async false
set_option linter.all false
set_option maxRecDepth 100000
set_option maxHeartbeats 1000000
namespace L2
open PySem PySem.Spec PyProof.Rows
def ic (l : List Int) : List (List Int) := l.map fun i => [i]
theorem ic_inj : ∀ {a b : List Int}, ic a = ic b → a = b
  | [], [], _ => rfl
  | [], b :: bs, h => by cases h
  | a :: as, [], h => by cases h
  | a :: as, b :: bs, h => by
    have h1 : [a] :: ic as = [b] :: ic bs := h
    simp only [List.cons.injEq, and_true] at h1
    rw [h1.1, ic_inj h1.2]
def leastW (s : List Int) : List Int := (ways s).getD (argBest (fun i j => lexLL (ic ((ways s).getD i [])) (ic ((ways s).getD j []))) 5) []
theorem leastW_ok (s : List Int) : leastW s ∈ ways s ∧ ∀ x ∈ ways s, lexLL (ic x) (ic (leastW s)) = false := by
  obtain ⟨b1, b2⟩ := best_least (us := fun i => ic ((ways s).getD i [])) 5
  have wl : (ways s).length = 6 := rfl
  unfold leastW
  generalize argBest (fun i j => lexLL (ic ((ways s).getD i [])) (ic ((ways s).getD j []))) 5 = m at b1 b2 ⊢
  refine ⟨?_, fun x hx => ?_⟩
  · rw [List.getD_eq_getElem?_getD, List.getElem?_eq_getElem (by omega)]
    exact List.getElem_mem _
  · obtain ⟨j, hj⟩ := List.mem_iff_getElem?.mp hx
    have jl := (List.getElem?_eq_some_iff.mp hj).1
    have := b2 j (by omega)
    rw [show (ways s).getD j [] = x by rw [List.getD_eq_getElem?_getD, hj]; rfl] at this
    exact this
theorem leastW_uni {s x : List Int} (hx : x ∈ ways s) (h : ∀ y ∈ ways s, lexLL (ic y) (ic x) = false) : x = leastW s :=
  ic_inj (lexLL_tot ((leastW_ok s).2 x hx) (h _ (leastW_ok s).1))
theorem leastW_same {s s' : List Int} (h : SameW s s') : leastW s = leastW s' :=
  leastW_uni ((h _).mp (leastW_ok s).1) fun y hy => (leastW_ok s).2 y ((h y).mpr hy)
section
variable {S : List (List Int)} {k i p j r : Nat} {t u : List Int} {P Q U W : Int}
theorem swap_perm (T : TwoT S k i p j r t u P Q U W) : ((S.set i u).set j t).Perm S := by
  have lt := T.lt
  have e1 : (t :: S.set i u).Perm (u :: S) := set_perm T.ei
  have e2 : (u :: (S.set i u).set j t).Perm (t :: S.set i u) := set_perm (by rw [List.getElem?_set_ne (Nat.ne_of_lt lt)]; exact T.ej)
  exact List.Perm.cons_inv (e2.trans e1)
theorem shape_perm (oS : ShOk S) (T : TwoT S k i p j r t u P Q U W) : ∃ φ : Int, (φ = 0 ∨ φ = (k : Int) + 1) ∧ ((turnS (turnS S k i j P Q U W) k i j Q U W P).map fun s => leastW (flipS φ s)).Perm (S.map leastW) := by
  obtain ⟨φ, hφ, w1, w2, w3⟩ := again_ways oS T
  refine ⟨φ, hφ, ?_⟩
  have il := (List.getElem?_eq_some_iff.mp T.ei).1
  have jl := (List.getElem?_eq_some_iff.mp T.ej).1
  have lt := T.lt
  have e : ((turnS (turnS S k i j P Q U W) k i j Q U W P).map fun s => leastW (flipS φ s)) = ((S.set i u).set j t).map leastW := by
    apply List.ext_getElem?
    intro n
    rw [List.getElem?_map, List.getElem?_map]
    unfold turnS
    by_cases c1 : n = j
    · subst c1
      rw [List.getElem?_set_self (by simp only [List.length_set]; exact jl), List.getElem?_set_self (by rw [List.length_set]; exact jl)]
      show some (leastW (flipS φ [P, Q, (k : Int) + 1])) = some (leastW t)
      rw [leastW_same w2]
    · by_cases c2 : n = i
      · subst c2
        rw [List.getElem?_set_ne (fun z => c1 z.symm), List.getElem?_set_self (by simp only [List.length_set]; exact il), List.getElem?_set_ne (fun z => c1 z.symm), List.getElem?_set_self il]
        show some (leastW (flipS φ [U, W, -((k : Int) + 1)])) = some (leastW u)
        rw [leastW_same w1]
      · have z1 : ¬ j = n := fun z => c1 z.symm
        have z2 : ¬ i = n := fun z => c2 z.symm
        rw [List.getElem?_set_ne z1, List.getElem?_set_ne z2, List.getElem?_set_ne z1, List.getElem?_set_ne z2, List.getElem?_set_ne z1, List.getElem?_set_ne z2]
        cases e : S[n]? with
        | none => rfl
        | some t' =>
          show some (leastW (flipS φ t')) = some (leastW t')
          rw [w3 n t' c2 c1 e]
  rw [e]
  exact (swap_perm T).map leastW
end
end L2
set_option Elab.async false
set_option linter.all false
set_option maxRecDepth 100000
set_option maxHeartbeats 1000000
namespace L2
open PySem PySem.Spec PyProof.Rows
theorem itl_ic {H : Hp} : ∀ w : List Int, ItL H false (w.map V.int) (ic w)
  | [] => ItL.nil _ _
  | i :: w => ItL.cons (.int i) (itl_ic w)
theorem lsl_free {H : Hp} {tp : Bool} {ys : List V} {uss : List (List (List Int))} {l : Addr} (h : LsL H tp ys uss) (hl : H l = none) : ∀ y ∈ ys, y ≠ .ref l := fun y hy z => by
  obtain ⟨i, hi⟩ := List.mem_iff_getElem?.mp hy
  have il := (List.getElem?_eq_some_iff.mp hi).1
  have e2 : uss[i]? = some (uss[i]'(by rw [← h.1]; exact il)) := List.getElem?_eq_getElem _
  obtain ⟨a, xs, ea, ha, _⟩ := h.2 i y _ hi e2
  rw [z] at ea
  cases ea
  rw [hl] at ha
  cases ha
structure Wys (H0 H : Hp) (fo sd wa : Addr) (fs ws : List V) (F : List (List (List Int))) (s : List Int) (uss : List (List (List Int))) : Prop where
  same : Same H0 H
  ff : H0 fo = none
  fw : H0 wa = none
  hf : H fo = some (.lst fs)
  lf : LsL H false fs F
  hs : H sd = some (.lst (s.map V.int))
  hw : H wa = some (.lst ws)
  lw : LsL H false ws uss
  af : ∀ y ∈ fs, y ≠ .ref wa
  ag : ∀ y ∈ fs, y ≠ .ref fo
  aw : ∀ y ∈ ws, y ≠ .ref wa
  ax : ∀ y ∈ ws, y ≠ .ref fo
  n1 : fo ≠ wa
  n2 : sd ≠ wa
section
variable {H0 H H' : Hp} {fo sd wa q : Addr} {fs ws : List V} {F uss : List (List (List Int))} {s w : List Int}
theorem Wys.up (h : Wys H0 H fo sd wa fs ws F s uss) (k : Same H H') : Wys H0 H' fo sd wa fs ws F s uss :=
  ⟨h.same.trans k, h.ff, h.fw, k _ _ h.hf, h.lf.up k, k _ _ h.hs, k _ _ h.hw, h.lw.up k, h.af, h.ag, h.aw, h.ax, h.n1, h.n2⟩
theorem Wys.add (h : Wys H0 H fo sd wa fs ws F s uss) (hq : H q = some (.lst (w.map V.int))) (qw : q ≠ wa) (qf : q ≠ fo) : Wys H0 (upd H wa (.lst (ws ++ [.ref q]))) fo sd wa fs (ws ++ [.ref q]) F s (uss ++ [ic w]) := by
  refine ⟨h.same.ow h.fw, h.ff, h.fw, by rw [upd_ne h.n1]; exact h.hf, h.lf.set h.hw h.af, by rw [upd_ne h.n2]; exact h.hs, upd_same, LsL.snoc (h.lw.set h.hw h.aw) (by rw [upd_ne qw]; exact hq) (itl_ic w), h.af, h.ag, fun y hy => ?_, fun y hy => ?_, h.n1, h.n2⟩
  · rcases List.mem_append.mp hy with z | z
    · exact h.aw y z
    · rw [List.mem_singleton] at z; rw [z]; exact fun e => qw (V.ref.inj e)
  · rcases List.mem_append.mp hy with z | z
    · exact h.ax y z
    · rw [List.mem_singleton] at z; rw [z]; exact fun e => qf (V.ref.inj e)
end
theorem least_pick {s : List Int} {u : List (List Int)} (hu : u ∈ (ways s).map ic) (h : ∀ v ∈ (ways s).map ic, lexLL v u = false) : u = ic (leastW s) := by
  obtain ⟨x, hx, rfl⟩ := List.mem_map.mp hu
  rw [leastW_uni hx fun y hy => h _ (List.mem_map_of_mem hy)]
theorem shapes_one {a b : List (List (List Int))} (h : a.Perm b) (ha : a.Pairwise (fun x y => lexLL y x = false)) (hb : b.Pairwise (fun x y => lexLL y x = false)) : a = b := perm_uniB lexLL_tot a b h ha hb
end L2
set_option Elab.async false
set_option linter.all false
set_option maxRecDepth 100000
set_option maxHeartbeats 1000000
namespace L2
open PySem PySem.Spec PyProof.Rows
theorem boot_revX : bootBuiltins "reversed" = some (.type "reversed") := by decide +kernel
def Itv (K : PySem.W.Frag) (a : Addr) (n : Nat) : It :=
  ⟨fun i H => i < n ∧ ∃ xs, SqL K H a xs ∧ xs.length = n, fun i H x H' => H' = H ∧ ∀ xs, SqL K H a xs → xs[n - 1 - i]? = some x, fun i H => i = n⟩
theorem turn_rev {P : Program} {w : World} {K : PySem.W.Frag} {tg : Expr} (a it : Addr) (n : Nat) : Turn P w K tg (Itv K a n) [it] it (fun i h => i ≤ n ∧ h.IsRevIter it a ((n : Int) - 1 - (i : Int))) where
  mem := by simp
  obj := fun i h st b hb => by
    have e : b = it := by simpa using hb
    subst e
    obtain ⟨_, o, e, c, d⟩ := st
    exact ⟨o, e, fun v z => by rw [d] at z; cases z⟩
  keep := fun i h h' st k => ⟨st.1, st.2.at fun o e => k it (by simp) o e⟩
  item := by
    intro X hP hw hK hc i pins s σ H E I hf st hg
    subst hP hw hK
    obtain ⟨il, xs, hq, hn⟩ := hg
    obtain ⟨its, rv, p, hz⟩ := I.list hq
    have hx : xs[n - 1 - i]? = some xs[n - 1 - i] := List.getElem?_eq_getElem (by omega)
    obtain ⟨u, hu, ru⟩ := rv.get hx
    obtain ⟨f0, f1, f2, f3, f4, f5⟩ := hf it (by simp)
    have st2 := st.2
    rw [show (n : Int) - 1 - (i : Int) = ((n - 1 - i : Nat) : Int) by omega] at st2
    refine wpAny_pyNext_rev_item st2 p.isList (x := u) (by simpa using hu) fun h' st' sb => ?_
    have I1 : Inv X pins σ H { s with heap := h' } := I.turned (t' := s.toks) (fun b o hb e => (sb.2 b hb).trans e) f0 f1 f3 f4 f5
    obtain ⟨o, e, c, d⟩ := id st'
    refine ⟨u, rfl, go_of (s := { s with heap := h' }) e c d (by decide) ⟨_, H, I1, ru, ⟨rfl, fun ys hy => by rw [I.list_inj hy hq]; exact hx⟩, ⟨by omega, ?_⟩, fun b hb => (hf b hb).1⟩⟩
    rw [show (n : Int) - 1 - ((i + 1 : Nat) : Int) = ((n - 1 - i : Nat) : Int) - 1 by omega]
    exact st'
  done := by
    intro X hP hw hK hc i pins s σ H E I hf st hg
    subst hP hw hK
    have hg : i = n := hg
    obtain ⟨f0, f1, f2, f3, f4, f5⟩ := hf it (by simp)
    have st2 := st.2
    rw [show (n : Int) - 1 - (i : Int) = -1 by omega] at st2
    exact wpAny_pyNext_rev_end (I.ok.hd hc) st2 fun h' eb => ⟨rfl, I.turned (t' := s.toks) (fun b o hb e => eb b o hb e) f0 f1 f3 f4 f5⟩
  self := fun _ _ _ _ _ st h => wpAny_pyIter_revIter st.2 h
def iRev (K : PySem.W.Frag) (ta : TE) : TI := fun σ H R => ta σ H fun x H1 => ∃ (l : Addr) (xs : List V), x = .ref l ∧ SqL K H1 l xs ∧ R (Itv K l xs.length) H1
section
variable {X : Cx}
theorem pi_rev {tg a : Expr} {ta : TE} {p pos : PySem.Pos} (ha : PE X a ta) (hg : Gl X "reversed") (hm : X.mg "reversed" = none) (hsa : starEach [a] X.env = [(false, eval a X.env)] := by rfl) : PI X tg (.Call (.Name "reversed" p) [a] [] pos) (iRev X.K ta) := by
  intro pins s σ H R I h
  refine wpAny_Call_Name_kw (ld_blt I hg hm boot_revX ?_)
  refine PyProof.Rows.callWith_type1 (rest := []) ?_ hsa rfl
  rw [hsa]
  show wpAny _ _ (spliced ((false, eval a X.env) :: [])) _ _ s
  refine Calls.spliced_cons (thn (ha pins s σ H _ I h) fun u s2 ⟨y, H2, I2, r2, l, xs, ey, hq, q⟩ => Calls.spliced_nil ?_)
  subst ey
  cases r2
  obtain ⟨its, r, pl, hz⟩ := I2.list hq
  have hlen := r.length
  refine call_reversed_list pl.isList ?_
  have hr : (s2.heap.push (revObj l ((its.toArray.size : Int) - 1))).IsRevIter s2.heap.objs.size l ((xs.length : Int) - 1 - ((0 : Nat) : Int)) := by
    refine ⟨_, Heap.get?_push_size _ rfl, rfl, ?_⟩
    rw [List.size_toArray, ← hlen, show (xs.length : Int) - 1 - ((0 : Nat) : Int) = (xs.length : Int) - 1 by omega]
    rfl
  refine wpAny_pyIter_revIter hr ?_
  refine ⟨s2.heap.objs.size, [s2.heap.objs.size], _, _, H2, rfl, I2.kept (t' := s2.toks) fun b o e => Heap.get?_push_of_some _ e, turn_rev l _ xs.length, ⟨Nat.zero_le _, hr⟩, fun b hb => ?_, q⟩
  have e : b = s2.heap.objs.size := by simpa using hb
  subst e
  exact I2.fpOk (Nat.le_refl _) (I2.hok.fresh (Nat.le_refl _))
theorem pi_revK {K : PySem.W.Frag} {tg a : Expr} {ta : TE} {p pos : PySem.Pos} (ha : PE X a ta) (hg : Gl X "reversed") (hm : X.mg "reversed" = none) (hsa : starEach [a] X.env = [(false, eval a X.env)] := by rfl) (hK : X.K = K := by rfl) : PI X tg (.Call (.Name "reversed" p) [a] [] pos) (iRev K ta) := by
  subst hK; exact pi_rev ha hg hm hsa
end
theorem compV {K : PySem.W.Frag} {k : Nat} {a : Addr} {xs : List V} {g : TG} {tt : TT} {te : TE} {Q : VK} {σ : St} {H : Hp} (Pv : Nat → List V → Hp → Prop) (h0 : Pv 0 [] H) (hb : xs.length ≤ 1000) (hz : ∀ i ys H, Pv i ys H → ys.length ≤ i) (hl : ∀ i ys H, i ≤ xs.length → Pv i ys H → SqL K H a xs)
    (hs : ∀ i x ys H (pre : St), pre.length = k → xs.reverse[i]? = some x → Pv i ys H → g x (pre ++ σ) H fun σ' H2 => (∃ pre' : St, σ' = pre' ++ σ ∧ pre'.length = k) ∧ tt σ' H2 fun ok H3 => if ok = true then te σ' H3 fun y H4 => Pv (i + 1) (ys ++ [y]) H4 else Pv (i + 1) ys H3) (hd : ∀ ys H, Pv xs.length ys H → ∀ D, H D = none → Q (.ref D) (upd H D (.lst ys))) : CGo k (Itv K a xs.length) g tt te Q σ H := by
  refine ⟨fun i m ys H => m = xs.length - i ∧ i ≤ xs.length ∧ Pv i ys H, ⟨xs.length, by simp, Nat.zero_le _, h0⟩, ?_⟩
  rintro i m ys H ⟨rfl, hi, p⟩
  have q := hl i ys H hi p
  by_cases hlt : i < xs.length
  · refine .inr ⟨⟨hlt, xs, q, rfl⟩, Nat.lt_of_le_of_lt (hz i ys H p) (small1000 (by omega)), Pv (i + 1), fun zs H' p' => ⟨xs.length - (i + 1), by omega, rfl, hlt, p'⟩, fun x H' pre hp y => ?_⟩
    obtain ⟨e, y⟩ := y
    subst e
    refine hs i x ys _ pre hp ?_ p
    rw [List.getElem?_reverse hlt]
    exact y xs q
  · have e : i = xs.length := by omega
    subst e
    exact .inl ⟨rfl, hd ys H p⟩
end L2
set_option Elab.async false
set_option linter.all false
set_option maxRecDepth 100000
set_option maxHeartbeats 1000000
namespace L2
open PySem PySem.Spec PyProof.Rows
theorem four_lt {S : List (List Int)} (oS : ShOk S) {k i p j r : Nat} {t u : List Int} {P Q U W : Int} (T : TwoT S k i p j r t u P Q U W) : ∀ z ∈ [P, Q, U, W], 1 ≤ absI z ∧ absI z ≤ ((S.length / 2 * 3 : Nat) : Int) := by
  have o := turn_ok oS T
  have jl := (List.getElem?_eq_some_iff.mp T.ej).1
  have il := (List.getElem?_eq_some_iff.mp T.ei).1
  have m1 : [W, P, (k : Int) + 1] ∈ turnS S k i j P Q U W := List.mem_of_getElem? (i := j) (by rw [turn_at T, if_pos rfl])
  have m2 : [Q, U, -((k : Int) + 1)] ∈ turnS S k i j P Q U W := List.mem_of_getElem? (i := i) (by rw [turn_at T, if_neg (by have := T.lt; omega), if_pos rfl])
  intro z hz
  have key : ∀ {w : List Int} {s : Int}, w ∈ turnS S k i j P Q U W → s ∈ w → 1 ≤ absI s ∧ absI s ≤ ((S.length / 2 * 3 : Nat) : Int) := fun {w s} hw hs => by
    have := o.side hw hs
    rw [turn_len] at this
    omega
  simp only [List.mem_cons, List.not_mem_nil, or_false] at hz
  rcases hz with rfl | rfl | rfl | rfl
  · exact key m1 (by simp)
  · exact key m2 (by simp)
  · exact key m2 (by simp)
  · exact key m1 (by simp)
theorem crs_in {r : List Int} {s : Int} (h1 : 1 ≤ absI s) (h2 : absI s ≤ (r.length : Int)) : atI (r.map V.int) (absI s - 1) = some (V.int (crs r s)) := by
  have il : (absI s - 1).toNat < r.length := by omega
  rw [show absI s - 1 = (((absI s - 1).toNat : Nat) : Int) by omega]
  refine atI_nat ?_
  rw [List.getElem?_map, List.getElem?_eq_getElem il]
  unfold crs
  rw [List.getD_eq_getElem?_getD, List.getElem?_eq_getElem il]
  rfl
def spRowT (cN : Addr) : Sp := fun vs H Q E => ∃ (b c : Addr) (xs : List V) (S : List (List Int)) (r : List Int) (tie : Int), vs = [.ref b, .ref c, .int tie] ∧ H b = some (.lst xs) ∧ TuL H xs S ∧ ShOk S ∧ H c = some (.lst (r.map V.int)) ∧ r.length = S.length / 2 * 3 ∧
  (BadT S tie → ∀ H', Same H H' → E (.ref cN) none H') ∧
  ∀ (k i p j q : Nat) (t u : List Int) (P Q' U W : Int), tie = (k : Int) + 1 → k < S.length / 2 * 3 → TwoT S k i p j q t u P Q' U W → ∀ (l : Addr) (H' : Hp), Same H H' → H l = none → H' l = some (.lst ((rowT r k P Q' U W).map V.int)) → Q (.ref l) H'
def tRowT (K : PySem.W.Frag) (E : XK) (cN : Addr) : TS := tSeq (tAsg (tCallX (spSides cN) (fun c x H' => E c none H') (tCons (tVar 0) (tCons (tVar 2) tNil))) (gTup K 3 (gCons (gName 3) (gCons (gName 4) (gCons (gName 5) gNil))))) (tSeq (tAsg (tCompG 1 (iTup K (tVar 5)) (gName 0) tYes (tOp (rIxL K) (tVar 2) (tOp (rI0 fun i j => V.int (i - j)) (tCB (fun xs H Q => ∃ i, xs = [V.int i] ∧ Q (V.int (if i < 0 then -i else i)) H) (tCons (tVar 0) tNil)) (tC (V.int 1))))) (gLst K 4 (gCons (gName 6) (gCons (gName 7) (gCons (gName 8) (gCons (gName 9) gNil)))))) (tSeq (tAsg (tCB (fun xs H_1 Q => ∃ p ys, xs = [V.ref p] ∧ (SqL K H_1 p ys ∨ SqT K H_1 p ys) ∧ ∀ (l : Addr), H_1 l = none → Q (V.ref l) (upd H_1 l (HO.lst ys))) (tCons (tVar 1) tNil)) (gName 10)) (tSeq (tAsg (tOp (rI0 fun i j => V.int (i - j)) (tCB (fun xs H Q => ∃ i j, xs = [V.int i, V.int j] ∧ Q (V.int (if j > i then j else i)) H) (tCons (tOp (rI0 fun i j => V.int (i + j)) (tVar 6) (tVar 8)) (tCons (tOp (rI0 fun i j => V.int (i + j)) (tVar 7) (tVar 9)) tNil))) (tOp (rIxL K) (tVar 1) (tOp (rI0 fun i j => V.int (i - j)) (tVar 2) (tC (V.int 1))))) (gSub (tVar 10) (tOp (rI0 fun i j => V.int (i - j)) (tVar 2) (tC (V.int 1))) rSetL)) (tRet (tVar 10)))))
set_option maxHeartbeats 4000000 in
theorem rowT_reads {K : PySem.W.Frag} {H : Hp} {Q : VK} {Z : L2.St → Hp → Prop} {E : XK} {cN b c : Addr} {xs : List V} {S : List (List Int)} {r : List Int} {tie : Int} (hb : H b = some (.lst xs)) (tS : TuL H xs S) (oS : ShOk S) (hc : H c = some (.lst (r.map V.int))) (rl : r.length = S.length / 2 * 3)
    (k1 : BadT S tie → ∀ H', Same H H' → E (.ref cN) none H')
    (k2 : ∀ (k i p j q : Nat) (t u : List Int) (P Q' U W : Int), tie = (k : Int) + 1 → k < S.length / 2 * 3 → TwoT S k i p j q t u P Q' U W → ∀ (l : Addr) (H' : Hp), Same H H' → H l = none → H' l = some (.lst ((rowT r k P Q' U W).map V.int)) → Q (.ref l) H') :
    tRowT K E cN { nx := Z, rt := Q } [some (.ref b), some (.ref c), some (.int tie), none, none, none, none, none, none, none, none] H := by
  refine ⟨_, rfl, _, rfl, b, xs, S, tie, rfl, hb, tS, oS, k1, fun k i p j q t u P Q' U W ek hk T c0 d H1 s1 hc0 hd => ?_⟩
  have f4 := four_lt oS T
  have hc1 := s1 _ _ hc
  refine ⟨c0, _, rfl, SqT.of hc0, rfl, _, _, rfl, _, _, rfl, _, _, rfl, rfl, ?_⟩
  refine ⟨_, rfl, d, rfl, ⟨_, SqT.of hd⟩, compT (K := K) (a := d) (xs := [P, Q', U, W].map V.int) (fun m ws H' => ws = (([P, Q', U, W].take m).map (crs r)).map V.int ∧ H1 = H') ⟨rfl, rfl⟩ (by rw [List.length_map]; show 4 ≤ 1000; decide) (fun m ws H' h => by rw [h.1, List.length_map, List.length_map, List.length_take]; exact Nat.min_le_left _ _) (fun m ws H' _ h => by rw [← h.2]; exact SqT.of hd) ?_ ?_⟩
  · rintro n z ws H' pre hpl hz ⟨rfl, rfl⟩
    rw [List.getElem?_map] at hz
    cases ez : [P, Q', U, W][n]? with
    | none => rw [ez] at hz; cases hz
    | some sd =>
      rw [ez] at hz
      cases hz
      have sb := f4 sd (List.mem_of_getElem? ez)
      rcases pre with _ | ⟨q0, _ | ⟨q1, pre⟩⟩
      · cases hpl
      · refine ⟨⟨[some _], rfl, rfl⟩, ?_⟩
        unfold tYes
        dsimp only
        rw [if_pos (rfl : true = true)]
        refine ⟨_, rfl, _, rfl, sd, rfl, _, _, rfl, rfl, c, _, _, _, rfl, rfl, SqL.of hc1, crs_in sb.1 (by rw [rl]; exact sb.2), ?_, rfl⟩
        rw [take_succ' ez, List.map_append, List.map_append]
        rfl
      · cases hpl
  rintro ws H' ⟨rfl, rfl⟩ D hD
  have s2 := Same.nw (o := .lst [.int (crs r P), .int (crs r Q'), .int (crs r U), .int (crs r W)]) (Same.refl H1) hD
  have fD : (upd H1 D (.lst [.int (crs r P), .int (crs r Q'), .int (crs r U), .int (crs r W)])) D = some (.lst [.int (crs r P), .int (crs r Q'), .int (crs r U), .int (crs r W)]) := upd_same
  change gLst K 4 _ _ _ (upd H1 D (.lst [.int (crs r P), .int (crs r Q'), .int (crs r U), .int (crs r W)])) _
  generalize upd H1 D (.lst [.int (crs r P), .int (crs r Q'), .int (crs r U), .int (crs r W)]) = H2 at s2 fD ⊢
  refine ⟨D, _, rfl, SqL.of fD, rfl, _, _, rfl, _, _, rfl, _, _, rfl, _, _, rfl, rfl, ?_⟩
  have hc2 := s2 _ _ hc1
  refine ⟨_, rfl, c, _, rfl, .inl (SqL.of hc2), fun l hl => ?_⟩
  have s3 := Same.nw (o := .lst (r.map V.int)) (Same.refl H2) hl
  have fl : (upd H2 l (.lst (r.map V.int))) l = some (.lst (r.map V.int)) := upd_same
  change tSeq _ _ _ _ (upd H2 l (.lst (r.map V.int)))
  generalize upd H2 l (.lst (r.map V.int)) = H3 at s3 fl ⊢
  have kl : k < r.length := by omega
  have lf : H l = none := (s1.trans s2).free hl
  have ekI : tie - 1 = (k : Int) := by omega
  have at1 : atI (r.map V.int) (tie - 1) = some (V.int (r.getD k 0)) := by
    rw [ekI]
    refine atI_nat ?_
    rw [List.getElem?_map, List.getElem?_eq_getElem kl, List.getD_eq_getElem?_getD, List.getElem?_eq_getElem kl]
    rfl
  have ix : ixN (r.map V.int).length (tie - 1) = some k := by rw [ekI]; exact ixN_nat (by rw [List.length_map]; exact kl)
  refine ⟨_, rfl, _, rfl, _, _, rfl, rfl, _, rfl, _, rfl, _, _, rfl, rfl, _, _, rfl, _, rfl, _, rfl, _, _, rfl, rfl, c, _, _, _, rfl, rfl, SqL.of (s3 _ _ hc2), at1, _, _, rfl, rfl, _, rfl, _, rfl, _, _, rfl, rfl, l, _, _, k, rfl, rfl, fl, ix, ?_⟩
  refine ⟨_, rfl, k2 k i p j q t u P Q' U W ek hk T l _ (((s1.trans s2).trans s3).ow lf) lf ?_⟩
  rw [upd_same]
  unfold rowT
  rw [List.map_set]
end L2
set_option Elab.async false
set_option linter.all false
set_option maxRecDepth 100000
set_option maxHeartbeats 1000000
namespace L2
open PySem PySem.Spec PyProof.Rows
def spCarried : Sp := fun vs H Q _ => ∃ (b c : Addr) (xs : List V) (S : List (List Int)) (r : List Int) (k i p j q : Nat) (t u : List Int) (P Q' U W : Int), vs = [.ref b, .ref c, .int ((k : Int) + 1)] ∧ H b = some (.lst xs) ∧ TuL H xs S ∧ ShOk S ∧ H c = some (.lst (r.map V.int)) ∧ r.length = S.length / 2 * 3 ∧ k < S.length / 2 * 3 ∧ TwoT S k i p j q t u P Q' U W ∧
  ∀ (l : Addr) (H' : Hp), Same H H' → H l = none → H' l = some (.lst ((rowT r k P Q' U W).map V.int)) → Q (.ref l) H'
def tCarried (K : PySem.W.Frag) : TS := tSeq (tAsg (tCompG 1 (iTup K (tOp (rIxT K) (tCall spSquare [] E0 (tCons (tVar 0) (tCons (tVar 2) tNil))) (tC (V.int 1)))) (gName 0) tYes (tOp (rIxL K) (tVar 2) (tOp (rI0 fun i j => V.int (i - j)) (tCB (fun xs H Q => ∃ i, xs = [V.int i] ∧ Q (V.int (if i < 0 then -i else i)) H) (tCons (tVar 0) tNil)) (tC (V.int 1))))) (gLst K 4 (gCons (gName 3) (gCons (gName 4) (gCons (gName 5) (gCons (gName 6) gNil)))))) (tRet (tOp rCat (tOp rCat (tSl (rSlL K) (tVar 1) tNoPart (tPart (tOp (rI0 fun i j => V.int (i - j)) (tVar 2) (tC (V.int 1))))) (tLst (tCons (tOp (rI0 fun i j => V.int (i - j)) (tCB (fun xs H Q => ∃ i j, xs = [V.int i, V.int j] ∧ Q (V.int (if j > i then j else i)) H) (tCons (tOp (rI0 fun i j => V.int (i + j)) (tVar 3) (tVar 5)) (tCons (tOp (rI0 fun i j => V.int (i + j)) (tVar 4) (tVar 6)) tNil))) (tOp (rIxL K) (tVar 1) (tOp (rI0 fun i j => V.int (i - j)) (tVar 2) (tC (V.int 1))))) tNil))) (tSl (rSlL K) (tVar 1) (tPart (tVar 2)) tNoPart)))
set_option maxHeartbeats 4000000 in
theorem carried_reads {K : PySem.W.Frag} {H : Hp} {Q : VK} {Z : L2.St → Hp → Prop} {b c : Addr} {xs : List V} {S : List (List Int)} {r : List Int} {k i p j q : Nat} {t u : List Int} {P Q' U W : Int} (hb : H b = some (.lst xs)) (tS : TuL H xs S) (oS : ShOk S) (hc : H c = some (.lst (r.map V.int))) (rl : r.length = S.length / 2 * 3) (hk : k < S.length / 2 * 3) (T : TwoT S k i p j q t u P Q' U W)
    (kk : ∀ (l : Addr) (H' : Hp), Same H H' → H l = none → H' l = some (.lst ((rowT r k P Q' U W).map V.int)) → Q (.ref l) H') :
    tCarried K { nx := Z, rt := Q } [some (.ref b), some (.ref c), some (.int ((k : Int) + 1)), none, none, none, none] H := by
  have lS := oS.len
  refine ⟨_, rfl, _, rfl, b, xs, S, k, rfl, hb, tS, oS, hk, fun h => (bad_two hk h T).elim, fun i' p' j' r' t' u' P' Q2 U' W' T' c0 d e H1 s1 hc0 he hd => ?_⟩
  obtain ⟨rfl, rfl, rfl, rfl, rfl, rfl⟩ := two_uniq T T'
  have f4 := four_lt oS T
  have hc1 := s1 _ _ hc
  refine ⟨c0, _, 1, .ref d, rfl, rfl, SqT.of hc0, rfl, d, rfl, ⟨_, SqT.of hd⟩, compT (K := K) (a := d) (xs := [P, Q', U, W].map V.int) (fun m ws H' => ws = (([P, Q', U, W].take m).map (crs r)).map V.int ∧ H1 = H') ⟨rfl, rfl⟩ (by rw [List.length_map]; show 4 ≤ 1000; decide) (fun m ws H' h => by rw [h.1, List.length_map, List.length_map, List.length_take]; exact Nat.min_le_left _ _) (fun m ws H' _ h => by rw [← h.2]; exact SqT.of hd) ?_ ?_⟩
  · rintro n z ws H' pre hpl hz ⟨rfl, rfl⟩
    rw [List.getElem?_map] at hz
    cases ez : [P, Q', U, W][n]? with
    | none => rw [ez] at hz; cases hz
    | some sd =>
      rw [ez] at hz
      cases hz
      have sb := f4 sd (List.mem_of_getElem? ez)
      rcases pre with _ | ⟨q0, _ | ⟨q1, pre⟩⟩
      · cases hpl
      · refine ⟨⟨[some _], rfl, rfl⟩, ?_⟩
        unfold tYes
        dsimp only
        rw [if_pos (rfl : true = true)]
        refine ⟨_, rfl, _, rfl, sd, rfl, _, _, rfl, rfl, c, _, _, _, rfl, rfl, SqL.of hc1, crs_in sb.1 (by rw [rl]; exact sb.2), ?_, rfl⟩
        rw [take_succ' ez, List.map_append, List.map_append]
        rfl
      · cases hpl
  rintro ws H' ⟨rfl, rfl⟩ D hD
  have s2 := Same.nw (o := .lst [.int (crs r P), .int (crs r Q'), .int (crs r U), .int (crs r W)]) (Same.refl H1) hD
  have fD : (upd H1 D (.lst [.int (crs r P), .int (crs r Q'), .int (crs r U), .int (crs r W)])) D = some (.lst [.int (crs r P), .int (crs r Q'), .int (crs r U), .int (crs r W)]) := upd_same
  change gLst K 4 _ _ _ (upd H1 D (.lst [.int (crs r P), .int (crs r Q'), .int (crs r U), .int (crs r W)])) _
  generalize upd H1 D (.lst [.int (crs r P), .int (crs r Q'), .int (crs r U), .int (crs r W)]) = H2 at s2 fD ⊢
  refine ⟨D, _, rfl, SqL.of fD, rfl, _, _, rfl, _, _, rfl, _, _, rfl, _, _, rfl, rfl, ?_⟩
  have s12 := s1.trans s2
  have hc2 := s12 _ _ hc
  have kl : k < r.length := by omega
  have ekI : (k : Int) + 1 - 1 = (k : Int) := by omega
  have at1 : atI (r.map V.int) ((k : Int) + 1 - 1) = some (V.int (r.getD k 0)) := by
    rw [ekI]
    refine atI_nat ?_
    rw [List.getElem?_map, List.getElem?_eq_getElem kl, List.getD_eq_getElem?_getD, List.getElem?_eq_getElem kl]
    rfl
  refine ⟨_, rfl, _, rfl, _, _, rfl, rfl, _, rfl, c, _, rfl, SqL.of hc2, fun p1 hp1 => ?_⟩
  rw [ekI, cutV_take (by rw [List.length_map]; omega), ← List.map_take]
  have s3 := Same.nw (o := .lst ((r.take k).map V.int)) (Same.refl H2) hp1
  have f3 : (upd H2 p1 (.lst ((r.take k).map V.int))) p1 = some (.lst ((r.take k).map V.int)) := upd_same
  generalize upd H2 p1 (.lst ((r.take k).map V.int)) = H3 at s3 f3 ⊢
  refine ⟨_, rfl, _, rfl, _, _, rfl, rfl, _, rfl, _, rfl, _, _, rfl, rfl, _, _, rfl, _, rfl, _, rfl, _, _, rfl, rfl, c, _, _, _, rfl, rfl, SqL.of (s3 _ _ hc2), at1, _, _, rfl, rfl, (by show 1 ≤ sizeLine; decide), fun p2 hp2 => ?_⟩
  have s4 := Same.nw (o := .lst [.int ((if crs r Q' + crs r W > crs r P + crs r U then crs r Q' + crs r W else crs r P + crs r U) - r.getD k 0)]) (Same.refl H3) hp2
  have f4' : (upd H3 p2 (.lst [.int ((if crs r Q' + crs r W > crs r P + crs r U then crs r Q' + crs r W else crs r P + crs r U) - r.getD k 0)])) p2 = some (.lst [.int ((if crs r Q' + crs r W > crs r P + crs r U then crs r Q' + crs r W else crs r P + crs r U) - r.getD k 0)]) := upd_same
  change rCat _ _ (upd H3 p2 (.lst [.int ((if crs r Q' + crs r W > crs r P + crs r U then crs r Q' + crs r W else crs r P + crs r U) - r.getD k 0)])) _
  generalize upd H3 p2 (.lst [.int ((if crs r Q' + crs r W > crs r P + crs r U then crs r Q' + crs r W else crs r P + crs r U) - r.getD k 0)]) = H4 at s4 f4' ⊢
  have tl : (r.take k).length ≤ 18 := by rw [List.length_take]; omega
  refine ⟨p1, p2, _, _, rfl, rfl, s4 _ _ f3, f4', Nat.le_trans (show _ ≤ 1000 by rw [List.length_map]; simp only [List.length_cons, List.length_nil]; omega) (by decide), fun p3 hp3 => ?_⟩
  have s5 := Same.nw (o := .lst ((r.take k).map V.int ++ [.int ((if crs r Q' + crs r W > crs r P + crs r U then crs r Q' + crs r W else crs r P + crs r U) - r.getD k 0)])) (Same.refl H4) hp3
  have f5 : (upd H4 p3 (.lst ((r.take k).map V.int ++ [.int ((if crs r Q' + crs r W > crs r P + crs r U then crs r Q' + crs r W else crs r P + crs r U) - r.getD k 0)]))) p3 = some (.lst ((r.take k).map V.int ++ [.int ((if crs r Q' + crs r W > crs r P + crs r U then crs r Q' + crs r W else crs r P + crs r U) - r.getD k 0)])) := upd_same
  generalize upd H4 p3 (.lst ((r.take k).map V.int ++ [.int ((if crs r Q' + crs r W > crs r P + crs r U then crs r Q' + crs r W else crs r P + crs r U) - r.getD k 0)])) = H5 at s5 f5 ⊢
  have s25 := (s3.trans s4).trans s5
  refine ⟨_, rfl, _, rfl, _, rfl, c, _, rfl, SqL.of (s25 _ _ hc2), fun p4 hp4 => ?_⟩
  rw [show (k : Int) + 1 = ((k + 1 : Nat) : Int) by omega, cutV_drop (by rw [List.length_map]; omega), ← List.map_drop]
  have s6 := Same.nw (o := .lst ((r.drop (k + 1)).map V.int)) (Same.refl H5) hp4
  have f6 : (upd H5 p4 (.lst ((r.drop (k + 1)).map V.int))) p4 = some (.lst ((r.drop (k + 1)).map V.int)) := upd_same
  generalize upd H5 p4 (.lst ((r.drop (k + 1)).map V.int)) = H6 at s6 f6 ⊢
  have dl : (r.drop (k + 1)).length ≤ 18 := by rw [List.length_drop]; omega
  refine ⟨p3, p4, _, _, rfl, rfl, s6 _ _ f5, f6, Nat.le_trans (show _ ≤ 1000 by rw [List.length_append, List.length_map, List.length_map]; simp only [List.length_cons, List.length_nil]; omega) (by decide), fun p5 hp5 => ?_⟩
  have s06 := s12.trans (s25.trans s6)
  refine kk p5 _ (s06.trans (Same.nw (Same.refl H6) hp5)) (s06.free hp5) ?_
  rw [upd_same]
  unfold rowT
  rw [List.set_eq_take_append_cons_drop, if_pos kl, List.map_append, List.map_cons, List.append_assoc]
  rfl
def spRefused (cN : Addr) : Sp := fun vs H Q _ => ∃ (b c : Addr) (xs : List V) (S : List (List Int)) (r : List Int) (tie : Int), vs = [.ref b, .ref c, .int tie] ∧ H b = some (.lst xs) ∧ TuL H xs S ∧ ShOk S ∧ H c = some (.lst (r.map V.int)) ∧ r.length = S.length / 2 * 3 ∧ BadT S tie ∧ ∀ H', Same H H' → Q (.bl true) H'
def tRefused (K : PySem.W.Frag) (cE cN : Addr) : TS := tSeq (tTry K 4 3 cE (fun Ex => tDrop (tCallX (spRowT cN) Ex (tCons (tVar 0) (tCons (tVar 1) (tCons (tVar 2) tNil))))) fun C ea => tRet (tCB (rIsi K C ea) (tCons (tVar 3) (tCons (tC (V.ref cN)) tNil)))) (tRet (tC (V.bl false)))
theorem refused_reads {K : PySem.W.Frag} {H : Hp} {Q : VK} {Z : L2.St → Hp → Prop} {cE cN b c : Addr} {xs : List V} {S : List (List Int)} {r : List Int} {tie : Int} (x1 : XCls K cN) (e1 : PySem.W.subIn K (.ref cN) (.ref cE) = some true) (hb : H b = some (.lst xs)) (tS : TuL H xs S) (oS : ShOk S) (hc : H c = some (.lst (r.map V.int))) (rl : r.length = S.length / 2 * 3) (bad : BadT S tie) (k : ∀ H', Same H H' → Q (.bl true) H') :
    tRefused K cE cN { nx := Z, rt := Q } [some (.ref b), some (.ref c), some (.int tie), none] H := by
  refine ⟨_, rfl, _, rfl, _, rfl, b, c, xs, S, r, tie, rfl, hb, tS, oS, hc, rl, fun _ H' s' => ⟨cN, rfl, e1, fun a ha => ?_⟩, fun k' i p j q t u P Q' U W ek hk T => ?_⟩
  · exact ⟨_, rfl, x1, true, .inl ⟨cN, rfl, x1, x1.rf⟩, k H' s'⟩
  · rw [ek] at bad
    exact (bad_two hk bad T).elim
end L2
set_option Elab.async false
set_option linter.all false
set_option maxRecDepth 100000
set_option maxHeartbeats 1000000
namespace L2
open PySem PySem.Spec PyProof.Rows
def tRotc (K : PySem.W.Frag) : TE := (tOp rCat (tSl (rSlL K) (tVar 4) (tPart (tVar 6)) tNoPart) (tSl (rSlL K) (tVar 4) tNoPart (tPart (tVar 6))))
theorem rotc_reads {K : PySem.W.Frag} {H : Hp} {Q : VK} {σ : L2.St} {sd : Addr} {s : List Int} {n : Nat} (e4 : σ[4]? = some (some (.ref sd))) (e6 : σ[6]? = some (some (.int (n : Int)))) (hs : H sd = some (.lst (s.map V.int))) (s3 : s.length = 3) (n3 : n < 3)
    (k : ∀ (q : Addr) (H' : Hp), Same H H' → H q = none → H' q = some (.lst ((rot s n).map V.int)) → Q (.ref q) H') : tRotc K σ H Q := by
  refine ⟨_, e4, _, e6, _, rfl, sd, _, rfl, SqL.of hs, fun p hp => ?_⟩
  rw [cutV_drop (by rw [List.length_map]; omega), ← List.map_drop]
  have s1 := Same.nw (o := .lst ((s.drop n).map V.int)) (Same.refl H) hp
  have f1 : (upd H p (.lst ((s.drop n).map V.int))) p = some (.lst ((s.drop n).map V.int)) := upd_same
  generalize upd H p (.lst ((s.drop n).map V.int)) = H1 at s1 f1 ⊢
  refine ⟨_, e4, _, e6, _, rfl, sd, _, rfl, SqL.of (s1 _ _ hs), fun p2 hp2 => ?_⟩
  rw [cutV_take (by rw [List.length_map]; omega), ← List.map_take]
  have s2 := Same.nw (o := .lst ((s.take n).map V.int)) (Same.refl H1) hp2
  have f2 : (upd H1 p2 (.lst ((s.take n).map V.int))) p2 = some (.lst ((s.take n).map V.int)) := upd_same
  generalize upd H1 p2 (.lst ((s.take n).map V.int)) = H2 at s2 f2 ⊢
  refine ⟨p, p2, _, _, rfl, rfl, s2 _ _ f1, f2, Nat.le_trans (show _ ≤ 1000 by rw [List.length_map, List.length_map, List.length_drop, List.length_take]; omega) (by decide), fun p3 hp3 => ?_⟩
  have s12 := s1.trans s2
  refine k p3 _ (s12.trans (Same.nw (Same.refl H2) hp3)) (s12.free hp3) ?_
  rw [upd_same, ← List.map_append]
  rfl
def tWay (K : PySem.W.Frag) : TS := (tSeq (tDrop (tBM K "list" rAppend (tVar 5) (tCons (tRotc K) tNil))) (tDrop (tBM K "list" rAppend (tVar 5) (tCons (tCompG 1 (iRev K (tRotc K)) (gName 0) tYes (tUn (rU fun i => V.int (-i)) (tVar 0))) tNil))))
theorem rot_len (s : List Int) (n : Nat) : (rot s n).length = s.length := by
  unfold rot
  rw [List.length_append, List.length_drop, List.length_take]
  omega
set_option maxHeartbeats 4000000 in
theorem way_reads {K : PySem.W.Frag} {H0 H : Hp} {D : Ends} {b fo sd wa : Addr} {f : Int} {x3 : Option V} {fs ws : List V} {F uss : List (List (List Int))} {s : List Int} {n : Nat} (h : Wys H0 H fo sd wa fs ws F s uss) (s3 : s.length = 3) (n3 : n < 3) (wl : ws.length ≤ 4)
    (k : ∀ (ws' : List V) (H' : Hp), Wys H0 H' fo sd wa fs ws' F s (uss ++ [ic (rot s n)] ++ [ic (negR (rot s n))]) → D.nx [some (.ref b), some (.int f), some (.ref fo), x3, some (.ref sd), some (.ref wa), some (.int (n : Int))] H') :
    tWay K D [some (.ref b), some (.int f), some (.ref fo), x3, some (.ref sd), some (.ref wa), some (.int (n : Int))] H := by
  refine ⟨_, rfl, .inl ⟨rfl, _, SqL.of h.hw⟩, rotc_reads rfl rfl h.hs s3 n3 fun q H1 s1 hq fq => ?_⟩
  have qw : q ≠ wa := fun z => by rw [z, h.hw] at hq; cases hq
  have qf : q ≠ fo := fun z => by rw [z, h.hf] at hq; cases hq
  have h1 := (h.up s1).add fq qw qf
  refine ⟨wa, ws, .ref q, rfl, rfl, s1 _ _ h.hw, Nat.lt_of_le_of_lt (show _ ≤ 1000 by omega) (by decide), ?_⟩
  generalize upd H1 wa (.lst (ws ++ [.ref q])) = H2 at h1 ⊢
  refine ⟨_, rfl, .inl ⟨rfl, _, SqL.of h1.hw⟩, rotc_reads rfl rfl h1.hs s3 n3 fun q2 H3 s3' hq2 fq2 => ?_⟩
  have rl := rot_len s n
  refine ⟨q2, _, rfl, SqL.of fq2, compV (K := K) (a := q2) (xs := (rot s n).map V.int) (fun m ys H' => ys = (((rot s n).reverse.take m).map fun z => -z).map V.int ∧ H3 = H') ⟨rfl, rfl⟩ (by rw [List.length_map]; omega) (fun m ys H' h => by rw [h.1, List.length_map, List.length_map, List.length_take]; exact Nat.min_le_left _ _) (fun m ys H' _ h => by rw [← h.2]; exact SqL.of fq2) ?_ ?_⟩
  · rintro m z ys H' pre hpl hz ⟨rfl, rfl⟩
    rw [← List.map_reverse, List.getElem?_map] at hz
    cases ez : (rot s n).reverse[m]? with
    | none => rw [ez] at hz; cases hz
    | some i =>
      rw [ez] at hz
      cases hz
      rcases pre with _ | ⟨q0, _ | ⟨q1, pre⟩⟩
      · cases hpl
      · refine ⟨⟨[some _], rfl, rfl⟩, ?_⟩
        unfold tYes
        dsimp only
        rw [if_pos (rfl : true = true)]
        refine ⟨_, rfl, i, rfl, ?_, rfl⟩
        rw [take_succ' ez, List.map_append, List.map_append]
        rfl
      · cases hpl
  rintro ys H' ⟨rfl, rfl⟩ p hp
  rw [List.length_map, List.take_of_length_le (by rw [List.length_reverse]; exact Nat.le_refl _)]
  have h3 := h1.up s3'
  have s4 := Same.nw (o := .lst (((rot s n).reverse.map fun z => -z).map V.int)) (Same.refl H3) hp
  have f4 : (upd H3 p (.lst (((rot s n).reverse.map fun z => -z).map V.int))) p = some (.lst ((negR (rot s n)).map V.int)) := upd_same
  dsimp only [tNil]
  change rAppend _ _ (upd H3 p (.lst (((rot s n).reverse.map fun z => -z).map V.int))) _
  generalize upd H3 p (.lst (((rot s n).reverse.map fun z => -z).map V.int)) = H4 at s4 f4 ⊢
  have pw : p ≠ wa := fun z => by rw [z, h3.hw] at hp; cases hp
  have pf : p ≠ fo := fun z => by rw [z, h3.hf] at hp; cases hp
  have h4 := (h3.up s4).add f4 pw pf
  refine ⟨wa, _, .ref p, rfl, rfl, s4 _ _ h3.hw, Nat.lt_of_le_of_lt (show _ ≤ 1000 by rw [List.length_append]; simp only [List.length_singleton]; omega) (by decide), k _ _ h4⟩
def leastsOf (f : Int) (S : List (List Int)) : List (List (List Int)) := S.map fun s => ic (leastW (flipS f s))
def spShape : Sp := fun vs H Q _ => ∃ (b : Addr) (f : Int) (xs : List V) (S : List (List Int)), vs = [.ref b, .int f] ∧ H b = some (.lst xs) ∧ TuL H xs S ∧ ShOk S ∧
  ∀ (l : Addr) (zs : List V) (ws : List (List (List Int))) (H' : Hp), Same H H' → H' l = some (.lst zs) → LsL H' false zs ws → ws.Perm (leastsOf f S) → ws.Pairwise (fun x y => lexLL y x = false) → Q (.ref l) H'
def tShape (K : PySem.W.Frag) : TS := tSeq (tAsg (tLst tNil) (gName 2)) (tSeq (tFor (iList K (tVar 0)) (gName 3) (tSeq (tAsg (tCompG 1 (iTup K (tVar 3)) (gName 0) tYes (tOp (rI CMul fun i j => V.int (i * j)) (tVar 0) (tOp (rI0 fun i j => V.int (i - j)) (tC (V.int 1)) (tOp (rI CMul fun i j => V.int (i * j)) (tC (V.int 2)) (tCB (fun xs H Q => (∃ i, xs = [V.int i] ∧ Q (V.int i) H) ∨ ∃ k, xs = [V.bl k] ∧ Q (V.int (if k = true then 1 else 0)) H) (tCons (tOp rEq (tCB (fun xs H Q => ∃ i, xs = [V.int i] ∧ Q (V.int (if i < 0 then -i else i)) H) (tCons (tVar 0) tNil)) (tVar 2)) tNil)))))) (gName 4)) (tSeq (tAsg (tLst tNil) (gName 5)) (tSeq (tFor (iRng1 (tCons (tC (V.int 3)) tNil)) (gName 6) (tWay K)) (tDrop (tBM K "list" rAppend (tVar 2) (tCons (tCB (fun xs H_1 Q => ∃ p ys uss, xs = [V.ref p] ∧ SqL K H_1 p ys ∧ LsL H_1 false ys uss ∧ uss ≠ [] ∧ ∀ (i : Nat) (y : V) (u : List (List Int)), ys[i]? = some y → uss[i]? = some u → (∀ (v : List (List Int)), v ∈ uss → lexLL v u = false) → Q y H_1) (tCons (tVar 5) tNil)) tNil))))))) (tRet (tCB (fun xs H_1 Q => ∃ p ys uss, xs = [V.ref p] ∧ SqL K H_1 p ys ∧ LsL H_1 false ys uss ∧ uss.length < 64 ∧ ∀ (l : Addr) (zs : List V) (ws : List (List (List Int))), H_1 l = none → LsL H_1 false zs ws → ws.Perm uss → List.Pairwise (fun x y => lexLL y x = false) ws → Q (V.ref l) (upd H_1 l (HO.lst zs))) (tCons (tVar 2) tNil))))
theorem bit_cmul (c : Bool) : -(2 ^ 64 : Int) < 1 - 2 * (if c = true then 1 else 0) ∧ (1 - 2 * (if c = true then 1 else 0) : Int) < 2 ^ 64 := by cases c <;> decide
theorem abs_if (i : Int) : (if i < 0 then -i else i) = absI i := rfl
set_option maxHeartbeats 4000000 in
theorem shape_reads {K : PySem.W.Frag} {H : Hp} {Q : VK} {Z : L2.St → Hp → Prop} {b : Addr} {f : Int} {xs : List V} {S : List (List Int)} (hb : H b = some (.lst xs)) (tS : TuL H xs S) (oS : ShOk S)
    (k : ∀ (l : Addr) (zs : List V) (ws : List (List (List Int))) (H' : Hp), Same H H' → H' l = some (.lst zs) → LsL H' false zs ws → ws.Perm (leastsOf f S) → ws.Pairwise (fun x y => lexLL y x = false) → Q (.ref l) H') :
    tShape K { nx := Z, rt := Q } [some (.ref b), some (.int f), none, none, none, none, none] H := by
  have lS := oS.len
  have lx : xs.length = S.length := tS.1
  refine ⟨(by show 0 ≤ sizeLine; decide), fun fo hfo => ?_⟩
  have s1 := Same.nw (o := .lst []) (Same.refl H) hfo
  have f1 : (upd H fo (.lst [])) fo = some (.lst []) := upd_same
  change tSeq _ _ _ _ (upd H fo (.lst []))
  generalize upd H fo (.lst []) = H1 at s1 f1 ⊢
  refine ⟨_, rfl, b, rfl, ⟨_, SqL.of (s1 _ _ hb)⟩, for_list (K := K) (a := b) (xs := xs) (fun i σ H' => ∃ (x3 x4 x5 x6 : Option V) (fs : List V), σ = [some (.ref b), some (.int f), some (.ref fo), x3, x4, x5, x6] ∧ Same H H' ∧ H' fo = some (.lst fs) ∧ LsL H' false fs (leastsOf f (S.take i)) ∧ ∀ y ∈ fs, y ≠ .ref fo) ⟨_, _, _, _, [], rfl, s1, f1, LsL.nil _ _, fun y hy => by cases hy⟩ (fun i σ H' _ h => by obtain ⟨_, _, _, _, _, _, s', _⟩ := h; exact SqL.of (s' _ _ hb)) ?_ ?_⟩
  · rintro i y σ H2 hy ⟨x3, x4, x5, x6, fs, rfl, s2, hf2, l2, a2⟩
    obtain ⟨t, q, et, rfl, hq⟩ := (tS.up s2.tups).take hy
    have il : i < S.length := (List.getElem?_eq_some_iff.mp et).1
    have t3 := oS.three t (List.mem_of_getElem? et)
    refine ⟨_, rfl, q, rfl, ⟨_, SqT.of hq⟩, compT (K := K) (a := q) (xs := t.map V.int) (fun m zs H' => zs = (flipS f (t.take m)).map V.int ∧ H2 = H') ⟨rfl, rfl⟩ (by rw [List.length_map]; omega) (fun m zs H' h => by rw [h.1]; unfold flipS; rw [List.length_map, List.length_map, List.length_take]; exact Nat.min_le_left _ _) (fun m zs H' _ h => by rw [← h.2]; exact SqT.of hq) ?_ ?_⟩
    · rintro n z zs H' pre hpl hz ⟨rfl, rfl⟩
      rw [List.getElem?_map] at hz
      cases ez : t[n]? with
      | none => rw [ez] at hz; cases hz
      | some sd =>
        rw [ez] at hz
        cases hz
        rcases pre with _ | ⟨q0, _ | ⟨q1, pre⟩⟩
        · cases hpl
        · refine ⟨⟨[some _], rfl, rfl⟩, ?_⟩
          unfold tYes
          dsimp only
          rw [if_pos (rfl : true = true)]
          refine ⟨_, rfl, _, rfl, sd, rfl, _, rfl, rfl, .inr ⟨_, rfl, 2, _, rfl, rfl, .inl ⟨by decide, by decide⟩, 1, _, rfl, rfl, sd, _, rfl, rfl, .inr ?_, ?_, rfl⟩⟩
          · exact bit_cmul _
          · rw [take_succ' ez]
            unfold flipS
            rw [List.map_append, List.map_append]
            congr 1
            show [V.int _] = [V.int _]
            rw [abs_if]
            dsimp only
            by_cases c : absI sd = f
            · rw [if_pos c, if_pos (by rw [c]; exact decide_eq_true rfl)]
            · rw [if_neg c, if_neg (by rw [decide_eq_true_eq]; exact fun z => c (V.int.inj z))]
        · cases hpl
    rintro zs H' ⟨rfl, rfl⟩ sd hsd
    rw [List.length_map, List.take_length]
    have s3 := Same.nw (o := .lst ((flipS f t).map V.int)) (Same.refl H2) hsd
    have f3 : (upd H2 sd (.lst ((flipS f t).map V.int))) sd = some (.lst ((flipS f t).map V.int)) := upd_same
    change gName 4 _ _ (upd H2 sd (.lst ((flipS f t).map V.int))) _
    generalize upd H2 sd (.lst ((flipS f t).map V.int)) = H3 at s3 f3 ⊢
    refine ⟨(by show 0 ≤ sizeLine; decide), fun wa hwa => ?_⟩
    have s4 := Same.nw (o := .lst []) (Same.refl H3) hwa
    have f4 : (upd H3 wa (.lst [])) wa = some (.lst []) := upd_same
    change tSeq _ _ _ _ (upd H3 wa (.lst []))
    generalize upd H3 wa (.lst []) = H4 at s4 f4 ⊢
    have s34 := s3.trans s4
    have ff3 := s3 _ _ hf2
    have fl : (flipS f t).length = 3 := by unfold flipS; rw [List.length_map]; exact t3
    have w0 : Wys H H4 fo sd wa fs [] (leastsOf f (S.take i)) (flipS f t) [] := ⟨s2.trans s34, hfo, (s2.trans s3).free hwa, s34 _ _ hf2, l2.up s34, s4 _ _ f3, f4, LsL.nil _ _, lsl_free (l2.up s3) hwa, a2, fun y hy => (by cases hy), fun y hy => (by cases hy), fun z => (by rw [← z, ff3] at hwa; cases hwa), fun z => (by rw [← z, f3] at hwa; cases hwa)⟩
    refine ⟨3, rfl, by decide, by decide, for_range (n := 3) (fun m σ H' => ∃ (y6 : Option V) (ws : List V), σ = [some (.ref b), some (.int f), some (.ref fo), some (.ref q), some (.ref sd), some (.ref wa), y6] ∧ Wys H H' fo sd wa fs ws (leastsOf f (S.take i)) (flipS f t) (((ways (flipS f t)).take (2 * m)).map ic)) ⟨_, [], rfl, w0⟩ ?_ ?_⟩
    · rintro m σ H5 hm ⟨y6, ws, rfl, w5⟩
      have wl : ws.length ≤ 4 := by
        have := w5.lw.1
        rw [List.length_map, List.length_take] at this
        omega
      show tWay K _ [some (.ref b), some (.int f), some (.ref fo), some (.ref q), some (.ref sd), some (.ref wa), some (.int (0 + (m : Int)))] H5
      rw [Int.zero_add]
      refine way_reads (K := K) w5 fl hm wl fun ws' H6 w6 => ⟨_, ws', rfl, ?_⟩
      have e : ((ways (flipS f t)).take (2 * m)).map ic ++ [ic (rot (flipS f t) m)] ++ [ic (negR (rot (flipS f t) m))] = ((ways (flipS f t)).take (2 * (m + 1))).map ic := by
        have hc : m = 0 ∨ m = 1 ∨ m = 2 := by omega
        rcases hc with rfl | rfl | rfl <;> rfl
      rw [← e]
      exact w6
    · rintro σ H5 ⟨y6, ws, rfl, w5⟩
      have et6 : (ways (flipS f t)).take (2 * 3) = ways (flipS f t) := rfl
      rw [et6] at w5
      refine ⟨_, rfl, .inl ⟨rfl, _, SqL.of w5.hf⟩, _, rfl, wa, ws, _, rfl, SqL.of w5.hw, w5.lw, (by unfold ways; intro z; cases z), fun n y u hy hu hl => ?_⟩
      have eu := least_pick (List.mem_of_getElem? hu) hl
      obtain ⟨a, zs, ea, ha, ia⟩ := w5.lw.2 n y u hy hu
      have my := List.mem_of_getElem? hy
      have fle : fs.length ≤ 12 := by
        have := w5.lf.1
        unfold leastsOf at this
        rw [List.length_map, List.length_take] at this
        omega
      refine ⟨fo, fs, y, rfl, rfl, w5.hf, Nat.lt_of_le_of_lt (show _ ≤ 1000 by omega) (by decide), ?_⟩
      have af : a ≠ fo := fun z => w5.ax y my (by rw [ea, z])
      refine ⟨_, _, _, _, fs ++ [y], rfl, w5.same.ow hfo, upd_same, ?_, fun y' hy' => ?_⟩
      · rw [take_succ' et]
        unfold leastsOf
        rw [List.map_append, ea]
        refine LsL.snoc (w5.lf.set w5.hf w5.ag) (xs := zs) (by rw [upd_ne af]; exact ha) ?_
        rw [eu] at ia
        exact ia.up (Tups.lst (Tups.refl _) w5.hf)
      · rcases List.mem_append.mp hy' with z | z
        · exact a2 y' z
        · rw [List.mem_singleton] at z
          rw [z]
          exact w5.ax y my
  · rintro σ H2 ⟨x3, x4, x5, x6, fs, rfl, s2, hf2, l2, a2⟩
    rw [List.take_of_length_le (by omega)] at l2
    refine ⟨_, rfl, fo, fs, _, rfl, SqL.of hf2, l2, (by unfold leastsOf; rw [List.length_map]; omega), fun l zs ws hl lz pz sz => ?_⟩
    have s3 := Same.nw (o := .lst zs) (Same.refl H2) hl
    exact k l zs ws _ (s2.trans s3) upd_same (lz.up s3) pz sz
end L2
set_option Elab.async false
set_option linter.all false
set_option maxRecDepth 100000
set_option maxHeartbeats 1000000
set_option Elab.async false
set_option linter.all false
set_option maxRecDepth 100000
set_option maxHeartbeats 1000000
set_option Elab.async false
set_option linter.all false
set_option maxRecDepth 100000
set_option maxHeartbeats 1000000
set_option Elab.async false
set_option linter.all false
set_option maxRecDepth 100000
set_option maxHeartbeats 1000000
set_option Elab.async false
set_option linter.all false
set_option maxRecDepth 100000
set_option maxHeartbeats 1000000
set_option Elab.async false
set_option linter.all false
set_option maxRecDepth 100000
set_option maxHeartbeats 1000000
set_option Elab.async false
set_option linter.all false
set_option maxRecDepth 100000
set_option maxHeartbeats 1000000
set_option Elab.async false
set_option linter.all false
set_option maxRecDepth 100000
set_option maxHeartbeats 1000000
set_option Elab.async false
set_option linter.all false
set_option maxRecDepth 100000
set_option maxHeartbeats 1000000
namespace L2
open PySem PySem.Spec PyProof.Rows
theorem dep_dTs5 (S : List (List Int)) : (dTs S).depth ≤ 2 := by
  show PyData.depthAll (S.map dT) + 1 ≤ 2
  have := dep_CL true S
  have e : S.map (datC true) = S.map dT := rfl
  rw [e] at this
  omega
theorem dep_dI5 (r : List Int) : (dI r).depth ≤ 1 := by show PyData.depthAll _ + 1 ≤ 1; rw [dep_ints]; decide
theorem lay_hd2 (S : List (List Int)) (r : List Int) : (PyData.list [dTs S, dI r]).canLay0 = true := by
  show ((dTs S).canLay0 && ((dI r).canLay0 && true)) = true
  rw [lay_dTs, lay_dI]
  rfl
theorem dep_hd2 (S : List (List Int)) (r : List Int) : (PyData.list [dTs S, dI r]).depth ≤ 60 := by
  show max (dTs S).depth (max (dI r).depth 0) + 1 ≤ 60
  have := dep_dTs5 S
  have := dep_dI5 r
  omega
end L2
set_option Elab.async false
set_option linter.all false
set_option maxRecDepth 100000
set_option maxHeartbeats 1000000
namespace L2
open PySem PySem.Spec PyProof.Rows
def dLF (uss : List (List (List Int))) : PyData := .list (uss.map fun us => .list (us.map (datC false)))
theorem LsL.diF {K : PySem.W.Frag} {H : Hp} {a : Addr} {ys : List V} {uss : List (List (List Int))} (h : LsL H false ys uss) (ha : SqL K H a ys) : DI K H (.ref a) (dLF uss) := by
  refine .lst ha (by rw [List.length_map]; exact h.1) fun i x d h1 h2 => ?_
  rw [List.getElem?_map] at h2
  cases z : uss[i]? with
  | none => rw [z] at h2; cases h2
  | some us =>
    rw [z] at h2
    cases h2
    obtain ⟨b, xs, rfl, e, it⟩ := h.2 i x us h1 z
    exact it.di (SqL.of e)
theorem lay_dLF (uss : List (List (List Int))) : (dLF uss).canLay0 = true := by
  show PyData.canLayAll0 (uss.map fun us => .list (us.map (datC false))) = true
  induction uss with
  | nil => rfl
  | cons us uss ih => show (PyData.canLayAll0 (us.map (datC false)) && PyData.canLayAll0 (uss.map fun us => .list (us.map (datC false)))) = true; rw [lay_CL, ih]; rfl
theorem dep_dLF (uss : List (List (List Int))) : (dLF uss).depth ≤ 60 := by
  have key : PyData.depthAll (uss.map fun us => .list (us.map (datC false))) ≤ 2 := by
    induction uss with
    | nil => exact Nat.zero_le _
    | cons us uss ih => show max (PyData.depthAll (us.map (datC false)) + 1) (PyData.depthAll (uss.map fun us => .list (us.map (datC false)))) ≤ 2; have := dep_CL false us; omega
  show PyData.depthAll (uss.map fun us => .list (us.map (datC false))) + 1 ≤ 60
  omega
structure Hnd (H : Hp) (b c hh l1 l2 : Addr) (xs : List V) (r : List Int) (S : List (List Int)) : Prop where
  hb : H b = some (.lst xs)
  hc : H c = some (.lst (r.map V.int))
  hh : H hh = some (.lst [.ref l1, .ref l2])
  h1 : H l1 = some (.lst xs)
  h2 : H l2 = some (.lst (r.map V.int))
  tS : TuL H xs S
theorem Hnd.up {H H' : Hp} {b c hh l1 l2 : Addr} {xs : List V} {r : List Int} {S : List (List Int)} (h : Hnd H b c hh l1 l2 xs r S) (s : Same H H') : Hnd H' b c hh l1 l2 xs r S :=
  ⟨s _ _ h.hb, s _ _ h.hc, s _ _ h.hh, s _ _ h.h1, s _ _ h.h2, h.tS.up s.tups⟩
def tHand63 (K : PySem.W.Frag) : TE := (tOp (rEqD K fun b => !b) (tVar 5) (tLst (tCons (tVar 2) (tCons (tVar 4) tNil))))
section
variable {K : PySem.W.Frag} {H : Hp} {a d b c hh l1 l2 cN : Addr} {m : Int} {xs : List V} {r : List Int} {S : List (List Int)} {k : Nat}
theorem hand63_reads {Q : VK} {σ : L2.St} (h : Hnd H b c hh l1 l2 xs r S) (e2 : σ[2]? = some (some (.ref b))) (e4 : σ[4]? = some (some (.ref c))) (e5 : σ[5]? = some (some (.ref hh))) (kk : ∀ H', Same H H' → Q (.bl false) H') : tHand63 K σ H Q := by
  refine ⟨_, e5, _, e2, _, e4, (by show 2 ≤ sizeLine; decide), fun z hz => ?_⟩
  have s8 := Same.nw (o := .lst [.ref b, .ref c]) (Same.refl H) hz
  have fz : (upd H z (.lst [.ref b, .ref c])) z = some (.lst [.ref b, .ref c]) := upd_same
  generalize upd H z (.lst [.ref b, .ref c]) = H8 at s8 fz ⊢
  have g := h.up s8
  have d1 : Th H8 (.ref hh) (.list [dTs S, dI r]) := (ThL.cons ((TuL.th g.tS).lst g.h1) (ThL.cons ((ThL.ints r).lst g.h2) ThL.nil)).lst g.hh
  have d2 : Th H8 (.ref z) (.list [dTs S, dI r]) := (ThL.cons ((TuL.th g.tS).lst g.hb) (ThL.cons ((ThL.ints r).lst g.hc) ThL.nil)).lst fz
  refine ⟨_, _, d1.di, d2.di, lay_hd2 S r, lay_hd2 S r, dep_hd2 S r, ?_⟩
  rw [SeqAt.eqv_refl _ (lay_hd2 S r)]
  exact kk _ s8
def tShp63 (K : PySem.W.Frag) : TS := (tSeq (tIfS (tAnd (tTest (tOp (rEqD K fun b => !b) (tCall spShape [] E0 (tCons (tVar 9) (tCons (tC (V.int 0)) tNil))) (tCall spShape [] E0 (tCons (tVar 2) (tCons (tC (V.int 0)) tNil))))) (tTest (tOp (rEqD K fun b => !b) (tCall spShape [] E0 (tCons (tVar 9) (tCons (tVar 6) tNil))) (tCall spShape [] E0 (tCons (tVar 2) (tCons (tC (V.int 0)) tNil)))))) (tRet (tC (V.bl false))) tNext) (tDrop (tBM K "list" rAppend (tVar 7) (tCons (tC (V.int 0)) tNil))))
theorem flip0 (oS : ShOk S) : leastsOf 0 S = S.map fun s => ic (leastW s) := by
  unfold leastsOf
  refine List.map_congr_left fun s hs => ?_
  rw [flip_none]
  intro z hz
  have := (oS.side hs hz).1
  omega
set_option maxHeartbeats 4000000 in
theorem shp63_reads {D : Ends} {i p j q : Nat} {t u : List Int} {P Q' U W : Int} {h7 h9 : Addr} {ys9 : List V} {rt : List Int} {x8 : Option V} (h : Hnd H b c hh l1 l2 xs r S) (oS : ShOk S) (hk : k < S.length / 2 * 3) (T : TwoT S k i p j q t u P Q' U W) (f7 : H h7 = some (.lst (rt.map V.int))) (rl : rt.length ≤ 18) (f9 : H h9 = some (.lst ys9)) (t9 : TuL H ys9 (turnS (turnS S k i j P Q' U W) k i j Q' U W P)) (o9 : ShOk (turnS (turnS S k i j P Q' U W) k i j Q' U W P))
    (kk : ∀ (H' : Hp) (zs : List V), Same H H' → D.nx [some (.ref a), some (.ref d), some (.ref b), some (.int m), some (.ref c), some (.ref hh), some (.int ((k : Int) + 1)), some (.ref h7), x8, some (.ref h9)] (upd H' h7 (.lst zs))) :
    tShp63 K D [some (.ref a), some (.ref d), some (.ref b), some (.int m), some (.ref c), some (.ref hh), some (.int ((k : Int) + 1)), some (.ref h7), x8, some (.ref h9)] H := by
  obtain ⟨φ, hφ, pm⟩ := shape_perm oS T
  have fin : ∀ H', Same H H' → tDrop (tBM K "list" rAppend (tVar 7) (tCons (tC (V.int 0)) tNil)) D [some (.ref a), some (.ref d), some (.ref b), some (.int m), some (.ref c), some (.ref hh), some (.int ((k : Int) + 1)), some (.ref h7), x8, some (.ref h9)] H' := fun H' s' => by
    have g7 := s' _ _ f7
    exact ⟨_, rfl, .inl ⟨rfl, _, SqL.of g7⟩, h7, _, _, rfl, rfl, g7, Nat.lt_of_le_of_lt (show _ ≤ 1000 by rw [List.length_map]; omega) (by decide), kk H' _ s'⟩
  have pm2 : (leastsOf φ (turnS (turnS S k i j P Q' U W) k i j Q' U W P)).Perm (leastsOf 0 S) := by
    rw [flip0 oS]
    have := pm.map ic
    rw [List.map_map, List.map_map] at this
    exact this
  refine ⟨_, rfl, h9, 0, ys9, _, rfl, f9, t9, o9, fun z1 w1 v1 H1 s1 fz1 lz1 p1 q1 => ?_⟩
  refine ⟨_, rfl, b, 0, xs, S, rfl, s1 _ _ h.hb, h.tS.up s1.tups, oS, fun z2 w2 v2 H2 s2 fz2 lz2 p2 q2 => ?_⟩
  refine ⟨_, _, (lz1.up s2).diF (SqL.of (s2 _ _ fz1)), lz2.diF (SqL.of fz2), lay_dLF _, lay_dLF _, dep_dLF _, _, rfl, ite2 (fun hne => ?_) (fun _ => ?_)⟩
  · rcases hφ with rfl | rfl
    · have e : v1 = v2 := shapes_one (p1.trans (pm2.trans p2.symm)) q1 q2
      rw [e, SeqAt.eqv_refl _ (lay_dLF _)] at hne
      cases hne
    · have s12 := s1.trans s2
      refine ⟨_, rfl, _, rfl, h9, _, ys9, _, rfl, s12 _ _ f9, t9.up s12.tups, o9, fun z3 w3 v3 H3 s3 fz3 lz3 p3 q3 => ?_⟩
      have s13 := s12.trans s3
      refine ⟨_, rfl, b, 0, xs, S, rfl, s13 _ _ h.hb, h.tS.up s13.tups, oS, fun z4 w4 v4 H4 s4 fz4 lz4 p4 q4 => ?_⟩
      refine ⟨_, _, (lz3.up s4).diF (SqL.of (s4 _ _ fz3)), lz4.diF (SqL.of fz4), lay_dLF _, lay_dLF _, dep_dLF _, _, rfl, ?_⟩
      have e : v3 = v4 := shapes_one (p3.trans (pm2.trans p4.symm)) q3 q4
      rw [e, SeqAt.eqv_refl _ (lay_dLF _)]
      exact iteF (fin H4 (s13.trans s4))
  · exact iteF (fin H2 (s1.trans s2))
def tAg63 (K : PySem.W.Frag) (cN : Addr) : TS := (tSeq (tAsg (tCallX (spTurned cN) (fun x x_1 x_2 => False) (tCons (tCallX (spTurned cN) (fun x x_1 x_2 => False) (tCons (tCB (fun xs H_1 Q => ∃ p ys, xs = [V.ref p] ∧ (SqL K H_1 p ys ∨ SqT K H_1 p ys) ∧ ∀ (l : Addr), H_1 l = none → Q (V.ref l) (upd H_1 l (HO.lst ys))) (tCons (tVar 2) tNil)) (tCons (tVar 6) tNil))) (tCons (tVar 6) tNil))) (gName 9)) (tShp63 K))
theorem ag63_reads {D : Ends} {i p j q : Nat} {t u : List Int} {P Q' U W : Int} {h7 : Addr} {rt : List Int} {x8 x9 : Option V} (h : Hnd H b c hh l1 l2 xs r S) (oS : ShOk S) (hk : k < S.length / 2 * 3) (T : TwoT S k i p j q t u P Q' U W) (f7 : H h7 = some (.lst (rt.map V.int))) (rl : rt.length ≤ 18)
    (kk : ∀ (H' : Hp) (zs : List V) (y9 : Option V), Same H H' → D.nx [some (.ref a), some (.ref d), some (.ref b), some (.int m), some (.ref c), some (.ref hh), some (.int ((k : Int) + 1)), some (.ref h7), x8, y9] (upd H' h7 (.lst zs))) :
    tAg63 K cN D [some (.ref a), some (.ref d), some (.ref b), some (.int m), some (.ref c), some (.ref hh), some (.int ((k : Int) + 1)), some (.ref h7), x8, x9] H := by
  have T2 := turn_two oS hk T
  have o2 := turn_ok oS T
  have hk2 : k < (turnS S k i j P Q' U W).length / 2 * 3 := by rw [turn_len]; exact hk
  refine ⟨_, rfl, b, xs, rfl, .inl (SqL.of h.hb), fun l hl => ?_⟩
  have s1 := Same.nw (o := .lst xs) (Same.refl H) hl
  have f1 : (upd H l (.lst xs)) l = some (.lst xs) := upd_same
  generalize upd H l (.lst xs) = H1 at s1 f1 ⊢
  refine ⟨_, rfl, l, xs, S, _, rfl, f1, h.tS.up s1.tups, oS, fun hb => (bad_two hk hb T).elim, fun k' i' p' j' r' t' u' P' Q2 U' W' ek hk' T' c1 ys1 H2 s2 cf1 hc1 tc1 => ?_⟩
  have e : k = k' := by omega
  subst e
  obtain ⟨rfl, rfl, rfl, rfl, rfl, rfl⟩ := two_uniq T T'
  refine ⟨_, rfl, c1, ys1, _, _, rfl, hc1, tc1, o2, fun hb => (bad_two hk2 hb T2).elim, fun k' i' p' j' r' t' u' P' Q2 U' W' ek hk' T' c2 ys2 H3 s3 cf2 hc2 tc2 => ?_⟩
  have e : k = k' := by omega
  subst e
  obtain ⟨rfl, rfl, rfl, rfl, rfl, rfl⟩ := two_uniq T2 T'
  have s13 := (s1.trans s2).trans s3
  exact shp63_reads (K := K) (h.up s13) oS hk T (s13 _ _ f7) rl hc2 tc2 (turn_ok o2 T2) fun H' zs s' => kk H' zs _ (s13.trans s')
def tTie63 (K : PySem.W.Frag) (cN : Addr) : TS := (tIfS (tB (tIsN (tCall spSquare [] E0 (tCons (tVar 2) (tCons (tVar 6) tNil))))) (tIfS (tOr (tNot (tB (tCall (spRefused cN) [] E0 (tCons (tOp (rIxL K) (tVar 5) (tC (V.int 0))) (tCons (tOp (rIxL K) (tVar 5) (tC (V.int 1))) (tCons (tVar 6) tNil)))))) (tTest (tHand63 K))) (tRet (tC (V.bl false))) tNext) (tSeq (tAsg (tCallX (spRowT cN) (fun x x_1 x_2 => False) (tCons (tOp (rIxL K) (tVar 5) (tC (V.int 0))) (tCons (tOp (rIxL K) (tVar 5) (tC (V.int 1))) (tCons (tVar 6) tNil)))) (gName 7)) (tSeq (tAsg (tCall spLTurned [] E0 (tCons (tVar 2) (tCons (tVar 6) tNil))) (gName 8)) (tSeq (tIfS (tOr (tNot (tB (tCB (fun xs H Q => ∃ x t b, xs = [x, V.ty "list"] ∧ TyOf K H x t ∧ W.kitOne K t (Value.type "list") = some b ∧ Q (V.bl b) H) (tCons (tVar 7) (tCons (tC (V.ty "list")) tNil))))) (tOr (tTest (tOp (rEqD K fun b => !b) (tVar 7) (tCall spCarried [] E0 (tCons (tVar 2) (tCons (tVar 4) (tCons (tVar 6) tNil)))))) (tTest (tHand63 K)))) (tRet (tC (V.bl false))) tNext) (tSeq (tIfS (tTest (tOp (fun x y H Q => ∃ b c, x = V.bl b ∧ y = V.bl c ∧ Q (V.bl (!(b == c))) H) (tCall spIsRow [] E0 (tCons (tCB (fun xs H_1 Q => ∃ p ys, xs = [V.ref p] ∧ (SqL K H_1 p ys ∨ SqT K H_1 p ys) ∧ ∀ (l : Addr), H_1 l = none → Q (V.ref l) (upd H_1 l (HO.lst ys))) (tCons (tVar 8) tNil)) (tCons (tCB (fun xs H_1 Q => ∃ p ys, xs = [V.ref p] ∧ (SqL K H_1 p ys ∨ SqT K H_1 p ys) ∧ ∀ (l : Addr), H_1 l = none → Q (V.ref l) (upd H_1 l (HO.lst ys))) (tCons (tVar 7) tNil)) tNil))) (tC (V.bl true)))) (tRet (tC (V.bl false))) tNext) (tSeq (tIfS (tTest (tOp (rEqD K fun b => !b) (tCallX (spRowT cN) (fun x x_1 x_2 => False) (tCons (tCB (fun xs H_1 Q => ∃ p ys, xs = [V.ref p] ∧ (SqL K H_1 p ys ∨ SqT K H_1 p ys) ∧ ∀ (l : Addr), H_1 l = none → Q (V.ref l) (upd H_1 l (HO.lst ys))) (tCons (tVar 8) tNil)) (tCons (tCB (fun xs H_1 Q => ∃ p ys, xs = [V.ref p] ∧ (SqL K H_1 p ys ∨ SqT K H_1 p ys) ∧ ∀ (l : Addr), H_1 l = none → Q (V.ref l) (upd H_1 l (HO.lst ys))) (tCons (tVar 7) tNil)) (tCons (tVar 6) tNil)))) (tVar 4))) (tRet (tC (V.bl false))) tNext) (tAg63 K cN)))))))
set_option maxHeartbeats 8000000 in
theorem tie63_reads {D : Ends} {x7 x8 x9 : Option V} (h : Hnd H b c hh l1 l2 xs r S) (oS : ShOk S) (ev : EvRow S r) (hk : k < S.length / 2 * 3)
    (kk : ∀ (y7 y8 y9 : Option V) (H' : Hp), Same H H' → D.nx [some (.ref a), some (.ref d), some (.ref b), some (.int m), some (.ref c), some (.ref hh), some (.int ((k : Int) + 1)), y7, y8, y9] H') :
    tTie63 K cN D [some (.ref a), some (.ref d), some (.ref b), some (.int m), some (.ref c), some (.ref hh), some (.int ((k : Int) + 1)), x7, x8, x9] H := by
  have lS := oS.len
  have rl : r.length = S.length / 2 * 3 := ev.len
  refine ⟨_, rfl, _, rfl, b, xs, S, k, rfl, h.hb, h.tS, oS, hk, fun hbad H1 s1 => ?_, fun i p j q t u P Q' U W T c0 e0 g0 H1 s1 hc0 he0 hg0 => ?_⟩
  · have g := h.up s1
    refine ⟨_, rfl, iteT ?_⟩
    refine ⟨_, rfl, hh, _, _, _, rfl, rfl, SqL.of g.hh, rfl, _, rfl, hh, _, _, _, rfl, rfl, SqL.of g.hh, rfl, _, rfl, l1, l2, xs, S, r, _, rfl, g.h1, g.tS, oS, g.h2, rl, hbad, fun H2 s2 => ?_⟩
    refine ⟨_, rfl, iteF (hand63_reads (g.up s2) rfl rfl rfl fun H3 s3 => ⟨_, rfl, iteF (kk _ _ _ _ ((s1.trans s2).trans s3))⟩)⟩
  · have g := h.up s1
    refine ⟨_, rfl, iteF ?_⟩
    refine ⟨_, rfl, hh, _, _, _, rfl, rfl, SqL.of g.hh, rfl, _, rfl, hh, _, _, _, rfl, rfl, SqL.of g.hh, rfl, _, rfl, l1, l2, xs, S, r, _, rfl, g.h1, g.tS, oS, g.h2, rl, fun hb => (bad_two hk hb T).elim, fun k' i' p' j' r' t' u' P' Q2 U' W' ek hk' T' h7 H2 s2 hf7 f7 => ?_⟩
    have e : k = k' := by omega
    subst e
    obtain ⟨rfl, rfl, rfl, rfl, rfl, rfl⟩ := two_uniq T T'
    have g2 := g.up s2
    have hl7 : H h7 = none := s1.free hf7
    have rT : (rowT r k P Q' U W).length ≤ 18 := by rw [rowT_len]; omega
    have o2 := turn_ok oS T
    have T2 := turn_two oS hk T
    have hk2 : k < (turnS S k i j P Q' U W).length / 2 * 3 := by rw [turn_len]; exact hk
    refine ⟨_, rfl, _, rfl, b, xs, S, k, i, p, j, q, t, u, P, Q', U, W, rfl, g2.hb, g2.tS, oS, hk, T, fun h8 ys H3 s3 hf8 f8 t8 => ?_⟩
    have g3 := g2.up s3
    have f73 := s3 _ _ f7
    refine ⟨_, rfl, .ref h7, _, _, rfl, .lst f73, kit_ll, _, rfl, iteF ?_⟩
    refine ⟨_, rfl, _, rfl, _, rfl, _, rfl, b, c, xs, S, r, k, i, p, j, q, t, u, P, Q', U, W, rfl, g3.hb, g3.tS, oS, g3.hc, rl, hk, T, fun l H4 s4 lf fl => ?_⟩
    have g4 := g3.up s4
    refine ⟨_, _, di_lst (SqL.of (s4 _ _ f73)), di_lst (SqL.of fl), lay_dI _, lay_dI _, dep_dI _, _, rfl, ?_⟩
    rw [eqv_dI, decide_eq_true rfl]
    refine iteF (hand63_reads g4 rfl rfl rfl fun H5 s5 => ⟨_, rfl, iteF ?_⟩)
    have s35 := s4.trans s5
    have f85 := s35 _ _ f8
    have f75 := s35 _ _ f73
    refine ⟨_, rfl, h8, ys, rfl, .inl (SqL.of f85), fun l3 hl3 => ?_⟩
    have s6 := Same.nw (o := .lst ys) (Same.refl H5) hl3
    have f6 : (upd H5 l3 (.lst ys)) l3 = some (.lst ys) := upd_same
    generalize upd H5 l3 (.lst ys) = H6 at s6 f6 ⊢
    refine ⟨_, rfl, h7, _, rfl, .inl (SqL.of (s6 _ _ f75)), fun l4 hl4 => ?_⟩
    have s7 := Same.nw (o := .lst ((rowT r k P Q' U W).map V.int)) (Same.refl H6) hl4
    have f7' : (upd H6 l4 (.lst ((rowT r k P Q' U W).map V.int))) l4 = some (.lst ((rowT r k P Q' U W).map V.int)) := upd_same
    generalize upd H6 l4 (.lst ((rowT r k P Q' U W).map V.int)) = H7 at s7 f7' ⊢
    have s37 := s35.trans (s6.trans s7)
    refine ⟨l3, l4, ys, _, _, rfl, s7 _ _ f6, t8.up s37.tups, o2, f7', turn_row oS ev hk T, fun H8 s8 => ?_⟩
    have s38 := s37.trans s8
    refine ⟨true, true, rfl, rfl, _, rfl, iteF ?_⟩
    refine ⟨_, rfl, h8, ys, rfl, .inl (SqL.of (s38 _ _ f8)), fun l5 hl5 => ?_⟩
    have s9 := Same.nw (o := .lst ys) (Same.refl H8) hl5
    have f9 : (upd H8 l5 (.lst ys)) l5 = some (.lst ys) := upd_same
    generalize upd H8 l5 (.lst ys) = H9 at s9 f9 ⊢
    refine ⟨_, rfl, h7, _, rfl, .inl (SqL.of (s9 _ _ (s38 _ _ f73))), fun l6 hl6 => ?_⟩
    have sA := Same.nw (o := .lst ((rowT r k P Q' U W).map V.int)) (Same.refl H9) hl6
    have fA : (upd H9 l6 (.lst ((rowT r k P Q' U W).map V.int))) l6 = some (.lst ((rowT r k P Q' U W).map V.int)) := upd_same
    generalize upd H9 l6 (.lst ((rowT r k P Q' U W).map V.int)) = HA at sA fA ⊢
    have s3A := s38.trans (s9.trans sA)
    refine ⟨_, rfl, l5, l6, ys, _, _, _, rfl, sA _ _ f9, t8.up s3A.tups, o2, fA, by rw [rowT_len, turn_len, rl], fun hb => (bad_two hk2 hb T2).elim, fun k' i' p' j' r' t' u' P' Q2 U' W' ek hk' T' l7 HB sB lf7 fl7 => ?_⟩
    have e : k = k' := by omega
    subst e
    obtain ⟨rfl, rfl, rfl, rfl, rfl, rfl⟩ := two_uniq T2 T'
    rw [row_back oS ev hk T] at fl7
    have s3B := s3A.trans sB
    refine ⟨_, rfl, _, _, di_lst (SqL.of fl7), di_lst (SqL.of (s3B _ _ g3.hc)), lay_dI _, lay_dI _, dep_dI _, _, rfl, ?_⟩
    rw [eqv_dI, decide_eq_true rfl]
    refine iteF ?_
    exact ag63_reads (K := K) (g3.up s3B) oS hk T (s3B _ _ f73) rT fun H' zs y9 s' => kk _ _ _ _ ((((s1.trans s2).trans s3).trans (s3B.trans s')).ow hl7)
def tEnd63 (K : PySem.W.Frag) (cN : Addr) : TS := (tRet (tAndV (tCall (spRefused cN) [] E0 (tCons (tOp (rIxL K) (tVar 5) (tC (V.int 0))) (tCons (tOp (rIxL K) (tVar 5) (tC (V.int 1))) (tCons (tC (V.int 0)) tNil)))) (tCall (spRefused cN) [] E0 (tCons (tOp (rIxL K) (tVar 5) (tC (V.int 0))) (tCons (tOp (rIxL K) (tVar 5) (tC (V.int 1))) (tCons (tOp (rI0 fun i j => V.int (i + j)) (tCB (fun xs H Q => ∃ p ys, xs = [V.ref p] ∧ (SqL K H p ys ∨ SqT K H p ys) ∧ Q (V.int ys.length) H) (tCons (tVar 4) tNil)) (tC (V.int 1))) tNil))))))
theorem end63_reads {Q : VK} {Z : L2.St → Hp → Prop} {x6 x7 x8 x9 : Option V} (h : Hnd H b c hh l1 l2 xs r S) (oS : ShOk S) (ev : EvRow S r) (kk : ∀ H', Q (.bl true) H') :
    tEnd63 K cN { nx := Z, rt := Q } [some (.ref a), some (.ref d), some (.ref b), some (.int m), some (.ref c), some (.ref hh), x6, x7, x8, x9] H := by
  have rl : r.length = S.length / 2 * 3 := ev.len
  refine ⟨_, rfl, hh, _, _, _, rfl, rfl, SqL.of h.hh, rfl, _, rfl, hh, _, _, _, rfl, rfl, SqL.of h.hh, rfl, l1, l2, xs, S, r, 0, rfl, h.h1, h.tS, oS, h.h2, rl, .inl (by omega), fun H1 s1 => ?_⟩
  have g := h.up s1
  refine ⟨_, rfl, iteT ?_⟩
  refine ⟨_, rfl, hh, _, _, _, rfl, rfl, SqL.of g.hh, rfl, _, rfl, hh, _, _, _, rfl, rfl, SqL.of g.hh, rfl, _, rfl, c, _, rfl, .inl (SqL.of g.hc), _, _, rfl, rfl, l1, l2, xs, S, r, _, rfl, g.h1, g.tS, oS, g.h2, rl, .inl (by rw [List.length_map]; omega), fun H2 s2 => kk H2⟩
def tTail63 (K : PySem.W.Frag) (cN : Addr) : TS := (tSeq (tAsg (tLst (tCons (tCB (fun xs H_1 Q => ∃ p ys, xs = [V.ref p] ∧ (SqL K H_1 p ys ∨ SqT K H_1 p ys) ∧ ∀ (l : Addr), H_1 l = none → Q (V.ref l) (upd H_1 l (HO.lst ys))) (tCons (tVar 2) tNil)) (tCons (tCB (fun xs H_1 Q => ∃ p ys, xs = [V.ref p] ∧ (SqL K H_1 p ys ∨ SqT K H_1 p ys) ∧ ∀ (l : Addr), H_1 l = none → Q (V.ref l) (upd H_1 l (HO.lst ys))) (tCons (tVar 4) tNil)) tNil))) (gName 5)) (tSeq (tFor (iRng2 (tCons (tC (V.int 1)) (tCons (tOp (rI0 fun i j => V.int (i + j)) (tCB (fun xs H Q => ∃ p ys, xs = [V.ref p] ∧ (SqL K H p ys ∨ SqT K H p ys) ∧ Q (V.int ys.length) H) (tCons (tVar 4) tNil)) (tC (V.int 1))) tNil))) (gName 6) (tTie63 K cN)) (tEnd63 K cN)))
theorem tail63_reads {Q : VK} {Z : L2.St → Hp → Prop} (hb : H b = some (.lst xs)) (tS : TuL H xs S) (oS : ShOk S) (hc : H c = some (.lst (r.map V.int))) (ev : EvRow S r) (kk : ∀ H', Q (.bl true) H') :
    tTail63 K cN { nx := Z, rt := Q } [some (.ref a), some (.ref d), some (.ref b), some (.int m), some (.ref c), none, none, none, none, none] H := by
  have lS := oS.len
  have rl : r.length = S.length / 2 * 3 := ev.len
  refine ⟨_, rfl, b, xs, rfl, .inl (SqL.of hb), fun l1 hl1 => ?_⟩
  have s3 := Same.nw (o := .lst xs) (Same.refl H) hl1
  have f1 : (upd H l1 (.lst xs)) l1 = some (.lst xs) := upd_same
  generalize upd H l1 (.lst xs) = H3 at s3 f1 ⊢
  refine ⟨_, rfl, c, _, rfl, .inl (SqL.of (s3 _ _ hc)), fun l2 hl2 => ?_⟩
  have s4 := Same.nw (o := .lst (r.map V.int)) (Same.refl H3) hl2
  have f2 : (upd H3 l2 (.lst (r.map V.int))) l2 = some (.lst (r.map V.int)) := upd_same
  generalize upd H3 l2 (.lst (r.map V.int)) = H4 at s4 f2 ⊢
  refine ⟨(by show 2 ≤ sizeLine; decide), fun hh hhh => ?_⟩
  have s5 := Same.nw (o := .lst [.ref l1, .ref l2]) (Same.refl H4) hhh
  have fh : (upd H4 hh (.lst [.ref l1, .ref l2])) hh = some (.lst [.ref l1, .ref l2]) := upd_same
  change tSeq _ _ _ _ (upd H4 hh (.lst [.ref l1, .ref l2]))
  generalize upd H4 hh (.lst [.ref l1, .ref l2]) = H5 at s5 fh ⊢
  have s15 := (s3.trans s4).trans s5
  have h5 : Hnd H5 b c hh l1 l2 xs r S := ⟨s15 _ _ hb, s15 _ _ hc, fh, s5 _ _ (s4 _ _ f1), s5 _ _ f2, tS.up s15.tups⟩
  refine ⟨_, rfl, c, _, rfl, .inl (SqL.of h5.hc), _, _, rfl, rfl, 1, _, rfl, ⟨by decide, by decide, by rw [List.length_map]; omega, by rw [List.length_map]; omega⟩, for_range (D := { nx := tEnd63 K cN { nx := Z, rt := Q }, rt := Q }) (fun i σ H' => ∃ (y6 y7 y8 y9 : Option V), σ = [some (.ref a), some (.ref d), some (.ref b), some (.int m), some (.ref c), some (.ref hh), y6, y7, y8, y9] ∧ Same H5 H') ⟨_, _, _, _, rfl, Same.refl _⟩ ?_ ?_⟩
  · rintro i σ H6 hi ⟨y6, y7, y8, y9, rfl, s6⟩
    rw [List.length_map] at hi
    have hi2 : i < S.length / 2 * 3 := by omega
    show tTie63 K cN _ [some (.ref a), some (.ref d), some (.ref b), some (.int m), some (.ref c), some (.ref hh), some (.int (1 + (i : Int))), y7, y8, y9] H6
    rw [Int.add_comm 1 (i : Int)]
    exact tie63_reads (K := K) (h5.up s6) oS ev hi2 fun z7 z8 z9 H7 s7 => ⟨_, _, _, _, rfl, s6.trans s7⟩
  · rintro σ H6 ⟨y6, y7, y8, y9, rfl, s6⟩
    exact end63_reads (K := K) (h5.up s6) oS ev kk
end
end L2
set_option Elab.async false
set_option linter.all false
set_option maxRecDepth 100000
set_option maxHeartbeats 1000000
namespace Toy
open PySem L2 PyProof.Rows
structure Gb (mg : Str → Option Value) : Prop where
  ab : mg "abs" = none
  en : mg "enumerate" = none
  zp : mg "zip" = none
  ve : mg "ValueError" = none
  rv : mg "reversed" = none
structure Exs (K : PySem.W.Frag) (mg : Str → Option Value) (c_CordError c_NoTurn : Addr) : Prop where
  m_CordError : mg "CordError" = some (.ref c_CordError)
  m_NoTurn : mg "NoTurn" = some (.ref c_NoTurn)
  x_CordError : XCls K c_CordError
  x_NoTurn : XCls K c_NoTurn
  e_NoTurn : PySem.W.excIn K c_NoTurn bmV "ValueError.__new__" = true
  v_NoTurn : PySem.W.subIn K (.ref c_NoTurn) (.type "ValueError") = some true
  s_NoTurn_CordError : PySem.W.subIn K (.ref c_NoTurn) (.ref c_CordError) = some true
  s_NoTurn_NoTurn : PySem.W.subIn K (.ref c_NoTurn) (.ref c_NoTurn) = some true
end Toy
namespace Toy
open PySem L2 PyProof.Rows
section
variable {P : Program} {w : World} {K : PySem.W.Frag} {mg : Str → Option Value} {base : Heap}
abbrev s__law_heaps : Stmt := top 23
theorem sc__law_heaps : FnScope ["_law_things", "_law_pairs", "_law_heaps_here", "_law_left_out", "_law_heap", "_law_at", "_law_one", "_law_other", "_law_here", "_law_there"] ["_law_things", "_law_pairs"] (defScope s__law_heaps) := ⟨rfl, rfl, rfl, by decide +kernel, rfl, by decide +kernel, by decide +kernel⟩
def spHeaps (tp : Bool) : Sp := fun vs H Q _ => ∃ (a b : Addr) (xs ps : List V) (ts : List (List Int)) (L : List (List Int × List Int)), vs = [.ref a, .ref b] ∧ H a = some (.lst xs) ∧ ItL H tp xs ts ∧ H b = some (.lst ps) ∧ PaL H tp ps L ∧ ts.Nodup ∧ ts.length ≤ 1000 ∧ (∀ p ∈ L, p.1 ∈ ts ∧ p.2 ∈ ts) ∧ ∀ (c : Addr) (zs : List V) (hs : List (List (List Int))) (H' : Hp), Same H H' → H c = none → H' c = some (.lst zs) → LsL H' tp zs hs → Parts (RL L) ts hs → Q (.ref c) H'
theorem ok_heaps {f : Addr} {fd : FuncData} (F : Fun K "_law_heaps" "_law_heaps" s__law_heaps f fd) (M : Txt mg) : FnOk P w K mg base CX0 2 f fd ["_law_things", "_law_pairs"] (spHeaps true) := by
  have sc := sc__law_heaps
  refine F.ok sc (fun vs H Q E h => ?_) (fun cdv A outer s H vs Q E hr h => ?_)
  · obtain ⟨a, b, xs, ps, ts, L, rfl, _⟩ := h
    rfl
  · obtain ⟨a, b, xs, ps, ts, L, rfl, ha, iT, hb, iP, nd, sz, inT, k⟩ := h
    refine ⟨_, (pss_cons (ps_set (i := 2) sc.nd rfl (Or.inl rfl) (pe_lst pa_nil))
      (pss_cons (ps_set (i := 3) sc.nd rfl (Or.inl rfl) (pe_callTy call_list_of (by rfl) M.list boot_list (pa_Name (pv 0) pa_nil)))
      (pss_cons (ps_while PassesOwn.never (pt_cmpR (op_neD hr) (pv 3) (pe_lst pa_nil) (nomark _)) (pss_cons (ps_set (i := 4) sc.nd rfl (Or.inl rfl) (pe_lst (pa_Call (pe_bm PySem.F.plainAttrs_list PySem.F.slot_list_pop PySem.F.type_list_pop mt_popAt (pv 3) (pa_Constant pe_int pa_nil)) pa_nil)))
      (pss_cons (ps_set (i := 5) sc.nd rfl (Or.inl rfl) pe_int)
      (pss_cons (ps_while PassesOwn.never (pt_cmpR op_lt (pv 5) (pe_callB (call_lenK (K := K)) (by rfl) M.len PySem.boot_len (pa_Name (pv 4) pa_nil)) (nomark _)) (pss_cons (ps_for PassesOwn.never rfl (pi_list (pv 1)) (pg_tup rfl (pgs_cons (pg_name (i := 6) sc.nd rfl (Or.inl rfl)) (pgs_cons (pg_name (i := 7) sc.nd rfl (Or.inl rfl)) pgs_nil)))
      (pss_one (ps_for PassesOwn.never rfl (pi_tup (pe_tup (pa_o2 (pe_tup (pa_o2 (pv 6) (pv 7) pa_nil)) (pe_tup (pa_o2 (pv 7) (pv 6) pa_nil)) pa_nil))) (pg_tup rfl (pgs_cons (pg_name (i := 8) sc.nd rfl (Or.inl rfl)) (pgs_cons (pg_name (i := 9) sc.nd rfl (Or.inl rfl)) pgs_nil)))
      (pss_one (ps_if (PW.pt (pw_and (pt_cmpR (op_eqD hr) (pv 8) (pe_ix (ix_listK (K := K)) (pv 4) (pv 5) (fun _ _ => rfl)) (nomark _)) (pw_and1 (pt_cmpR (op_inC true hr) (pv 9) (pv 3) rfl)))) (pss_cons (ps_expr (pe_bm PySem.F.plainAttrs_list PySem.F.slot_list_remove PySem.F.type_list_remove (mt_remC true hr) (pv 3) (pa_Name (pv 9) pa_nil)))
      (pss_one (ps_expr (pe_bm PySem.F.plainAttrs_list PySem.F.slot_list_append PySem.F.type_list_append mt_append (pv 4) (pa_Name (pv 9) pa_nil))))) pss_nil)))))
      (pss_one (ps_set (i := 5) sc.nd rfl (Or.inl rfl) (pe_op op_add (pv 5) pe_int)))))
      (pss_one (ps_expr (pe_bm PySem.F.plainAttrs_list PySem.F.slot_list_append PySem.F.type_list_append mt_append (pv 2) (pa_Name (pv 4) pa_nil))))))))
      (pss_one (ps_ret (pv 2)))))), ?_⟩
    exact heaps_reads ha iT hb iP nd sz inT k
abbrev s__law_end : Stmt := top 24
theorem sc__law_end : FnScope ["_law_side", "_law_at"] ["_law_side", "_law_at"] (defScope s__law_end) := ⟨rfl, rfl, rfl, by decide +kernel, rfl, by decide +kernel, by decide +kernel⟩
def spEnd : Sp := fun vs H Q _ => ∃ (s : Int) (b : Bool), vs = [.int s, .int (if b then 1 else 0)] ∧ ∀ p, H p = none → Q (.ref p) (upd H p (.tup ((eC s b).map V.int)))
theorem ok_end {f : Addr} {fd : FuncData} (F : Fun K "_law_end" "_law_end" s__law_end f fd) (M : Txt mg) (B : Gb mg) : FnOk P w K mg base CX0 1 f fd ["_law_side", "_law_at"] spEnd := by
  have sc := sc__law_end
  refine F.ok sc (fun vs H Q E h => ?_) (fun cdv A outer s H vs Q E hr h => ?_)
  · obtain ⟨i, b, rfl, _⟩ := h
    rfl
  · obtain ⟨i, b, rfl, k⟩ := h
    refine ⟨_, (pss_one (ps_ret (pe_tup (pa_o2 (pe_callB call_abs (by rfl) B.ab boot_abs (pa_Name (pv 0) pa_nil)) (pe_callTy call_int1 (by rfl) M.int boot_int (pa_cons (pe_cmpR op_eq (pe_cmpR op_gt (pv 0) pe_int (nomark _)) (pe_cmpR op_eq (pv 1) pe_int (nomark _)) (nomark _)) pa_nil)) pa_nil)))), ?_⟩
    refine ⟨_, rfl, i, rfl, _, rfl, _, _, rfl, rfl, _, rfl, rfl, rfl, .inr ⟨_, rfl, (by show 2 ≤ sizeLine; decide), fun p hp => ?_⟩⟩
    have e : (if decide (V.bl (decide (0 < i)) = V.bl (decide (V.int (if b = true then 1 else 0) = V.int 1))) = true then (1 : Int) else 0) = if decide (0 < i) = b then 1 else 0 := by
      cases b <;> by_cases z : 0 < i <;> simp [z]
    have := k p hp
    show Q _ (upd H p (.tup [.int (absI i), .int (if decide (V.bl (decide (0 < i)) = V.bl (decide (V.int (if b = true then 1 else 0) = V.int 1))) = true then (1 : Int) else 0)]))
    rw [e]
    exact this
abbrev s__law_meets : Stmt := top 25
theorem sc__law_meets : FnScope ["_law_sheet_here", "_law_pairs", "_law_one", "_law_two", "_law_three", "_law_here", "_law_there"] ["_law_sheet_here"] (defScope s__law_meets) := ⟨rfl, rfl, rfl, by decide +kernel, rfl, by decide +kernel, by decide +kernel⟩
def spMeets (K : PySem.W.Frag) : Sp := fun vs H Q _ => ∃ (b : Addr) (xs : List V) (S : List (List Int)), vs = [.ref b] ∧ H b = some (.lst xs) ∧ TuL H xs S ∧ (∀ t ∈ S, t.length = 3) ∧ S.length ≤ 100 ∧ ∀ (c : Addr) (ps : List V) (H' : Hp), Same H H' → H c = none → H' c = some (.lst ps) → PaL H' true ps (meetsL S) → Q (.ref c) H'
theorem ok_meets {f : Addr} {fd : FuncData} (F : Fun K "_law_meets" "_law_meets" s__law_meets f fd) (M : Txt mg) (G_law_end : Kn P w K mg base "_law_end" 1 ["_law_side", "_law_at"] spEnd) : FnOk P w K mg base CX0 2 f fd ["_law_sheet_here"] (spMeets K) := by
  have sc := sc__law_meets
  refine F.ok sc (fun vs H Q E h => ?_) (fun cdv A outer s H vs Q E hr h => ?_)
  · obtain ⟨b, xs, S, rfl, _⟩ := h
    rfl
  · obtain ⟨b, xs, S, rfl, hb, tS, t3, l12, k⟩ := h
    refine ⟨_, (pss_cons (ps_set (i := 1) sc.nd rfl (Or.inl rfl) (pe_lst pa_nil))
      (pss_cons (ps_for PassesOwn.never rfl (pi_list (pv 0)) (pg_tup rfl (pgs_cons (pg_name (i := 2) sc.nd rfl (Or.inl rfl)) (pgs_cons (pg_name (i := 3) sc.nd rfl (Or.inl rfl)) (pgs_cons (pg_name (i := 4) sc.nd rfl (Or.inl rfl)) pgs_nil))))
      (pss_one (ps_for PassesOwn.never rfl (pi_tup (pe_tup (pa_o3 (pe_tup (pa_o2 (pv 2) (pv 3) pa_nil)) (pe_tup (pa_o2 (pv 3) (pv 4) pa_nil)) (pe_tup (pa_o2 (pv 4) (pv 2) pa_nil)) pa_nil))) (pg_tup rfl (pgs_cons (pg_name (i := 5) sc.nd rfl (Or.inl rfl)) (pgs_cons (pg_name (i := 6) sc.nd rfl (Or.inl rfl)) pgs_nil)))
      (pss_one (ps_expr (pe_bm PySem.F.plainAttrs_list PySem.F.slot_list_append PySem.F.type_list_append mt_append (pv 1) (pa_Tuple (pe_tup (pa_o2 (pe_callD G_law_end hr rfl (pa_Name (pv 5) (pa_Constant pe_int pa_nil))) (pe_callD G_law_end hr rfl (pa_Name (pv 6) (pa_Constant pe_int pa_nil))) pa_nil)) pa_nil)))))))
      (pss_one (ps_ret (pv 1))))), ?_⟩
    refine ⟨(by show 0 ≤ sizeLine; decide), fun c hc => ?_⟩
    have s1 := Same.nw (o := .lst []) (Same.refl H) hc
    have fc : (upd H c (.lst [])) c = some (.lst []) := upd_same
    generalize upd H c (.lst []) = H1 at s1 fc ⊢
    refine ⟨_, rfl, b, rfl, ⟨_, SqL.of (s1 _ _ hb)⟩, for_list (K := K) (a := b) (xs := xs) (fun i σ H' => ∃ (x2 x3 x4 x5 x6 : Option V) (ps : List V), σ = [some (.ref b), some (.ref c), x2, x3, x4, x5, x6] ∧ Same H H' ∧ H' c = some (.lst ps) ∧ PaL H' true ps (meetsL (S.take i)) ∧ (meetsL (S.take i)).length = 3 * i) ⟨_, _, _, _, _, [], rfl, s1, fc, PaL.nil _ _, rfl⟩ (fun i σ H' _ h => by obtain ⟨_, _, _, _, _, _, _, s', _⟩ := h; exact SqL.of (s' _ _ hb)) ?_ ?_⟩
    · rintro i y σ H2 hy ⟨x2, x3, x4, x5, x6, ps, rfl, s2, hc2, pa, pl⟩
      obtain ⟨t, q, et, rfl, hq⟩ := (tS.up s2.tups).take hy
      have il : i < S.length := (List.getElem?_eq_some_iff.mp et).1
      obtain ⟨o1, o2, o3, rfl⟩ := three3 (t3 t (List.mem_of_getElem? et))
      have psl : ps.length = 3 * i := by rw [pa.1, pl]
      refine ⟨q, _, rfl, SqT.of hq, rfl, _, _, rfl, _, _, rfl, _, _, rfl, rfl, ?_⟩
      refine ⟨_, rfl, _, rfl, (by show 2 ≤ sizeLine; decide), fun t1 ht1 => ?_⟩
      have s3 := Same.nw (o := .tup [.int o1, .int o2]) (Same.refl H2) ht1
      have f1 : (upd H2 t1 (.tup [.int o1, .int o2])) t1 = some (.tup [.int o1, .int o2]) := upd_same
      generalize upd H2 t1 (.tup [.int o1, .int o2]) = H3 at s3 f1 ⊢
      refine ⟨_, rfl, _, rfl, (by show 2 ≤ sizeLine; decide), fun t2 ht2 => ?_⟩
      have s4 := Same.nw (o := .tup [.int o2, .int o3]) (Same.refl H3) ht2
      have f2 : (upd H3 t2 (.tup [.int o2, .int o3])) t2 = some (.tup [.int o2, .int o3]) := upd_same
      generalize upd H3 t2 (.tup [.int o2, .int o3]) = H4 at s4 f2 ⊢
      refine ⟨_, rfl, _, rfl, (by show 2 ≤ sizeLine; decide), fun t3' ht3 => ?_⟩
      have s5 := Same.nw (o := .tup [.int o3, .int o1]) (Same.refl H4) ht3
      have f3 : (upd H4 t3' (.tup [.int o3, .int o1])) t3' = some (.tup [.int o3, .int o1]) := upd_same
      generalize upd H4 t3' (.tup [.int o3, .int o1]) = H5 at s5 f3 ⊢
      refine ⟨(by show 3 ≤ sizeLine; decide), fun tt htt => ?_⟩
      have s6 := Same.nw (o := .tup [.ref t1, .ref t2, .ref t3']) (Same.refl H5) htt
      have ft : (upd H5 tt (.tup [.ref t1, .ref t2, .ref t3'])) tt = some (.tup [.ref t1, .ref t2, .ref t3']) := upd_same
      generalize upd H5 tt (.tup [.ref t1, .ref t2, .ref t3']) = H6 at s6 ft ⊢
      have s26 := ((s3.trans s4).trans s5).trans s6
      have g3 := s6 _ _ f3
      have g2 := s6 _ _ (s5 _ _ f2)
      have g1 := s6 _ _ (s5 _ _ (s4 _ _ f1))
      have s06 := s2.trans s26
      refine ⟨tt, rfl, ⟨_, SqT.of ft⟩, for_tup (K := K) (a := tt) (xs := [.ref t1, .ref t2, .ref t3']) (fun m σ H' => ∃ (x5 x6 : Option V) (ps : List V), σ = [some (.ref b), some (.ref c), some (.int o1), some (.int o2), some (.int o3), x5, x6] ∧ Same H H' ∧ Tups H6 H' ∧ H' c = some (.lst ps) ∧ PaL H' true ps (meetsL (S.take i) ++ (meet3 [o1, o2, o3]).take m)) ⟨_, _, ps, rfl, s06, Tups.refl _, s26 _ _ hc2, by rw [List.take_zero, List.append_nil]; exact pa.up s26.tups⟩ (fun m σ H' _ h => by obtain ⟨_, _, _, _, _, t', _⟩ := h; exact SqT.of (t' _ _ ft)) ?_ ?_⟩
      · rintro m y' σ H' hy' ⟨x5, x6, ps', rfl, s', t', hc', pa'⟩
        rcases m with _ | _ | _ | m
        · cases hy'
          refine ⟨t1, _, rfl, SqT.of (t' _ _ g1), rfl, _, _, rfl, _, _, rfl, rfl, ?_⟩
          refine ⟨_, rfl, .inl ⟨rfl, _, SqL.of hc'⟩, _, rfl, o1, true, rfl, fun p1 hp1 => ?_⟩
          have s7 := Same.nw (o := .tup ((eC o1 true).map V.int)) (Same.refl H') hp1
          have e1 : (upd H' p1 (.tup ((eC o1 true).map V.int))) p1 = some (.tup ((eC o1 true).map V.int)) := upd_same
          generalize upd H' p1 (.tup ((eC o1 true).map V.int)) = H7 at s7 e1 ⊢
          refine ⟨_, rfl, o2, false, rfl, fun p2 hp2 => ?_⟩
          have s8 := Same.nw (o := .tup ((eC o2 false).map V.int)) (Same.refl H7) hp2
          have e2 : (upd H7 p2 (.tup ((eC o2 false).map V.int))) p2 = some (.tup ((eC o2 false).map V.int)) := upd_same
          generalize upd H7 p2 (.tup ((eC o2 false).map V.int)) = H8 at s8 e2 ⊢
          refine ⟨(by show 2 ≤ sizeLine; decide), fun p3 hp3 => ?_⟩
          have s9 := Same.nw (o := .tup [.ref p1, .ref p2]) (Same.refl H8) hp3
          have e3 : (upd H8 p3 (.tup [.ref p1, .ref p2])) p3 = some (.tup [.ref p1, .ref p2]) := upd_same
          generalize upd H8 p3 (.tup [.ref p1, .ref p2]) = H9 at s9 e3 ⊢
          have s79 := (s7.trans s8).trans s9
          have hc9 := s79 _ _ hc'
          have pl' : ps'.length ≤ 1000 := by
            have := pa'.1
            rw [List.length_append, List.length_take] at this
            omega
          have tc : Tups H9 (upd H9 c (.lst (ps' ++ [.ref p3]))) := Tups.lst (Tups.refl H9) hc9
          refine ⟨c, ps', _, rfl, rfl, hc9, Nat.lt_of_le_of_lt pl' (by decide), _, _, ps' ++ [.ref p3], rfl, (s'.trans s79).ow hc, (t'.trans s79.tups).trans tc, upd_same, ?_⟩
          have em : (meet3 [o1, o2, o3])[0]? = some (eC o1 true, eC o2 false) := rfl
          rw [List.take_succ, em, ← List.append_assoc]
          exact ((pa'.up s79.tups).snoc e3 (.tup (s9 _ _ (s8 _ _ e1))) (.tup (s9 _ _ e2))).up tc
        · cases hy'
          refine ⟨t2, _, rfl, SqT.of (t' _ _ g2), rfl, _, _, rfl, _, _, rfl, rfl, ?_⟩
          refine ⟨_, rfl, .inl ⟨rfl, _, SqL.of hc'⟩, _, rfl, o2, true, rfl, fun p1 hp1 => ?_⟩
          have s7 := Same.nw (o := .tup ((eC o2 true).map V.int)) (Same.refl H') hp1
          have e1 : (upd H' p1 (.tup ((eC o2 true).map V.int))) p1 = some (.tup ((eC o2 true).map V.int)) := upd_same
          generalize upd H' p1 (.tup ((eC o2 true).map V.int)) = H7 at s7 e1 ⊢
          refine ⟨_, rfl, o3, false, rfl, fun p2 hp2 => ?_⟩
          have s8 := Same.nw (o := .tup ((eC o3 false).map V.int)) (Same.refl H7) hp2
          have e2 : (upd H7 p2 (.tup ((eC o3 false).map V.int))) p2 = some (.tup ((eC o3 false).map V.int)) := upd_same
          generalize upd H7 p2 (.tup ((eC o3 false).map V.int)) = H8 at s8 e2 ⊢
          refine ⟨(by show 2 ≤ sizeLine; decide), fun p3 hp3 => ?_⟩
          have s9 := Same.nw (o := .tup [.ref p1, .ref p2]) (Same.refl H8) hp3
          have e3 : (upd H8 p3 (.tup [.ref p1, .ref p2])) p3 = some (.tup [.ref p1, .ref p2]) := upd_same
          generalize upd H8 p3 (.tup [.ref p1, .ref p2]) = H9 at s9 e3 ⊢
          have s79 := (s7.trans s8).trans s9
          have hc9 := s79 _ _ hc'
          have pl' : ps'.length ≤ 1000 := by
            have := pa'.1
            rw [List.length_append, List.length_take] at this
            omega
          have tc : Tups H9 (upd H9 c (.lst (ps' ++ [.ref p3]))) := Tups.lst (Tups.refl H9) hc9
          refine ⟨c, ps', _, rfl, rfl, hc9, Nat.lt_of_le_of_lt pl' (by decide), _, _, ps' ++ [.ref p3], rfl, (s'.trans s79).ow hc, (t'.trans s79.tups).trans tc, upd_same, ?_⟩
          have em : (meet3 [o1, o2, o3])[0 + 1]? = some (eC o2 true, eC o3 false) := rfl
          rw [List.take_succ, em, ← List.append_assoc]
          exact ((pa'.up s79.tups).snoc e3 (.tup (s9 _ _ (s8 _ _ e1))) (.tup (s9 _ _ e2))).up tc
        · cases hy'
          refine ⟨t3', _, rfl, SqT.of (t' _ _ g3), rfl, _, _, rfl, _, _, rfl, rfl, ?_⟩
          refine ⟨_, rfl, .inl ⟨rfl, _, SqL.of hc'⟩, _, rfl, o3, true, rfl, fun p1 hp1 => ?_⟩
          have s7 := Same.nw (o := .tup ((eC o3 true).map V.int)) (Same.refl H') hp1
          have e1 : (upd H' p1 (.tup ((eC o3 true).map V.int))) p1 = some (.tup ((eC o3 true).map V.int)) := upd_same
          generalize upd H' p1 (.tup ((eC o3 true).map V.int)) = H7 at s7 e1 ⊢
          refine ⟨_, rfl, o1, false, rfl, fun p2 hp2 => ?_⟩
          have s8 := Same.nw (o := .tup ((eC o1 false).map V.int)) (Same.refl H7) hp2
          have e2 : (upd H7 p2 (.tup ((eC o1 false).map V.int))) p2 = some (.tup ((eC o1 false).map V.int)) := upd_same
          generalize upd H7 p2 (.tup ((eC o1 false).map V.int)) = H8 at s8 e2 ⊢
          refine ⟨(by show 2 ≤ sizeLine; decide), fun p3 hp3 => ?_⟩
          have s9 := Same.nw (o := .tup [.ref p1, .ref p2]) (Same.refl H8) hp3
          have e3 : (upd H8 p3 (.tup [.ref p1, .ref p2])) p3 = some (.tup [.ref p1, .ref p2]) := upd_same
          generalize upd H8 p3 (.tup [.ref p1, .ref p2]) = H9 at s9 e3 ⊢
          have s79 := (s7.trans s8).trans s9
          have hc9 := s79 _ _ hc'
          have pl' : ps'.length ≤ 1000 := by
            have := pa'.1
            rw [List.length_append, List.length_take] at this
            omega
          have tc : Tups H9 (upd H9 c (.lst (ps' ++ [.ref p3]))) := Tups.lst (Tups.refl H9) hc9
          refine ⟨c, ps', _, rfl, rfl, hc9, Nat.lt_of_le_of_lt pl' (by decide), _, _, ps' ++ [.ref p3], rfl, (s'.trans s79).ow hc, (t'.trans s79.tups).trans tc, upd_same, ?_⟩
          have em : (meet3 [o1, o2, o3])[0 + 1 + 1]? = some (eC o3 true, eC o1 false) := rfl
          rw [List.take_succ, em, ← List.append_assoc]
          exact ((pa'.up s79.tups).snoc e3 (.tup (s9 _ _ (s8 _ _ e1))) (.tup (s9 _ _ e2))).up tc
        · cases hy'
      · rintro σ H' ⟨x5, x6, ps', rfl, s', t', hc', pa'⟩
        have e3 : meetsL (S.take (i + 1)) = meetsL (S.take i) ++ meet3 [o1, o2, o3] := by rw [take_succ' et, meetsL_snoc]
        refine ⟨_, _, _, _, _, ps', rfl, s', hc', ?_, ?_⟩
        · rw [e3]
          exact pa'
        · rw [e3, List.length_append, pl]
          show 3 * i + 3 = 3 * (i + 1)
          omega
    · rintro σ H' ⟨x2, x3, x4, x5, x6, ps, rfl, s', hc', pa, pl⟩
      rw [List.take_of_length_le (by rw [tS.1]; exact Nat.le_refl _)] at pa
      exact ⟨_, rfl, k c ps H' s' hc hc' pa⟩
abbrev s__law_points_of : Stmt := top 26
theorem sc__law_points_of : FnScope ["_law_sheet_here", "_law_ends", "_law_tie"] ["_law_sheet_here"] (defScope s__law_points_of) := ⟨rfl, rfl, rfl, by decide +kernel, rfl, by decide +kernel, by decide +kernel⟩
def spPts : Sp := fun vs H Q _ => ∃ (b : Addr) (xs : List V) (S : List (List Int)), vs = [.ref b] ∧ H b = some (.lst xs) ∧ TuL H xs S ∧ ShOk S ∧ ∀ (c : Addr) (zs : List V) (ws : List (List (List Int))) (H' : Hp), Same H H' → H c = none → H' c = some (.lst zs) → LsL H' true zs ws → PtsOk S ws → Q (.ref c) H'
theorem ok_pointsof {f : Addr} {fd : FuncData} (F : Fun K "_law_points_of" "_law_points_of" s__law_points_of f fd) (M : Txt mg) (G_law_heaps : Kn P w K mg base "_law_heaps" 2 ["_law_things", "_law_pairs"] (spHeaps true)) (G_law_meets : Kn P w K mg base "_law_meets" 2 ["_law_sheet_here"] (spMeets K)) : FnOk P w K mg base CX0 3 f fd ["_law_sheet_here"] spPts := by
  have sc := sc__law_points_of
  refine F.ok sc (fun vs H Q E h => ?_) (fun cdv A outer s H vs Q E hr h => ?_)
  · obtain ⟨b, xs, S, rfl, _⟩ := h
    rfl
  · obtain ⟨b, xs, S, rfl, hb, tS, oS, k⟩ := h
    refine ⟨_, (pss_cons (ps_set (i := 1) sc.nd rfl (Or.inl rfl) (pe_lst pa_nil))
      (pss_cons (ps_for PassesOwn.never rfl (pi_range2 rfl M.range (pa_Constant pe_int (pa_BinOp (pe_op op_add (pe_op op_fdivL (pe_op op_mul (pe_callB (call_lenK (K := K)) (by rfl) M.len PySem.boot_len (pa_Name (pv 0) pa_nil)) pe_int) pe_int) pe_int) pa_nil))) (pg_name (i := 2) sc.nd rfl (Or.inl rfl))
      (pss_one (ps_set (i := 1) sc.nd rfl (Or.inl rfl) (pe_op op_cat (pv 1) (pe_lst (pa_o2 (pe_tup (pa_o2 (pv 2) pe_int pa_nil)) (pe_tup (pa_o2 (pv 2) pe_int pa_nil)) pa_nil))))))
      (pss_one (ps_ret (pe_callB (call_sortedLL true hr) (by rfl) M.sorted boot_sorted (pa_cons (pe_compG (xs := ["_law_heap"]) (Nb := ["_law_sheet_here", "_law_ends", "_law_tie"]) rfl (pi_list (pe_callD G_law_heaps hr rfl (pa_Name (pv 1) (pa_Call (pe_callD G_law_meets hr rfl (pa_Name (pv 0) pa_nil)) pa_nil)))) rfl (by show ∀ p ∈ (List.zip ["_law_sheet_here", "_law_ends", "_law_tie"] ["_law_sheet_here", "_law_ends", "_law_tie"] : List (Str × Str)), _; decide +kernel) (by decide +kernel) (fun cl C s₂ H₂ fp => (pg_name (i := 0) (by show List.Nodup (["_law_heap", "_law_sheet_here", "_law_ends", "_law_tie"] : List Str); decide +kernel) rfl (Or.inl (lookup_relabel_local rfl)) (Or.inr (lookup_relabel_local rfl)))) (fun cl C s₂ H₂ fp => pif_nil) (fun cl C s₂ H₂ fp => (pe_callB (call_sortedTLK (K := K) hr) (by rfl) M.sorted boot_sorted (pa_Name (pv 0) pa_nil))) (by decide +kernel) rfl (by decide +kernel) (by show ∀ y ∈ (_ : List (Str × NameKind)), y.2 = NameKind.free → (defScope s__law_points_of).names.lookup y.1 = some .cell; decide +kernel)) pa_nil)))))), ?_⟩
    have lS := oS.len
    have lx : xs.length = S.length := tS.1
    refine ⟨(by show 0 ≤ sizeLine; decide), fun c hc => ?_⟩
    have s1 := Same.nw (o := .lst []) (Same.refl H) hc
    have fc : (upd H c (.lst [])) c = some (.lst []) := upd_same
    generalize upd H c (.lst []) = H1 at s1 fc ⊢
    refine ⟨_, rfl, b, xs, rfl, .inl (SqL.of (s1 _ _ hb)), ((xs.length : Nat) : Int), 3, rfl, rfl, .inr ⟨by decide, by decide⟩, ((xs.length : Nat) : Int) * 3, 2, rfl, rfl, ⟨by decide, by decide⟩, _, _, rfl, rfl, ?_⟩
    have e7 : (((xs.length : Nat) : Int) * 3 / 2 + 1 - 1).toNat = S.length / 2 * 3 := by rw [lx]; omega
    refine ⟨1, ((xs.length : Nat) : Int) * 3 / 2 + 1, rfl, ⟨by decide, by decide, by omega, by omega⟩, for_range (n := (((xs.length : Nat) : Int) * 3 / 2 + 1 - 1).toNat) (fun i σ H' => ∃ (c : Addr) (x2 : Option V) (ys : List V), σ = [some (.ref b), some (.ref c), x2] ∧ Same H H' ∧ H' c = some (.lst ys) ∧ TuL H' ys (endsL i)) ⟨c, _, [], rfl, s1, fc, TuL.nil _⟩ ?_ ?_⟩
    · rintro i σ H2 hi ⟨c, x2, ys, rfl, s2, hc2, t2⟩
      have yl : ys.length = 2 * i := by rw [t2.1, ends_len]
      refine ⟨_, rfl, _, rfl, (by show 2 ≤ sizeLine; decide), fun p1 hp1 => ?_⟩
      have s3 := Same.nw (o := .tup [.int (1 + (i : Int)), .int 0]) (Same.refl H2) hp1
      have e1 : (upd H2 p1 (.tup [.int (1 + (i : Int)), .int 0])) p1 = some (.tup [.int (1 + (i : Int)), .int 0]) := upd_same
      generalize upd H2 p1 (.tup [.int (1 + (i : Int)), .int 0]) = H3 at s3 e1 ⊢
      refine ⟨_, rfl, (by show 2 ≤ sizeLine; decide), fun p2 hp2 => ?_⟩
      have s4 := Same.nw (o := .tup [.int (1 + (i : Int)), .int 1]) (Same.refl H3) hp2
      have e2 : (upd H3 p2 (.tup [.int (1 + (i : Int)), .int 1])) p2 = some (.tup [.int (1 + (i : Int)), .int 1]) := upd_same
      generalize upd H3 p2 (.tup [.int (1 + (i : Int)), .int 1]) = H4 at s4 e2 ⊢
      refine ⟨(by show 2 ≤ sizeLine; decide), fun p3 hp3 => ?_⟩
      have s5 := Same.nw (o := .lst [.ref p1, .ref p2]) (Same.refl H4) hp3
      have e3 : (upd H4 p3 (.lst [.ref p1, .ref p2])) p3 = some (.lst [.ref p1, .ref p2]) := upd_same
      generalize upd H4 p3 (.lst [.ref p1, .ref p2]) = H5 at s5 e3 ⊢
      have s25 := (s3.trans s4).trans s5
      refine ⟨c, p3, ys, _, rfl, rfl, s25 _ _ hc2, e3, Nat.le_trans (show ys.length + 2 ≤ 1000 by omega) (by decide), fun c2 hc3 => ?_⟩
      have s6 := Same.nw (o := .lst (ys ++ [.ref p1, .ref p2])) (Same.refl H5) hc3
      refine ⟨c2, _, ys ++ [.ref p1, .ref p2], rfl, (s2.trans s25).trans s6, upd_same, ?_⟩
      rw [endsL_snoc]
      have a1 : (upd H5 c2 (.lst (ys ++ [.ref p1, .ref p2]))) p1 = some (.tup ([1 + (i : Int), 0].map V.int)) := s6 _ _ (s5 _ _ (s4 _ _ e1))
      have a2 : (upd H5 c2 (.lst (ys ++ [.ref p1, .ref p2]))) p2 = some (.tup ([1 + (i : Int), 1].map V.int)) := s6 _ _ (s5 _ _ e2)
      have := TuL.snoc (TuL.snoc ((t2.up s25.tups).up s6.tups) a1) a2
      simpa using this
    · rintro σ H2 ⟨c, x2, ys, rfl, s2, hc2, t2⟩
      rw [e7] at t2
      refine ⟨_, rfl, _, rfl, b, xs, S, rfl, s2 _ _ hb, tS.up s2.tups, oS.three, by omega, fun q ps H3 s3 qf hq pa => ?_⟩
      have el : (endsL (S.length / 2 * 3)).length ≤ 36 := by rw [ends_len]; omega
      refine ⟨c, q, ys, ps, _, _, rfl, s3 _ _ hc2, (t2.up s3.tups).it, hq, pa, ends_nd _, by omega, meets_in oS, fun d zs hs H4 s4 df hd lz pt => ?_⟩
      have hl : hs.length ≤ 36 := by
        have h1 := len_flat pt.ne
        have h2 := pt.perm.length_eq
        omega
      have zl : zs.length = hs.length := lz.1
      refine ⟨d, rfl, ⟨_, SqL.of hd⟩, compL (K := K) (a := d) (xs := zs) (fun i ys H' => ∃ uss : List (List (List Int)), LsL H' true ys uss ∧ uss.length = i ∧ (∀ (j : Nat) (g w : List (List Int)), hs[j]? = some g → uss[j]? = some w → w.Perm g ∧ w.Pairwise (fun x y => lexB y x = false)) ∧ Same H4 H') ⟨[], LsL.nil _ _, rfl, fun j g w _ h => (by cases h), Same.refl _⟩ (by omega) (fun n ys H' h => by obtain ⟨uss, l1, l2, _⟩ := h; rw [l1.1, l2]; exact Nat.le_refl _) (fun n ys H' _ h => by obtain ⟨_, _, _, _, s'⟩ := h; exact SqL.of (s' _ _ hd)) ?_ ?_⟩
      · rintro n y ys' H5 pre hpl hy ⟨uss, l1, l2, hp, s5⟩
        have nl : n < hs.length := by rw [← zl]; exact (List.getElem?_eq_some_iff.mp hy).1
        have eh : hs[n]? = some hs[n] := List.getElem?_eq_getElem nl
        obtain ⟨g, gx, rfl, hg, ig⟩ := (lz.up s5).2 n y _ hy eh
        generalize hs[n] = hn at eh ig
        have mh : hn ∈ hs := List.mem_of_getElem? eh
        have hsub : ∀ u ∈ hn, u ∈ endsL (S.length / 2 * 3) := fun u hu => pt.perm.subset (List.mem_flatten.mpr ⟨hn, mh, hu⟩)
        have hnl : hn.length ≤ 36 := by
          have h2 := pt.perm.length_eq
          have h3 : hn.length ≤ hs.flatten.length := List.Sublist.length_le (List.sublist_flatten_of_mem mh)
          omega
        rcases pre with _ | ⟨q0, _ | ⟨q1, pre⟩⟩
        · cases hpl
        · refine ⟨⟨[some _], rfl, rfl⟩, ?_⟩
          unfold tYes
          dsimp only
          rw [if_pos (rfl : true = true)]
          refine ⟨_, rfl, g, gx, hn, rfl, SqL.of hg, ig.tu, by omega, fun u hu => ?_, fun l zs' ws hl' tw pw sw => ?_⟩
          · obtain ⟨t, b', rfl, _⟩ := mem_ends.mp (hsub u hu)
            simp
          · have s6 := Same.nw (o := .lst zs') (Same.refl H5) hl'
            refine ⟨uss ++ [ws], LsL.snoc (l1.up s6) upd_same (tw.it.up s6.tups), by simp [l2], fun j g' w' h1 h2 => ?_, s5.trans s6⟩
            by_cases jl : j < uss.length
            · rw [List.getElem?_append_left jl] at h2
              exact hp j g' w' h1 h2
            · rw [List.getElem?_append_right (by omega)] at h2
              cases e : j - uss.length with
              | zero =>
                rw [e] at h2
                cases h2
                have : j = n := by omega
                subst this
                rw [eh] at h1
                cases h1
                exact ⟨pw, sw⟩
              | succ m => rw [e] at h2; cases h2
        · cases hpl
      · rintro ys' H5 ⟨uss, l1, l2, hp, s5⟩ D hD
        have s6 := Same.nw (o := .lst ys') s5 hD
        refine ⟨D, ys', uss, rfl, SqL.of upd_same, l1.up (Same.nw (Same.refl H5) hD), by omega, fun c' zs' ws hc' lw pw sw => ?_⟩
        have s7 := Same.nw (o := .lst zs') s6 hc'
        have sall := ((s2.trans s3).trans s4).trans s7
        refine k c' zs' ws _ sall ((((s2.trans s3).trans s4).trans s6).free hc') upd_same (lw.up (Same.nw (Same.refl _) hc')) ⟨(pt.perm_in (by omega) fun j g w' h1 h2 => (hp j g w' h1 h2).1).perm_out pw, fun w' hw => ?_, sw⟩
        obtain ⟨j, hj⟩ := List.mem_iff_getElem?.mp (pw.subset hw)
        have jl := (List.getElem?_eq_some_iff.mp hj).1
        exact (hp j _ w' (List.getElem?_eq_getElem (by omega)) hj).2
end
end Toy
namespace Toy
open PySem L2 PyProof.Rows
section
variable {P : Program} {w : World} {K : PySem.W.Frag} {mg : Str → Option Value} {base : Heap}
abbrev s_is_whole : Stmt := top 4
theorem sc_is_whole : FnScope ["thing"] ["thing"] (defScope s_is_whole) := ⟨rfl, rfl, rfl, by decide +kernel, rfl, by decide +kernel, by decide +kernel⟩
def spWhole : Sp := fun vs H Q _ => ∃ x d, vs = [x] ∧ Th H x d ∧ Q (.bl (wholeD d)) H
theorem ok_whole {f : Addr} {fd : FuncData} (F : Fun K "is_whole" "is_whole" s_is_whole f fd) (M : Txt mg) : FnOk P w K mg base CX0 1 f fd ["thing"] spWhole := by
  have sc := sc_is_whole
  refine F.ok sc (fun vs H Q E h => ?_) (fun cdv A outer s H vs Q E hr h => ?_)
  · obtain ⟨x, d, rfl, _⟩ := h
    rfl
  · obtain ⟨x, d, rfl, t, k⟩ := h
    refine ⟨_, (pss_one (ps_ret (pe_and (pe_callB (call_isinstK (T := "int") (K := K)) (by rfl) M.isinstance boot_isinstance (pa_Name (pv 0) (pa_Name (pe_bltn (v := .ty "int") rfl M.int boot_int rfl) pa_nil))) (pe_one (pe_not (pe_callB (call_isinstK (T := "bool") (K := K)) (by rfl) M.isinstance boot_isinstance (pa_Name (pv 0) (pa_Name (pe_bltn (v := .ty "bool") rfl M.bool boot_bool rfl) pa_nil)))))))), ?_⟩
    rw [whole_ib] at k
    refine ⟨_, rfl, x, _, _, rfl, t.ty, kit_int d, _, rfl, ?_⟩
    cases hi : isInt d with
    | false => rw [hi] at k; exact iteF k
    | true => rw [hi] at k; exact iteT ⟨_, rfl, x, _, _, rfl, t.ty, kit_bool d, _, rfl, k⟩
abbrev s_is_whole_from : Stmt := top 5
theorem sc_is_whole_from : FnScope ["thing", "least"] ["thing", "least"] (defScope s_is_whole_from) := ⟨rfl, rfl, rfl, by decide +kernel, rfl, by decide +kernel, by decide +kernel⟩
theorem ok_from {f : Addr} {fd : FuncData} (F : Fun K "is_whole_from" "is_whole_from" s_is_whole_from f fd) (M : Txt mg) (Gis_whole : Kn P w K mg base "is_whole" 1 ["thing"] spWhole) : FnOk P w K mg base CX0 2 f fd ["thing", "least"] spFromZ := by
  have sc := sc_is_whole_from
  refine F.ok sc (fun vs H Q E h => ?_) (fun cdv A outer s H vs Q E hr h => ?_)
  · obtain ⟨i, l, rfl, _⟩ := h
    rfl
  · obtain ⟨i, l, rfl, k⟩ := h
    refine ⟨_, (pss_one (ps_ret (pe_and (pe_callD Gis_whole hr rfl (pa_Name (pv 0) pa_nil)) (pe_one (pe_cmpR op_ge (pv 0) (pv 1) (nomark _)))))), ?_⟩
    exact ⟨_, rfl, .int i, .int i, rfl, .int i, _, rfl, iteT ⟨_, rfl, _, rfl, _, _, rfl, rfl, k⟩⟩
abbrev s_many_ties : Stmt := top 7
theorem sc_many_ties : FnScope ["sheet"] ["sheet"] (defScope s_many_ties) := ⟨rfl, rfl, rfl, by decide +kernel, rfl, by decide +kernel, by decide +kernel⟩
theorem ok_ties {f : Addr} {fd : FuncData} (F : Fun K "many_ties" "many_ties" s_many_ties f fd) (M : Txt mg) : FnOk P w K mg base CX0 1 f fd ["sheet"] (spTiesZ K) := by
  have sc := sc_many_ties
  refine F.ok sc (fun vs H Q E h => ?_) (fun cdv A outer s H vs Q E hr h => ?_)
  · obtain ⟨a, xs, rfl, _⟩ := h
    rfl
  · obtain ⟨a, xs, rfl, ha, k⟩ := h
    refine ⟨_, (pss_one (ps_ret (pe_op op_mul (pe_op op_fdivL (pe_callB (call_lenK (K := K)) (by rfl) M.len PySem.boot_len (pa_Name (pv 0) pa_nil)) pe_int) pe_int))), ?_⟩
    refine ⟨_, rfl, a, _, rfl, .inl ha, _, _, rfl, rfl, ⟨by decide, by decide⟩, ((xs.length : Nat) : Int) / 2, 3, rfl, rfl, .inr ⟨by decide, by decide⟩, ?_⟩
    have e : ((xs.length : Nat) : Int) / 2 * 3 = ((xs.length / 2 * 3 : Nat) : Int) := by omega
    show Q (V.int (((xs.length : Nat) : Int) / 2 * 3)) H
    rw [e]
    exact k
abbrev s_glued_sides : Stmt := top 8
theorem sc_glued_sides : FnScope ["sheet", "glued", "at", "triangle", "place", "side"] ["sheet"] (defScope s_glued_sides) := ⟨rfl, rfl, rfl, by decide +kernel, rfl, by decide +kernel, by decide +kernel⟩
theorem ok_glued {f : Addr} {fd : FuncData} (F : Fun K "glued_sides" "glued_sides" s_glued_sides f fd) (M : Txt mg) (Gmany_ties : Kn P w K mg base "many_ties" 1 ["sheet"] (spTiesZ K)) (B : Gb mg) : FnOk P w K mg base CX0 2 f fd ["sheet"] spGluedI := by
  have sc := sc_glued_sides
  refine F.ok sc (fun vs H Q E h => ?_) (fun cdv A outer s H vs Q E hr h => ?_)
  · obtain ⟨b, xs, S, rfl, _⟩ := h
    rfl
  · obtain ⟨b, xs, S, rfl, hb, tS, oS, k⟩ := h
    refine ⟨_, (pss_cons (ps_compG (xs := ["tie"]) (Nb := ["sheet", "glued", "at", "triangle", "place", "side"]) (pg_name (i := 1) sc.nd rfl (Or.inl rfl)) rfl rfl (pi_range1 rfl M.range (pa_Call (pe_callD Gmany_ties hr rfl (pa_Name (pv 0) pa_nil)) pa_nil)) rfl (by show ∀ p ∈ (List.zip ["sheet", "glued", "at", "triangle", "place", "side"] ["sheet", "glued", "at", "triangle", "place", "side"] : List (Str × Str)), _; decide +kernel) (by decide +kernel) (fun cl C s₂ H₂ fp => (pg_name (i := 0) (by show List.Nodup (["tie", "sheet", "glued", "at", "triangle", "place", "side"] : List Str); decide +kernel) rfl (Or.inl (lookup_relabel_local rfl)) (Or.inr (lookup_relabel_local rfl)))) (fun cl C s₂ H₂ fp => pif_nil) (fun cl C s₂ H₂ fp => (pe_lst pa_nil)) (by decide +kernel) rfl (by decide +kernel) (by show ∀ y ∈ (_ : List (Str × NameKind)), y.2 = NameKind.free → (defScope s_glued_sides).names.lookup y.1 = some .cell; decide +kernel))
      (pss_cons (ps_for PassesOwn.never rfl (pi_enum rfl B.en (pa_Name (pv 0) pa_nil)) (pg_tup rfl (pgs_cons (pg_name (i := 2) sc.nd rfl (Or.inl rfl)) (pgs_cons (pg_name (i := 3) sc.nd rfl (Or.inl rfl)) pgs_nil)))
      (pss_one (ps_for PassesOwn.never rfl (pi_enumT rfl B.en (pa_Name (pv 3) pa_nil)) (pg_tup rfl (pgs_cons (pg_name (i := 4) sc.nd rfl (Or.inl rfl)) (pgs_cons (pg_name (i := 5) sc.nd rfl (Or.inl rfl)) pgs_nil)))
      (pss_one (ps_expr (pe_bm PySem.F.plainAttrs_list PySem.F.slot_list_append PySem.F.type_list_append mt_append (pe_ix (ix_listK (K := K)) (pv 1) (pe_op op_sub (pe_callB call_abs (by rfl) B.ab boot_abs (pa_Name (pv 5) pa_nil)) pe_int) (fun _ _ => rfl)) (pa_Tuple (pe_tup (pa_o2 (pv 2) (pv 4) pa_nil)) pa_nil)))))))
      (pss_one (ps_ret (pv 1))))), ?_⟩
    have lS := oS.len
    have lx : xs.length = S.length := tS.1
    have e7 : (((xs.length / 2 * 3 : Nat) : Int)).toNat = S.length / 2 * 3 := by rw [lx]; omega
    refine ⟨_, rfl, b, xs, rfl, SqL.of hb, ((xs.length / 2 * 3 : Nat) : Int), rfl, by omega, by omega, compR (lo := 0) (n := (((xs.length / 2 * 3 : Nat) : Int)).toNat) (fun i ys H' => LsL H' true ys (List.replicate i []) ∧ ys.Nodup ∧ Same H H' ∧ ∀ y ∈ ys, ∀ a, y = .ref a → H a = none) ⟨LsL.nil _ _, List.nodup_nil, Same.refl H, fun y hy => (by cases hy)⟩ (by omega) (fun i ys H' h => by rw [h.1.1, List.length_replicate]; exact Nat.le_refl _) ?_ ?_⟩
    · rintro i ys H1 pre hpre hi ⟨l1, nd1, s1, f1⟩
      rcases pre with _ | ⟨q0, _ | ⟨q1, pre⟩⟩
      · cases hpre
      · refine ⟨⟨[some _], rfl, rfl⟩, ?_⟩
        unfold tYes
        dsimp only
        rw [if_pos (rfl : true = true)]
        refine ⟨(by show 0 ≤ sizeLine; decide), fun p hp => ?_⟩
        have s2 := Same.nw (o := .lst []) (Same.refl H1) hp
        refine ⟨?_, ?_, s1.trans s2, fun y hy a e => ?_⟩
        · rw [List.replicate_succ']
          exact LsL.snoc (l1.up s2) upd_same (ItL.nil _ _)
        · rw [List.nodup_append]
          refine ⟨nd1, by simp, fun y hy z hz e => ?_⟩
          rw [List.mem_singleton.mp hz] at e
          obtain ⟨j, hj⟩ := List.mem_iff_getElem?.mp hy
          have jl := (List.getElem?_eq_some_iff.mp hj).1
          obtain ⟨a, xs', ea, ha, _⟩ := l1.2 j y _ hj (List.getElem?_eq_getElem (by rw [← l1.1]; exact jl))
          rw [ea] at e
          cases e
          rw [hp] at ha
          cases ha
        · rcases List.mem_append.mp hy with z | z
          · exact f1 y z a e
          · rw [List.mem_singleton.mp z] at e
            cases e
            exact s1.free hp
      · cases hpre
    rintro zs H1 ⟨l1, nd1, s1, f1⟩ c hc
    rw [e7] at l1
    have s2 := Same.nw (o := .lst zs) (Same.refl H1) hc
    have fc : (upd H1 c (.lst zs)) c = some (.lst zs) := upd_same
    have cf : H c = none := s1.free hc
    have zc : ∀ y ∈ zs, y ≠ .ref c := fun y hy e => by
      obtain ⟨j, hj⟩ := List.mem_iff_getElem?.mp hy
      have jl := (List.getElem?_eq_some_iff.mp hj).1
      obtain ⟨a, xs', ea, ha, _⟩ := l1.2 j y _ hj (List.getElem?_eq_getElem (by rw [← l1.1]; exact jl))
      rw [ea] at e
      cases e
      rw [hc] at ha
      cases ha
    generalize upd H1 c (.lst zs) = H2 at s2 fc ⊢
    have zl : zs.length = S.length / 2 * 3 := by rw [l1.1, List.length_replicate]
    have step : ∀ (H' : Hp) (gs : List (List (List Int))) (P : List (List Int × Int)) (at' pl : Nat) (sd : Int), 1 ≤ absI sd → absI sd ≤ ((S.length / 2 * 3 : Nat) : Int) → GlInv (S.length / 2 * 3) P gs → GlInv (S.length / 2 * 3) (P ++ [([(at' : Int), (pl : Int)], absI sd)]) (gs.set (absI sd - 1).toNat (glueOf P (absI sd - 1).toNat ++ [[(at' : Int), (pl : Int)]])) := fun H' gs P at' pl sd h1 h2 g => by
      have := g.put (u := [(at' : Int), (pl : Int)]) (k := (absI sd - 1).toNat) (by omega)
      rw [show (((absI sd - 1).toNat : Nat) : Int) + 1 = absI sd by omega] at this
      exact this
    refine ⟨_, rfl, b, rfl, ⟨_, SqL.of ((s1.trans s2) _ _ hb)⟩, for_enum (K := K) (a := b) (xs := xs) (fun i σ H' => ∃ (x2 x3 x4 x5 : Option V) (gs : List (List (List Int))), σ = [some (.ref b), some (.ref c), x2, x3, x4, x5] ∧ Same H H' ∧ H' c = some (.lst zs) ∧ LsL H' true zs gs ∧ GlInv (S.length / 2 * 3) (sidesF (S.take i)) gs) ⟨_, _, _, _, _, rfl, s1.trans s2, fc, l1.up s2, ⟨by rw [List.length_replicate], fun j hj => by rw [List.getElem?_replicate, if_pos hj]; rfl⟩⟩ (fun i σ H' _ h => by obtain ⟨_, _, _, _, _, _, s', _⟩ := h; exact SqL.of (s' _ _ hb)) ?_ ?_⟩
    · rintro i y σ H3 p hy ⟨x2, x3, x4, x5, gs, rfl, s3, hc3, l3, g3⟩ hp
      have s4 := Same.nw (o := .tup [.int (i : Int), y]) (Same.refl H3) hp
      have fp : (upd H3 p (.tup [.int (i : Int), y])) p = some (.tup [.int (i : Int), y]) := upd_same
      generalize upd H3 p (.tup [.int (i : Int), y]) = H4 at s4 fp ⊢
      have s04 := s3.trans s4
      obtain ⟨t, q, et, rfl, hq⟩ := (tS.up s04.tups).take hy
      have mt : t ∈ S := List.mem_of_getElem? et
      have t3 := oS.three t mt
      have il : i < S.length := (List.getElem?_eq_some_iff.mp et).1
      refine ⟨p, _, rfl, SqT.of fp, rfl, _, _, rfl, _, _, rfl, rfl, ?_⟩
      have pl36 : (sidesF (S.take i)).length ≤ 36 := by
        have h1 := congrArg List.length (sidesF_ties _ (S.take i) rfl)
        rw [List.length_map, List.length_map] at h1
        have h2 : ((S.take i).flatten).length ≤ S.flatten.length := by
          have := congrArg (fun l => (List.flatten l).length) (List.take_append_drop i S)
          simp only [List.flatten_append, List.length_append] at this
          omega
        have h3 := oS.ties.length_eq
        rw [List.length_map, pool_len] at h3
        omega
      refine ⟨_, rfl, q, rfl, ⟨_, SqT.of hq⟩, for_enumT (K := K) (a := q) (xs := t.map V.int) (fun j σ H' => ∃ (x4 x5 : Option V) (gs : List (List (List Int))), σ = [some (.ref b), some (.ref c), some (.int (i : Int)), some (.ref q), x4, x5] ∧ Same H H' ∧ Tups H4 H' ∧ H' c = some (.lst zs) ∧ LsL H' true zs gs ∧ GlInv (S.length / 2 * 3) (sidesF (S.take i) ++ (sideT i t).take j) gs) ⟨_, _, gs, rfl, s04, Tups.refl _, s4 _ _ hc3, l3.up s4, by rw [List.take_zero, List.append_nil]; exact g3⟩ (fun j σ H' _ h => by obtain ⟨_, _, _, _, _, t', _⟩ := h; exact SqT.of (t' _ _ hq)) ?_ ?_⟩
      · rintro j y' σ H5 p2 hy' ⟨x4, x5, gs, rfl, s5, t5, hc5, l5, g5⟩ hp2
        rw [List.getElem?_map] at hy'
        cases es : t[j]? with
        | none => rw [es] at hy'; cases hy'
        | some sd =>
          rw [es] at hy'
          cases hy'
          have sb := oS.side mt (List.mem_of_getElem? es)
          have s6 := Same.nw (o := .tup [.int (j : Int), .int sd]) (Same.refl H5) hp2
          have fp2 : (upd H5 p2 (.tup [.int (j : Int), .int sd])) p2 = some (.tup [.int (j : Int), .int sd]) := upd_same
          generalize upd H5 p2 (.tup [.int (j : Int), .int sd]) = H6 at s6 fp2 ⊢
          refine ⟨p2, _, rfl, SqT.of fp2, rfl, _, _, rfl, _, _, rfl, rfl, ?_⟩
          obtain ⟨kk, hkk⟩ : ∃ kk : Nat, absI sd - 1 = (kk : Int) := ⟨(absI sd - 1).toNat, by omega⟩
          have kz : kk < zs.length := by omega
          have ez : zs[kk]? = some zs[kk] := List.getElem?_eq_getElem kz
          have eg := g5.val kk (by omega)
          have l6 := l5.up s6
          obtain ⟨a, ax, ea, ha, ia⟩ := l6.2 kk _ _ ez eg
          rw [ea] at ez
          have nac : a ≠ c := fun z => zc _ (List.mem_of_getElem? ez) (by rw [z])
          have af : H a = none := f1 _ (List.mem_of_getElem? ez) a rfl
          have hc6 := s6 _ _ hc5
          have a1 : atI zs (absI sd - 1) = some (.ref a) := by rw [hkk]; exact atI_nat ez
          refine ⟨_, rfl, _, rfl, sd, rfl, _, _, rfl, rfl, c, zs, _, .ref a, rfl, rfl, SqL.of hc6, a1, .inl ⟨rfl, _, SqL.of ha⟩, _, rfl, _, rfl, (by show 2 ≤ sizeLine; decide), fun p3 hp3 => ?_⟩
          have s7 := Same.nw (o := .tup [.int (i : Int), .int (j : Int)]) (Same.refl H6) hp3
          have fp3 : (upd H6 p3 (.tup [.int (i : Int), .int (j : Int)])) p3 = some (.tup ([(i : Int), (j : Int)].map V.int)) := upd_same
          generalize upd H6 p3 (.tup [.int (i : Int), .int (j : Int)]) = H7 at s7 fp3 ⊢
          have ha7 := s7 _ _ ha
          have alen : ax.length ≤ 1000 := by
            rw [ia.1]
            unfold glueOf
            rw [List.length_map]
            refine Nat.le_trans (List.length_filter_le _ _) ?_
            rw [List.length_append, List.length_take, sideT_len]
            omega
          refine ⟨a, ax, _, rfl, rfl, ha7, Nat.lt_of_le_of_lt alen (by decide), ?_⟩
          have t67 : Tups H5 (upd H7 a (.lst (ax ++ [.ref p3]))) := (s6.trans s7).tups.trans (Tups.lst (Tups.refl H7) ha7)
          refine ⟨_, _, gs.set kk (glueOf (sidesF (S.take i) ++ (sideT i t).take j) kk ++ [[(i : Int), (j : Int)]]), rfl, (s5.trans (s6.trans s7)).ow af, t5.trans t67, by rw [upd_ne (Ne.symm nac)]; exact s7 _ _ hc6, LsL.put (l6.up s7) nd1 ez eg ha7 (.tup fp3), ?_⟩
          rw [take_succ' (sideT_at (i := i) es), ← List.append_assoc]
          have := step H7 gs _ i j sd sb.1 sb.2 g5
          rw [show (absI sd - 1).toNat = kk by omega] at this
          exact this
      · rintro σ H5 ⟨x4, x5, gs, rfl, s5, t5, hc5, l5, g5⟩
        refine ⟨_, _, _, _, gs, rfl, s5, hc5, l5, ?_⟩
        rw [take_succ' et, sidesF_snoc, List.length_take, Nat.min_eq_left (by omega)]
        rw [List.length_map, List.take_of_length_le (l := sideT i t) (by rw [sideT_len]; exact Nat.le_refl _)] at g5
        exact g5
    · rintro σ H3 ⟨x2, x3, x4, x5, gs, rfl, s3, hc3, l3, g3⟩
      rw [List.take_of_length_le (by omega)] at g3
      exact ⟨_, rfl, k c zs gs H3 s3 cf hc3 l3 g3⟩
abbrev s_told_from : Stmt := top 11
theorem sc_told_from : FnScope ["triangle", "at"] ["triangle", "at"] (defScope s_told_from) := ⟨rfl, rfl, rfl, by decide +kernel, rfl, by decide +kernel, by decide +kernel⟩
theorem ok_toldfrom {f : Addr} {fd : FuncData} (F : Fun K "told_from" "told_from" s_told_from f fd) (M : Txt mg) : FnOk P w K mg base CX0 1 f fd ["triangle", "at"] spToldFrom := by
  have sc := sc_told_from
  refine F.ok sc (fun vs H Q E h => ?_) (fun cdv A outer s H vs Q E hr h => ?_)
  · obtain ⟨q, t, p, rfl, _⟩ := h
    rfl
  · obtain ⟨q, t, p, rfl, h1, h2, h3, k⟩ := h
    refine ⟨_, (pss_one (ps_ret (pe_op (op_catTKz (K := K)) (pe_slice (sl_tupA (K := K)) (pv 0) (po_some (pv 1)) po_none) (pe_slice (sl_tupA (K := K)) (pv 0) po_none (po_some (pv 1)))))), ?_⟩
    exact rot_reads (K := K) (i := 0) (j := 1) h1 h2 h3 rfl rfl k
abbrev s_crossings : Stmt := top 15
theorem sc_crossings : FnScope ["triangle", "row"] ["triangle", "row"] (defScope s_crossings) := ⟨rfl, rfl, rfl, by decide +kernel, rfl, by decide +kernel, by decide +kernel⟩
theorem ok_cross {f : Addr} {fd : FuncData} (F : Fun K "crossings" "crossings" s_crossings f fd) (M : Txt mg) (B : Gb mg) : FnOk P w K mg base CX0 1 f fd ["triangle", "row"] spCrossZ := by
  have sc := sc_crossings
  refine F.ok sc (fun vs H Q E h => ?_) (fun cdv A outer s H vs Q E hr h => ?_)
  · obtain ⟨q, c, t, r, rfl, _⟩ := h
    rfl
  · obtain ⟨q, c, t, r, rfl, hq, hc, tl, ok, k⟩ := h
    refine ⟨_, (pss_one (ps_ret (pe_compG (xs := ["side"]) (Nb := ["triangle", "row"]) rfl (pi_tup (pv 0)) rfl (by show ∀ p ∈ (List.zip ["triangle", "row"] ["triangle", "row"] : List (Str × Str)), _; decide +kernel) (by decide +kernel) (fun cl C s₂ H₂ fp => (pg_name (i := 0) (by show List.Nodup (["side", "triangle", "row"] : List Str); decide +kernel) rfl (Or.inl (lookup_relabel_local rfl)) (Or.inr (lookup_relabel_local rfl)))) (fun cl C s₂ H₂ fp => pif_nil) (fun cl C s₂ H₂ fp => (pe_ix (ix_listK (K := K)) (pv 2) (pe_op op_sub (pe_callB call_abs (by rfl) B.ab boot_abs (pa_Name (pv 0) pa_nil)) pe_int) (fun _ _ => rfl))) (by decide +kernel) rfl (by decide +kernel) (by show ∀ y ∈ (_ : List (Str × NameKind)), y.2 = NameKind.free → (defScope s_crossings).names.lookup y.1 = some .cell; decide +kernel)))), ?_⟩
    refine ⟨_, rfl, q, rfl, ⟨_, SqT.of hq⟩, compT (K := K) (a := q) (xs := t.map V.int) (fun i ys H' => ys = ((t.take i).map (crs r)).map V.int ∧ H = H') ⟨rfl, rfl⟩ (by rw [List.length_map]; omega) (fun m ys H' h => by rw [h.1, List.length_map, List.length_map, List.length_take]; exact Nat.min_le_left _ _) (fun m ys H' _ h => by rw [← h.2]; exact SqT.of hq) ?_ ?_⟩
    · rintro m z ys' H' pre hpl hz ⟨rfl, rfl⟩
      rw [List.getElem?_map] at hz
      cases ez : t[m]? with
      | none => rw [ez] at hz; cases hz
      | some sd =>
        rw [ez] at hz
        cases hz
        obtain ⟨s1, er⟩ := ok sd (List.mem_of_getElem? ez)
        have a1 : atI (r.map V.int) (absI sd - 1) = some (V.int (crs r sd)) := by
          rw [show absI sd - 1 = (((absI sd - 1).toNat : Nat) : Int) by omega]
          exact atI_nat (by rw [List.getElem?_map, er]; rfl)
        rcases pre with _ | ⟨q0, _ | ⟨q1, pre⟩⟩
        · cases hpl
        · refine ⟨⟨[some _], rfl, rfl⟩, ?_⟩
          unfold tYes
          dsimp only
          rw [if_pos (rfl : true = true)]
          refine ⟨_, rfl, _, rfl, sd, rfl, _, _, rfl, rfl, c, _, _, _, rfl, rfl, SqL.of hc, a1, ?_, rfl⟩
          rw [take_succ' ez, List.map_append, List.map_append]
          rfl
        · cases hpl
    · rintro ys' H' ⟨rfl, rfl⟩ D hD
      rw [List.length_map, List.take_length]
      exact k D hD
abbrev s_may_cross : Stmt := top 16
theorem sc_may_cross : FnScope ["numbers"] ["numbers"] (defScope s_may_cross) := ⟨rfl, rfl, rfl, by decide +kernel, rfl, by decide +kernel, by decide +kernel⟩
theorem ok_may {f : Addr} {fd : FuncData} (F : Fun K "may_cross" "may_cross" s_may_cross f fd) (M : Txt mg) : FnOk P w K mg base CX0 1 f fd ["numbers"] (spMay K) := by
  have sc := sc_may_cross
  refine F.ok sc (fun vs H Q E h => ?_) (fun cdv A outer s H vs Q E hr h => ?_)
  · obtain ⟨p, a, b, c, rfl, _⟩ := h
    rfl
  · obtain ⟨p, a, b, c, rfl, hp, h0, h1, h2, h3, k⟩ := h
    refine ⟨_, (pss_one (ps_ret (pe_and (pe_cmpR op_eq (pe_op op_mod (pe_callB (call_sum rfl) (by rfl) M.sum boot_sum (pa_Name (pv 0) pa_nil)) pe_int) pe_int (nomark _)) (pe_one (pe_cmpR op_le (pe_op op_mul pe_int (pe_callB (call_maxL rfl) (by rfl) M.max boot_max (pa_Name (pv 0) pa_nil))) (pe_callB (call_sum rfl) (by rfl) M.sum boot_sum (pa_Name (pv 0) pa_nil)) (nomark _)))))), ?_⟩
    exact may_reads (K := K) hp h0 h1 h2 h3 k
abbrev s_is_row : Stmt := top 17
theorem sc_is_row : FnScope ["sheet", "thing"] ["sheet", "thing"] (defScope s_is_row) := ⟨rfl, rfl, rfl, by decide +kernel, rfl, by decide +kernel, by decide +kernel⟩
theorem ok_isrow {f : Addr} {fd : FuncData} (F : Fun K "is_row" "is_row" s_is_row f fd) (M : Txt mg) (Gmany_ties : Kn P w K mg base "many_ties" 1 ["sheet"] (spTiesZ K)) (Gis_whole_from : Kn P w K mg base "is_whole_from" 2 ["thing", "least"] spFromZ) (Gmay_cross : Kn P w K mg base "may_cross" 1 ["numbers"] (spMay K)) (Gcrossings : Kn P w K mg base "crossings" 1 ["triangle", "row"] spCrossZ) : FnOk P w K mg base CX0 3 f fd ["sheet", "thing"] spIsRow := by
  have sc := sc_is_row
  refine F.ok sc (fun vs H Q E h => ?_) (fun cdv A outer s H vs Q E hr h => ?_)
  · obtain ⟨i, o, xs, S, r, rfl, _⟩ := h
    rfl
  · obtain ⟨i, o, xs, S, r, rfl, h1, h2, h3, h4, h5, k⟩ := h
    refine ⟨_, (pss_cons (ps_if (PW.pt (pw_or (pt_not (pt_val (pe_callB (call_isinstK (T := "list") (K := K)) (by rfl) M.isinstance boot_isinstance (pa_Name (pv 1) (pa_Name (pe_bltn (v := .ty "list") rfl M.list boot_list rfl) pa_nil))))) (pw_or1 (pt_cmpR op_ne (pe_callB (call_lenK (K := K)) (by rfl) M.len PySem.boot_len (pa_Name (pv 1) pa_nil)) (pe_callD Gmany_ties hr rfl (pa_Name (pv 0) pa_nil)) (nomark _))))) (pss_one (ps_ret pe_bl)) pss_nil)
      (pss_cons (ps_if (pt_not (pt_val (pe_callB (call_all rfl) (by rfl) M.all boot_all (pa_cons (pe_compG (xs := ["many"]) (Nb := ["sheet", "thing"]) rfl (pi_list (pv 1)) rfl (by show ∀ p ∈ (List.zip ["sheet", "thing"] ["sheet", "thing"] : List (Str × Str)), _; decide +kernel) (by decide +kernel) (fun cl C s₂ H₂ fp => (pg_name (i := 0) (by show List.Nodup (["many", "sheet", "thing"] : List Str); decide +kernel) rfl (Or.inl (lookup_relabel_local rfl)) (Or.inr (lookup_relabel_local rfl)))) (fun cl C s₂ H₂ fp => pif_nil) (fun cl C s₂ H₂ fp => (pe_callD Gis_whole_from hr rfl (pa_Name (pv 0) (pa_Constant pe_int pa_nil)))) (by decide +kernel) rfl (by decide +kernel) (by show ∀ y ∈ (_ : List (Str × NameKind)), y.2 = NameKind.free → (defScope s_is_row).names.lookup y.1 = some .cell; decide +kernel)) pa_nil)))) (pss_one (ps_ret pe_bl)) pss_nil)
      (pss_one (ps_ret (pe_callB (call_all rfl) (by rfl) M.all boot_all (pa_cons (pe_compG (xs := ["triangle"]) (Nb := ["sheet", "thing"]) rfl (pi_list (pv 0)) rfl (by show ∀ p ∈ (List.zip ["sheet", "thing"] ["sheet", "thing"] : List (Str × Str)), _; decide +kernel) (by decide +kernel) (fun cl C s₂ H₂ fp => (pg_name (i := 0) (by show List.Nodup (["triangle", "sheet", "thing"] : List Str); decide +kernel) rfl (Or.inl (lookup_relabel_local rfl)) (Or.inr (lookup_relabel_local rfl)))) (fun cl C s₂ H₂ fp => pif_nil) (fun cl C s₂ H₂ fp => (pe_callD Gmay_cross hr rfl (pa_Call (pe_callD Gcrossings hr rfl (pa_Name (pv 0) (pa_Name (pv 2) pa_nil))) pa_nil))) (by decide +kernel) rfl (by decide +kernel) (by show ∀ y ∈ (_ : List (Str × NameKind)), y.2 = NameKind.free → (defScope s_is_row).names.lookup y.1 = some .cell; decide +kernel)) pa_nil)))))), ?_⟩
    exact isrow_reads (K := K) h1 h2 h3 h4 h5 k
end
end Toy
set_option Elab.async false
set_option linter.all false
set_option maxRecDepth 100000
set_option maxHeartbeats 1000000
namespace Toy
open PySem L2 PyProof.Rows
theorem lsl_ne {H : Hp} {ys : List V} {uss : List (List (List Int))} {c : Addr} {ns : List Int} (h : LsL H true ys uss) (hn : ∀ g ∈ uss, g ≠ []) (hc : H c = some (.lst (ns.map V.int))) : ∀ y ∈ ys, y ≠ .ref c := fun y hy e => by
  obtain ⟨i, hi⟩ := List.mem_iff_getElem?.mp hy
  have il : i < uss.length := by rw [← h.1]; exact (List.getElem?_eq_some_iff.mp hi).1
  obtain ⟨a, xs, ea, ha, it⟩ := h.2 i y _ hi (List.getElem?_eq_getElem il)
  rw [ea] at e
  cases e
  rw [hc] at ha
  cases ha
  have ng := hn uss[i] (List.getElem_mem il)
  cases z : uss[i] with
  | nil => exact ng z
  | cons u us =>
    rw [z] at it
    cases ns with
    | nil => have := it.1; simp at this
    | cons n ns => cases it.head
theorem Rest.set {d l : Addr} {H : Hp} {o : HO} (a : Rest H d) (n : l ≠ d) : Rest (L2.upd H l o) d := by
  obtain ⟨m, e⟩ := a
  exact ⟨m, by rw [upd_ne (Ne.symm n)]; exact e⟩
section
variable {P : Program} {w : World} {K : PySem.W.Frag} {mg : Str → Option Value} {base : Heap}
abbrev s__law_rings : Stmt := top 33
theorem sc__law_rings : FnScope ["_law_sheet_here", "_law_rest", "_law_most", "_law_made", "_law_heap", "_law_many", "_law_tie", "_law_at"] ["_law_sheet_here", "_law_rest", "_law_most"] (defScope s__law_rings) := ⟨rfl, rfl, rfl, by decide +kernel, rfl, by decide +kernel, by decide +kernel⟩
def spRings : Sp := fun vs H Q _ => ∃ (b d : Addr) (m : Int) (xs : List V) (S : List (List Int)), vs = [.ref b, .ref d, .int m] ∧ H b = some (.lst xs) ∧ TuL H xs S ∧ ShOk S ∧ Rest H d ∧ b ≠ d ∧ 0 < m ∧ Dgt m ∧ ∀ (c : Addr) (r : List Int) (H' : Hp), But d H H' → Rest H' d → H c = none → H' c = some (.lst (r.map V.int)) → EvRow S r → Q (.ref c) H'
theorem ok_rings {f : Addr} {fd : FuncData} (F : Fun K "_law_rings" "_law_rings" s__law_rings f fd) (M : Txt mg) (G_law_points_of : Kn P w K mg base "_law_points_of" 3 ["_law_sheet_here"] spPts) (G_law_digit : Kn P w K mg base "_law_digit" 1 ["_law_rest", "_law_many"] spDigit) : FnOk P w K mg base CX0 4 f fd ["_law_sheet_here", "_law_rest", "_law_most"] spRings := by
  have sc := sc__law_rings
  refine F.ok sc (fun vs H Q E h => ?_) (fun cdv A outer s H vs Q E hr h => ?_)
  · obtain ⟨b, d, m, xs, S, rfl, _⟩ := h
    rfl
  · obtain ⟨b, d, m, xs, S, rfl, hb, tS, oS, R0, nbd, m0, m1, k⟩ := h
    refine ⟨_, (pss_cons (ps_compG (xs := ["_law_k"]) (Nb := ["_law_sheet_here", "_law_rest", "_law_most", "_law_made", "_law_heap", "_law_many", "_law_tie", "_law_at"]) (pg_name (i := 3) sc.nd rfl (Or.inl rfl)) rfl rfl (pi_range1 rfl M.range (pa_BinOp (pe_op op_fdivL (pe_op op_mul (pe_callB (call_lenK (K := K)) (by rfl) M.len PySem.boot_len (pa_Name (pv 0) pa_nil)) pe_int) pe_int) pa_nil)) rfl (by show ∀ p ∈ (List.zip ["_law_sheet_here", "_law_rest", "_law_most", "_law_made", "_law_heap", "_law_many", "_law_tie", "_law_at"] ["_law_sheet_here", "_law_rest", "_law_most", "_law_made", "_law_heap", "_law_many", "_law_tie", "_law_at"] : List (Str × Str)), _; decide +kernel) (by decide +kernel) (fun cl C s₂ H₂ fp => (pg_name (i := 0) (by show List.Nodup (["_law_k", "_law_sheet_here", "_law_rest", "_law_most", "_law_made", "_law_heap", "_law_many", "_law_tie", "_law_at"] : List Str); decide +kernel) rfl (Or.inl (lookup_relabel_local rfl)) (Or.inr (lookup_relabel_local rfl)))) (fun cl C s₂ H₂ fp => pif_nil) (fun cl C s₂ H₂ fp => pe_int) (by decide +kernel) rfl (by decide +kernel) (by show ∀ y ∈ (_ : List (Str × NameKind)), y.2 = NameKind.free → (defScope s__law_rings).names.lookup y.1 = some .cell; decide +kernel))
      (pss_cons (ps_for PassesOwn.never rfl (pi_list (pe_callD G_law_points_of hr rfl (pa_Name (pv 0) pa_nil))) (pg_name (i := 4) sc.nd rfl (Or.inl rfl))
      (pss_cons (ps_set (i := 5) sc.nd rfl (Or.inl rfl) (pe_callD G_law_digit hr rfl (pa_Name (pv 1) (pa_Name (pv 2) pa_nil))))
      (pss_one (ps_for PassesOwn.never rfl (pi_list (pv 4)) (pg_tup rfl (pgs_cons (pg_name (i := 6) sc.nd rfl (Or.inl rfl)) (pgs_cons (pg_name (i := 7) sc.nd rfl (Or.inl rfl)) pgs_nil)))
      (pss_one (ps_asg (pe_op op_add (pe_ix (ix_listK (K := K)) (pv 3) (pe_op op_sub (pv 6) pe_int) (fun _ _ => rfl)) (pv 5)) (pg_sub (pv 3) (pe_op op_sub (pv 6) pe_int) set_list)))))))
      (pss_one (ps_ret (pv 3))))), ?_⟩
    have lS := oS.len
    have lx : xs.length = S.length := tS.1
    have e7 : (((xs.length : Nat) : Int) * 3 / 2).toNat = S.length / 2 * 3 := by rw [lx]; omega
    refine ⟨_, rfl, b, xs, rfl, .inl (SqL.of hb), ((xs.length : Nat) : Int), 3, rfl, rfl, .inr ⟨by decide, by decide⟩, ((xs.length : Nat) : Int) * 3, 2, rfl, rfl, ⟨by decide, by decide⟩, ((xs.length : Nat) : Int) * 3 / 2, rfl, by omega, by omega, compR (lo := 0) (n := (((xs.length : Nat) : Int) * 3 / 2).toNat) (fun i ys H' => ys = (List.replicate i (0 : Int)).map V.int ∧ H = H') ⟨rfl, rfl⟩ (by omega) (fun i ys H' h => by rw [h.1, List.length_map, List.length_replicate]; exact Nat.le_refl _) ?_ ?_⟩
    · rintro i ys H' pre hpre hi ⟨rfl, rfl⟩
      rcases pre with _ | ⟨q0, _ | ⟨q1, pre⟩⟩
      · cases hpre
      · refine ⟨⟨[some _], rfl, rfl⟩, ?_⟩
        unfold tYes
        dsimp only
        rw [if_pos (rfl : true = true)]
        refine ⟨?_, rfl⟩
        rw [List.replicate_succ', List.map_append]
        rfl
      · cases hpre
    rintro ys H' ⟨rfl, rfl⟩ c hc
    rw [e7]
    have s1 := Same.nw (o := .lst ((List.replicate (S.length / 2 * 3) (0 : Int)).map V.int)) (Same.refl H) hc
    have fc : (upd H c (.lst ((List.replicate (S.length / 2 * 3) (0 : Int)).map V.int))) c = some (.lst ((List.replicate (S.length / 2 * 3) (0 : Int)).map V.int)) := upd_same
    generalize upd H c (.lst ((List.replicate (S.length / 2 * 3) (0 : Int)).map V.int)) = H1 at s1 fc ⊢
    have R1 := R0.same s1
    have ncd : c ≠ d := R0.ne hc
    refine ⟨_, rfl, b, xs, S, rfl, s1 _ _ hb, tS.up s1.tups, oS, fun q zs ws H2 s2 qf hq lz pt => ?_⟩
    have hc2 := s2 _ _ fc
    have R2 := R1.same s2
    have nqc : q ≠ c := fun z => by rw [z, fc] at qf; cases qf
    have nqd : q ≠ d := fun z => by obtain ⟨n, e⟩ := R1; rw [z, e] at qf; cases qf
    have zc := lsl_ne lz pt.parts.ne hc2
    have zd : ∀ y ∈ zs, y ≠ .ref d := by
      obtain ⟨n, e⟩ := R2
      exact lsl_ne (ns := [n]) lz pt.parts.ne e
    have zl : zs.length = ws.length := lz.1
    have wnd : ws.flatten.Nodup := pt.parts.perm.nodup_iff.mpr (ends_nd _)
    refine ⟨q, rfl, ⟨_, SqL.of hq⟩, for_list (K := K) (a := q) (xs := zs) (fun i σ H' => ∃ (x4 x5 x6 x7 : Option V) (r : List Int) (f : List Int → Int), σ = [some (.ref b), some (.ref d), some (.int m), some (.ref c), x4, x5, x6, x7] ∧ Rest H' d ∧ (∀ a o, H2 a = some o → a ≠ c → a ≠ d → H' a = some o) ∧ H' c = some (.lst (r.map V.int)) ∧ RgOk (S.length / 2 * 3) (ws.take i) (ws.take i).flatten r f) ⟨_, _, _, _, List.replicate (S.length / 2 * 3) 0, fun _ => 0, rfl, R2, fun a o e _ _ => e, hc2, ⟨by rw [List.length_replicate], fun _ => Int.le_refl _, fun _ _ => rfl, fun g hg => (by rw [List.take_zero] at hg; cases hg), fun t ht => by rw [List.getElem?_replicate, if_pos ht]; rfl⟩⟩ (fun i σ H' _ h => by obtain ⟨_, _, _, _, _, _, _, _, kp, _⟩ := h; exact SqL.of (kp _ _ hq nqc nqd)) ?_ ?_⟩
    · rintro i y σ H3 hy ⟨x4, x5, x6, x7, r, f, rfl, R3, kp3, hc3, rg⟩
      have il : i < ws.length := by rw [← zl]; exact (List.getElem?_eq_some_iff.mp hy).1
      have ew : ws[i]? = some ws[i] := List.getElem?_eq_getElem il
      obtain ⟨g, gx, rfl, hg, ig⟩ := lz.2 i y _ hy ew
      have mw : ws[i] ∈ ws := List.getElem_mem il
      generalize ws[i] = wi at ew ig mw
      have ngc : g ≠ c := fun z => zc _ (List.mem_of_getElem? hy) (by rw [z])
      have ngd : g ≠ d := fun z => zd _ (List.mem_of_getElem? hy) (by rw [z])
      refine ⟨_, rfl, _, rfl, d, m, rfl, R3, m0, m1, fun mu H4 mu0 mu1 R4 B4 => ?_⟩
      have kp4 : ∀ a o, H2 a = some o → a ≠ c → a ≠ d → H4 a = some o := fun a o e n1 n2 => B4 _ _ (kp3 a o e n1 n2) n2
      have hc4 := B4 _ _ hc3 ncd
      have wsub : ∀ u ∈ wi, u ∈ endsL (S.length / 2 * 3) := fun u hu => pt.parts.perm.subset (List.mem_flatten.mpr ⟨wi, mw, hu⟩)
      have gl : gx.length = wi.length := ig.1
      have wf : ws.flatten = (ws.take i).flatten ++ (wi ++ (ws.drop (i + 1)).flatten) := by
        have e0 : ws[i] = wi := by rw [List.getElem?_eq_getElem il] at ew; exact Option.some.inj ew
        have this : ws = ws.take i ++ (wi :: ws.drop (i + 1)) := by rw [← e0, ← List.drop_eq_getElem_cons il, List.take_append_drop]
        conv => lhs; rw [this]
        rw [List.flatten_append, List.flatten_cons]
      have wnd2 := wnd
      rw [wf, List.nodup_append] at wnd2
      have wind : wi.Nodup := (List.nodup_append.mp wnd2.2.1).1
      refine ⟨_, rfl, g, rfl, ⟨_, SqL.of (kp4 _ _ hg ngc ngd)⟩, for_list (K := K) (a := g) (xs := gx) (fun j σ H' => ∃ (x6 x7 : Option V) (r : List Int) (f : List Int → Int), σ = [some (.ref b), some (.ref d), some (.int m), some (.ref c), some (.ref g), some (.int mu), x6, x7] ∧ Rest H' d ∧ (∀ a o, H2 a = some o → a ≠ c → a ≠ d → H' a = some o) ∧ H' c = some (.lst (r.map V.int)) ∧ RgOk (S.length / 2 * 3) (ws.take i) ((ws.take i).flatten ++ wi.take j) r f ∧ ∀ e ∈ wi.take j, f e = mu) ⟨_, _, r, f, rfl, R4, kp4, hc4, by rw [List.take_zero, List.append_nil]; exact rg, fun e he => (by rw [List.take_zero] at he; cases he)⟩ (fun j σ H' _ h => by obtain ⟨_, _, _, _, _, _, kp, _⟩ := h; exact SqL.of (kp _ _ hg ngc ngd)) ?_ ?_⟩
      · rintro j y' σ H5 hy' ⟨x6, x7, r, f, rfl, R5, kp5, hc5, rg5, fm⟩
        have jl : j < wi.length := by rw [← gl]; exact (List.getElem?_eq_some_iff.mp hy').1
        have eu : wi[j]? = some wi[j] := List.getElem?_eq_getElem jl
        have mu' : wi[j] ∈ wi := List.getElem_mem jl
        have itm := ig.2 j y' _ hy' eu
        generalize wi[j] = u at eu mu' itm
        obtain ⟨t', bb, rfl, t1, t2, hbb⟩ := mem_ends.mp (wsub u mu')
        obtain ⟨t, rfl⟩ : ∃ t : Nat, t' = 1 + (t : Int) := ⟨(t' - 1).toNat, by omega⟩
        have tn : t < S.length / 2 * 3 := by omega
        cases itm with
        | tup hu =>
          rename_i p
          have npc : p ≠ c := fun z => by rw [z, hc2] at hu; cases hu
          have npd : p ≠ d := fun z => by obtain ⟨n, e⟩ := R2; rw [z, e] at hu; cases hu
          refine ⟨p, _, rfl, SqT.of (kp5 _ _ hu npc npd), rfl, _, _, rfl, _, _, rfl, rfl, ?_⟩
          have er := rg5.val t tn
          generalize hx : f [1 + (t : Int), 0] + f [1 + (t : Int), 1] = x at er
          have a1 : atI (r.map V.int) (1 + (t : Int) - 1) = some (V.int x) := by
            rw [show 1 + (t : Int) - 1 = ((t : Nat) : Int) by omega]
            exact atI_nat (by rw [List.getElem?_map, er]; rfl)
          have a2 : ixN (r.map V.int).length (1 + (t : Int) - 1) = some t := by
            have : t < (r.map V.int).length := by rw [List.length_map, rg5.len]; exact tn
            unfold ixN
            rw [if_pos (by omega), if_pos (by omega)]
            congr 1
            omega
          refine ⟨_, rfl, _, rfl, _, _, rfl, rfl, c, _, _, _, rfl, rfl, SqL.of hc5, a1, _, rfl, _, _, rfl, rfl, _, rfl, _, rfl, _, _, rfl, rfl, c, _, _, t, rfl, rfl, hc5, a2, ?_⟩
          have ns : [1 + (t : Int), bb] ∉ (ws.take i).flatten ++ wi.take j := by
            intro z
            rcases List.mem_append.mp z with z | z
            · exact wnd2.2.2 _ z _ (List.mem_append_left _ mu') rfl
            · have jt : wi = wi.take j ++ (wi.drop j) := (List.take_append_drop j wi).symm
              rw [jt, List.nodup_append] at wind
              refine wind.2.2 _ z [1 + (t : Int), bb] ?_ rfl
              rw [List.drop_eq_getElem_cons jl]
              rw [List.getElem?_eq_getElem jl] at eu
              rw [Option.some.inj eu]
              exact List.mem_cons_self
          have nw : ∀ g' ∈ ws.take i, [1 + (t : Int), bb] ∉ g' := fun g' hg' z => ns (List.mem_append_left _ (List.mem_flatten.mpr ⟨g', hg', z⟩))
          refine ⟨_, _, r.set t (x + mu), (fun e => if e = [1 + (t : Int), bb] then mu else f e), rfl, Rest.set R5 ncd, fun a o e n1 n2 => by rw [upd_ne n1]; exact kp5 a o e n1 n2, ?_, ?_, ?_⟩
          · rw [upd_same, List.map_set]
          · rw [take_succ' eu, ← List.append_assoc]
            exact rg5.put tn hbb mu0 ns nw er
          · intro e he
            rw [take_succ' eu] at he
            dsimp only
            by_cases z : e = [1 + (t : Int), bb]
            · rw [if_pos z]
            · rw [if_neg z]
              rcases List.mem_append.mp he with he | he
              · exact fm e he
              · exact absurd (List.mem_singleton.mp he) z
      · rintro σ H5 ⟨x6, x7, r, f, rfl, R5, kp5, hc5, rg5, fm⟩
        rw [gl, List.take_length] at rg5 fm
        refine ⟨_, _, _, _, r, f, rfl, R5, kp5, hc5, ?_⟩
        have e1 : ws.take (i + 1) = ws.take i ++ [wi] := take_succ' ew
        have e2 : (ws.take (i + 1)).flatten = (ws.take i).flatten ++ wi := by rw [e1, List.flatten_append]; simp
        rw [e2]
        refine ⟨rg5.len, rg5.nn, rg5.off, fun g' hg' x hx y hy => ?_, rg5.val⟩
        rw [e1] at hg'
        rcases List.mem_append.mp hg' with z | z
        · exact rg5.same g' z x hx y hy
        · rw [List.mem_singleton.mp z] at hx hy
          rw [fm x hx, fm y hy]
    · rintro σ H3 ⟨x4, x5, x6, x7, r, f, rfl, R3, kp3, hc3, rg⟩
      rw [zl, List.take_length] at rg
      refine ⟨_, rfl, k c r H3 (fun a o e n => kp3 a o (s2 _ _ (s1 _ _ e)) (ne_of_none e hc) n) R3 hc hc3 (rg_row oS pt ⟨rg.len, rg.nn, fun e he => rg.off e fun z => he (pt.parts.perm.subset z), rg.same, rg.val⟩)⟩
abbrev s__law_even_ones : Stmt := top 31
theorem sc__law_even_ones : FnScope ["_law_sheet_here", "_law_found", "_law_triangle", "_law_odd", "_law_kept", "_law_one"] ["_law_sheet_here"] (defScope s__law_even_ones) := ⟨rfl, rfl, rfl, by decide +kernel, rfl, by decide +kernel, by decide +kernel⟩
def spEven : Sp := fun vs H Q _ => ∃ (b : Addr) (xs : List V) (S : List (List Int)), vs = [.ref b] ∧ H b = some (.lst xs) ∧ TuL H xs S ∧ ShOk S ∧ ∀ (c : Addr) (ns : List Int) (H' : Hp), Same H H' → H c = none → H' c = some (.lst (ns.map V.int)) → (∀ v ∈ ns, 0 ≤ v ∧ ∀ t ∈ S, Even2 v t) → Q (.ref c) H'
theorem ok_even {f : Addr} {fd : FuncData} (F : Fun K "_law_even_ones" "_law_even_ones" s__law_even_ones f fd) (M : Txt mg) (B : Gb mg) : FnOk P w K mg base CX0 2 f fd ["_law_sheet_here"] spEven := by
  have sc := sc__law_even_ones
  refine F.ok sc (fun vs H Q E h => ?_) (fun cdv A outer s H vs Q E hr h => ?_)
  · obtain ⟨b, xs, S, rfl, _⟩ := h
    rfl
  · obtain ⟨b, xs, S, rfl, hb, tS, oS, k⟩ := h
    refine ⟨_, (pss_cons (ps_compG (xs := ["_law_k"]) (Nb := ["_law_sheet_here", "_law_found", "_law_triangle", "_law_odd", "_law_kept", "_law_one"]) (pg_name (i := 1) sc.nd rfl (Or.inl rfl)) rfl rfl (pi_range1 rfl M.range (pa_BinOp (pe_op op_fdivL (pe_op op_mul (pe_callB (call_lenK (K := K)) (by rfl) M.len PySem.boot_len (pa_Name (pv 0) pa_nil)) pe_int) pe_int) pa_nil)) rfl (by show ∀ p ∈ (List.zip ["_law_sheet_here", "_law_found", "_law_triangle", "_law_odd", "_law_kept", "_law_one"] ["_law_sheet_here", "_law_found", "_law_triangle", "_law_odd", "_law_kept", "_law_one"] : List (Str × Str)), _; decide +kernel) (by decide +kernel) (fun cl C s₂ H₂ fp => (pg_name (i := 0) (by show List.Nodup (["_law_k", "_law_sheet_here", "_law_found", "_law_triangle", "_law_odd", "_law_kept", "_law_one"] : List Str); decide +kernel) rfl (Or.inl (lookup_relabel_local rfl)) (Or.inr (lookup_relabel_local rfl)))) (fun cl C s₂ H₂ fp => pif_nil) (fun cl C s₂ H₂ fp => (pe_op op_shl pe_int (pv 0))) (by decide +kernel) rfl (by decide +kernel) (by show ∀ y ∈ (_ : List (Str × NameKind)), y.2 = NameKind.free → (defScope s__law_even_ones).names.lookup y.1 = some .cell; decide +kernel))
      (pss_cons (ps_for PassesOwn.never rfl (pi_list (pv 0)) (pg_name (i := 2) sc.nd rfl (Or.inl rfl))
      (pss_cons (ps_set (i := 3) sc.nd rfl (Or.inr rfl) (pe_lst pa_nil))
      (pss_cons (ps_set (i := 4) sc.nd rfl (Or.inl rfl) (pe_lst pa_nil))
      (pss_cons (ps_for PassesOwn.never rfl (pi_list (pv 1)) (pg_name (i := 5) sc.nd rfl (Or.inr rfl))
      (pss_one (ps_if (pt_cmpR op_eq (pe_op op_mod (pe_callB (call_sum rfl) (by rfl) M.sum boot_sum (pa_cons (pe_compG (xs := ["_law_side"]) (Nb := ["_law_sheet_here", "_law_found", "_law_triangle", "_law_odd", "_law_kept", "_law_one"]) rfl (pi_tup (pv 2)) rfl (by show ∀ p ∈ (List.zip ["_law_sheet_here", "_law_found", "_law_triangle", "_law_odd", "_law_kept", "_law_one"] ["_law_sheet_here", "_law_found", "_law_triangle", "_law_odd", "_law_kept", "_law_one"] : List (Str × Str)), _; decide +kernel) (by decide +kernel) (fun cl C s₂ H₂ fp => (pg_name (i := 0) (by show List.Nodup (["_law_side", "_law_sheet_here", "_law_found", "_law_triangle", "_law_odd", "_law_kept", "_law_one"] : List Str); decide +kernel) rfl (Or.inl (lookup_relabel_local rfl)) (Or.inr (lookup_relabel_local rfl)))) (fun cl C s₂ H₂ fp => pif_nil) (fun cl C s₂ H₂ fp => (pe_op op_and (pe_op op_shr (pv 6) (pe_op op_sub (pe_callB call_abs (by rfl) B.ab boot_abs (pa_Name (pv 0) pa_nil)) pe_int)) pe_int)) (by decide +kernel) rfl (by decide +kernel) (by show ∀ y ∈ (_ : List (Str × NameKind)), y.2 = NameKind.free → (defScope s__law_even_ones).names.lookup y.1 = some .cell; decide +kernel)) pa_nil)) pe_int) pe_int (nomark _)) (pss_one (ps_expr (pe_bm PySem.F.plainAttrs_list PySem.F.slot_list_append PySem.F.type_list_append mt_append (pv 3) (pa_Name (pv 5) pa_nil)))) (pss_one (ps_expr (pe_bm PySem.F.plainAttrs_list PySem.F.slot_list_append PySem.F.type_list_append mt_append (pv 4) (pa_Name (pv 5) pa_nil)))))))
      (pss_one (ps_set (i := 1) sc.nd rfl (Or.inl rfl) (pe_op op_cat (pv 4) (pe_compG (xs := ["_law_one"]) (Nb := ["_law_sheet_here", "_law_found", "_law_triangle", "_law_odd", "_law_kept", ""]) rfl (pi_list (pe_slice sl_list (pv 3) (po_some pe_int) po_none)) rfl (by show ∀ p ∈ (List.zip ["_law_sheet_here", "_law_found", "_law_triangle", "_law_odd", "_law_kept", ""] ["_law_sheet_here", "_law_found", "_law_triangle", "_law_odd", "_law_kept", "_law_one"] : List (Str × Str)), _; decide +kernel) (by decide +kernel) (fun cl C s₂ H₂ fp => (pg_name (i := 0) (by show List.Nodup (["_law_one", "_law_sheet_here", "_law_found", "_law_triangle", "_law_odd", "_law_kept", ""] : List Str); decide +kernel) rfl (Or.inl (lookup_relabel_local rfl)) (Or.inr (lookup_relabel_local rfl)))) (fun cl C s₂ H₂ fp => pif_nil) (fun cl C s₂ H₂ fp => (pe_op op_xor (pv 0) (pe_ix (ix_listK (K := K)) (pv 4) pe_int (fun _ _ => rfl)))) (by decide +kernel) rfl (by decide +kernel) (by show ∀ y ∈ (_ : List (Str × NameKind)), y.2 = NameKind.free → (defScope s__law_even_ones).names.lookup y.1 = some .cell; decide +kernel)))))))))
      (pss_one (ps_ret (pv 1))))), ?_⟩
    have lS := oS.len
    have lx : xs.length = S.length := tS.1
    refine ⟨_, rfl, b, xs, rfl, .inl (SqL.of hb), ((xs.length : Nat) : Int), 3, rfl, rfl, .inr ⟨by decide, by decide⟩, ((xs.length : Nat) : Int) * 3, 2, rfl, rfl, ⟨by decide, by decide⟩, ((xs.length : Nat) : Int) * 3 / 2, rfl, by omega, by omega, compR (lo := 0) (n := (((xs.length : Nat) : Int) * 3 / 2).toNat) (fun i ys H' => ∃ ns : List Int, ys = ns.map V.int ∧ ns.length = i ∧ (∀ v ∈ ns, 0 ≤ v) ∧ H = H') ⟨[], rfl, rfl, fun v hv => (by cases hv), rfl⟩ (by omega) (fun i ys H' h => by obtain ⟨ns, rfl, l, _⟩ := h; rw [List.length_map, l]; exact Nat.le_refl _) ?_ ?_⟩
    · rintro i ys H' pre hpre hi ⟨ns, rfl, nl, nn, rfl⟩
      rcases pre with _ | ⟨q0, _ | ⟨q1, pre⟩⟩
      · cases hpre
      · refine ⟨⟨[some _], rfl, rfl⟩, ?_⟩
        unfold tYes
        dsimp only
        rw [if_pos (rfl : true = true)]
        refine ⟨_, rfl, _, _, rfl, rfl, ⟨by omega, by omega, by first | decide | omega⟩, ns ++ [1 * 2 ^ (0 + (i : Int)).toNat], ?_, by simp [nl], fun v hv => ?_, rfl⟩
        · rw [List.map_append]
          rfl
        · rcases List.mem_append.mp hv with hv | hv
          · exact nn v hv
          · rw [List.mem_singleton.mp hv]
            have := Int.pow_pos (n := 2) (m := (0 + (i : Int)).toNat) (by decide)
            omega
      · cases hpre
    rintro ys H' ⟨ns, rfl, nl, nn, rfl⟩ c hc
    have s1 := Same.nw (o := .lst (ns.map V.int)) (Same.refl H) hc
    have fc : (upd H c (.lst (ns.map V.int))) c = some (.lst (ns.map V.int)) := upd_same
    generalize upd H c (.lst (ns.map V.int)) = H1 at s1 fc ⊢
    have nl1 : ns.length ≤ 18 := by omega
    refine ⟨_, rfl, b, rfl, ⟨_, SqL.of (s1 _ _ hb)⟩, for_list (K := K) (a := b) (xs := xs) (fun i σ H' => ∃ (c : Addr) (x2 x3 x4 x5 : Option V) (ns : List Int), σ = [some (.ref b), some (.ref c), x2, x3, x4, x5] ∧ Same H H' ∧ H c = none ∧ H' c = some (.lst (ns.map V.int)) ∧ ns.length ≤ 18 ∧ ∀ v ∈ ns, 0 ≤ v ∧ ∀ t ∈ S.take i, Even2 v t) ⟨c, _, _, _, _, ns, rfl, s1, hc, fc, nl1, fun v hv => ⟨nn v hv, fun t ht => (by rw [List.take_zero] at ht; cases ht)⟩⟩ (fun i σ H' _ h => by obtain ⟨_, _, _, _, _, _, _, s', _⟩ := h; exact SqL.of (s' _ _ hb)) ?_ ?_⟩
    · rintro i y σ H2 hy ⟨c, x2, x3, x4, x5, ns, rfl, s2, cf, hc2, nl2, ok2⟩
      obtain ⟨t, q, et, rfl, hq⟩ := (tS.up s2.tups).take hy
      have mt : t ∈ S := List.mem_of_getElem? et
      have t3 := oS.three t mt
      refine ⟨(by show 0 ≤ sizeLine; decide), fun o ho => ?_⟩
      have s3 := Same.nw (o := .lst []) (Same.refl H2) ho
      have fo : (upd H2 o (.lst [])) o = some (.lst (([] : List Int).map V.int)) := upd_same
      generalize upd H2 o (.lst []) = H3 at s3 fo ⊢
      refine ⟨(by show 0 ≤ sizeLine; decide), fun ke hke => ?_⟩
      have s4 := Same.nw (o := .lst []) (Same.refl H3) hke
      have fk : (upd H3 ke (.lst [])) ke = some (.lst (([] : List Int).map V.int)) := upd_same
      have nok : o ≠ ke := ne_of_none fo hke
      generalize upd H3 ke (.lst []) = H4 at s4 fk ⊢
      have of : H2 o = none := ho
      have kf : H2 ke = none := s3.free hke
      have s24 := s3.trans s4
      refine ⟨_, rfl, c, rfl, ⟨_, SqL.of (s24 _ _ hc2)⟩, for_list (K := K) (a := c) (xs := ns.map V.int) (fun j σ H' => ∃ (x5 : Option V) (os ks : List Int), σ = [some (.ref b), some (.ref c), some (.ref q), some (.ref o), some (.ref ke), x5] ∧ Same H2 H' ∧ H' o = some (.lst (os.map V.int)) ∧ H' ke = some (.lst (ks.map V.int)) ∧ os.length + ks.length = j ∧ (∀ v ∈ os, v ∈ ns ∧ parT v t % 2 = 1) ∧ (∀ v ∈ ks, v ∈ ns ∧ parT v t % 2 = 0)) ⟨_, [], [], rfl, s24, s4 _ _ fo, fk, rfl, fun v hv => (by cases hv), fun v hv => (by cases hv)⟩ (fun j σ H' _ h => by obtain ⟨_, _, _, _, s', _⟩ := h; exact SqL.of (s' _ _ hc2)) ?_ ?_⟩
      · rintro j y' σ H5 hy' ⟨x5, os, ks, rfl, s5, ho5, hk5, ol, oo, kk⟩
        rw [List.getElem?_map] at hy'
        cases en : ns[j]? with
        | none => rw [en] at hy'; cases hy'
        | some v =>
          rw [en] at hy'
          cases hy'
          have mv : v ∈ ns := List.mem_of_getElem? en
          have v0 := (ok2 v mv).1
          have jl := (List.getElem?_eq_some_iff.mp en).1
          refine ⟨_, rfl, q, rfl, ⟨_, SqT.of (s5 _ _ hq)⟩, compT (K := K) (a := q) (xs := t.map V.int) (fun m ys H' => ys = ((t.take m).map fun s => bitI v (absI s - 1).toNat).map V.int ∧ H5 = H') ⟨rfl, rfl⟩ (by rw [List.length_map]; omega) (fun m ys H' h => by rw [h.1, List.length_map, List.length_map, List.length_take]; exact Nat.min_le_left _ _) (fun m ys H' _ h => by rw [← h.2]; exact SqT.of (s5 _ _ hq)) ?_ ?_⟩
          · rintro m z ys' H' pre hpl hz ⟨rfl, rfl⟩
            rw [List.getElem?_map] at hz
            cases ez : t[m]? with
            | none => rw [ez] at hz; cases hz
            | some sd =>
              rw [ez] at hz
              cases hz
              have sb := oS.side mt (List.mem_of_getElem? ez)
              rcases pre with _ | ⟨q0, _ | ⟨q1, pre⟩⟩
              · cases hpl
              · refine ⟨⟨[some _], rfl, rfl⟩, ?_⟩
                unfold tYes
                dsimp only
                rw [if_pos (rfl : true = true)]
                refine ⟨_, rfl, _, rfl, sd, rfl, _, _, rfl, rfl, _, _, rfl, rfl, (show 0 ≤ absI sd - 1 by omega), _, _, rfl, rfl, ?_, rfl⟩
                rw [take_succ' ez, List.map_append, List.map_append]
                have := bit_and v0 (absI sd - 1).toNat
                show _ ++ [V.int (Builtin.bitAnd (v / 2 ^ (absI sd - 1).toNat) 1)] = _
                rw [this]
                rfl
              · cases hpl
          rintro ys' H' ⟨rfl, rfl⟩ D hD
          rw [List.length_map, List.take_length]
          have s6 := Same.nw (o := .lst ((t.map fun s => bitI v (absI s - 1).toNat).map V.int)) (Same.refl H5) hD
          have fD : (upd H5 D (.lst ((t.map fun s => bitI v (absI s - 1).toNat).map V.int))) D = some (.lst ((t.map fun s => bitI v (absI s - 1).toNat).map V.int)) := upd_same
          generalize upd H5 D (.lst ((t.map fun s => bitI v (absI s - 1).toNat).map V.int)) = H6 at s6 fD ⊢
          have ho6 := s6 _ _ ho5
          have hk6 := s6 _ _ hk5
          refine ⟨D, _, rfl, SqL.of fD, _, _, rfl, rfl, (by show (0 : Int) < 2; decide), rfl, _, rfl, ?_⟩
          have sm : os.length ≤ 1000 ∧ ks.length ≤ 1000 := by omega
          by_cases pv : parT v t % 2 = 1
          · have ev : decide ((fun i j => V.int (i % j)) (t.map fun s => bitI v (absI s - 1).toNat).sum 2 = V.int 1) = true := decide_eq_true (by show V.int (parT v t % 2) = V.int 1; rw [pv])
            rw [ev]
            refine iteT ⟨_, rfl, .inl ⟨rfl, _, SqL.of ho6⟩, _, rfl, o, _, _, rfl, rfl, ho6, (by rw [List.length_map]; exact Nat.lt_of_le_of_lt sm.1 (by decide)), ?_⟩
            refine ⟨_, os ++ [v], ks, rfl, (s5.trans s6).ow of, by rw [upd_same, List.map_append]; rfl, by rw [upd_ne (Ne.symm nok)]; exact hk6, by simp only [List.length_append, List.length_cons, List.length_nil]; omega, fun x hx => ?_, kk⟩
            rcases List.mem_append.mp hx with hx | hx
            · exact oo x hx
            · rw [List.mem_singleton.mp hx]; exact ⟨mv, pv⟩
          · have ev : decide ((fun i j => V.int (i % j)) (t.map fun s => bitI v (absI s - 1).toNat).sum 2 = V.int 1) = false := decide_eq_false fun z => pv (V.int.inj z)
            rw [ev]
            refine iteF ⟨_, rfl, .inl ⟨rfl, _, SqL.of hk6⟩, _, rfl, ke, _, _, rfl, rfl, hk6, (by rw [List.length_map]; exact Nat.lt_of_le_of_lt sm.2 (by decide)), ?_⟩
            refine ⟨_, os, ks ++ [v], rfl, (s5.trans s6).ow kf, by rw [upd_ne nok]; exact ho6, by rw [upd_same, List.map_append]; rfl, by simp only [List.length_append, List.length_cons, List.length_nil]; omega, oo, fun x hx => ?_⟩
            rcases List.mem_append.mp hx with hx | hx
            · exact kk x hx
            · rw [List.mem_singleton.mp hx]
              exact ⟨mv, by omega⟩
      · rintro σ H5 ⟨x5, os, ks, rfl, s5, ho5, hk5, ol, oo, kk⟩
        rw [List.length_map] at ol
        have cut1 : cutV (os.map V.int) (some 1) none = (os.drop 1).map V.int := by
          cases os with
          | nil => rfl
          | cons o0 os' => exact (cutV_drop (xs := (o0 :: os').map V.int) (n := 1) (by simp)).trans (by simp)
        refine ⟨_, rfl, _, rfl, 1, rfl, o, _, rfl, SqL.of ho5, fun sl hsl => ?_⟩
        rw [cut1]
        have s6 := Same.nw (o := .lst ((os.drop 1).map V.int)) (Same.refl H5) hsl
        have fs : (upd H5 sl (.lst ((os.drop 1).map V.int))) sl = some (.lst ((os.drop 1).map V.int)) := upd_same
        generalize upd H5 sl (.lst ((os.drop 1).map V.int)) = H6 at s6 fs ⊢
        have ho6 := s6 _ _ ho5
        refine ⟨sl, rfl, ⟨_, SqL.of fs⟩, compL (K := K) (a := sl) (xs := (os.drop 1).map V.int) (fun m ys H' => ys = (((os.drop 1).take m).map fun v => Builtin.bitXor v (os.headD 0)).map V.int ∧ H6 = H') ⟨rfl, rfl⟩ (by rw [List.length_map, List.length_drop]; omega) (fun m ys H' h => by rw [h.1, List.length_map, List.length_map, List.length_take]; exact Nat.min_le_left _ _) (fun m ys H' _ h => by rw [← h.2]; exact SqL.of fs) ?_ ?_⟩
        · rintro m z ys' H' pre hpl hz ⟨rfl, rfl⟩
          rw [List.getElem?_map] at hz
          cases ez : (os.drop 1)[m]? with
          | none => rw [ez] at hz; cases hz
          | some v =>
            rw [ez] at hz
            cases hz
            have a0 : atI (os.map V.int) 0 = some (V.int (os.headD 0)) := by
              cases os with
              | nil => cases ez
              | cons o0 os' => exact atI_nat (j := 0) rfl
            rcases pre with _ | ⟨q0, _ | ⟨q1, pre⟩⟩
            · cases hpl
            · refine ⟨⟨[some _], rfl, rfl⟩, ?_⟩
              unfold tYes
              dsimp only
              rw [if_pos (rfl : true = true)]
              refine ⟨_, rfl, _, rfl, o, _, _, _, rfl, rfl, SqL.of ho6, a0, _, _, rfl, rfl, ?_, rfl⟩
              rw [take_succ' ez, List.map_append, List.map_append]
              rfl
            · cases hpl
        rintro ys' H' ⟨rfl, rfl⟩ D hD
        rw [List.length_map, List.take_length]
        have s7 := Same.nw (o := .lst (((os.drop 1).map fun v => Builtin.bitXor v (os.headD 0)).map V.int)) (Same.refl H6) hD
        have fD : (upd H6 D (.lst (((os.drop 1).map fun v => Builtin.bitXor v (os.headD 0)).map V.int))) D = some (.lst (((os.drop 1).map fun v => Builtin.bitXor v (os.headD 0)).map V.int)) := upd_same
        generalize upd H6 D (.lst (((os.drop 1).map fun v => Builtin.bitXor v (os.headD 0)).map V.int)) = H7 at s7 fD ⊢
        have s57 := s6.trans s7
        refine ⟨ke, D, _, _, rfl, rfl, s57 _ _ hk5, fD, ?_, fun c2 hc2' => ?_⟩
        · simp only [List.length_map, List.length_drop]
          exact Nat.le_trans (show _ ≤ 1000 by omega) (by decide)
        rw [← List.map_append]
        have s8 := Same.nw (o := .lst ((ks ++ (os.drop 1).map fun v => Builtin.bitXor v (os.headD 0)).map V.int)) s57 hc2'
        refine ⟨c2, _, _, _, _, ks ++ (os.drop 1).map fun v => Builtin.bitXor v (os.headD 0), rfl, (s2.trans s5).trans s8, (s2.trans (s5.trans s57)).free hc2', upd_same, ?_, fun v hv => ?_⟩
        · simp only [List.length_append, List.length_map, List.length_drop]
          omega
        · have eT : S.take (i + 1) = S.take i ++ [t] := take_succ' et
          rcases List.mem_append.mp hv with hv | hv
          · obtain ⟨m1, p1⟩ := kk v hv
            obtain ⟨v0, ev⟩ := ok2 v m1
            refine ⟨v0, fun t' ht' => ?_⟩
            rw [eT] at ht'
            rcases List.mem_append.mp ht' with z | z
            · exact ev t' z
            · rw [List.mem_singleton.mp z]; exact p1
          · obtain ⟨u, hu, rfl⟩ := List.mem_map.mp hv
            cases os with
            | nil => cases hu
            | cons o0 os' =>
              have hu : u ∈ os' := by simpa using hu
              show 0 ≤ Builtin.bitXor u o0 ∧ _
              obtain ⟨mu1, pu⟩ := oo u (List.mem_cons_of_mem _ hu)
              obtain ⟨mo1, po⟩ := oo o0 List.mem_cons_self
              obtain ⟨u0, eu⟩ := ok2 u mu1
              obtain ⟨oo0, eo⟩ := ok2 o0 mo1
              refine ⟨xor_nn u0 oo0, fun t' ht' => ?_⟩
              have px := par_xor u0 oo0 t'
              show Even2 (Builtin.bitXor u o0) t'
              unfold Even2
              rw [eT] at ht'
              rcases List.mem_append.mp ht' with z | z
              · have e1 : parT u t' % 2 = 0 := eu t' z
                have e2 : parT o0 t' % 2 = 0 := eo t' z
                omega
              · rw [List.mem_singleton.mp z] at px ⊢
                omega
    · rintro σ H2 ⟨c, x2, x3, x4, x5, ns, rfl, s2, cf, hc2, nl2, ok2⟩
      rw [List.take_of_length_le (by omega)] at ok2
      exact ⟨_, rfl, k c ns H2 s2 cf hc2 ok2⟩
abbrev s__law_wide_row : Stmt := top 32
theorem sc__law_wide_row : FnScope ["_law_sheet_here", "_law_rest", "_law_most", "_law_b", "_law_mask", "_law_one"] ["_law_sheet_here", "_law_rest", "_law_most"] (defScope s__law_wide_row) := ⟨rfl, rfl, rfl, by decide +kernel, rfl, by decide +kernel, by decide +kernel⟩
theorem ok_wide {f : Addr} {fd : FuncData} (F : Fun K "_law_wide_row" "_law_wide_row" s__law_wide_row f fd) (M : Txt mg) (G_law_digit : Kn P w K mg base "_law_digit" 1 ["_law_rest", "_law_many"] spDigit) (G_law_even_ones : Kn P w K mg base "_law_even_ones" 2 ["_law_sheet_here"] spEven) : FnOk P w K mg base CX0 4 f fd ["_law_sheet_here", "_law_rest", "_law_most"] spRings := by
  have sc := sc__law_wide_row
  refine F.ok sc (fun vs H Q E h => ?_) (fun cdv A outer s H vs Q E hr h => ?_)
  · obtain ⟨b, d, m, xs, S, rfl, _⟩ := h
    rfl
  · obtain ⟨b, d, m, xs, S, rfl, hb, tS, oS, R0, nbd, m0, m1, k⟩ := h
    refine ⟨_, (pss_cons (ps_set (i := 3) sc.nd rfl (Or.inr rfl) (pe_op op_add pe_int (pe_callD G_law_digit hr rfl (pa_Name (pv 1) (pa_Name (pv 2) pa_nil)))))
      (pss_cons (ps_set (i := 4) sc.nd rfl (Or.inr rfl) pe_int)
      (pss_cons (ps_for PassesOwn.never rfl (pi_list (pe_callD G_law_even_ones hr rfl (pa_Name (pv 0) pa_nil))) (pg_name (i := 5) sc.nd rfl (Or.inl rfl))
      (pss_one (ps_if (pt_cmpR op_eq (pe_callD G_law_digit hr rfl (pa_Name (pv 1) (pa_Constant pe_int pa_nil))) pe_int (nomark _)) (pss_one (ps_set (i := 4) sc.nd rfl (Or.inr rfl) (pe_op op_xor (pv 4) (pv 5)))) pss_nil)))
      (pss_one (ps_ret (pe_compG (xs := ["_law_k"]) (Nb := ["_law_sheet_here", "_law_rest", "_law_most", "_law_b", "_law_mask", "_law_one"]) rfl (pi_range1 rfl M.range (pa_BinOp (pe_op op_fdivL (pe_op op_mul (pe_callB (call_lenK (K := K)) (by rfl) M.len PySem.boot_len (pa_Name (pv 0) pa_nil)) pe_int) pe_int) pa_nil)) rfl (by show ∀ p ∈ (List.zip ["_law_sheet_here", "_law_rest", "_law_most", "_law_b", "_law_mask", "_law_one"] ["_law_sheet_here", "_law_rest", "_law_most", "_law_b", "_law_mask", "_law_one"] : List (Str × Str)), _; decide +kernel) (by decide +kernel) (fun cl C s₂ H₂ fp => (pg_name (i := 0) (by show List.Nodup (["_law_k", "_law_sheet_here", "_law_rest", "_law_most", "_law_b", "_law_mask", "_law_one"] : List Str); decide +kernel) rfl (Or.inl (lookup_relabel_local rfl)) (Or.inr (lookup_relabel_local rfl)))) (fun cl C s₂ H₂ fp => pif_nil) (fun cl C s₂ H₂ fp => (pe_op op_add (pe_op op_mul pe_int (pe_op op_add (pv 4) (pe_callD G_law_digit hr rfl (pa_Name (pv 2) (pa_Name (pv 4) pa_nil))))) (pe_op op_and (pe_op op_shr (pv 5) (pv 0)) pe_int))) (by decide +kernel) rfl (by decide +kernel) (by show ∀ y ∈ (_ : List (Str × NameKind)), y.2 = NameKind.free → (defScope s__law_wide_row).names.lookup y.1 = some .cell; decide +kernel))))))), ?_⟩
    have lS := oS.len
    have lx : xs.length = S.length := tS.1
    refine ⟨_, rfl, _, rfl, d, m, rfl, R0, m0, m1, fun b1 H1 b10 b11 R1 B1 => ⟨1, b1, rfl, rfl, ?_⟩⟩
    have hb1 := B1 _ _ hb nbd
    refine ⟨_, rfl, b, xs, S, rfl, hb1, tS.up (But.tupsR B1 R0), oS, fun c ns H2 s2 cf hc2 ok2 => ?_⟩
    have R2 := R1.same s2
    have ncd : c ≠ d := fun z => by obtain ⟨n, e⟩ := R1; rw [z, e] at cf; cases cf
    have B2 : But d H H2 := B1.trans (But.same s2)
    refine ⟨c, rfl, ⟨_, SqL.of hc2⟩, for_list (K := K) (a := c) (xs := ns.map V.int) (fun j σ H' => ∃ (x5 : Option V) (mk : Int), σ = [some (.ref b), some (.ref d), some (.int m), some (.int (1 + b1)), some (.int mk), x5] ∧ Rest H' d ∧ But d H2 H' ∧ 0 ≤ mk ∧ ∀ t ∈ S, Even2 mk t) ⟨_, 0, rfl, R2, But.refl _ _, Int.le_refl _, fun t ht => ?_⟩ (fun j σ H' _ h => by obtain ⟨_, _, _, _, b', _⟩ := h; exact SqL.of (b' _ _ hc2 ncd)) ?_ ?_⟩
    · have z : ∀ t : List Int, parT 0 t = 0 := fun t => by
        induction t with
        | nil => rfl
        | cons s t ih =>
          unfold parT at ih ⊢
          rw [List.map_cons, List.sum_cons, ih]
          unfold bitI
          simp
      unfold Even2
      rw [z t]
      rfl
    · rintro j y' σ H3 hy' ⟨x5, mk, rfl, R3, B3, mk0, em⟩
      rw [List.getElem?_map] at hy'
      cases en : ns[j]? with
      | none => rw [en] at hy'; cases hy'
      | some v =>
        rw [en] at hy'
        cases hy'
        obtain ⟨v0, ev⟩ := ok2 v (List.mem_of_getElem? en)
        refine ⟨_, rfl, d, 2, rfl, R3, by decide, dg (by decide), fun r H4 r0 r1 R4 B4 => ⟨rfl, _, rfl, ite2 (fun _ => ?_) (fun _ => ?_)⟩⟩
        · refine ⟨_, rfl, _, rfl, _, _, rfl, rfl, _, Builtin.bitXor mk v, rfl, R4, B3.trans B4, xor_nn mk0 v0, fun t ht => ?_⟩
          have px := par_xor mk0 v0 t
          have e1 : parT mk t % 2 = 0 := em t ht
          have e2 : parT v t % 2 = 0 := ev t ht
          show parT (Builtin.bitXor mk v) t % 2 = 0
          omega
        · exact ⟨_, mk, rfl, R4, B3.trans B4, mk0, em⟩
    rintro σ H3 ⟨x5, mk, rfl, R3, B3, mk0, em⟩
    have hb3 := B3 _ _ (s2 _ _ hb1) nbd
    have B03 := B2.trans B3
    refine ⟨_, rfl, b, xs, rfl, .inl (SqL.of hb3), ((xs.length : Nat) : Int), 3, rfl, rfl, .inr ⟨by decide, by decide⟩, ((xs.length : Nat) : Int) * 3, 2, rfl, rfl, ⟨by decide, by decide⟩, ((xs.length : Nat) : Int) * 3 / 2, rfl, by omega, by omega, compR (lo := 0) (n := (((xs.length : Nat) : Int) * 3 / 2).toNat) (fun i ys H' => ∃ r : List Int, ys = r.map V.int ∧ r.length = i ∧ (∀ (q : Nat) (x : Int), r[q]? = some x → ∃ dd, 0 ≤ dd ∧ dd < 1 + b1 ∧ x = 2 * (1 + b1 + dd) + bitI mk q) ∧ Rest H' d ∧ But d H3 H') ⟨[], rfl, rfl, fun q x h => (by cases h), R3, But.refl _ _⟩ (by omega) (fun i ys H' h => by obtain ⟨r, rfl, l, _⟩ := h; rw [List.length_map, l]; exact Nat.le_refl _) ?_ ?_⟩
    · rintro i ys H4 pre hpre hi ⟨r, rfl, rl, ro, R4, B4⟩
      rcases pre with _ | ⟨q0, _ | ⟨q1, pre⟩⟩
      · cases hpre
      · refine ⟨⟨[some _], rfl, rfl⟩, ?_⟩
        unfold tYes
        dsimp only
        rw [if_pos (rfl : true = true)]
        refine ⟨_, rfl, _, rfl, _, rfl, d, 1 + b1, rfl, R4, by omega, Int.le_trans (by omega) m1, fun dd H5 dd0 dd1 R5 B5 => ?_⟩
        have bz := bit_and mk0 (0 + (i : Int)).toNat
        refine ⟨1 + b1, dd, rfl, rfl, 2, 1 + b1 + dd, rfl, rfl, .inl ⟨by decide, by decide⟩, _, rfl, _, rfl, _, _, rfl, rfl, (show (0 : Int) ≤ 0 + (i : Int) by omega), _, _, rfl, rfl, _, _, rfl, rfl, r ++ [2 * (1 + b1 + dd) + bitI mk i], ?_, by simp [rl], fun q x hq => ?_, R5, B4.trans B5⟩
        · rw [List.map_append]
          show _ ++ [V.int (2 * (1 + b1 + dd) + Builtin.bitAnd (mk / 2 ^ (0 + (i : Int)).toNat) 1)] = _
          rw [bz, show (0 + (i : Int)).toNat = i by omega]
          rfl
        · by_cases ql : q < r.length
          · rw [List.getElem?_append_left ql] at hq
            exact ro q x hq
          · rw [List.getElem?_append_right (by omega)] at hq
            cases e : q - r.length with
            | zero =>
              rw [e] at hq
              cases hq
              have : q = i := by omega
              subst this
              exact ⟨dd, dd0, dd1, rfl⟩
            | succ n => rw [e] at hq; cases hq
      · cases hpre
    rintro ys H4 ⟨r, rfl, rl, ro, R4, B4⟩ D hD
    have nD : D ≠ d := R4.ne hD
    have B04 := B03.trans B4
    refine k D r _ (B04.new hD) (R4.new hD) (B04.fr hD nD) upd_same (ev_wide (b := 1 + b1) (m := mk) oS (by omega) (by omega) mk0 ro em)
end
end Toy
set_option Elab.async false
set_option linter.all false
set_option maxRecDepth 100000
set_option maxHeartbeats 1000000
set_option Elab.async false
set_option linter.all false
set_option maxRecDepth 100000
set_option maxHeartbeats 1000000
set_option Elab.async false
set_option linter.all false
set_option maxRecDepth 100000
set_option maxHeartbeats 1000000
namespace Toy
open PySem L2 PyProof.Rows
section
variable {P : Program} {w : World} {K : PySem.W.Frag} {mg : Str → Option Value} {base : Heap} {c_CordError c_NoTurn : Addr}
abbrev s_sides_round : Stmt := top 10
theorem sc_sides_round : FnScope ["sheet", "tie", "one", "at", "other", "by", "first", "p", "q", "second", "u", "v"] ["sheet", "tie"] (defScope s_sides_round) := ⟨rfl, rfl, rfl, by decide +kernel, rfl, by decide +kernel, by decide +kernel⟩
set_option maxHeartbeats 4000000 in
theorem ok_sides {f : Addr} {fd : FuncData} (F : Fun K "sides_round" "sides_round" s_sides_round f fd) (M : Txt mg) (Gis_whole_from : Kn P w K mg base "is_whole_from" 2 ["thing", "least"] spFromI) (Gmany_ties : Kn P w K mg base "many_ties" 1 ["sheet"] (spTiesZ K)) (Gglued_sides : Kn P w K mg base "glued_sides" 2 ["sheet"] spGluedI) (Gtold_from : Kn P w K mg base "told_from" 1 ["triangle", "at"] spToldFrom) (Z : Exs K mg c_CordError c_NoTurn) : FnOk P w K mg base (CXE P w) 3 f fd ["sheet", "tie"] (spSides c_NoTurn) := by
  have sc := sc_sides_round
  refine F.okX sc (fun vs H Q E h => ?_) (fun cdv A outer s H vs Q E hd0 hr h => ?_)
  · obtain ⟨b, xs, S, tie, rfl, _⟩ := h
    rfl
  · obtain ⟨b, xs, S, tie, rfl, h1, h2, h3, k1, k2⟩ := h
    refine ⟨_, (pss_cons (ps_if (PT.nox (PW.pt (pw_or (pt_not (pt_val (pe_callD Gis_whole_from hr rfl (pa_Name (pv 1) (pa_Constant pe_int pa_nil))))) (pw_or1 (pt_cmpR op_gt (pv 1) (pe_callD Gmany_ties hr rfl (pa_Name (pv 0) pa_nil)) (nomark _)))))) (pss_one (ps_raise Z.e_NoTurn hd0 Z.m_NoTurn pe_str rfl)) pss_nil)
      (pss_cons (PS.nox (ps_asg (pe_ix (ix_listK (K := K)) (pe_callD Gglued_sides hr rfl (pa_Name (pv 0) pa_nil)) (pe_op op_sub (pv 1) pe_int) (fun _ _ => rfl)) (pg_lst rfl (pgs_cons (pg_tup rfl (pgs_cons (pg_name (i := 2) sc.nd rfl (Or.inl rfl)) (pgs_cons (pg_name (i := 3) sc.nd rfl (Or.inl rfl)) pgs_nil))) (pgs_cons (pg_tup rfl (pgs_cons (pg_name (i := 4) sc.nd rfl (Or.inl rfl)) (pgs_cons (pg_name (i := 5) sc.nd rfl (Or.inl rfl)) pgs_nil))) pgs_nil)))))
      (pss_cons (ps_if (PT.nox (pt_cmpR op_eq (pv 2) (pv 4) (nomark _))) (pss_one (ps_raise Z.e_NoTurn hd0 Z.m_NoTurn pe_str rfl)) pss_nil)
      (pss_cons (PS.nox (ps_asg (pe_callD Gtold_from hr rfl (pa_Subscript (pe_ix (ix_listK (K := K)) (pv 0) (pv 2) (fun _ _ => rfl)) (pa_Name (pv 3) pa_nil))) (pg_tup rfl (pgs_cons (pg_name (i := 6) sc.nd rfl (Or.inl rfl)) (pgs_cons (pg_name (i := 7) sc.nd rfl (Or.inl rfl)) (pgs_cons (pg_name (i := 8) sc.nd rfl (Or.inl rfl)) pgs_nil))))))
      (pss_cons (PS.nox (ps_asg (pe_callD Gtold_from hr rfl (pa_Subscript (pe_ix (ix_listK (K := K)) (pv 0) (pv 4) (fun _ _ => rfl)) (pa_Name (pv 5) pa_nil))) (pg_tup rfl (pgs_cons (pg_name (i := 9) sc.nd rfl (Or.inl rfl)) (pgs_cons (pg_name (i := 10) sc.nd rfl (Or.inl rfl)) (pgs_cons (pg_name (i := 11) sc.nd rfl (Or.inl rfl)) pgs_nil))))))
      (pss_cons (PS.nox (ps_if (pt_cmpR op_eq (pv 6) (pv 9) (nomark _)) (pss_one (ps_par (i := 10) (j := 11) rfl sc.nd rfl rfl (by decide) rfl rfl (pa_o2 (pe_un un_neg (pv 11)) (pe_un un_neg (pv 10)) pa_nil) rfl)) pss_nil))
      (pss_one (PS.nox (ps_ret (pe_tup (pa_o3 (pv 2) (pv 4) (pe_tup (pa_o4 (pv 7) (pv 8) (pv 10) (pv 11) pa_nil)) pa_nil))))))))))), ?_⟩
    exact sides_reads (K := K) h1 h2 h3 k1 k2
abbrev s_turned_tie : Stmt := top 12
theorem sc_turned_tie : FnScope ["sheet", "tie", "one", "other", "p", "q", "u", "v", "turned"] ["sheet", "tie"] (defScope s_turned_tie) := ⟨rfl, rfl, rfl, by decide +kernel, rfl, by decide +kernel, by decide +kernel⟩
set_option maxHeartbeats 4000000 in
theorem ok_turned {f : Addr} {fd : FuncData} (F : Fun K "turned_tie" "turned_tie" s_turned_tie f fd) (M : Txt mg) (Gsides_round : KnX P w K mg base "sides_round" 3 ["sheet", "tie"] (spSides c_NoTurn)) : FnOk P w K mg base (CXE P w) 4 f fd ["sheet", "tie"] (spTurned c_NoTurn) := by
  have sc := sc_turned_tie
  refine F.okX sc (fun vs H Q E h => ?_) (fun cdv A outer s H vs Q E hd0 hr h => ?_)
  · obtain ⟨b, xs, S, tie, rfl, _⟩ := h
    rfl
  · obtain ⟨b, xs, S, tie, rfl, h1, h2, h3, k1, k2⟩ := h
    refine ⟨_, (pss_cons (ps_asg (pe_callX Gsides_round passE hr rfl (pa_Name (PE.nox (pv 0)) (pa_Name (PE.nox (pv 1)) pa_nil))) (pg_tup rfl (pgs_cons (pg_name (i := 2) sc.nd rfl (Or.inl rfl)) (pgs_cons (pg_name (i := 3) sc.nd rfl (Or.inl rfl)) (pgs_cons (pg_tup rfl (pgs_cons (pg_name (i := 4) sc.nd rfl (Or.inl rfl)) (pgs_cons (pg_name (i := 5) sc.nd rfl (Or.inl rfl)) (pgs_cons (pg_name (i := 6) sc.nd rfl (Or.inl rfl)) (pgs_cons (pg_name (i := 7) sc.nd rfl (Or.inl rfl)) pgs_nil))))) pgs_nil)))))
      (pss_cons (PS.nox (ps_set (i := 8) sc.nd rfl (Or.inl rfl) (pe_callTy call_list_of (by rfl) M.list boot_list (pa_Name (pv 0) pa_nil))))
      (pss_cons (PS.nox (ps_asg (pe_tup (pa_o3 (pv 5) (pv 6) (pe_un un_neg (pv 1)) pa_nil)) (pg_sub (pv 8) (pv 2) set_list)))
      (pss_cons (PS.nox (ps_asg (pe_tup (pa_o3 (pv 7) (pv 4) (pv 1) pa_nil)) (pg_sub (pv 8) (pv 3) set_list)))
      (pss_one (PS.nox (ps_ret (pv 8)))))))), ?_⟩
    exact turned_reads (K := K) h1 h2 h3 k1 k2
abbrev s_row_turned : Stmt := top 13
theorem sc_row_turned : FnScope ["sheet", "row", "tie", "one", "other", "sides", "p", "q", "u", "v", "turned"] ["sheet", "row", "tie"] (defScope s_row_turned) := ⟨rfl, rfl, rfl, by decide +kernel, rfl, by decide +kernel, by decide +kernel⟩
set_option maxHeartbeats 4000000 in
theorem ok_rowturned {f : Addr} {fd : FuncData} (F : Fun K "row_turned" "row_turned" s_row_turned f fd) (M : Txt mg) (Gsides_round : KnX P w K mg base "sides_round" 3 ["sheet", "tie"] (spSides c_NoTurn)) (B : Gb mg) : FnOk P w K mg base (CXE P w) 4 f fd ["sheet", "row", "tie"] (spRowT c_NoTurn) := by
  have sc := sc_row_turned
  refine F.okX sc (fun vs H Q E h => ?_) (fun cdv A outer s H vs Q E hd0 hr h => ?_)
  · obtain ⟨b, c, xs, S, r, tie, rfl, _⟩ := h
    rfl
  · obtain ⟨b, c, xs, S, r, tie, rfl, h1, h2, h3, h4, h5, k1, k2⟩ := h
    refine ⟨_, (pss_cons (ps_asg (pe_callX Gsides_round passE hr rfl (pa_Name (PE.nox (pv 0)) (pa_Name (PE.nox (pv 2)) pa_nil))) (pg_tup rfl (pgs_cons (pg_name (i := 3) sc.nd rfl (Or.inl rfl)) (pgs_cons (pg_name (i := 4) sc.nd rfl (Or.inl rfl)) (pgs_cons (pg_name (i := 5) sc.nd rfl (Or.inl rfl)) pgs_nil)))))
      (pss_cons (PS.nox (ps_asg (pe_compG (xs := ["side"]) (Nb := ["sheet", "row", "tie", "one", "other", "sides", "p", "q", "u", "v", "turned"]) rfl (pi_tup (pv 5)) rfl (by show ∀ p ∈ (List.zip ["sheet", "row", "tie", "one", "other", "sides", "p", "q", "u", "v", "turned"] ["sheet", "row", "tie", "one", "other", "sides", "p", "q", "u", "v", "turned"] : List (Str × Str)), _; decide +kernel) (by decide +kernel) (fun cl C s₂ H₂ fp => (pg_name (i := 0) (by show List.Nodup (["side", "sheet", "row", "tie", "one", "other", "sides", "p", "q", "u", "v", "turned"] : List Str); decide +kernel) rfl (Or.inl (lookup_relabel_local rfl)) (Or.inr (lookup_relabel_local rfl)))) (fun cl C s₂ H₂ fp => pif_nil) (fun cl C s₂ H₂ fp => (pe_ix (ix_listK (K := K)) (pv 2) (pe_op op_sub (pe_callB call_abs (by rfl) B.ab boot_abs (pa_Name (pv 0) pa_nil)) pe_int) (fun _ _ => rfl))) (by decide +kernel) rfl (by decide +kernel) (by show ∀ y ∈ (_ : List (Str × NameKind)), y.2 = NameKind.free → (defScope s_row_turned).names.lookup y.1 = some .cell; decide +kernel)) (pg_lst rfl (pgs_cons (pg_name (i := 6) sc.nd rfl (Or.inl rfl)) (pgs_cons (pg_name (i := 7) sc.nd rfl (Or.inl rfl)) (pgs_cons (pg_name (i := 8) sc.nd rfl (Or.inl rfl)) (pgs_cons (pg_name (i := 9) sc.nd rfl (Or.inl rfl)) pgs_nil)))))))
      (pss_cons (PS.nox (ps_set (i := 10) sc.nd rfl (Or.inl rfl) (pe_callTy call_list_of (by rfl) M.list boot_list (pa_Name (pv 1) pa_nil))))
      (pss_cons (PS.nox (ps_asg (pe_op op_sub (pe_callB (call_max2 rfl) (by rfl) M.max boot_max (pa_BinOp (pe_op op_add (pv 6) (pv 8)) (pa_BinOp (pe_op op_add (pv 7) (pv 9)) pa_nil))) (pe_ix (ix_listK (K := K)) (pv 1) (pe_op op_sub (pv 2) pe_int) (fun _ _ => rfl))) (pg_sub (pv 10) (pe_op op_sub (pv 2) pe_int) set_list)))
      (pss_one (PS.nox (ps_ret (pv 10)))))))), ?_⟩
    exact rowT_reads (K := K) h1 h2 h3 h4 h5 k1 k2
abbrev s__law_from : Stmt := top 27
theorem sc__law_from : FnScope ["_law_triangle", "_law_tie", "_law_at"] ["_law_triangle", "_law_tie"] (defScope s__law_from) := ⟨rfl, rfl, rfl, by decide +kernel, rfl, by decide +kernel, by decide +kernel⟩
theorem ok_lfrom {f : Addr} {fd : FuncData} (F : Fun K "_law_from" "_law_from" s__law_from f fd) (M : Txt mg) (B : Gb mg) : FnOk P w K mg base CX0 1 f fd ["_law_triangle", "_law_tie"] spLFrom := by
  have sc := sc__law_from
  refine F.ok sc (fun vs H Q E h => ?_) (fun cdv A outer s H vs Q E hr h => ?_)
  · obtain ⟨q, t, p, kk, rfl, _⟩ := h
    rfl
  · obtain ⟨q, t, p, kk, rfl, h1, h2, h3, h4, k⟩ := h
    refine ⟨_, (pss_cons (ps_set (i := 2) sc.nd rfl (Or.inl rfl) (pe_bmK (K := K) PySem.F.plainAttrs_list PySem.F.slot_list_index PySem.F.type_list_index mt_index (pe_compG (xs := ["_law_side"]) (Nb := ["_law_triangle", "_law_tie", "_law_at"]) rfl (pi_tup (pv 0)) rfl (by show ∀ p ∈ (List.zip ["_law_triangle", "_law_tie", "_law_at"] ["_law_triangle", "_law_tie", "_law_at"] : List (Str × Str)), _; decide +kernel) (by decide +kernel) (fun cl C s₂ H₂ fp => (pg_name (i := 0) (by show List.Nodup (["_law_side", "_law_triangle", "_law_tie", "_law_at"] : List Str); decide +kernel) rfl (Or.inl (lookup_relabel_local rfl)) (Or.inr (lookup_relabel_local rfl)))) (fun cl C s₂ H₂ fp => pif_nil) (fun cl C s₂ H₂ fp => (pe_callB call_abs (by rfl) B.ab boot_abs (pa_Name (pv 0) pa_nil))) (by decide +kernel) rfl (by decide +kernel) (by show ∀ y ∈ (_ : List (Str × NameKind)), y.2 = NameKind.free → (defScope s__law_from).names.lookup y.1 = some .cell; decide +kernel)) (pa_Name (pv 1) pa_nil)))
      (pss_one (ps_ret (pe_op (op_catTKz (K := K)) (pe_slice (sl_tupA (K := K)) (pv 0) (po_some (pv 2)) po_none) (pe_slice (sl_tupA (K := K)) (pv 0) po_none (po_some (pv 2))))))), ?_⟩
    exact lfrom_reads (K := K) h1 h2 h3 h4 k
abbrev s__law_square : Stmt := top 28
theorem sc__law_square : FnScope ["_law_sheet_here", "_law_tie", "_law_spots", "_law_here", "_law_p", "_law_q", "_law_there", "_law_u", "_law_v"] ["_law_sheet_here", "_law_tie"] (defScope s__law_square) := ⟨rfl, rfl, rfl, by decide +kernel, rfl, by decide +kernel, by decide +kernel⟩
set_option maxHeartbeats 4000000 in
theorem ok_square {f : Addr} {fd : FuncData} (F : Fun K "_law_square" "_law_square" s__law_square f fd) (M : Txt mg) (G_law_from : Kn P w K mg base "_law_from" 1 ["_law_triangle", "_law_tie"] spLFrom) (B : Gb mg) : FnOk P w K mg base CX0 2 f fd ["_law_sheet_here", "_law_tie"] spSquare := by
  have sc := sc__law_square
  refine F.ok sc (fun vs H Q E h => ?_) (fun cdv A outer s H vs Q E hr h => ?_)
  · obtain ⟨b, xs, S, kk, rfl, _⟩ := h
    rfl
  · obtain ⟨b, xs, S, kk, rfl, h1, h2, h3, h4, k1, k2⟩ := h
    refine ⟨_, (pss_cons (ps_compG (xs := ["_law_at", "_law_triangle"]) (Nb := ["_law_sheet_here", "_law_tie", "_law_spots", "_law_here", "_law_p", "_law_q", "_law_there", "_law_u", "_law_v"]) (pg_name (i := 2) sc.nd rfl (Or.inl rfl)) rfl rfl (pi_enum rfl B.en (pa_Name (pv 0) pa_nil)) rfl (by show ∀ p ∈ (List.zip ["_law_sheet_here", "_law_tie", "_law_spots", "_law_here", "_law_p", "_law_q", "_law_there", "_law_u", "_law_v"] ["_law_sheet_here", "_law_tie", "_law_spots", "_law_here", "_law_p", "_law_q", "_law_there", "_law_u", "_law_v"] : List (Str × Str)), _; decide +kernel) (by decide +kernel) (fun cl C s₂ H₂ fp => (pg_tupK (K := K) (n := 2) rfl (pgs_cons (pg_name (i := 0) (by show List.Nodup (["_law_at", "_law_triangle", "_law_sheet_here", "_law_tie", "_law_spots", "_law_here", "_law_p", "_law_q", "_law_there", "_law_u", "_law_v"] : List Str); decide +kernel) rfl (Or.inl (lookup_relabel_local rfl)) (Or.inr (lookup_relabel_local rfl))) (pgs_cons (pg_name (i := 1) (by show List.Nodup (["_law_at", "_law_triangle", "_law_sheet_here", "_law_tie", "_law_spots", "_law_here", "_law_p", "_law_q", "_law_there", "_law_u", "_law_v"] : List Str); decide +kernel) rfl (Or.inl (lookup_relabel_local rfl)) (Or.inr (lookup_relabel_local rfl))) pgs_nil)))) (fun cl C s₂ H₂ fp => (pif_one (pt_cmpR (op_inK (K := K)) (pv 3) (pe_compG (xs := ["_law_side"]) (Nb := ["_law_at", "_law_triangle", "_law_sheet_here", "_law_tie", "_law_spots", "_law_here", "_law_p", "_law_q", "_law_there", "_law_u", "_law_v"]) rfl (pi_tupK (K := K) (pv 1)) rfl (by show ∀ p ∈ (List.zip ["_law_at", "_law_triangle", "_law_sheet_here", "_law_tie", "_law_spots", "_law_here", "_law_p", "_law_q", "_law_there", "_law_u", "_law_v"] ["_law_at", "_law_triangle", "_law_sheet_here", "_law_tie", "_law_spots", "_law_here", "_law_p", "_law_q", "_law_there", "_law_u", "_law_v"] : List (Str × Str)), _; decide +kernel) (by decide +kernel) (fun cl C s₂ H₂ fp => (pg_name (i := 0) (by show List.Nodup (["_law_side", "_law_at", "_law_triangle", "_law_sheet_here", "_law_tie", "_law_spots", "_law_here", "_law_p", "_law_q", "_law_there", "_law_u", "_law_v"] : List Str); decide +kernel) rfl (Or.inl (lookup_relabel_local rfl)) (Or.inr (lookup_relabel_local rfl)))) (fun cl C s₂ H₂ fp => pif_nil) (fun cl C s₂ H₂ fp => (pe_callB call_abs (by rfl) B.ab boot_abs (pa_Name (pv 0) pa_nil))) (by decide +kernel) rfl (by decide +kernel) (by refine fun y hy e => absurd e ((?_ : ∀ z ∈ (_ : List (Str × NameKind)), z.2 ≠ NameKind.free) y hy); decide +kernel)) rfl))) (fun cl C s₂ H₂ fp => (pv 0)) (by decide +kernel) rfl (by decide +kernel) (by show ∀ y ∈ (_ : List (Str × NameKind)), y.2 = NameKind.free → (defScope s__law_square).names.lookup y.1 = some .cell; decide +kernel))
      (pss_cons (ps_if (pt_cmpR op_ne (pe_callB (call_lenK (K := K)) (by rfl) M.len PySem.boot_len (pa_Name (pv 2) pa_nil)) pe_int (nomark _)) (pss_one (ps_ret pe_non)) pss_nil)
      (pss_cons (ps_asg (pe_callD G_law_from hr rfl (pa_Subscript (pe_ix (ix_listK (K := K)) (pv 0) (pe_ix (ix_listK (K := K)) (pv 2) pe_int (fun _ _ => rfl)) (fun _ _ => rfl)) (pa_Name (pv 1) pa_nil))) (pg_tup rfl (pgs_cons (pg_name (i := 3) sc.nd rfl (Or.inl rfl)) (pgs_cons (pg_name (i := 4) sc.nd rfl (Or.inl rfl)) (pgs_cons (pg_name (i := 5) sc.nd rfl (Or.inl rfl)) pgs_nil)))))
      (pss_cons (ps_asg (pe_callD G_law_from hr rfl (pa_Subscript (pe_ix (ix_listK (K := K)) (pv 0) (pe_ix (ix_listK (K := K)) (pv 2) pe_int (fun _ _ => rfl)) (fun _ _ => rfl)) (pa_Name (pv 1) pa_nil))) (pg_tup rfl (pgs_cons (pg_name (i := 6) sc.nd rfl (Or.inl rfl)) (pgs_cons (pg_name (i := 7) sc.nd rfl (Or.inl rfl)) (pgs_cons (pg_name (i := 8) sc.nd rfl (Or.inl rfl)) pgs_nil)))))
      (pss_cons (ps_if (pt_cmpR op_eq (pv 3) (pv 6) (nomark _)) (pss_one (ps_ret (pe_tup (pa_o2 (pv 2) (pe_tup (pa_o4 (pv 4) (pv 5) (pe_un un_neg (pv 8)) (pe_un un_neg (pv 7)) pa_nil)) pa_nil)))) pss_nil)
      (pss_one (ps_ret (pe_tup (pa_o2 (pv 2) (pe_tup (pa_o4 (pv 4) (pv 5) (pv 7) (pv 8) pa_nil)) pa_nil))))))))), ?_⟩
    exact square_reads (K := K) h1 h2 h3 h4 k1 k2
abbrev s__law_turned : Stmt := top 29
theorem sc__law_turned : FnScope ["_law_sheet_here", "_law_tie", "_law_spots", "_law_square_here", "_law_p", "_law_q", "_law_u", "_law_v", "_law_made"] ["_law_sheet_here", "_law_tie"] (defScope s__law_turned) := ⟨rfl, rfl, rfl, by decide +kernel, rfl, by decide +kernel, by decide +kernel⟩
set_option maxHeartbeats 4000000 in
theorem ok_lturned {f : Addr} {fd : FuncData} (F : Fun K "_law_turned" "_law_turned" s__law_turned f fd) (M : Txt mg) (G_law_square : Kn P w K mg base "_law_square" 2 ["_law_sheet_here", "_law_tie"] spSquare) : FnOk P w K mg base CX0 3 f fd ["_law_sheet_here", "_law_tie"] spLTurned := by
  have sc := sc__law_turned
  refine F.ok sc (fun vs H Q E h => ?_) (fun cdv A outer s H vs Q E hr h => ?_)
  · obtain ⟨b, xs, S, kk, i, p, j, r, t, u, P, Q2, U, W, rfl, _⟩ := h
    rfl
  · obtain ⟨b, xs, S, kk, i, p, j, r, t, u, P, Q2, U, W, rfl, h1, h2, h3, h4, h5, k⟩ := h
    refine ⟨_, (pss_cons (ps_asg (pe_callD G_law_square hr rfl (pa_Name (pv 0) (pa_Name (pv 1) pa_nil))) (pg_tup rfl (pgs_cons (pg_name (i := 2) sc.nd rfl (Or.inl rfl)) (pgs_cons (pg_name (i := 3) sc.nd rfl (Or.inl rfl)) pgs_nil))))
      (pss_cons (ps_asg (pv 3) (pg_tup rfl (pgs_cons (pg_name (i := 4) sc.nd rfl (Or.inl rfl)) (pgs_cons (pg_name (i := 5) sc.nd rfl (Or.inl rfl)) (pgs_cons (pg_name (i := 6) sc.nd rfl (Or.inl rfl)) (pgs_cons (pg_name (i := 7) sc.nd rfl (Or.inl rfl)) pgs_nil))))))
      (pss_cons (ps_set (i := 8) sc.nd rfl (Or.inl rfl) (pe_callTy call_list_of (by rfl) M.list boot_list (pa_Name (pv 0) pa_nil)))
      (pss_cons (ps_asg (pe_tup (pa_o3 (pv 5) (pv 6) (pe_un un_neg (pv 1)) pa_nil)) (pg_sub (pv 8) (pe_ix (ix_listK (K := K)) (pv 2) pe_int (fun _ _ => rfl)) set_list))
      (pss_cons (ps_asg (pe_tup (pa_o3 (pv 7) (pv 4) (pv 1) pa_nil)) (pg_sub (pv 8) (pe_ix (ix_listK (K := K)) (pv 2) pe_int (fun _ _ => rfl)) set_list))
      (pss_one (ps_ret (pv 8)))))))), ?_⟩
    exact lturned_reads (K := K) h1 h2 h3 h4 h5 k
abbrev s__law_carried : Stmt := top 30
theorem sc__law_carried : FnScope ["_law_sheet_here", "_law_row", "_law_tie", "_law_p", "_law_q", "_law_u", "_law_v"] ["_law_sheet_here", "_law_row", "_law_tie"] (defScope s__law_carried) := ⟨rfl, rfl, rfl, by decide +kernel, rfl, by decide +kernel, by decide +kernel⟩
set_option maxHeartbeats 4000000 in
theorem ok_carried {f : Addr} {fd : FuncData} (F : Fun K "_law_carried" "_law_carried" s__law_carried f fd) (M : Txt mg) (G_law_square : Kn P w K mg base "_law_square" 2 ["_law_sheet_here", "_law_tie"] spSquare) (B : Gb mg) : FnOk P w K mg base CX0 3 f fd ["_law_sheet_here", "_law_row", "_law_tie"] spCarried := by
  have sc := sc__law_carried
  refine F.ok sc (fun vs H Q E h => ?_) (fun cdv A outer s H vs Q E hr h => ?_)
  · obtain ⟨b, c, xs, S, r, kk, i, p, j, q, t, u, P, Q2, U, W, rfl, _⟩ := h
    rfl
  · obtain ⟨b, c, xs, S, r, kk, i, p, j, q, t, u, P, Q2, U, W, rfl, h1, h2, h3, h4, h5, h6, h7, k⟩ := h
    refine ⟨_, (pss_cons (ps_asg (pe_compG (xs := ["_law_side"]) (Nb := ["_law_sheet_here", "_law_row", "_law_tie", "_law_p", "_law_q", "_law_u", "_law_v"]) rfl (pi_tup (pe_ix ix_tup (pe_callD G_law_square hr rfl (pa_Name (pv 0) (pa_Name (pv 2) pa_nil))) pe_int (fun _ _ => rfl))) rfl (by show ∀ p ∈ (List.zip ["_law_sheet_here", "_law_row", "_law_tie", "_law_p", "_law_q", "_law_u", "_law_v"] ["_law_sheet_here", "_law_row", "_law_tie", "_law_p", "_law_q", "_law_u", "_law_v"] : List (Str × Str)), _; decide +kernel) (by decide +kernel) (fun cl C s₂ H₂ fp => (pg_name (i := 0) (by show List.Nodup (["_law_side", "_law_sheet_here", "_law_row", "_law_tie", "_law_p", "_law_q", "_law_u", "_law_v"] : List Str); decide +kernel) rfl (Or.inl (lookup_relabel_local rfl)) (Or.inr (lookup_relabel_local rfl)))) (fun cl C s₂ H₂ fp => pif_nil) (fun cl C s₂ H₂ fp => (pe_ix (ix_listK (K := K)) (pv 2) (pe_op op_sub (pe_callB call_abs (by rfl) B.ab boot_abs (pa_Name (pv 0) pa_nil)) pe_int) (fun _ _ => rfl))) (by decide +kernel) rfl (by decide +kernel) (by show ∀ y ∈ (_ : List (Str × NameKind)), y.2 = NameKind.free → (defScope s__law_carried).names.lookup y.1 = some .cell; decide +kernel)) (pg_lst rfl (pgs_cons (pg_name (i := 3) sc.nd rfl (Or.inl rfl)) (pgs_cons (pg_name (i := 4) sc.nd rfl (Or.inl rfl)) (pgs_cons (pg_name (i := 5) sc.nd rfl (Or.inl rfl)) (pgs_cons (pg_name (i := 6) sc.nd rfl (Or.inl rfl)) pgs_nil))))))
      (pss_one (ps_ret (pe_op op_cat (pe_op op_cat (pe_slice sl_list (pv 1) po_none (po_some (pe_op op_sub (pv 2) pe_int))) (pe_lst (pa_BinOp (pe_op op_sub (pe_callB (call_max2 rfl) (by rfl) M.max boot_max (pa_BinOp (pe_op op_add (pv 3) (pv 5)) (pa_BinOp (pe_op op_add (pv 4) (pv 6)) pa_nil))) (pe_ix (ix_listK (K := K)) (pv 1) (pe_op op_sub (pv 2) pe_int) (fun _ _ => rfl))) pa_nil))) (pe_slice sl_list (pv 1) (po_some (pv 2)) po_none))))), ?_⟩
    exact carried_reads (K := K) h1 h2 h3 h4 h5 h6 h7 k
abbrev s__law_shape : Stmt := top 34
theorem sc__law_shape : FnScope ["_law_sheet_here", "_law_flipped", "_law_found", "_law_triangle", "_law_sides", "_law_ways", "_law_k"] ["_law_sheet_here", "_law_flipped"] (defScope s__law_shape) := ⟨rfl, rfl, rfl, by decide +kernel, rfl, by decide +kernel, by decide +kernel⟩
set_option maxHeartbeats 4000000 in
theorem ok_shape {f : Addr} {fd : FuncData} (F : Fun K "_law_shape" "_law_shape" s__law_shape f fd) (M : Txt mg) (B : Gb mg) : FnOk P w K mg base CX0 1 f fd ["_law_sheet_here", "_law_flipped"] spShape := by
  have sc := sc__law_shape
  refine F.ok sc (fun vs H Q E h => ?_) (fun cdv A outer s H vs Q E hr h => ?_)
  · obtain ⟨b, ff, xs, S, rfl, _⟩ := h
    rfl
  · obtain ⟨b, ff, xs, S, rfl, h1, h2, h3, k⟩ := h
    refine ⟨_, (pss_cons (ps_set (i := 2) sc.nd rfl (Or.inl rfl) (pe_lst pa_nil))
      (pss_cons (ps_for PassesOwn.never rfl (pi_list (pv 0)) (pg_name (i := 3) sc.nd rfl (Or.inl rfl))
      (pss_cons (ps_compG (xs := ["_law_side"]) (Nb := ["_law_sheet_here", "_law_flipped", "_law_found", "_law_triangle", "_law_sides", "_law_ways", "_law_k"]) (pg_name (i := 4) sc.nd rfl (Or.inl rfl)) rfl rfl (pi_tup (pv 3)) rfl (by show ∀ p ∈ (List.zip ["_law_sheet_here", "_law_flipped", "_law_found", "_law_triangle", "_law_sides", "_law_ways", "_law_k"] ["_law_sheet_here", "_law_flipped", "_law_found", "_law_triangle", "_law_sides", "_law_ways", "_law_k"] : List (Str × Str)), _; decide +kernel) (by decide +kernel) (fun cl C s₂ H₂ fp => (pg_name (i := 0) (by show List.Nodup (["_law_side", "_law_sheet_here", "_law_flipped", "_law_found", "_law_triangle", "_law_sides", "_law_ways", "_law_k"] : List Str); decide +kernel) rfl (Or.inl (lookup_relabel_local rfl)) (Or.inr (lookup_relabel_local rfl)))) (fun cl C s₂ H₂ fp => pif_nil) (fun cl C s₂ H₂ fp => (pe_op op_mul (pv 0) (pe_op op_sub pe_int (pe_op op_mul pe_int (pe_callTy call_int1 (by rfl) M.int boot_int (pa_cons (pe_cmpR op_eq (pe_callB call_abs (by rfl) B.ab boot_abs (pa_Name (pv 0) pa_nil)) (pv 2) (nomark _)) pa_nil)))))) (by decide +kernel) rfl (by decide +kernel) (by show ∀ y ∈ (_ : List (Str × NameKind)), y.2 = NameKind.free → (defScope s__law_shape).names.lookup y.1 = some .cell; decide +kernel))
      (pss_cons (ps_set (i := 5) sc.nd rfl (Or.inl rfl) (pe_lst pa_nil))
      (pss_cons (ps_for PassesOwn.never rfl (pi_range1 rfl M.range (pa_Constant pe_int pa_nil)) (pg_name (i := 6) sc.nd rfl (Or.inl rfl))
      (pss_cons (ps_expr (pe_bm PySem.F.plainAttrs_list PySem.F.slot_list_append PySem.F.type_list_append mt_append (pv 5) (pa_BinOp (pe_op op_cat (pe_slice (sl_listK (K := K)) (pv 4) (po_some (pv 6)) po_none) (pe_slice (sl_listK (K := K)) (pv 4) po_none (po_some (pv 6)))) pa_nil)))
      (pss_one (ps_expr (pe_bm PySem.F.plainAttrs_list PySem.F.slot_list_append PySem.F.type_list_append mt_append (pv 5) (pa_cons (pe_compG (xs := ["_law_side"]) (Nb := ["_law_sheet_here", "_law_flipped", "_law_found", "_law_triangle", "_law_sides", "_law_ways", "_law_k"]) rfl (pi_revK (K := K) (pe_op op_cat (pe_slice (sl_listK (K := K)) (pv 4) (po_some (pv 6)) po_none) (pe_slice (sl_listK (K := K)) (pv 4) po_none (po_some (pv 6)))) rfl B.rv) rfl (by show ∀ p ∈ (List.zip ["_law_sheet_here", "_law_flipped", "_law_found", "_law_triangle", "_law_sides", "_law_ways", "_law_k"] ["_law_sheet_here", "_law_flipped", "_law_found", "_law_triangle", "_law_sides", "_law_ways", "_law_k"] : List (Str × Str)), _; decide +kernel) (by decide +kernel) (fun cl C s₂ H₂ fp => (pg_name (i := 0) (by show List.Nodup (["_law_side", "_law_sheet_here", "_law_flipped", "_law_found", "_law_triangle", "_law_sides", "_law_ways", "_law_k"] : List Str); decide +kernel) rfl (Or.inl (lookup_relabel_local rfl)) (Or.inr (lookup_relabel_local rfl)))) (fun cl C s₂ H₂ fp => pif_nil) (fun cl C s₂ H₂ fp => (pe_un un_neg (pv 0))) (by decide +kernel) rfl (by decide +kernel) (by show ∀ y ∈ (_ : List (Str × NameKind)), y.2 = NameKind.free → (defScope s__law_shape).names.lookup y.1 = some .cell; decide +kernel)) pa_nil))))))
      (pss_one (ps_expr (pe_bm PySem.F.plainAttrs_list PySem.F.slot_list_append PySem.F.type_list_append mt_append (pv 2) (pa_Call (pe_callB (call_minLL false rfl hr) (by rfl) M.min boot_min (pa_Name (pv 5) pa_nil)) pa_nil))))))))
      (pss_one (ps_ret (pe_callB (call_sortedLL false hr) (by rfl) M.sorted boot_sorted (pa_Name (pv 2) pa_nil)))))), ?_⟩
    exact shape_reads (K := K) h1 h2 h3 k
abbrev s__law_refused : Stmt := top 35
theorem sc__law_refused : FnScope ["_law_sheet_here", "_law_row", "_law_tie", "e"] ["_law_sheet_here", "_law_row", "_law_tie"] (defScope s__law_refused) := ⟨rfl, rfl, rfl, by decide +kernel, rfl, by decide +kernel, by decide +kernel⟩
set_option maxHeartbeats 4000000 in
theorem ok_refused {f : Addr} {fd : FuncData} (F : Fun K "_law_refused" "_law_refused" s__law_refused f fd) (M : Txt mg) (Grow_turned : KnX P w K mg base "row_turned" 4 ["sheet", "row", "tie"] (spRowT c_NoTurn)) (Z : Exs K mg c_CordError c_NoTurn) : FnOk P w K mg base CX0 5 f fd ["_law_sheet_here", "_law_row", "_law_tie"] (spRefused c_NoTurn) := by
  have sc := sc__law_refused
  refine F.ok sc (fun vs H Q E h => ?_) (fun cdv A outer s H vs Q E hr h => ?_)
  · obtain ⟨b, c, xs, S, r, tie, rfl, _⟩ := h
    rfl
  · obtain ⟨b, c, xs, S, r, tie, rfl, h1, h2, h3, h4, h5, h6, k⟩ := h
    refine ⟨_, (pss_cons (ps_try (i := 3) sc.nd rfl rfl rfl rfl Z.m_CordError rfl Z.x_CordError (fun pins xe Ex px => (pss_one (ps_expr (pe_callX Grow_turned px hr rfl (pa_Name (PE.nox (pv 0)) (pa_Name (PE.nox (pv 1)) (pa_Name (PE.nox (pv 2)) pa_nil))))))) (fun C ea oe ho => (pss_one (ps_ret (pe_callB (call_isiX (K := K) ho) (by rfl) M.isinstance boot_isinstance (pa_Name (pv 3) (pa_Name (pe_glob (v := .ref _) rfl Z.m_NoTurn rfl) pa_nil)))))))
      (pss_one (ps_ret pe_bl))), ?_⟩
    exact refused_reads (K := K) Z.x_NoTurn Z.s_NoTurn_CordError h1 h2 h3 h4 h5 h6 k
end
end Toy
set_option Elab.async false
set_option linter.all false
set_option maxRecDepth 100000
set_option maxHeartbeats 1000000
namespace Toy
open PySem L2 PyProof.Rows
theorem most_of {r : Int} (r0 : 0 ≤ r) (r1 : r < 4) : ∃ m : Int, atI [V.int 5, V.int 5, V.int 5, V.int (10 ^ (59 : Int).toNat / 8)] r = some (V.int m) ∧ 0 < m ∧ Dgt m := by
  have hc : r = 0 ∨ r = 1 ∨ r = 2 ∨ r = 3 := by omega
  rcases hc with rfl | rfl | rfl | rfl
  · exact ⟨5, rfl, by decide, dg (by decide)⟩
  · exact ⟨5, rfl, by decide, dg (by decide)⟩
  · exact ⟨5, rfl, by decide, dg (by decide)⟩
  · exact ⟨10 ^ (59 : Int).toNat / 8, rfl, by decide +kernel, by unfold Dgt; decide +kernel⟩
def tLaw63 (K : PySem.W.Frag) (cN : Addr) : TS := tSeq (tAsg (tLst (tCons (tCall (spBig K) [] E0 (tCons (tVar 0) (tCons (tC (V.int 0)) tNil))) tNil)) (gName 1)) (tSeq (tAsg (tCall spSheet [] E0 (tCons (tVar 1) tNil)) (gName 2)) (tSeq (tAsg (tOp (rIxL K) (tLst (tCons (tC (V.int 5)) (tCons (tC (V.int 5)) (tCons (tC (V.int 5)) (tCons (tOp (rI CDivL fun i j => V.int (i / j)) (tOp (rI CPow fun i j => V.int (i ^ j.toNat)) (tC (V.int 10)) (tC (V.int 59))) (tC (V.int 8))) tNil))))) (tCall spDigit [] E0 (tCons (tVar 1) (tCons (tC (V.int 4)) tNil)))) (gName 3)) (tSeq (tAsg (tOp (rIxL K) (tLst (tCons (tCall spRings [] E0 (tCons (tVar 2) (tCons (tVar 1) (tCons (tVar 3) tNil)))) (tCons (tCall spRings [] E0 (tCons (tVar 2) (tCons (tVar 1) (tCons (tVar 3) tNil)))) tNil))) (tCall spDigit [] E0 (tCons (tVar 1) (tCons (tC (V.int 2)) tNil)))) (gName 4)) (tTail63 K cN))))
theorem law_reads {K : PySem.W.Frag} {H : Hp} {Q : VK} {Z : L2.St → Hp → Prop} {a cN : Addr} {ns : List Int} (hS : SqL K H a (ns.map V.int)) (k : ∀ H', Q (.bl true) H') :
    tLaw63 K cN { nx := Z, rt := Q } [some (.ref a), none, none, none, none, none, none, none, none, none] H := by
  refine ⟨_, rfl, a, ns, 0, rfl, hS, by decide, fun n H1 S1 => ⟨(by show 1 ≤ sizeLine; decide), fun d hd => ?_⟩⟩
  have R2 : Rest (upd H1 d (.lst [.int n])) d := ⟨n, upd_same⟩
  generalize upd H1 d (.lst [.int n]) = H2 at R2 ⊢
  refine ⟨_, rfl, d, rfl, R2, fun b xs S H3 bf hb tS oS R3 B3 => ?_⟩
  have nbd : b ≠ d := fun z => by
    obtain ⟨m, e⟩ := R2
    rw [z, e] at bf
    cases bf
  refine ⟨10, 59, rfl, rfl, ⟨by decide, by decide, by decide⟩, 10 ^ (59 : Int).toNat, 8, rfl, rfl, ⟨by decide, by decide⟩, (by show 4 ≤ sizeLine; decide), fun l hl => ?_⟩
  have nld := R3.ne hl
  have s4 := Same.nw (o := .lst [.int 5, .int 5, .int 5, .int (10 ^ (59 : Int).toNat / 8)]) (Same.refl H3) hl
  have fl : (upd H3 l (.lst [.int 5, .int 5, .int 5, .int (10 ^ (59 : Int).toNat / 8)])) l = some (.lst [.int 5, .int 5, .int 5, .int (10 ^ (59 : Int).toNat / 8)]) := upd_same
  show tCall spDigit [] E0 _ _ (upd H3 l (.lst [.int 5, .int 5, .int 5, .int (10 ^ (59 : Int).toNat / 8)])) _
  generalize upd H3 l (.lst [.int 5, .int 5, .int 5, .int (10 ^ (59 : Int).toNat / 8)]) = H4 at s4 fl ⊢
  have R4 := R3.same s4
  refine ⟨_, rfl, d, 4, rfl, R4, by decide, dg (by decide), fun r1 H5 r10 r11 R5 B5 => ?_⟩
  obtain ⟨m, em, m0, m1⟩ := most_of r10 r11
  refine ⟨l, _, _, _, rfl, rfl, SqL.of (B5 _ _ fl nld), em, ?_⟩
  have hb5 := B5 _ _ (s4 _ _ hb) nbd
  have tS5 := (tS.up s4.tups).up (But.tupsR B5 R4)
  refine ⟨_, rfl, _, rfl, _, rfl, b, d, m, xs, S, rfl, hb5, tS5, oS, R5, nbd, m0, m1, fun c2 r2 H7 B7 R7 cf2 hc2 ev2 => ?_⟩
  have hb7 := B7 _ _ hb5 nbd
  have tS7 := tS5.up (But.tupsR B7 R5)
  have ncd2 : c2 ≠ d := fun z => by obtain ⟨n, e⟩ := R5; rw [z, e] at cf2; cases cf2
  refine ⟨_, rfl, _, rfl, _, rfl, b, d, m, xs, S, rfl, hb7, tS7, oS, R7, nbd, m0, m1, fun c3 r3 H8 B8 R8 cf3 hc3 ev3 => ?_⟩
  have hb8 := B8 _ _ hb7 nbd
  have tS8 := tS7.up (But.tupsR B8 R7)
  have ncd3 : c3 ≠ d := fun z => by obtain ⟨n, e⟩ := R7; rw [z, e] at cf3; cases cf3
  have hc28 := B8 _ _ hc2 ncd2
  refine ⟨(by show 2 ≤ sizeLine; decide), fun g hg => ?_⟩
  have ngd := R8.ne hg
  have s9 := Same.nw (o := .lst [.ref c2, .ref c3]) (Same.refl H8) hg
  have fg : (upd H8 g (.lst [.ref c2, .ref c3])) g = some (.lst [.ref c2, .ref c3]) := upd_same
  generalize upd H8 g (.lst [.ref c2, .ref c3]) = H9 at s9 fg ⊢
  have R9 := R8.same s9
  refine ⟨_, rfl, d, 2, rfl, R9, by decide, dg (by decide), fun q HA q0 q1 RA BA => ?_⟩
  have hbA := BA _ _ (s9 _ _ hb8) nbd
  have tSA := (tS8.up s9.tups).up (But.tupsR BA R9)
  have hc2A := BA _ _ (s9 _ _ hc28) ncd2
  have hc3A := BA _ _ (s9 _ _ hc3) ncd3
  have fgA := BA _ _ fg ngd
  have hq : q = 0 ∨ q = 1 := by omega
  rcases hq with rfl | rfl
  · exact ⟨g, _, _, _, rfl, rfl, SqL.of fgA, rfl, tail63_reads (K := K) hbA tSA oS hc2A ev2 k⟩
  · exact ⟨g, _, _, _, rfl, rfl, SqL.of fgA, rfl, tail63_reads (K := K) hbA tSA oS hc3A ev3 k⟩
end Toy
set_option Elab.async false
set_option linter.all false
set_option maxRecDepth 100000
set_option maxHeartbeats 1000000
namespace Toy
open PySem L2 PyProof.Rows
section
variable {P : Program} {w : World} {K : PySem.W.Frag} {mg : Str → Option Value} {base : Heap} {c_CordError c_NoTurn : Addr}
def spLaw (K : PySem.W.Frag) : Sp := fun vs H Q _ => ∃ (a : Addr) (ns : List Int), vs = [.ref a] ∧ SqL K H a (ns.map V.int) ∧ ns.length ≤ 63 ∧ ∀ H', Q (.bl true) H'
abbrev s_law : Stmt := top 36
theorem sc_law : FnScope ["_law_script", "_law_rest", "_law_sheet_here", "_law_most", "_law_row", "_law_handed", "_law_tie", "_law_told", "_law_behind_it", "_law_again"] ["_law_script"] (defScope s_law) := ⟨rfl, rfl, rfl, by decide +kernel, rfl, by decide +kernel, by decide +kernel⟩
set_option maxHeartbeats 8000000 in
theorem ok_law {f : Addr} {fd : FuncData} (F : Fun K "law" "law" s_law f fd) (M : Txt mg) (G_law_big : Kn P w K mg base "_law_big" 2 ["_law_script", "_law_at"] (spBig K)) (G_law_sheet : Kn P w K mg base "_law_sheet" 2 ["_law_rest"] spSheet) (G_law_digit : Kn P w K mg base "_law_digit" 1 ["_law_rest", "_law_many"] spDigit) (G_law_rings : Kn P w K mg base "_law_rings" 4 ["_law_sheet_here", "_law_rest", "_law_most"] spRings) (G_law_wide_row : Kn P w K mg base "_law_wide_row" 4 ["_law_sheet_here", "_law_rest", "_law_most"] spRings) (G_law_square : Kn P w K mg base "_law_square" 2 ["_law_sheet_here", "_law_tie"] spSquare) (G_law_refused : Kn P w K mg base "_law_refused" 5 ["_law_sheet_here", "_law_row", "_law_tie"] (spRefused c_NoTurn)) (Grow_turned : KnX P w K mg base "row_turned" 4 ["sheet", "row", "tie"] (spRowT c_NoTurn)) (G_law_turned : Kn P w K mg base "_law_turned" 3 ["_law_sheet_here", "_law_tie"] spLTurned) (G_law_carried : Kn P w K mg base "_law_carried" 3 ["_law_sheet_here", "_law_row", "_law_tie"] spCarried) (Gis_row : Kn P w K mg base "is_row" 3 ["sheet", "thing"] spIsRow) (Gturned_tie : KnX P w K mg base "turned_tie" 4 ["sheet", "tie"] (spTurned c_NoTurn)) (G_law_shape : Kn P w K mg base "_law_shape" 1 ["_law_sheet_here", "_law_flipped"] spShape) : FnOk P w K mg base CX0 6 f fd ["_law_script"] (spLaw K) := by
  have sc := sc_law
  refine F.ok sc (fun vs H Q E h => ?_) (fun cdv A outer s H vs Q E hr h => ?_)
  · obtain ⟨a, ns, rfl, _⟩ := h
    rfl
  · obtain ⟨a, ns, rfl, hS, hl, k⟩ := h
    refine ⟨_, (pss_cons (ps_set (i := 1) sc.nd rfl (Or.inl rfl) (pe_lst (pa_Call (pe_callD G_law_big hr rfl (pa_Name (pv 0) (pa_Constant pe_int pa_nil))) pa_nil)))
      (pss_cons (ps_set (i := 2) sc.nd rfl (Or.inl rfl) (pe_callD G_law_sheet hr rfl (pa_Name (pv 1) pa_nil)))
      (pss_cons (ps_set (i := 3) sc.nd rfl (Or.inl rfl) (pe_ix (ix_listK (K := K)) (pe_lst (pa_o4 pe_int pe_int pe_int (pe_op op_fdivL (pe_op op_pow pe_int pe_int) pe_int) pa_nil)) (pe_callD G_law_digit hr rfl (pa_Name (pv 1) (pa_Constant pe_int pa_nil))) (fun _ _ => rfl)) sw_sub)
      (pss_cons (ps_set (i := 4) sc.nd rfl (Or.inl rfl) (pe_ix (ix_listK (K := K)) (pe_lst (pa_o2 (pe_callD G_law_rings hr rfl (pa_Name (pv 2) (pa_Name (pv 1) (pa_Name (pv 3) pa_nil)))) (pe_callD G_law_wide_row hr rfl (pa_Name (pv 2) (pa_Name (pv 1) (pa_Name (pv 3) pa_nil)))) pa_nil)) (pe_callD G_law_digit hr rfl (pa_Name (pv 1) (pa_Constant pe_int pa_nil))) (fun _ _ => rfl)) sw_sub)
      (pss_cons (ps_set (i := 5) sc.nd rfl (Or.inl rfl) (pe_lst (pa_o2 (pe_callTy call_list_of (by rfl) M.list boot_list (pa_Name (pv 2) pa_nil)) (pe_callTy call_list_of (by rfl) M.list boot_list (pa_Name (pv 4) pa_nil)) pa_nil)))
      (pss_cons (ps_for PassesOwn.never rfl (pi_range2 rfl M.range (pa_Constant pe_int (pa_BinOp (pe_op op_add (pe_callB (call_lenK (K := K)) (by rfl) M.len PySem.boot_len (pa_Name (pv 4) pa_nil)) pe_int) pa_nil))) (pg_name (i := 6) sc.nd rfl (Or.inl rfl))
      (pss_one (ps_if (pt_cmp (pc_isN (pe_callD G_law_square hr rfl (pa_Name (pv 2) (pa_Name (pv 6) pa_nil))))) (pss_one (ps_if (PW.pt (pw_or (pt_not (pt_val (pe_callD G_law_refused hr rfl (pa_Subscript (pe_ix (ix_listK (K := K)) (pv 5) pe_int (fun _ _ => rfl)) (pa_Subscript (pe_ix (ix_listK (K := K)) (pv 5) pe_int (fun _ _ => rfl)) (pa_Name (pv 6) pa_nil)))))) (pw_or1 (pt_cmpR (op_neD hr) (pv 5) (pe_lst (pa_o2 (pv 2) (pv 4) pa_nil)) (nomark _))))) (pss_one (ps_ret pe_bl)) pss_nil)) (pss_cons (ps_set (i := 7) sc.nd rfl (Or.inl rfl) (pe_callX Grow_turned passN hr rfl (pa_Subscript (pe_ix (ix_listK (K := K)) (pv 5) pe_int (fun _ _ => rfl)) (pa_Subscript (pe_ix (ix_listK (K := K)) (pv 5) pe_int (fun _ _ => rfl)) (pa_Name (pv 6) pa_nil)))))
      (pss_cons (ps_set (i := 8) sc.nd rfl (Or.inl rfl) (pe_callD G_law_turned hr rfl (pa_Name (pv 2) (pa_Name (pv 6) pa_nil))))
      (pss_cons (ps_if (PW.pt (pw_or (pt_not (pt_val (pe_callB (call_isinstK (T := "list") (K := K)) (by rfl) M.isinstance boot_isinstance (pa_Name (pv 7) (pa_Name (pe_bltn (v := .ty "list") rfl M.list boot_list rfl) pa_nil))))) (pw_or (pt_cmpR (op_neD hr) (pv 7) (pe_callD G_law_carried hr rfl (pa_Name (pv 2) (pa_Name (pv 4) (pa_Name (pv 6) pa_nil)))) (nomark _)) (pw_or1 (pt_cmpR (op_neD hr) (pv 5) (pe_lst (pa_o2 (pv 2) (pv 4) pa_nil)) (nomark _)))))) (pss_one (ps_ret pe_bl)) pss_nil)
      (pss_cons (ps_if (pt_cmpR op_isnotB (pe_callD Gis_row hr rfl (pa_Call (pe_callTy call_list_of (by rfl) M.list boot_list (pa_Name (pv 8) pa_nil)) (pa_Call (pe_callTy call_list_of (by rfl) M.list boot_list (pa_Name (pv 7) pa_nil)) pa_nil))) pe_bl (nomark _)) (pss_one (ps_ret pe_bl)) pss_nil)
      (pss_cons (ps_if (pt_cmpR (op_neD hr) (pe_callX Grow_turned passN hr rfl (pa_Call (pe_callTy call_list_of (by rfl) M.list boot_list (pa_Name (pv 8) pa_nil)) (pa_Call (pe_callTy call_list_of (by rfl) M.list boot_list (pa_Name (pv 7) pa_nil)) (pa_Name (pv 6) pa_nil)))) (pv 4) (nomark _)) (pss_one (ps_ret pe_bl)) pss_nil)
      (pss_cons (ps_set (i := 9) sc.nd rfl (Or.inl rfl) (pe_callX Gturned_tie passN hr rfl (pa_Call (pe_callX Gturned_tie passN hr rfl (pa_Call (pe_callTy call_list_of (by rfl) M.list boot_list (pa_Name (pv 2) pa_nil)) (pa_Name (pv 6) pa_nil))) (pa_Name (pv 6) pa_nil))))
      (pss_cons (ps_if (PW.pt (pw_and (pt_cmpR (op_neD hr) (pe_callD G_law_shape hr rfl (pa_Name (pv 9) (pa_Constant pe_int pa_nil))) (pe_callD G_law_shape hr rfl (pa_Name (pv 2) (pa_Constant pe_int pa_nil))) (nomark _)) (pw_and1 (pt_cmpR (op_neD hr) (pe_callD G_law_shape hr rfl (pa_Name (pv 9) (pa_Name (pv 6) pa_nil))) (pe_callD G_law_shape hr rfl (pa_Name (pv 2) (pa_Constant pe_int pa_nil))) (nomark _))))) (pss_one (ps_ret pe_bl)) pss_nil)
      (pss_one (ps_expr (pe_bm PySem.F.plainAttrs_list PySem.F.slot_list_append PySem.F.type_list_append mt_append (pv 7) (pa_Constant pe_int pa_nil))))))))))))))
      (pss_one (ps_ret (pe_and (pe_callD G_law_refused hr rfl (pa_Subscript (pe_ix (ix_listK (K := K)) (pv 5) pe_int (fun _ _ => rfl)) (pa_Subscript (pe_ix (ix_listK (K := K)) (pv 5) pe_int (fun _ _ => rfl)) (pa_Constant pe_int pa_nil)))) (pe_one (pe_callD G_law_refused hr rfl (pa_Subscript (pe_ix (ix_listK (K := K)) (pv 5) pe_int (fun _ _ => rfl)) (pa_Subscript (pe_ix (ix_listK (K := K)) (pv 5) pe_int (fun _ _ => rfl)) (pa_BinOp (pe_op op_add (pe_callB (call_lenK (K := K)) (by rfl) M.len PySem.boot_len (pa_Name (pv 4) pa_nil)) pe_int) pa_nil)))))))))))))), ?_⟩
    exact law_reads (cN := c_NoTurn) hS k
end
theorem all_mk {l : PySem.W.OpenLaw} {w : World} {K : PySem.W.Frag} {h : Heap} {mg : Str → Option Value} {fa f0 f1 f2 f3 f4 f5 f6 f7 f8 f9 f10 f11 f12 f13 f14 f15 f16 f17 f18 f19 f20 f21 f22 f23 f24 f25 f26 f27 f28 : Addr} {c_CordError c_NoTurn : Addr} (X : K.In h) (G : h.Ns mainGlobals mg) (hfa : mg "law" = some (.ref fa))
    {od0 an0 od1 an1 od2 an2 od3 an3 od4 an4 od5 an5 od6 an6 od7 an7 od8 an8 od9 an9 od10 an10 od11 an11 od12 an12 od13 an13 od14 an14 od15 an15 od16 an16 od17 an17 od18 an18 od19 an19 od20 an20 od21 an21 od22 an22 od23 an23 od24 an24 od25 an25 od26 an26 od27 an27 od28 an28 : Option Addr} {sl0 sl1 sl2 sl3 sl4 sl5 sl6 sl7 sl8 sl9 sl10 sl11 sl12 sl13 sl14 sl15 sl16 sl17 sl18 sl19 sl20 sl21 sl22 sl23 sl24 sl25 sl26 sl27 sl28 : Array (Option Value)} {oc0 kV0 dc0 pm0 cd0 ct0 oc1 kV1 dc1 pm1 cd1 ct1 oc2 kV2 dc2 pm2 cd2 ct2 oc3 kV3 dc3 pm3 cd3 ct3 oc4 kV4 dc4 pm4 cd4 ct4 oc5 kV5 dc5 pm5 cd5 ct5 oc6 kV6 dc6 pm6 cd6 ct6 oc7 kV7 dc7 pm7 cd7 ct7 oc8 kV8 dc8 pm8 cd8 ct8 oc9 kV9 dc9 pm9 cd9 ct9 oc10 kV10 dc10 pm10 cd10 ct10 oc11 kV11 dc11 pm11 cd11 ct11 oc12 kV12 dc12 pm12 cd12 ct12 oc13 kV13 dc13 pm13 cd13 ct13 oc14 kV14 dc14 pm14 cd14 ct14 oc15 kV15 dc15 pm15 cd15 ct15 oc16 kV16 dc16 pm16 cd16 ct16 oc17 kV17 dc17 pm17 cd17 ct17 oc18 kV18 dc18 pm18 cd18 ct18 oc19 kV19 dc19 pm19 cd19 ct19 oc20 kV20 dc20 pm20 cd20 ct20 oc21 kV21 dc21 pm21 cd21 ct21 oc22 kV22 dc22 pm22 cd22 ct22 oc23 kV23 dc23 pm23 cd23 ct23 oc24 kV24 dc24 pm24 cd24 ct24 oc25 kV25 dc25 pm25 cd25 ct25 oc26 kV26 dc26 pm26 cd26 ct26 oc27 kV27 dc27 pm27 cd27 ct27 oc28 kV28 dc28 pm28 cd28 ct28 : Value}
    (a0 : PySem.W.nsIn K mainGlobals "is_whole" = some (some (.ref f0))) (l0 : K.lookup f0 = some ⟨oc0, od0, .func (PySem.W.fnOf "is_whole" "is_whole" (defArgs s_is_whole) (defBody s_is_whole) (defScope s_is_whole) .none kV0 dc0 pm0 an0 cd0 ct0), sl0⟩) (c0 : PySem.W.codeIn K cd0 "is_whole" = true) (k0 : PySem.W.keepIn K (.ref f0) = true)
    (a1 : PySem.W.nsIn K mainGlobals "is_whole_from" = some (some (.ref f1))) (l1 : K.lookup f1 = some ⟨oc1, od1, .func (PySem.W.fnOf "is_whole_from" "is_whole_from" (defArgs s_is_whole_from) (defBody s_is_whole_from) (defScope s_is_whole_from) .none kV1 dc1 pm1 an1 cd1 ct1), sl1⟩) (c1 : PySem.W.codeIn K cd1 "is_whole_from" = true) (k1 : PySem.W.keepIn K (.ref f1) = true)
    (a2 : PySem.W.nsIn K mainGlobals "many_ties" = some (some (.ref f2))) (l2 : K.lookup f2 = some ⟨oc2, od2, .func (PySem.W.fnOf "many_ties" "many_ties" (defArgs s_many_ties) (defBody s_many_ties) (defScope s_many_ties) .none kV2 dc2 pm2 an2 cd2 ct2), sl2⟩) (c2 : PySem.W.codeIn K cd2 "many_ties" = true) (k2 : PySem.W.keepIn K (.ref f2) = true)
    (a3 : PySem.W.nsIn K mainGlobals "glued_sides" = some (some (.ref f3))) (l3 : K.lookup f3 = some ⟨oc3, od3, .func (PySem.W.fnOf "glued_sides" "glued_sides" (defArgs s_glued_sides) (defBody s_glued_sides) (defScope s_glued_sides) .none kV3 dc3 pm3 an3 cd3 ct3), sl3⟩) (c3 : PySem.W.codeIn K cd3 "glued_sides" = true) (k3 : PySem.W.keepIn K (.ref f3) = true)
    (a4 : PySem.W.nsIn K mainGlobals "sides_round" = some (some (.ref f4))) (l4 : K.lookup f4 = some ⟨oc4, od4, .func (PySem.W.fnOf "sides_round" "sides_round" (defArgs s_sides_round) (defBody s_sides_round) (defScope s_sides_round) .none kV4 dc4 pm4 an4 cd4 ct4), sl4⟩) (c4 : PySem.W.codeIn K cd4 "sides_round" = true) (k4 : PySem.W.keepIn K (.ref f4) = true)
    (a5 : PySem.W.nsIn K mainGlobals "told_from" = some (some (.ref f5))) (l5 : K.lookup f5 = some ⟨oc5, od5, .func (PySem.W.fnOf "told_from" "told_from" (defArgs s_told_from) (defBody s_told_from) (defScope s_told_from) .none kV5 dc5 pm5 an5 cd5 ct5), sl5⟩) (c5 : PySem.W.codeIn K cd5 "told_from" = true) (k5 : PySem.W.keepIn K (.ref f5) = true)
    (a6 : PySem.W.nsIn K mainGlobals "turned_tie" = some (some (.ref f6))) (l6 : K.lookup f6 = some ⟨oc6, od6, .func (PySem.W.fnOf "turned_tie" "turned_tie" (defArgs s_turned_tie) (defBody s_turned_tie) (defScope s_turned_tie) .none kV6 dc6 pm6 an6 cd6 ct6), sl6⟩) (c6 : PySem.W.codeIn K cd6 "turned_tie" = true) (k6 : PySem.W.keepIn K (.ref f6) = true)
    (a7 : PySem.W.nsIn K mainGlobals "row_turned" = some (some (.ref f7))) (l7 : K.lookup f7 = some ⟨oc7, od7, .func (PySem.W.fnOf "row_turned" "row_turned" (defArgs s_row_turned) (defBody s_row_turned) (defScope s_row_turned) .none kV7 dc7 pm7 an7 cd7 ct7), sl7⟩) (c7 : PySem.W.codeIn K cd7 "row_turned" = true) (k7 : PySem.W.keepIn K (.ref f7) = true)
    (a8 : PySem.W.nsIn K mainGlobals "crossings" = some (some (.ref f8))) (l8 : K.lookup f8 = some ⟨oc8, od8, .func (PySem.W.fnOf "crossings" "crossings" (defArgs s_crossings) (defBody s_crossings) (defScope s_crossings) .none kV8 dc8 pm8 an8 cd8 ct8), sl8⟩) (c8 : PySem.W.codeIn K cd8 "crossings" = true) (k8 : PySem.W.keepIn K (.ref f8) = true)
    (a9 : PySem.W.nsIn K mainGlobals "may_cross" = some (some (.ref f9))) (l9 : K.lookup f9 = some ⟨oc9, od9, .func (PySem.W.fnOf "may_cross" "may_cross" (defArgs s_may_cross) (defBody s_may_cross) (defScope s_may_cross) .none kV9 dc9 pm9 an9 cd9 ct9), sl9⟩) (c9 : PySem.W.codeIn K cd9 "may_cross" = true) (k9 : PySem.W.keepIn K (.ref f9) = true)
    (a10 : PySem.W.nsIn K mainGlobals "is_row" = some (some (.ref f10))) (l10 : K.lookup f10 = some ⟨oc10, od10, .func (PySem.W.fnOf "is_row" "is_row" (defArgs s_is_row) (defBody s_is_row) (defScope s_is_row) .none kV10 dc10 pm10 an10 cd10 ct10), sl10⟩) (c10 : PySem.W.codeIn K cd10 "is_row" = true) (k10 : PySem.W.keepIn K (.ref f10) = true)
    (a11 : PySem.W.nsIn K mainGlobals "_law_cell_at" = some (some (.ref f11))) (l11 : K.lookup f11 = some ⟨oc11, od11, .func (PySem.W.fnOf "_law_cell_at" "_law_cell_at" (defArgs s__law_cell_at) (defBody s__law_cell_at) (defScope s__law_cell_at) .none kV11 dc11 pm11 an11 cd11 ct11), sl11⟩) (c11 : PySem.W.codeIn K cd11 "_law_cell_at" = true) (k11 : PySem.W.keepIn K (.ref f11) = true)
    (a12 : PySem.W.nsIn K mainGlobals "_law_big" = some (some (.ref f12))) (l12 : K.lookup f12 = some ⟨oc12, od12, .func (PySem.W.fnOf "_law_big" "_law_big" (defArgs s__law_big) (defBody s__law_big) (defScope s__law_big) .none kV12 dc12 pm12 an12 cd12 ct12), sl12⟩) (c12 : PySem.W.codeIn K cd12 "_law_big" = true) (k12 : PySem.W.keepIn K (.ref f12) = true)
    (a13 : PySem.W.nsIn K mainGlobals "_law_digit" = some (some (.ref f13))) (l13 : K.lookup f13 = some ⟨oc13, od13, .func (PySem.W.fnOf "_law_digit" "_law_digit" (defArgs s__law_digit) (defBody s__law_digit) (defScope s__law_digit) .none kV13 dc13 pm13 an13 cd13 ct13), sl13⟩) (c13 : PySem.W.codeIn K cd13 "_law_digit" = true) (k13 : PySem.W.keepIn K (.ref f13) = true)
    (a14 : PySem.W.nsIn K mainGlobals "_law_sheet" = some (some (.ref f14))) (l14 : K.lookup f14 = some ⟨oc14, od14, .func (PySem.W.fnOf "_law_sheet" "_law_sheet" (defArgs s__law_sheet) (defBody s__law_sheet) (defScope s__law_sheet) .none kV14 dc14 pm14 an14 cd14 ct14), sl14⟩) (c14 : PySem.W.codeIn K cd14 "_law_sheet" = true) (k14 : PySem.W.keepIn K (.ref f14) = true)
    (a15 : PySem.W.nsIn K mainGlobals "_law_heaps" = some (some (.ref f15))) (l15 : K.lookup f15 = some ⟨oc15, od15, .func (PySem.W.fnOf "_law_heaps" "_law_heaps" (defArgs s__law_heaps) (defBody s__law_heaps) (defScope s__law_heaps) .none kV15 dc15 pm15 an15 cd15 ct15), sl15⟩) (c15 : PySem.W.codeIn K cd15 "_law_heaps" = true) (k15 : PySem.W.keepIn K (.ref f15) = true)
    (a16 : PySem.W.nsIn K mainGlobals "_law_end" = some (some (.ref f16))) (l16 : K.lookup f16 = some ⟨oc16, od16, .func (PySem.W.fnOf "_law_end" "_law_end" (defArgs s__law_end) (defBody s__law_end) (defScope s__law_end) .none kV16 dc16 pm16 an16 cd16 ct16), sl16⟩) (c16 : PySem.W.codeIn K cd16 "_law_end" = true) (k16 : PySem.W.keepIn K (.ref f16) = true)
    (a17 : PySem.W.nsIn K mainGlobals "_law_meets" = some (some (.ref f17))) (l17 : K.lookup f17 = some ⟨oc17, od17, .func (PySem.W.fnOf "_law_meets" "_law_meets" (defArgs s__law_meets) (defBody s__law_meets) (defScope s__law_meets) .none kV17 dc17 pm17 an17 cd17 ct17), sl17⟩) (c17 : PySem.W.codeIn K cd17 "_law_meets" = true) (k17 : PySem.W.keepIn K (.ref f17) = true)
    (a18 : PySem.W.nsIn K mainGlobals "_law_points_of" = some (some (.ref f18))) (l18 : K.lookup f18 = some ⟨oc18, od18, .func (PySem.W.fnOf "_law_points_of" "_law_points_of" (defArgs s__law_points_of) (defBody s__law_points_of) (defScope s__law_points_of) .none kV18 dc18 pm18 an18 cd18 ct18), sl18⟩) (c18 : PySem.W.codeIn K cd18 "_law_points_of" = true) (k18 : PySem.W.keepIn K (.ref f18) = true)
    (a19 : PySem.W.nsIn K mainGlobals "_law_from" = some (some (.ref f19))) (l19 : K.lookup f19 = some ⟨oc19, od19, .func (PySem.W.fnOf "_law_from" "_law_from" (defArgs s__law_from) (defBody s__law_from) (defScope s__law_from) .none kV19 dc19 pm19 an19 cd19 ct19), sl19⟩) (c19 : PySem.W.codeIn K cd19 "_law_from" = true) (k19 : PySem.W.keepIn K (.ref f19) = true)
    (a20 : PySem.W.nsIn K mainGlobals "_law_square" = some (some (.ref f20))) (l20 : K.lookup f20 = some ⟨oc20, od20, .func (PySem.W.fnOf "_law_square" "_law_square" (defArgs s__law_square) (defBody s__law_square) (defScope s__law_square) .none kV20 dc20 pm20 an20 cd20 ct20), sl20⟩) (c20 : PySem.W.codeIn K cd20 "_law_square" = true) (k20 : PySem.W.keepIn K (.ref f20) = true)
    (a21 : PySem.W.nsIn K mainGlobals "_law_turned" = some (some (.ref f21))) (l21 : K.lookup f21 = some ⟨oc21, od21, .func (PySem.W.fnOf "_law_turned" "_law_turned" (defArgs s__law_turned) (defBody s__law_turned) (defScope s__law_turned) .none kV21 dc21 pm21 an21 cd21 ct21), sl21⟩) (c21 : PySem.W.codeIn K cd21 "_law_turned" = true) (k21 : PySem.W.keepIn K (.ref f21) = true)
    (a22 : PySem.W.nsIn K mainGlobals "_law_carried" = some (some (.ref f22))) (l22 : K.lookup f22 = some ⟨oc22, od22, .func (PySem.W.fnOf "_law_carried" "_law_carried" (defArgs s__law_carried) (defBody s__law_carried) (defScope s__law_carried) .none kV22 dc22 pm22 an22 cd22 ct22), sl22⟩) (c22 : PySem.W.codeIn K cd22 "_law_carried" = true) (k22 : PySem.W.keepIn K (.ref f22) = true)
    (a23 : PySem.W.nsIn K mainGlobals "_law_even_ones" = some (some (.ref f23))) (l23 : K.lookup f23 = some ⟨oc23, od23, .func (PySem.W.fnOf "_law_even_ones" "_law_even_ones" (defArgs s__law_even_ones) (defBody s__law_even_ones) (defScope s__law_even_ones) .none kV23 dc23 pm23 an23 cd23 ct23), sl23⟩) (c23 : PySem.W.codeIn K cd23 "_law_even_ones" = true) (k23 : PySem.W.keepIn K (.ref f23) = true)
    (a24 : PySem.W.nsIn K mainGlobals "_law_wide_row" = some (some (.ref f24))) (l24 : K.lookup f24 = some ⟨oc24, od24, .func (PySem.W.fnOf "_law_wide_row" "_law_wide_row" (defArgs s__law_wide_row) (defBody s__law_wide_row) (defScope s__law_wide_row) .none kV24 dc24 pm24 an24 cd24 ct24), sl24⟩) (c24 : PySem.W.codeIn K cd24 "_law_wide_row" = true) (k24 : PySem.W.keepIn K (.ref f24) = true)
    (a25 : PySem.W.nsIn K mainGlobals "_law_rings" = some (some (.ref f25))) (l25 : K.lookup f25 = some ⟨oc25, od25, .func (PySem.W.fnOf "_law_rings" "_law_rings" (defArgs s__law_rings) (defBody s__law_rings) (defScope s__law_rings) .none kV25 dc25 pm25 an25 cd25 ct25), sl25⟩) (c25 : PySem.W.codeIn K cd25 "_law_rings" = true) (k25 : PySem.W.keepIn K (.ref f25) = true)
    (a26 : PySem.W.nsIn K mainGlobals "_law_shape" = some (some (.ref f26))) (l26 : K.lookup f26 = some ⟨oc26, od26, .func (PySem.W.fnOf "_law_shape" "_law_shape" (defArgs s__law_shape) (defBody s__law_shape) (defScope s__law_shape) .none kV26 dc26 pm26 an26 cd26 ct26), sl26⟩) (c26 : PySem.W.codeIn K cd26 "_law_shape" = true) (k26 : PySem.W.keepIn K (.ref f26) = true)
    (a27 : PySem.W.nsIn K mainGlobals "_law_refused" = some (some (.ref f27))) (l27 : K.lookup f27 = some ⟨oc27, od27, .func (PySem.W.fnOf "_law_refused" "_law_refused" (defArgs s__law_refused) (defBody s__law_refused) (defScope s__law_refused) .none kV27 dc27 pm27 an27 cd27 ct27), sl27⟩) (c27 : PySem.W.codeIn K cd27 "_law_refused" = true) (k27 : PySem.W.keepIn K (.ref f27) = true)
    (a28 : PySem.W.nsIn K mainGlobals "law" = some (some (.ref f28))) (l28 : K.lookup f28 = some ⟨oc28, od28, .func (PySem.W.fnOf "law" "law" (defArgs s_law) (defBody s_law) (defScope s_law) .none kV28 dc28 pm28 an28 cd28 ct28), sl28⟩) (c28 : PySem.W.codeIn K cd28 "law" = true) (k28 : PySem.W.keepIn K (.ref f28) = true)
    (n_CordError : PySem.W.nsIn K mainGlobals "CordError" = some (some (.ref c_CordError)))
    (xa_CordError : PySem.W.findIn K (.ref c_CordError) "__getattribute__" = some (some (.builtin "BaseException.__getattribute__"))) (xb_CordError : PySem.W.findIn K (.ref c_CordError) "__getattr__" = some none) (xc_CordError : PySem.W.findIn K (.ref c_CordError) "__class__" = some (some (.builtin "object.__class__"))) (xd_CordError : PySem.W.subIn K (.ref c_CordError) (.type "BaseException") = some true) (xe_CordError : PySem.W.subIn K (.ref c_CordError) (.type "object") = some true) (xf_CordError : PySem.W.typeIn K (.ref c_CordError) = some (.type "type")) (xg_CordError : PySem.W.isClsIn K c_CordError = true) (xh_CordError : PySem.W.subIn K (.ref c_CordError) (.ref c_CordError) = some true)
    (n_NoTurn : PySem.W.nsIn K mainGlobals "NoTurn" = some (some (.ref c_NoTurn)))
    (xa_NoTurn : PySem.W.findIn K (.ref c_NoTurn) "__getattribute__" = some (some (.builtin "BaseException.__getattribute__"))) (xb_NoTurn : PySem.W.findIn K (.ref c_NoTurn) "__getattr__" = some none) (xc_NoTurn : PySem.W.findIn K (.ref c_NoTurn) "__class__" = some (some (.builtin "object.__class__"))) (xd_NoTurn : PySem.W.subIn K (.ref c_NoTurn) (.type "BaseException") = some true) (xe_NoTurn : PySem.W.subIn K (.ref c_NoTurn) (.type "object") = some true) (xf_NoTurn : PySem.W.typeIn K (.ref c_NoTurn) = some (.type "type")) (xg_NoTurn : PySem.W.isClsIn K c_NoTurn = true) (xh_NoTurn : PySem.W.subIn K (.ref c_NoTurn) (.ref c_NoTurn) = some true)
    (e_NoTurn : PySem.W.excIn K c_NoTurn bmV "ValueError.__new__" = true) (v_NoTurn : PySem.W.subIn K (.ref c_NoTurn) (.type "ValueError") = some true)
    (s_NoTurn_CordError : PySem.W.subIn K (.ref c_NoTurn) (.ref c_CordError) = some true)
    (s_NoTurn_NoTurn : PySem.W.subIn K (.ref c_NoTurn) (.ref c_NoTurn) = some true)
    (g_abs : PySem.W.nsIn K mainGlobals "abs" = some none)
    (g_enumerate : PySem.W.nsIn K mainGlobals "enumerate" = some none)
    (g_zip : PySem.W.nsIn K mainGlobals "zip" = some none)
    (g_ValueError : PySem.W.nsIn K mainGlobals "ValueError" = some none)
    (g_reversed : PySem.W.nsIn K mainGlobals "reversed" = some none)
    (z_len : PySem.W.nsIn K mainGlobals "len" = some none) (z_range : PySem.W.nsIn K mainGlobals "range" = some none) (z_min : PySem.W.nsIn K mainGlobals "min" = some none) (z_max : PySem.W.nsIn K mainGlobals "max" = some none) (z_isinstance : PySem.W.nsIn K mainGlobals "isinstance" = some none) (z_bool : PySem.W.nsIn K mainGlobals "bool" = some none) (z_int : PySem.W.nsIn K mainGlobals "int" = some none) (z_tuple : PySem.W.nsIn K mainGlobals "tuple" = some none) (z_list : PySem.W.nsIn K mainGlobals "list" = some none) (z_str : PySem.W.nsIn K mainGlobals "str" = some none) (z_all : PySem.W.nsIn K mainGlobals "all" = some none) (z_sum : PySem.W.nsIn K mainGlobals "sum" = some none) (z_sorted : PySem.W.nsIn K mainGlobals "sorted" = some none) :
    ∃ fd : FuncData, (∀ (s : Shared) (v : Value), BindsTo s fd ⟨[v], []⟩ [("_law_script", v)]) ∧ ∀ base : Heap, K.In base → base.Ns mainGlobals mg → FnOk l.prog w K mg base CX0 6 fa fd ["_law_script"] (spLaw K) := by
  have e := hfa.symm.trans (PySem.W.mg_of X G a28)
  cases e
  have M : Txt mg := ⟨PySem.W.mg_none_of X G z_len, PySem.W.mg_none_of X G z_range, PySem.W.mg_none_of X G z_min, PySem.W.mg_none_of X G z_max, PySem.W.mg_none_of X G z_isinstance, PySem.W.mg_none_of X G z_bool, PySem.W.mg_none_of X G z_int, PySem.W.mg_none_of X G z_tuple, PySem.W.mg_none_of X G z_list, PySem.W.mg_none_of X G z_str, PySem.W.mg_none_of X G z_all, PySem.W.mg_none_of X G z_sum, PySem.W.mg_none_of X G z_sorted⟩
  have GB : Gb mg := ⟨PySem.W.mg_none_of X G g_abs, PySem.W.mg_none_of X G g_enumerate, PySem.W.mg_none_of X G g_zip, PySem.W.mg_none_of X G g_ValueError, PySem.W.mg_none_of X G g_reversed⟩
  have Z : Exs K mg c_CordError c_NoTurn := ⟨PySem.W.mg_of X G n_CordError, PySem.W.mg_of X G n_NoTurn, ⟨xa_CordError, xb_CordError, xc_CordError, xd_CordError, xe_CordError, xf_CordError, xg_CordError, xh_CordError⟩, ⟨xa_NoTurn, xb_NoTurn, xc_NoTurn, xd_NoTurn, xe_NoTurn, xf_NoTurn, xg_NoTurn, xh_NoTurn⟩, e_NoTurn, v_NoTurn, s_NoTurn_CordError, s_NoTurn_NoTurn⟩
  have F0 := fun_mk (st := s_is_whole) l0 c0 k0
  have b0 := F0.binds (ps := ["thing"]) fun _ _ _ _ _ _ us hl => match us, hl with | [_], _ => rfl
  have F1 := fun_mk (st := s_is_whole_from) l1 c1 k1
  have b1 := F1.binds (ps := ["thing", "least"]) fun _ _ _ _ _ _ us hl => match us, hl with | [_, _], _ => rfl
  have F2 := fun_mk (st := s_many_ties) l2 c2 k2
  have b2 := F2.binds (ps := ["sheet"]) fun _ _ _ _ _ _ us hl => match us, hl with | [_], _ => rfl
  have F3 := fun_mk (st := s_glued_sides) l3 c3 k3
  have b3 := F3.binds (ps := ["sheet"]) fun _ _ _ _ _ _ us hl => match us, hl with | [_], _ => rfl
  have F4 := fun_mk (st := s_sides_round) l4 c4 k4
  have b4 := F4.binds (ps := ["sheet", "tie"]) fun _ _ _ _ _ _ us hl => match us, hl with | [_, _], _ => rfl
  have F5 := fun_mk (st := s_told_from) l5 c5 k5
  have b5 := F5.binds (ps := ["triangle", "at"]) fun _ _ _ _ _ _ us hl => match us, hl with | [_, _], _ => rfl
  have F6 := fun_mk (st := s_turned_tie) l6 c6 k6
  have b6 := F6.binds (ps := ["sheet", "tie"]) fun _ _ _ _ _ _ us hl => match us, hl with | [_, _], _ => rfl
  have F7 := fun_mk (st := s_row_turned) l7 c7 k7
  have b7 := F7.binds (ps := ["sheet", "row", "tie"]) fun _ _ _ _ _ _ us hl => match us, hl with | [_, _, _], _ => rfl
  have F8 := fun_mk (st := s_crossings) l8 c8 k8
  have b8 := F8.binds (ps := ["triangle", "row"]) fun _ _ _ _ _ _ us hl => match us, hl with | [_, _], _ => rfl
  have F9 := fun_mk (st := s_may_cross) l9 c9 k9
  have b9 := F9.binds (ps := ["numbers"]) fun _ _ _ _ _ _ us hl => match us, hl with | [_], _ => rfl
  have F10 := fun_mk (st := s_is_row) l10 c10 k10
  have b10 := F10.binds (ps := ["sheet", "thing"]) fun _ _ _ _ _ _ us hl => match us, hl with | [_, _], _ => rfl
  have F11 := fun_mk (st := s__law_cell_at) l11 c11 k11
  have b11 := F11.binds (ps := ["_law_script", "_law_k"]) fun _ _ _ _ _ _ us hl => match us, hl with | [_, _], _ => rfl
  have F12 := fun_mk (st := s__law_big) l12 c12 k12
  have b12 := F12.binds (ps := ["_law_script", "_law_at"]) fun _ _ _ _ _ _ us hl => match us, hl with | [_, _], _ => rfl
  have F13 := fun_mk (st := s__law_digit) l13 c13 k13
  have b13 := F13.binds (ps := ["_law_rest", "_law_many"]) fun _ _ _ _ _ _ us hl => match us, hl with | [_, _], _ => rfl
  have F14 := fun_mk (st := s__law_sheet) l14 c14 k14
  have b14 := F14.binds (ps := ["_law_rest"]) fun _ _ _ _ _ _ us hl => match us, hl with | [_], _ => rfl
  have F15 := fun_mk (st := s__law_heaps) l15 c15 k15
  have b15 := F15.binds (ps := ["_law_things", "_law_pairs"]) fun _ _ _ _ _ _ us hl => match us, hl with | [_, _], _ => rfl
  have F16 := fun_mk (st := s__law_end) l16 c16 k16
  have b16 := F16.binds (ps := ["_law_side", "_law_at"]) fun _ _ _ _ _ _ us hl => match us, hl with | [_, _], _ => rfl
  have F17 := fun_mk (st := s__law_meets) l17 c17 k17
  have b17 := F17.binds (ps := ["_law_sheet_here"]) fun _ _ _ _ _ _ us hl => match us, hl with | [_], _ => rfl
  have F18 := fun_mk (st := s__law_points_of) l18 c18 k18
  have b18 := F18.binds (ps := ["_law_sheet_here"]) fun _ _ _ _ _ _ us hl => match us, hl with | [_], _ => rfl
  have F19 := fun_mk (st := s__law_from) l19 c19 k19
  have b19 := F19.binds (ps := ["_law_triangle", "_law_tie"]) fun _ _ _ _ _ _ us hl => match us, hl with | [_, _], _ => rfl
  have F20 := fun_mk (st := s__law_square) l20 c20 k20
  have b20 := F20.binds (ps := ["_law_sheet_here", "_law_tie"]) fun _ _ _ _ _ _ us hl => match us, hl with | [_, _], _ => rfl
  have F21 := fun_mk (st := s__law_turned) l21 c21 k21
  have b21 := F21.binds (ps := ["_law_sheet_here", "_law_tie"]) fun _ _ _ _ _ _ us hl => match us, hl with | [_, _], _ => rfl
  have F22 := fun_mk (st := s__law_carried) l22 c22 k22
  have b22 := F22.binds (ps := ["_law_sheet_here", "_law_row", "_law_tie"]) fun _ _ _ _ _ _ us hl => match us, hl with | [_, _, _], _ => rfl
  have F23 := fun_mk (st := s__law_even_ones) l23 c23 k23
  have b23 := F23.binds (ps := ["_law_sheet_here"]) fun _ _ _ _ _ _ us hl => match us, hl with | [_], _ => rfl
  have F24 := fun_mk (st := s__law_wide_row) l24 c24 k24
  have b24 := F24.binds (ps := ["_law_sheet_here", "_law_rest", "_law_most"]) fun _ _ _ _ _ _ us hl => match us, hl with | [_, _, _], _ => rfl
  have F25 := fun_mk (st := s__law_rings) l25 c25 k25
  have b25 := F25.binds (ps := ["_law_sheet_here", "_law_rest", "_law_most"]) fun _ _ _ _ _ _ us hl => match us, hl with | [_, _, _], _ => rfl
  have F26 := fun_mk (st := s__law_shape) l26 c26 k26
  have b26 := F26.binds (ps := ["_law_sheet_here", "_law_flipped"]) fun _ _ _ _ _ _ us hl => match us, hl with | [_, _], _ => rfl
  have F27 := fun_mk (st := s__law_refused) l27 c27 k27
  have b27 := F27.binds (ps := ["_law_sheet_here", "_law_row", "_law_tie"]) fun _ _ _ _ _ _ us hl => match us, hl with | [_, _, _], _ => rfl
  have F28 := fun_mk (st := s_law) l28 c28 k28
  refine ⟨PySem.W.fnOf "law" "law" (defArgs s_law) (defBody s_law) (defScope s_law) .none kV28 dc28 pm28 an28 cd28 ct28, fun s v => .of_eq rfl, fun base _ _ => ?_⟩
  have G_law_cell_at : Kn l.prog w K mg base "_law_cell_at" _ ["_law_script", "_law_k"] _ := ⟨⟨f11, _, ok_cell F11 M , PySem.W.mg_of X G a11, k11, b11⟩⟩
  have G_law_big : Kn l.prog w K mg base "_law_big" _ ["_law_script", "_law_at"] _ := ⟨⟨f12, _, ok_big F12 M G_law_cell_at, PySem.W.mg_of X G a12, k12, b12⟩⟩
  have G_law_digit : Kn l.prog w K mg base "_law_digit" _ ["_law_rest", "_law_many"] _ := ⟨⟨f13, _, ok_digit F13 M , PySem.W.mg_of X G a13, k13, b13⟩⟩
  have G_law_sheet : Kn l.prog w K mg base "_law_sheet" _ ["_law_rest"] _ := ⟨⟨f14, _, ok_sheet F14 M G_law_digit, PySem.W.mg_of X G a14, k14, b14⟩⟩
  have G_law_heaps : Kn l.prog w K mg base "_law_heaps" _ ["_law_things", "_law_pairs"] _ := ⟨⟨f15, _, ok_heaps F15 M , PySem.W.mg_of X G a15, k15, b15⟩⟩
  have G_law_end : Kn l.prog w K mg base "_law_end" _ ["_law_side", "_law_at"] _ := ⟨⟨f16, _, ok_end F16 M GB, PySem.W.mg_of X G a16, k16, b16⟩⟩
  have G_law_meets : Kn l.prog w K mg base "_law_meets" _ ["_law_sheet_here"] _ := ⟨⟨f17, _, ok_meets F17 M G_law_end, PySem.W.mg_of X G a17, k17, b17⟩⟩
  have G_law_points_of : Kn l.prog w K mg base "_law_points_of" _ ["_law_sheet_here"] _ := ⟨⟨f18, _, ok_pointsof F18 M G_law_heaps G_law_meets, PySem.W.mg_of X G a18, k18, b18⟩⟩
  have G_law_rings : Kn l.prog w K mg base "_law_rings" _ ["_law_sheet_here", "_law_rest", "_law_most"] _ := ⟨⟨f25, _, ok_rings F25 M G_law_points_of G_law_digit, PySem.W.mg_of X G a25, k25, b25⟩⟩
  have G_law_even_ones : Kn l.prog w K mg base "_law_even_ones" _ ["_law_sheet_here"] _ := ⟨⟨f23, _, ok_even F23 M GB, PySem.W.mg_of X G a23, k23, b23⟩⟩
  have G_law_wide_row : Kn l.prog w K mg base "_law_wide_row" _ ["_law_sheet_here", "_law_rest", "_law_most"] _ := ⟨⟨f24, _, ok_wide F24 M G_law_digit G_law_even_ones, PySem.W.mg_of X G a24, k24, b24⟩⟩
  have Gis_whole : Kn l.prog w K mg base "is_whole" _ ["thing"] _ := ⟨⟨f0, _, ok_whole F0 M , PySem.W.mg_of X G a0, k0, b0⟩⟩
  have Gis_whole_from : Kn l.prog w K mg base "is_whole_from" _ ["thing", "least"] _ := ⟨⟨f1, _, ok_from F1 M Gis_whole, PySem.W.mg_of X G a1, k1, b1⟩⟩
  have Gmany_ties : Kn l.prog w K mg base "many_ties" _ ["sheet"] _ := ⟨⟨f2, _, ok_ties F2 M , PySem.W.mg_of X G a2, k2, b2⟩⟩
  have Gglued_sides : Kn l.prog w K mg base "glued_sides" _ ["sheet"] _ := ⟨⟨f3, _, ok_glued F3 M Gmany_ties GB, PySem.W.mg_of X G a3, k3, b3⟩⟩
  have Gtold_from : Kn l.prog w K mg base "told_from" _ ["triangle", "at"] _ := ⟨⟨f5, _, ok_toldfrom F5 M , PySem.W.mg_of X G a5, k5, b5⟩⟩
  have Gsides_round : KnX l.prog w K mg base "sides_round" _ ["sheet", "tie"] _ := ⟨⟨f4, _, ok_sides F4 M Gis_whole_from Gmany_ties Gglued_sides Gtold_from Z, PySem.W.mg_of X G a4, k4, b4⟩⟩
  have Gturned_tie : KnX l.prog w K mg base "turned_tie" _ ["sheet", "tie"] _ := ⟨⟨f6, _, ok_turned F6 M Gsides_round, PySem.W.mg_of X G a6, k6, b6⟩⟩
  have Grow_turned : KnX l.prog w K mg base "row_turned" _ ["sheet", "row", "tie"] _ := ⟨⟨f7, _, ok_rowturned F7 M Gsides_round GB, PySem.W.mg_of X G a7, k7, b7⟩⟩
  have Gcrossings : Kn l.prog w K mg base "crossings" _ ["triangle", "row"] _ := ⟨⟨f8, _, ok_cross F8 M GB, PySem.W.mg_of X G a8, k8, b8⟩⟩
  have Gmay_cross : Kn l.prog w K mg base "may_cross" _ ["numbers"] _ := ⟨⟨f9, _, ok_may F9 M , PySem.W.mg_of X G a9, k9, b9⟩⟩
  have Gis_row : Kn l.prog w K mg base "is_row" _ ["sheet", "thing"] _ := ⟨⟨f10, _, ok_isrow F10 M Gmany_ties Gis_whole_from Gmay_cross Gcrossings, PySem.W.mg_of X G a10, k10, b10⟩⟩
  have G_law_from : Kn l.prog w K mg base "_law_from" _ ["_law_triangle", "_law_tie"] _ := ⟨⟨f19, _, ok_lfrom F19 M GB, PySem.W.mg_of X G a19, k19, b19⟩⟩
  have G_law_square : Kn l.prog w K mg base "_law_square" _ ["_law_sheet_here", "_law_tie"] _ := ⟨⟨f20, _, ok_square F20 M G_law_from GB, PySem.W.mg_of X G a20, k20, b20⟩⟩
  have G_law_turned : Kn l.prog w K mg base "_law_turned" _ ["_law_sheet_here", "_law_tie"] _ := ⟨⟨f21, _, ok_lturned F21 M G_law_square, PySem.W.mg_of X G a21, k21, b21⟩⟩
  have G_law_carried : Kn l.prog w K mg base "_law_carried" _ ["_law_sheet_here", "_law_row", "_law_tie"] _ := ⟨⟨f22, _, ok_carried F22 M G_law_square GB, PySem.W.mg_of X G a22, k22, b22⟩⟩
  have G_law_shape : Kn l.prog w K mg base "_law_shape" _ ["_law_sheet_here", "_law_flipped"] _ := ⟨⟨f26, _, ok_shape F26 M GB, PySem.W.mg_of X G a26, k26, b26⟩⟩
  have G_law_refused : Kn l.prog w K mg base "_law_refused" _ ["_law_sheet_here", "_law_row", "_law_tie"] _ := ⟨⟨f27, _, ok_refused F27 M Grow_turned Z, PySem.W.mg_of X G a27, k27, b27⟩⟩
  exact ok_law F28 M G_law_big G_law_sheet G_law_digit G_law_rings G_law_wide_row G_law_square G_law_refused Grow_turned G_law_turned G_law_carried Gis_row Gturned_tie G_law_shape
theorem walk {l : PySem.W.OpenLaw} {q : Program} {loose : List Str} {XP : (Str → Option Value) → Heap → Prop} {YP : World → Heap → Prop} {d : DefRec} {K : Params → PySem.W.Frag} (hn : l.most = some 63) (hdf : d.params.defaults = [])
    (hY : ∀ (w : World) (h : Heap), YP w h → (K w.params).In h)
    (F : ∀ (w : World) (mg : Str → Option Value) (fa : Addr) (h : Heap), (K w.params).In h → h.Ns mainGlobals mg → mg d.name = some (.ref fa) →
      ∃ fd : FuncData, (∀ (s : Shared) (u : Value), BindsTo s fd ⟨[u], []⟩ [("_law_script", u)]) ∧ ∀ base : Heap, (K w.params).In base → base.Ns mainGlobals mg → FnOk l.prog w (K w.params) mg base CX0 6 fa fd ["_law_script"] (spLaw (K w.params))) :
    PySem.W.WalkO q loose XP YP l.row.toRowW d [] (fun f vs => PySem.call f vs) :=
  L2.walk_of (n := 63) (k := 6) (x := "_law_script") (CX := fun _ => CX0) (sp := fun w => spLaw (K w.params)) hn (by decide) hdf ⟨rfl, by decide, by decide, rfl⟩ hY F (fun _ _ a ns hl _ hS => ⟨a, ns, rfl, hS, hl, fun _ => rfl⟩) fun _ _ _ _ _ z => z
end Toy
open PySem PySem.W PyProof.Rows
set_option maxRecDepth 100000 in
set_option maxHeartbeats 0 in
theorem PySem.Challenge.cw_farcords_k63_rows_carried_and_back_holds : PySem.Challenge.rw_farcords_k63_rows_carried_and_back.Holds := by
  w_on; o_law; k_head; (case hw => w_witness2)
  k_fill
  refine Toy.walk (l := PySem.Challenge.rw_farcords_k63_rows_carried_and_back) rfl rfl (fun w h Y => PySem.W.kIn_of Y) ?F
  case F =>
    intro w mg fa h KX G hmg
    refine' Toy.all_mk KX G hmg ?a0 ?l0 ?c0 ?k0 ?a1 ?l1 ?c1 ?k1 ?a2 ?l2 ?c2 ?k2 ?a3 ?l3 ?c3 ?k3 ?a4 ?l4 ?c4 ?k4 ?a5 ?l5 ?c5 ?k5 ?a6 ?l6 ?c6 ?k6 ?a7 ?l7 ?c7 ?k7 ?a8 ?l8 ?c8 ?k8 ?a9 ?l9 ?c9 ?k9 ?a10 ?l10 ?c10 ?k10 ?a11 ?l11 ?c11 ?k11 ?a12 ?l12 ?c12 ?k12 ?a13 ?l13 ?c13 ?k13 ?a14 ?l14 ?c14 ?k14 ?a15 ?l15 ?c15 ?k15 ?a16 ?l16 ?c16 ?k16 ?a17 ?l17 ?c17 ?k17 ?a18 ?l18 ?c18 ?k18 ?a19 ?l19 ?c19 ?k19 ?a20 ?l20 ?c20 ?k20 ?a21 ?l21 ?c21 ?k21 ?a22 ?l22 ?c22 ?k22 ?a23 ?l23 ?c23 ?k23 ?a24 ?l24 ?c24 ?k24 ?a25 ?l25 ?c25 ?k25 ?a26 ?l26 ?c26 ?k26 ?a27 ?l27 ?c27 ?k27 ?a28 ?l28 ?c28 ?k28 ?n_CordError ?xa_CordError ?xb_CordError ?xc_CordError ?xd_CordError ?xe_CordError ?xf_CordError ?xg_CordError ?xh_CordError ?n_NoTurn ?xa_NoTurn ?xb_NoTurn ?xc_NoTurn ?xd_NoTurn ?xe_NoTurn ?xf_NoTurn ?xg_NoTurn ?xh_NoTurn ?e_NoTurn ?v_NoTurn ?s_NoTurn_CordError ?s_NoTurn_NoTurn ?g_abs ?g_enumerate ?g_zip ?g_ValueError ?g_reversed ?z_len ?z_range ?z_min ?z_max ?z_isinstance ?z_bool ?z_int ?z_tuple ?z_list ?z_str ?z_all ?z_sum ?z_sorted
    (case a0 => k_is)
    (case l0 => k_is)
    (case c0 => k_is)
    (case k0 => k_is)
    (case a1 => k_is)
    (case l1 => k_is)
    (case c1 => k_is)
    (case k1 => k_is)
    (case a2 => k_is)
    (case l2 => k_is)
    (case c2 => k_is)
    (case k2 => k_is)
    (case a3 => k_is)
    (case l3 => k_is)
    (case c3 => k_is)
    (case k3 => k_is)
    (case a4 => k_is)
    (case l4 => k_is)
    (case c4 => k_is)
    (case k4 => k_is)
    (case a5 => k_is)
    (case l5 => k_is)
    (case c5 => k_is)
    (case k5 => k_is)
    (case a6 => k_is)
    (case l6 => k_is)
    (case c6 => k_is)
    (case k6 => k_is)
    (case a7 => k_is)
    (case l7 => k_is)
    (case c7 => k_is)
    (case k7 => k_is)
    (case a8 => k_is)
    (case l8 => k_is)
    (case c8 => k_is)
    (case k8 => k_is)
    (case a9 => k_is)
    (case l9 => k_is)
    (case c9 => k_is)
    (case k9 => k_is)
    (case a10 => k_is)
    (case l10 => k_is)
    (case c10 => k_is)
    (case k10 => k_is)
    (case a11 => k_is)
    (case l11 => k_is)
    (case c11 => k_is)
    (case k11 => k_is)
    (case a12 => k_is)
    (case l12 => k_is)
    (case c12 => k_is)
    (case k12 => k_is)
    (case a13 => k_is)
    (case l13 => k_is)
    (case c13 => k_is)
    (case k13 => k_is)
    (case a14 => k_is)
    (case l14 => k_is)
    (case c14 => k_is)
    (case k14 => k_is)
    (case a15 => k_is)
    (case l15 => k_is)
    (case c15 => k_is)
    (case k15 => k_is)
    (case a16 => k_is)
    (case l16 => k_is)
    (case c16 => k_is)
    (case k16 => k_is)
    (case a17 => k_is)
    (case l17 => k_is)
    (case c17 => k_is)
    (case k17 => k_is)
    (case a18 => k_is)
    (case l18 => k_is)
    (case c18 => k_is)
    (case k18 => k_is)
    (case a19 => k_is)
    (case l19 => k_is)
    (case c19 => k_is)
    (case k19 => k_is)
    (case a20 => k_is)
    (case l20 => k_is)
    (case c20 => k_is)
    (case k20 => k_is)
    (case a21 => k_is)
    (case l21 => k_is)
    (case c21 => k_is)
    (case k21 => k_is)
    (case a22 => k_is)
    (case l22 => k_is)
    (case c22 => k_is)
    (case k22 => k_is)
    (case a23 => k_is)
    (case l23 => k_is)
    (case c23 => k_is)
    (case k23 => k_is)
    (case a24 => k_is)
    (case l24 => k_is)
    (case c24 => k_is)
    (case k24 => k_is)
    (case a25 => k_is)
    (case l25 => k_is)
    (case c25 => k_is)
    (case k25 => k_is)
    (case a26 => k_is)
    (case l26 => k_is)
    (case c26 => k_is)
    (case k26 => k_is)
    (case a27 => k_is)
    (case l27 => k_is)
    (case c27 => k_is)
    (case k27 => k_is)
    (case a28 => k_is)
    (case l28 => k_is)
    (case c28 => k_is)
    (case k28 => k_is)
    (case n_CordError => k_is)
    (case xa_CordError => k_is)
    (case xb_CordError => k_is)
    (case xc_CordError => k_is)
    (case xd_CordError => k_is)
    (case xe_CordError => k_is)
    (case xf_CordError => k_is)
    (case xg_CordError => k_is)
    (case xh_CordError => k_is)
    (case n_NoTurn => k_is)
    (case xa_NoTurn => k_is)
    (case xb_NoTurn => k_is)
    (case xc_NoTurn => k_is)
    (case xd_NoTurn => k_is)
    (case xe_NoTurn => k_is)
    (case xf_NoTurn => k_is)
    (case xg_NoTurn => k_is)
    (case xh_NoTurn => k_is)
    (case e_NoTurn => k_exc)
    (case v_NoTurn => k_is)
    (case s_NoTurn_CordError => k_is)
    (case s_NoTurn_NoTurn => k_is)
    (case g_abs => k_is)
    (case g_enumerate => k_is)
    (case g_zip => k_is)
    (case g_ValueError => k_is)
    (case g_reversed => k_is)
    (case z_len => k_is)
    (case z_range => k_is)
    (case z_min => k_is)
    (case z_max => k_is)
    (case z_isinstance => k_is)
    (case z_bool => k_is)
    (case z_int => k_is)
    (case z_tuple => k_is)
    (case z_list => k_is)
    (case z_str => k_is)
    (case z_all => k_is)
    (case z_sum => k_is)
    (case z_sorted => k_is)
#print axioms PySem.Challenge.cw_farcords_k63_rows_carried_and_back_holds
