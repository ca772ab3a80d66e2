import PyProof.Rows.All
import Wide.All
import OpenK.AllK
import Wide.FinOn
import Lean
import PyProof.EqAt
import PyProof.EqKinds
import PyProof.TupleCall
import PyProof.NeData
import PyProof.SumAny
import PyProof.ReprRoads
import PyProof.CallStr
import PyProof.ReprLen
import PyProof.Rows.StrDigitsNeg
import PyProof.Rows.StrJoinMade
import PyProof.Rows.ZipGen
import PyProof.ListRange
import PyProof.TupleOfSeq
import PyProof.SetScanFacts
import PyProof.SetKind
import PyProof.Rows.SetFrom
import PyProof.SetRoads
import PyProof.Rows.SortShell
import PyProof.ListMulRoad
import PyProof.ListMulAny
import PyProof.FactsAll.tuple
import PyProof.RulesAssignMore
import PyProof.ZipIter
import PyProof.TupleIter
import PyProof.EnumFor
import PyProof.EnumMake
import PyProof.FitsBits
import KE.KDictList
import PyProof.Rows.SortShellK
import PyProof.TupleKey
import KE.KItemsList
import KE.KSortTup
import PyProof.Rows.ListMulR
import PyProof.FactsAll.list_2
import PyProof.FactsAll.list_4
import PyProof.Rows.BitMore
import PyProof.ExcArgsOwn
import PyProof.ExcAttrAll.ValueError
import PyProof.ExcBaseAll.ValueError
import PyProof.WalkInts
import PyProof.ListIndex
import PyProof.P3Eq
import PyProof.DictIter
import PyProof.MeetsDict
import PySem.Challenge.RW_farcords_k20_sorts_walked
def PySem.W.Fast.tw13545709285429815442:Unit:=()
def PySem.W.Fast.tw13772355637777498514:Unit:=()
def PySem.W.Fast.tw11865451989665380146:Unit:=()
def PySem.W.Fast.tw6712272861638024114:Unit:=()
def PySem.W.Fast.tw1558174582852781379:Unit:=()
def PySem.W.Fast.tw14206024268222055299:Unit:=()
def PySem.W.Fast.tw11759175649789329347:Unit:=()
def PySem.W.Fast.tw1673267415400777296:Unit:=()
def PySem.W.Fast.tw1467771158099501328:Unit:=()
def PySem.W.Fast.tw9308243556607861552:Unit:=()
def PySem.W.Fast.tw811709186087273552:Unit:=()
def PySem.W.Fast.tw2656298628308199184:Unit:=()
def PySem.W.Fast.tw7766709213228556432:Unit:=()
def PySem.W.Fast.tw726614767870756833:Unit:=()
def PySem.W.Fast.tw7099531536836917761:Unit:=()
def PySem.W.Fast.tw5741732165421175009:Unit:=()
def PySem.W.Fast.tw4846937597155837569:Unit:=()
def PySem.W.Fast.tw8520611837981711681:Unit:=()
def PySem.W.Fast.tw10940421109507191809:Unit:=()
def PySem.W.Fast.tw3503010631440639681:Unit:=()
def PySem.W.Fast.tw4441015660956608086:Unit:=()
def PySem.W.Fast.tw7775918519772330550:Unit:=()
def PySem.W.Fast.tw1223882322703190358:Unit:=()
def PySem.W.Fast.tw17767027335495553143:Unit:=()
def PySem.W.Fast.tw16043218801970973815:Unit:=()
def PySem.W.Fast.tw13786154010664054455:Unit:=()
def PySem.W.Fast.tw1934759741202132919:Unit:=()
def PySem.W.Fast.tw11422568504247774804:Unit:=()
def PySem.W.Fast.tw8646012526712266420:Unit:=()
def PySem.W.Fast.tw853468115601687732:Unit:=()
def PySem.W.Fast.tw12351670180878930548:Unit:=()
def PySem.W.Fast.tw2773141763164378868:Unit:=()
def PySem.W.Fast.tw10315316118961060724:Unit:=()
def PySem.W.Fast.tw10132134807076080789:Unit:=()
def PySem.W.Fast.tw13377792523929087829:Unit:=()
def PySem.W.Fast.tw11966301006680283381:Unit:=()
def PySem.W.Fast.tw4121847607656956277:Unit:=()
def PySem.W.Fast.tw12790013784878224917:Unit:=()
def PySem.W.Fast.tw16462174130422070122:Unit:=()
def PySem.W.Fast.tw14488651028273531466:Unit:=()
def PySem.W.Fast.tw5423527332920480746:Unit:=()
def PySem.W.Fast.tw12197148972391002602:Unit:=()
def PySem.W.Fast.tw163592540342653418:Unit:=()
def PySem.W.Fast.tw17915714111397512106:Unit:=()
def PySem.W.Fast.tw6752309486917992330:Unit:=()
def PySem.W.Fast.tw7124309463148539338:Unit:=()
def PySem.W.Fast.tw3647159467264201403:Unit:=()
def PySem.W.Fast.tw11493363790694719131:Unit:=()
def PySem.W.Fast.tw11940751640312486267:Unit:=()
def PySem.W.Fast.tw2921810288605783995:Unit:=()
def PySem.W.Fast.tw839501071694506875:Unit:=()
def PySem.W.Fast.tw16180787039246786267:Unit:=()
def PySem.W.Fast.tw12592212207001473755:Unit:=()
def PySem.W.Fast.tw14310645492565679547:Unit:=()
def PySem.W.Fast.tw11520657616989332200:Unit:=()
def PySem.W.Fast.tw16721736736075471432:Unit:=()
def PySem.W.Fast.tw7038831910612877128:Unit:=()
def PySem.W.Fast.tw10201976698071366120:Unit:=()
def PySem.W.Fast.tw4444406767343319289:Unit:=()
def PySem.W.Fast.tw1154428183129242265:Unit:=()
def PySem.W.Fast.tw5795277238367275385:Unit:=()
def PySem.W.Fast.tw8830975738745846937:Unit:=()
def PySem.W.Fast.tw4162771255393836526:Unit:=()
def PySem.W.Fast.tw2620336510846685678:Unit:=()
def PySem.W.Fast.tw10225952462082372878:Unit:=()
def PySem.W.Fast.tw8925946229022898446:Unit:=()
def PySem.W.Fast.tw6285679689362614958:Unit:=()
def PySem.W.Fast.tw12851845694329399694:Unit:=()
def PySem.W.Fast.tw6080807018886247470:Unit:=()
def PySem.W.Fast.tw7044906533557282574:Unit:=()
def PySem.W.Fast.tw465468400678691375:Unit:=()
def PySem.W.Fast.tw3310433620853455215:Unit:=()
def PySem.W.Fast.tw11391117976803238415:Unit:=()
def PySem.W.Fast.tw855867851578221071:Unit:=()
def PySem.W.Fast.tw9273811978365046383:Unit:=()
def PySem.W.Fast.tw18414179213517228175:Unit:=()
def PySem.W.Fast.tw10448109259097843276:Unit:=()
def PySem.W.Fast.tw6664048439741050412:Unit:=()
def PySem.W.Fast.tw16121892455950262253:Unit:=()
def PySem.W.Fast.tw2671782948233071757:Unit:=()
def PySem.W.Fast.tw4989856026881383981:Unit:=()
def PySem.W.Fast.tw13369769886400278061:Unit:=()
def PySem.W.Fast.tw9246015257927285133:Unit:=()
def PySem.W.Fast.tw5365622266823931085:Unit:=()
def PySem.W.Fast.tw6725202815779513389:Unit:=()
def PySem.W.Fast.tw13216786766415558882:Unit:=()
def PySem.W.Fast.tw16299264601566467938:Unit:=()
def PySem.W.Fast.tw8718312230722972514:Unit:=()
def PySem.W.Fast.tw13768954180287563618:Unit:=()
def PySem.W.Fast.tw3247109576160435571:Unit:=()
def PySem.W.Fast.tw2851051132995539123:Unit:=()
def PySem.W.Fast.tw1707584925897690099:Unit:=()
def PySem.W.Fast.tw16271668830619606656:Unit:=()
def PySem.W.Fast.tw14757981493550399360:Unit:=()
def PySem.W.Fast.tw5580743492252525568:Unit:=()
def PySem.W.Fast.tw6538914568035846944:Unit:=()
def PySem.W.Fast.tw12498065470332776017:Unit:=()
def PySem.W.Fast.tw2316772382729867857:Unit:=()
def PySem.W.Fast.tw16085768422637967185:Unit:=()
def PySem.W.Fast.tw9267730764206898449:Unit:=()
def PySem.W.Fast.tw4009386610409055601:Unit:=()
def PySem.W.Fast.tw15812473721170979345:Unit:=()
def PySem.W.Fast.tw10071639863437772401:Unit:=()
def PySem.W.Fast.tw10830787966460106278:Unit:=()
def PySem.W.Fast.tw17398104214356415430:Unit:=()
def PySem.W.Fast.tw6058920480399589030:Unit:=()
def PySem.W.Fast.tw14102148906215610278:Unit:=()
def PySem.W.Fast.tw6651368770751998054:Unit:=()
def PySem.W.Fast.tw4001795569143585383:Unit:=()
def PySem.W.Fast.tw3115516540988932679:Unit:=()
def PySem.W.Fast.tw12375254998610835175:Unit:=()
def PySem.W.Fast.tw4387451286966313095:Unit:=()
def PySem.W.Fast.tw13135992723311097799:Unit:=()
def PySem.W.Fast.tw2131337393657883559:Unit:=()
def PySem.W.Fast.tw3739039587928381479:Unit:=()
def PySem.W.Fast.tw7482305747871021095:Unit:=()
def PySem.W.Fast.tw4414223780164523495:Unit:=()
def PySem.W.Fast.tw550288702906363652:Unit:=()
def PySem.W.Fast.tw13451887590857646116:Unit:=()
def PySem.W.Fast.tw11262054882548275044:Unit:=()
def PySem.W.Fast.tw14328908790530808101:Unit:=()
def PySem.W.Fast.tw4545642608842513701:Unit:=()
def PySem.W.Fast.tw7064449074231194629:Unit:=()
def PySem.W.Fast.tw14554965324170159109:Unit:=()
def PySem.W.Fast.tw2540358103027475269:Unit:=()
def PySem.W.Fast.tw16645264989004654821:Unit:=()
def PySem.W.Fast.tw9183069687282028165:Unit:=()
def PySem.W.Fast.tw9169063628532133317:Unit:=()
def PySem.W.Fast.tw5199917891046727866:Unit:=()
def PySem.W.Fast.tw12359360464660214202:Unit:=()
def PySem.W.Fast.tw3803523725085752602:Unit:=()
def PySem.W.Fast.tw16390490438453335130:Unit:=()
def PySem.W.Fast.tw10484676372894205547:Unit:=()
def PySem.W.Fast.tw11154350745704582763:Unit:=()
def PySem.W.Fast.tw5405477766197516331:Unit:=()
def PySem.W.Fast.tw3984641998128690123:Unit:=()
def PySem.W.Fast.tw8576777397089845432:Unit:=()
def PySem.W.Fast.tw13151728305168820536:Unit:=()
def PySem.W.Fast.tw1982001624987691768:Unit:=()
def PySem.W.Fast.tw14972447896816397144:Unit:=()
def PySem.W.Fast.tw17149996448754655241:Unit:=()
def PySem.W.Fast.tw9219690538923676809:Unit:=()
def PySem.W.Fast.tw14604011194056103689:Unit:=()
def PySem.W.Fast.tw9295517794587204073:Unit:=()
def PySem.W.Fast.tw9081588606298821566:Unit:=()
def PySem.W.Fast.tw16919463581278630686:Unit:=()
def PySem.W.Fast.tw3084439323683661854:Unit:=()
def PySem.W.Fast.tw15370086151442818142:Unit:=()
def PySem.W.Fast.tw1361736665201886367:Unit:=()
def PySem.W.Fast.tw124647667624192127:Unit:=()
def PySem.W.Fast.tw10572229135971600063:Unit:=()
def PySem.W.Fast.tw72175987658720191:Unit:=()
def PySem.W.Fast.tw11611692585038251359:Unit:=()
def PySem.W.Fast.tw4853142501247695964:Unit:=()
def PySem.W.Fast.tw16510397357736677180:Unit:=()
def PySem.W.Fast.tw6303241656261418236:Unit:=()
def PySem.W.Fast.tw869152494917145244:Unit:=()
def PySem.W.Fast.tw4032246088589442428:Unit:=()
def PySem.W.Fast.tw7732883307691866172:Unit:=()
def PySem.W.Fast.tw17878196680120385308:Unit:=()
def PySem.W.Fast.tw12449336114182931164:Unit:=()
def PySem.W.Fast.tw17298465283968094364:Unit:=()
def PySem.W.Fast.tw900597901411830652:Unit:=()
def PySem.W.Fast.tw7107599111110387101:Unit:=()
set_option Elab.async false
set_option linter.all false
set_option maxRecDepth 100000
namespace L2
open PySem PySem.Spec PyProof.Rows
abbrev Key:=Sum Int Str
def keyIs:Key→Value→Bool
 | .inl k,v => Value.isInt k v
 | .inr x,v => Value.isStrOf x v
def keyH (w:World):Key→Int
 | .inl k => hashInt k
 | .inr x => hashStr w x
theorem keyIs_shape:∀ {k:Key} {v:Value},keyIs k v=true→(∃ i t,k=Sum.inl i∧v=Value.int i t) ∨ (∃ x t,k=Sum.inr x∧v=Value.str x t)
 | .inl i,v,h => by
  obtain ⟨t,e⟩:=Value.isInt_shape (k:=i) (v:=v) h
  exact .inl ⟨i,t,rfl,e⟩
 | .inr x,v,h => by
  obtain ⟨t,e⟩:=Value.isStrOf_shape (x:=x) (v:=v) h
  exact .inr ⟨x,t,rfl,e⟩
theorem keyIs_int (i:Int) (t:Tok):keyIs (.inl i) (.int i t)=true:=by simp [keyIs,Value.isInt]
theorem keyIs_str (x:Str) (t:Tok):keyIs (.inr x) (.str x t)=true:=by simp [keyIs,Value.isStrOf]
theorem key_ll (a b:Int):decide ((Sum.inl a:Key)=Sum.inl b)=(a == b):=by
 by_cases e:a=b
 ·subst e; simp
 ·have h : ¬ (Sum.inl a:Key)=Sum.inl b:=fun q => e (Sum.inl.inj q)
  rw [decide_eq_false h]
  exact (beq_eq_false_iff_ne.mpr e).symm
theorem key_rr (a b:Str):decide ((Sum.inr a:Key)=Sum.inr b)=decide (a=b):=by
 by_cases e:a=b
 ·subst e; simp
 ·have h : ¬ (Sum.inr a:Key)=Sum.inr b:=fun q => e (Sum.inr.inj q)
  rw [decide_eq_false h,decide_eq_false e]
theorem key_lr (a:Int) (b:Str):decide ((Sum.inl a:Key)=Sum.inr b)=false:=decide_eq_false (fun q => nomatch q)
theorem key_rl (a:Str) (b:Int):decide ((Sum.inr a:Key)=Sum.inl b)=false:=decide_eq_false (fun q => nomatch q)
def mixKind (prog:Program) (w:World):PySem.KeyKind prog w Key where
 is:=keyIs
 hash:=keyH w
 inj:=fun v a b ha hb => by
  rcases keyIs_shape ha with ⟨i,t,rfl,rfl⟩ | ⟨x,t,rfl,rfl⟩
  ·rcases keyIs_shape hb with ⟨j,u,rfl,e⟩ | ⟨y,u,rfl,e⟩
   ·injection e with e1 _; rw [e1]
   ·exact nomatch e
  ·rcases keyIs_shape hb with ⟨j,u,rfl,e⟩ | ⟨y,u,rfl,e⟩
   ·exact nomatch e
   ·injection e with e1 _; rw [e1]
 byValue:=fun k v h => by
  rcases keyIs_shape h with ⟨i,t,rfl,rfl⟩ | ⟨x,t,rfl,rfl⟩ <;> rfl
 pyHash:=fun hv h => by
  rcases keyIs_shape hv with ⟨i,t,rfl,rfl⟩ | ⟨x,t,rfl,rfl⟩
  ·exact wpAny_pyHash_int h
  ·exact wpAny_pyHash_str h
 eqBool:=fun hu hv h => by
  rcases keyIs_shape hu with ⟨i,t,rfl,rfl⟩ | ⟨x,t,rfl,rfl⟩
  ·rcases keyIs_shape hv with ⟨j,u,rfl,rfl⟩ | ⟨y,u,rfl,rfl⟩
   ·rw [key_ll] at h; exact wpAny_eqBool_int h
   ·rw [key_lr] at h; exact SeqAt.EqAt.int_str i t y u _ _ _ _ h
  ·rcases keyIs_shape hv with ⟨j,u,rfl,rfl⟩ | ⟨y,u,rfl,rfl⟩
   ·rw [key_rl] at h; exact SeqAt.EqAt.str_int x t j u _ _ _ _ h
   ·rw [key_rr] at h; exact wpAny_eqBool_str h
 «strs»:=fun k x t v h => by
  rcases keyIs_shape h with ⟨i,u,rfl,e⟩ | ⟨y,u,rfl,e⟩
  ·exact nomatch e
  ·injection e with e1 _
   subst e1
   cases v <;> rfl
theorem mixKind_int (prog:Program) (w:World) (i:Int) (t:Tok):(mixKind prog w).is (.inl i) (.int i t)=true:=keyIs_int i t
theorem mixKind_str (prog:Program) (w:World) (x:Str) (t:Tok):(mixKind prog w).is (.inr x) (.str x t)=true:=keyIs_str x t
end L2
namespace L2
open PySem PySem.Spec PyProof.Rows
inductive V where
 | non | bl (b:Bool) | int (i:Int) | str (x:Str) | byt (b:Array UInt8) | flt (b:UInt64) | ref (a:Addr) | ty (n:String)
 deriving DecidableEq
def RelV:V→Value→Prop
 | .non,u => u=Value.none
 | .bl b,u => u=Value.bool b
 | .int i,u => ∃ t,u=Value.int i t
 | .str x,u => ∃ t,u=Value.str x t
 | .byt b,u => ∃ t,u=Value.bytes b t
 | .flt b,u => ∃ t,u=Value.float b t
 | .ref a,u => u=Value.ref a
 | .ty n,u => u=Value.type n
abbrev Vals:List V→List Value→Prop:=Paired RelV
theorem Vals.length {xs:List V} {us:List Value} (r:Vals xs us):xs.length=us.length:=Paired.length r
theorem Vals.get:∀ {xs:List V} {us:List Value} {i:Nat} {x:V},Vals xs us→xs[i]? = some x→∃ u,us[i]? = some u∧RelV x u
 | _,_,_,_,.nil,e => by simp at e
 | _,_,0,_,.cons r _,e => by simp at e; subst e; exact ⟨_,rfl,r⟩
 | _,_,i + 1,x,.cons _ t,e => by
  obtain ⟨u,h1,h2⟩:=Vals.get (i:=i) (x:=x) t (by simpa using e)
  exact ⟨u,by simpa using h1,h2⟩
theorem Vals.set {x:V} {u:Value} (r:RelV x u):∀ {xs:List V} {us:List Value} (i:Nat),Vals xs us→Vals (xs.set i x) (us.set i u)
 | _,_,_,.nil => .nil
 | _,_,0,.cons _ t => .cons r t
 | _,_,i + 1,.cons q t => .cons q (Vals.set r i t)
theorem Vals.append:∀ {xs ys:List V} {us ws:List Value},Vals xs us→Vals ys ws→Vals (xs ++ ys) (us ++ ws)
 | _,_,_,_,.nil,s => s
 | _,_,_,_,.cons r t,s => .cons r (Vals.append t s)
theorem Vals.take:∀ {xs:List V} {us:List Value} (n:Nat),Vals xs us→Vals (xs.take n) (us.take n)
 | _,_,0,_ => .nil
 | _,_,_ + 1,.nil => .nil
 | _,_,n + 1,.cons r t => .cons r (Vals.take n t)
theorem Vals.drop:∀ {xs:List V} {us:List Value} (n:Nat),Vals xs us→Vals (xs.drop n) (us.drop n)
 | _,_,0,r => r
 | _,_,_ + 1,.nil => .nil
 | _,_,n + 1,.cons _ t => Vals.drop n t
def RelO:Option V→Option Value→Prop
 | some v,some u => RelV v u
 | none,none => True
 | _,_ => False
def KV {κ:Type} : List (κ × V)→List (κ × Value)→Prop:=Paired fun (p:κ × V) (q:κ × Value) => p.1=q.1∧RelV p.2 q.2
def kV:Key→V
 | .inl i => .int i
 | .inr x => .str x
inductive HO where
 | lst (xs:List V)
 | tup (xs:List V)
 | dK (kvs:List (Key × V)) | dT (kvs:List (List Key × V))
 | set (S:Int→Bool) (n:Nat)
 | ins (C dx:Addr) (fs:List (Str × V))
 | own (x:Addr)
 | xd (fs:List (Str × V))
 | met (f x:Addr)
 | rng (lo hi:Int)
 | frz (o:Obj) (u:HO)
 | tbl (ps:Array Value)
 | ext (φ:Heap→Prop)
abbrev Hp:=Addr→Option HO
def upd (H:Hp) (a:Addr) (o:HO):Hp:=fun b => if b=a then some o else H b
theorem upd_same {H:Hp} {a:Addr} {o:HO} : upd H a o a=some o:=by unfold upd; rw [if_pos rfl]
theorem upd_ne {H:Hp} {a b:Addr} {o:HO} (h:b ≠ a):upd H a o b=H b:=by unfold upd; rw [if_neg h]
theorem ne_of {H:Hp} {a b:Addr} {o u:HO} (h:H a=some o) (h' : H b=some u) (d:o ≠ u):a ≠ b:=by
 intro e; subst e; rw [h] at h'; exact d (Option.some.inj h')
theorem ne_of_none {H:Hp} {a b:Addr} {o:HO} (h:H a=some o) (h' : H b=none):a ≠ b:=by
 intro e; subst e; rw [h] at h'; cases h'
section
variable (P:Program) (w:World)
def ObjOk (H:Hp) (h:Heap) (a:Addr):HO→Prop
 | .lst xs => xs.length ≤ sizeLine∧∃ (its:List Value) (n:Nat),Vals xs its∧h.get? a=some { cls:=.type "list",data:=.seq its.toArray n }
 | .tup xs => xs.length ≤ sizeLine∧∃ its:List Value,Vals xs its∧IsTup h a its.toArray
 | .dK kvs => kvs.length ≤ sizeLine∧(a == sysModules)=false∧∃ vs,KV kvs vs∧h.DictOf (mixKind P w) a vs
 | .dT kvs => kvs.length ≤ sizeLine∧(a == sysModules)=false∧∃ xs:List (List Key × Addr × Value),
   Paired (fun (p:List Key × V) (q:List Key × Addr × Value) => p.1=q.1∧H q.2.1=some (.tup (p.1.map kV))∧RelV p.2 q.2.2) kvs xs ∧
   ∃ o es ep,h.get? a=some o∧o.ExactDict∧o.data = .dict es ep∧es.toList=xs.map (entryOfKey (tupleKind (mixKind P w)))∧(xs.map (·.1)).Nodup
 | .set S n => h.SetOf (intKind P w) a S n
 | .ins C dx fs => H dx=some (.own a)∧fs.length ≤ 1000∧dx ≠ a∧h.get? a=some (PySem.W.instObj C dx) ∧
   ∃ mA,h.Ns1 dx mA∧(∀ f,RelO (fs.lookup f) (mA f))∧PySem.Within mA (fs.map (·.1))
 | .own _ => ∃ o,h.get? a=some o
 | .xd fs => ∃ mA,h.Ns1 a mA∧∀ f,RelO (fs.lookup f) (mA f)
 | .rng lo hi => ∃ t u v,h.get? a=some { cls:=.type "range",data:=.fields #[.int lo t,.int hi u,.int 1 v] }
 | .frz o u => h.get? a=some o∧ObjOk H h a u
 | .tbl ps => h.get? a=some { cls:=.none,data:=.fields ps }
 | .met f x => h.get? a=some (PySem.W.methodObj (.ref f) (.ref x))
 | .ext φ => φ h∧(∃ o,h.get? a=some o)∧∀ h1 h2:Heap,φ h1→(∀ o,h1.get? a=some o→h2.get? a=some o)→φ h2
def HOk (H:Hp) (h:Heap):Prop:=∀ a o,H a=some o→ObjOk P w H h a o
end
section
variable {P:Program} {w:World} {H H' : Hp} {h h' : Heap} {a:Addr} {o:HO}
theorem ObjOk.lt (x:ObjOk P w H h a o):a < h.objs.size:=by
 cases o with
 | lst xs => obtain ⟨_,_,_,_,e⟩:=x; exact Heap.lt_size e
 | tup xs => obtain ⟨_,_,_,p⟩:=x; exact p.lt
 | dK kvs => obtain ⟨_,_,_,_,o,_,_,e,_⟩:=x; exact Heap.lt_size e
 | dT kvs => obtain ⟨_,_,_,_,o,_,_,e,_⟩:=x; exact Heap.lt_size e
 | set S n => obtain ⟨o,_,_,_,e,_⟩:=x; exact Heap.lt_size e
 | ins C dx fs => obtain ⟨_,_,_,e,_⟩:=x; exact Heap.lt_size e
 | own y => obtain ⟨_,e⟩:=x; exact Heap.lt_size e
 | xd fs => obtain ⟨_,⟨_,_,_,e,_⟩,_⟩:=x; exact Heap.lt_size e
 | rng lo hi => obtain ⟨_,_,_,e⟩:=x; exact Heap.lt_size e
 | frz ob u => obtain ⟨e,_⟩:=x; exact Heap.lt_size e
 | tbl ps => exact Heap.lt_size (show h.get? a=some _ from x)
 | met f y => exact Heap.lt_size (show h.get? a=some _ from x)
 | ext φ => obtain ⟨_,⟨_,e⟩,_⟩:=x; exact Heap.lt_size e
theorem Paired.mapP {α β:Type} {F G:α→β→Prop} : ∀ {l₁:List α} {l₂:List β},Paired F l₁ l₂→(∀ a b,F a b→G a b)→Paired G l₁ l₂
 | _,_,.nil,_ => .nil
 | _,_,.cons r t,f => .cons (f _ _ r) (Paired.mapP t f)
theorem ObjOk.stay (x:ObjOk P w H h a o) (k:∀ b u,(b=a ∨ H b=some (.own a))→h.get? b=some u→h'.get? b=some u)
  (ho:∀ b,H b=some (.own a)→H' b=some (.own a)) (ht:∀ b xs,H b=some (.tup xs)→H' b=some (.tup xs)):ObjOk P w H' h' a o:=by
 induction o with
 | lst xs => obtain ⟨z,its,n,r,e⟩:=x; exact ⟨z,its,n,r,k _ _ (.inl rfl) e⟩
 | tup xs => obtain ⟨z,its,r,ob,e,c⟩:=x; exact ⟨z,its,r,ob,k _ _ (.inl rfl) e,c⟩
 | dK kvs => obtain ⟨z,y,vs,r,ob,es,ep,e,c⟩:=x; exact ⟨z,y,vs,r,ob,es,ep,k _ _ (.inl rfl) e,c⟩
 | dT kvs =>
  obtain ⟨z,y,xs,r,ob,es,ep,e,c⟩:=x
  exact ⟨z,y,xs,Paired.mapP r fun p q z => ⟨z.1,ht _ _ z.2.1,z.2.2⟩,ob,es,ep,k _ _ (.inl rfl) e,c⟩
 | set S n => obtain ⟨ob,es,ep,t,e,c⟩:=x; exact ⟨ob,es,ep,t,k _ _ (.inl rfl) e,c⟩
 | ins C dx fs =>
  obtain ⟨d,z,ne,e,mA,⟨od,es,ep,e2,c⟩,r⟩:=x
  exact ⟨ho _ d,z,ne,k _ _ (.inl rfl) e,mA,⟨od,es,ep,k _ _ (.inr d) e2,c⟩,r⟩
 | own y => obtain ⟨ob,e⟩:=x; exact ⟨ob,k _ _ (.inl rfl) e⟩
 | xd fs => obtain ⟨mA,⟨od,es,ep,e,c⟩,r⟩:=x; exact ⟨mA,⟨od,es,ep,k _ _ (.inl rfl) e,c⟩,r⟩
 | rng lo hi => obtain ⟨t,u,v,e⟩:=x; exact ⟨t,u,v,k _ _ (.inl rfl) e⟩
 | frz ob u ih => obtain ⟨e,q⟩:=x; exact ⟨k _ _ (.inl rfl) e,ih q⟩
 | tbl ps =>
  have e:h.get? a=some { cls:=.none,data:=.fields ps }:=x
  show h'.get? a=some { cls:=.none,data:=.fields ps }
  exact k a _ (.inl rfl) e
 | met f y =>
  have e:h.get? a=some (PySem.W.methodObj (.ref f) (.ref y)):=x
  show h'.get? a=some (PySem.W.methodObj (.ref f) (.ref y))
  exact k a _ (.inl rfl) e
 | ext φ => obtain ⟨p,⟨o,e⟩,st⟩:=x; exact ⟨st _ _ p fun o q => k _ _ (.inl rfl) q,⟨o,k _ _ (.inl rfl) e⟩,st⟩
theorem HOk.lt (x:HOk P w H h) (e:H a=some o):a < h.objs.size:=(x a o e).lt
theorem HOk.fresh (x:HOk P w H h) (e:h.objs.size ≤ a):H a=none:=by
 cases q:H a with
 | none => rfl
 | some u => exact absurd (Nat.lt_of_lt_of_le (x.lt q) e) (Nat.lt_irrefl _)
theorem HOk.kept (x:HOk P w H h) (k:∀ b u,h.get? b=some u→h'.get? b=some u):HOk P w H h':=fun a o e =>
 (x a o e).stay (fun b u _ q => k b u q) (fun _ q => q) fun _ _ q => q
theorem HOk.laid (x:HOk P w H h) (k:∀ b u,h.get? b=some u→h'.get? b=some u) (hp:h.objs.size ≤ a) (new:ObjOk P w (upd H a o) h' a o):HOk P w (upd H a o) h':=fun b u e => by
 have hn:=x.fresh hp
 by_cases hb:b=a
 ·subst hb; rw [upd_same] at e; cases e; exact new
 ·rw [upd_ne hb] at e
  exact (x b u e).stay (fun c v _ q => k c v q) (fun c q => by rw [upd_ne (ne_of_none q hn)]; exact q) fun c xs q => by rw [upd_ne (ne_of_none q hn)]; exact q
end
def Rd (H:Hp) (a:Addr) (u:HO):Prop:=H a=some u ∨ ∃ o,H a=some (.frz o u)
theorem Rd.ok {P:Program} {w:World} {H:Hp} {h:Heap} {a:Addr} {u:HO} (r:Rd H a u) (x:HOk P w H h):ObjOk P w H h a u:=by
 rcases r with r | ⟨o,r⟩
 ·exact x a u r
 ·obtain ⟨_,q⟩:=x a _ r
  exact q
def Mut:Option HO→Prop
 | some (.lst _) => True
 | some (.dK _) => True
 | some (.dT _) => True
 | some (.set _ _) => True
 | some (.ins _ _ _) => True
 | some (.ext _) => True
 | _ => False
section
variable {P:Program} {w:World} {H:Hp} {h h' : Heap} {x e:Addr} {o' : HO}
theorem HOk.write (ok:HOk P w H h) (mu:Mut (H x)) (he:e=x ∨ H e=some (.own x)) (k:∀ b u,b ≠ e→h.get? b=some u→h'.get? b=some u) (heo:∃ u,h'.get? e=some u)
  (new:ObjOk P w (upd H x o') h' x o'):HOk P w (upd H x o') h':=fun b u q => by
 have nown:∀ c y,H c=some (.own y)→c ≠ x:=fun c y r z => by subst z; rw [r] at mu; exact mu
 have ntup:∀ c xs,H c=some (.tup xs)→c ≠ x:=fun c xs r z => by subst z; rw [r] at mu; exact mu
 by_cases hb:b=x
 ·subst hb; rw [upd_same] at q; cases q; exact new
 ·rw [upd_ne hb] at q
  by_cases hbe:b=e
  ·have q' : H b=some (.own x):=by
    rcases he with z | z
    ·exact absurd (hbe.trans z) hb
    ·rw [hbe]; exact z
   rw [q] at q'; cases q'
   obtain ⟨v,hv⟩:=heo
   exact ⟨v,by rw [hbe]; exact hv⟩
  ·refine (ok b u q).stay (fun c v hc r => k c v ?_ r) (fun c r => by rw [upd_ne (nown c b r)]; exact r) fun c xs r => by rw [upd_ne (ntup c xs r)]; exact r
   rcases hc with rfl | hc
   ·exact hbe
   ·rintro rfl
    rcases he with z | z
    ·exact nown c b hc z
    ·rw [hc] at z; cases z; exact hb rfl
end
structure Un (fs ex:List Addr) (H H' : Hp) (h h' : Heap):Prop where
 keep:∀ b o,h.get? b=some o→H b=none→b ∉ fs→b ∉ ex→h'.get? b=some o
 slot:∀ b o,h.get? b=some o→H b=none→b ∈ fs→b ∉ ex→∃ sl,h'.get? b=some { o with slots:=sl }
 free:∀ b o,h.get? b=some o→H b=none→b ∉ ex→H' b=none
 there:∀ b o,h.get? b=some o→b ∉ ex→∃ o',h'.get? b=some o'
 tups:∀ b xs,H b=some (.tup xs)→H' b=some (.tup xs)
 frzs:∀ b o u,H b=some (.frz o u)→H' b=some (.frz o u)
 tbls:∀ b ps,H b=some (.tbl ps)→∃ more,H' b=some (.tbl (ps ++ more))
section
variable {fs fs' ex ex' : List Addr} {H H1 H2:Hp} {h h1 h2 h' : Heap} {a x e:Addr} {o:HO}
theorem Un.any (u:Un fs ex H H1 h h1) {b:Addr} {ob:Obj} (q:h.get? b=some ob) (n:H b=none) (hx:b ∉ ex):∃ sl,h1.get? b=some { ob with slots:=sl }:=by
 by_cases hb:b ∈ fs
 ·exact u.slot b ob q n hb hx
 ·exact ⟨ob.slots,u.keep b ob q n hb hx⟩
theorem Un.kept (k:∀ b u,h.get? b=some u→h'.get? b=some u):Un fs ex H H h h' :=
 ⟨fun b ob q _ _ _ => k b ob q,fun b ob q _ _ _ => ⟨ob.slots,k b ob q⟩,fun _ _ _ n _ => n,fun b ob q _ => ⟨ob,k b ob q⟩,fun _ _ q => q,fun _ _ _ q => q,fun _ ps q => ⟨#[],by rw [q]; simp⟩⟩
theorem Un.refl:Un fs ex H H h h:=Un.kept fun _ _ q => q
theorem Un.laid (k:∀ b u,h.get? b=some u→h'.get? b=some u) (hp:h.objs.size ≤ a) (hn:H a=none):Un fs ex H (upd H a o) h h' where
 keep:=fun b u q _ _ _ => k b u q
 slot:=fun b u q _ _ _ => ⟨u.slots,k b u q⟩
 free:=fun b u q n _ => by rw [upd_ne (Nat.ne_of_lt (Nat.lt_of_lt_of_le (Heap.lt_size q) hp))]; exact n
 there:=fun b u q _ => ⟨u,k b u q⟩
 tups:=fun b xs q => by rw [upd_ne (ne_of_none q hn)]; exact q
 frzs:=fun b u xs q => by rw [upd_ne (ne_of_none q hn)]; exact q
 tbls:=fun b ps q => ⟨#[],by rw [upd_ne (ne_of_none q hn),q]; simp⟩
theorem Un.write (mu:Mut (H x)) (he:e=x ∨ H e=some (.own x)) (k:∀ b u,b ≠ e→h.get? b=some u→h'.get? b=some u) (heo:∃ u,h'.get? e=some u):Un fs ex H (upd H x o) h h':=by
 have hx:∀ b,H b=none→b ≠ x:=fun b n z => by subst z; rw [n] at mu; exact mu
 have hb:∀ b,H b=none→b ≠ e:=fun b n z => by
  subst z
  rcases he with r | r
  ·exact hx b n r
  ·rw [n] at r; cases r
 have hm:∀ b u,H b=some u→¬ Mut (some u)→b ≠ x:=fun b u q nm z => by subst z; rw [q] at mu; exact nm mu
 refine ⟨fun b u q n _ _ => k b u (hb b n) q,fun b u q n _ _ => ⟨u.slots,k b u (hb b n) q⟩,fun b u q n _ => by rw [upd_ne (hx b n)]; exact n,fun b u q _ => ?_,
  fun b xs q => by rw [upd_ne (hm b _ q fun z => z)]; exact q,fun b u xs q => by rw [upd_ne (hm b _ q fun z => z)]; exact q,fun b ps q => ⟨#[],by rw [upd_ne (hm b _ q fun z => z),q]; simp⟩⟩
 by_cases hbe:b=e
 ·subst hbe; exact heo
 ·exact ⟨u,k b u hbe q⟩
end
def trk (h:Heap) (H:Hp):List Addr:=(List.range h.objs.size).filter fun a => (H a).isSome
def hidT (h:Heap) (H:Hp):Heap:=PySem.W.hideAll h (trk h H)
theorem hidT_size (h:Heap) (H:Hp):(hidT h H).objs.size=h.objs.size:=PySem.W.hideAll_size _ _
theorem hidT_get {h:Heap} {H:Hp} {b:Addr} {o:Obj} (e:h.get? b=some o) (n:H b=none):(hidT h H).get? b=some o :=
 PySem.W.hideAll_get _ e fun hm => by
  have q:(H b).isSome=true:=(List.mem_filter.mp hm).2
  rw [n] at q; simp at q
theorem of_hidT {h:Heap} {H:Hp} {b:Addr} {o:Obj} (e:(hidT h H).get? b=some o):h.get? b=some o∧H b=none:=by
 have e' : h.get? b=some o:=PySem.W.of_hideAll (trk h H) e
 refine ⟨e',?_⟩
 cases q:H b with
 | none => rfl
 | some x =>
  have hm:b ∈ trk h H:=List.mem_filter.mpr ⟨List.mem_range.mpr (Heap.lt_size e'),by simp [q]⟩
  have z:(hidT h H).get? b=none:=PySem.W.hideAll_none (trk h H) hm
  rw [z] at e; cases e
def allNews (g h:Heap) (L:Addr):List (Addr × Obj):=(List.range h.objs.size).filterMap fun a => if a=L ∨ (g.get? a).isSome=true then none else (h.get? a).map fun o => (a,o)
def rest (g h:Heap) (L d:Addr):List (Addr × Obj):=(allNews g h L).filter fun p => decide (p.1 ≠ d)
end L2
namespace L2
open PySem PySem.Spec PyProof.Rows
structure Mod (K:PySem.W.Frag) (mg:Str→Option Value) (base:Heap):Prop where
 kin:K.In base
 glob:base.Ns mainGlobals mg
 blt:∃ mb,base.Ns builtinsNs mb∧∀ x:Str,x ≠ "__name__" → mb x=bootBuiltins x
 nolimit:base.NoLimit
structure Cx where
 prog:Program
 w:World
 K:PySem.W.Frag
 mg:Str→Option Value
 base:Heap
 A:Around
 N:List Str
 s₀:Shared
 H₀:Hp
 env:Env
 outer:List Env
 stack:List Env
 ex:List Addr
 fn:Str→Bool
 calm:Bool
 pn:List (Addr × Obj)
 xe:Value→Shared→Prop
def frs (l:List Env):List Addr:=l.filterMap (·.frame)
abbrev Cx.fs (X:Cx):List Addr:=frs X.outer
def Vis (sc:Scope) (x:Str):Prop:=sc.names.lookup x=some .local ∨ sc.names.lookup x=some .cell ∨ sc.names.lookup x=some .free
def Loc (sc:Scope) (x:Str):Prop:=sc.names.lookup x=some .local ∨ sc.names.lookup x=some .cell
def Look (env:Env) (h:Heap) (m:Str→Option Value) (x:Str) (u:Value):Prop :=
 (env.kindOf x=some .local∧m x=some u) ∨ ((env.kindOf x=some .cell ∨ env.kindOf x=some .free)∧∃ c,env.cells.lookup x=some c∧h.IsCell c (some u))
structure Cx.Ok (X:Cx):Prop where
 mod:Mod X.K X.mg X.base
 kind:X.env.scope.kind = .function
 glob:X.env.globals=mainGlobals
 blt:X.env.builtins=builtinsNs
 above:X.s₀.heap.objs.size ≤ X.env.locals
 inj:∀ x y c,X.env.cells.lookup x=some c→X.env.cells.lookup y=some c→x=y
 has:∀ x,(X.env.kindOf x=some .cell ∨ X.env.kindOf x=some .free)→∃ c,X.env.cells.lookup x=some c
 cab:∀ x c,X.fn x=true→X.env.cells.lookup x=some c→X.s₀.heap.objs.size ≤ c
 hd:X.calm=true→X.A.handled=none
 frames:X.A.frames=some X.stack
 stk:X.stack=X.outer ∨ (X.stack=X.env :: X.outer∧X.env.frame=some X.env.locals)
 exf:∀ b ∈ X.ex,b ≠ X.env.locals∧∀ x c,X.env.cells.lookup x=some c→c ≠ b
 bs:∀ b o,X.base.get? b=some o→X.s₀.heap.get? b=some o∧X.H₀ b=none
 bsz:X.base.objs.size ≤ X.s₀.heap.objs.size
 noex:∀ b o,X.base.get? b=some o→b ∉ X.ex
 exfs:∀ b ∈ X.ex,b ∉ X.fs
 funs:X.s₀.heap.FunFrames X.base X.outer
 frf:∀ b ∈ X.fs,X.H₀ b=none
structure Inv (X:Cx) (pins:List (Addr × Obj)) (σ:List (Option V)) (H:Hp) (s:Shared):Prop where
 ok:X.Ok
 os:s.os=X.s₀.os
 bare:AllBare s.gens
 base:Un X.fs X.ex X.H₀ H X.s₀.heap s.heap
 loc:∃ m,s.heap.Ns X.env.locals m∧∀ (i:Nat) (x:Str) (v:V),X.N[i]? = some x→σ[i]? = some (some v)→Vis X.env.scope x→∃ u,RelV v u∧Look X.env s.heap m x u
 cell:∀ x c,X.env.cells.lookup x=some c→∃ v,s.heap.IsCell c v
 free:H X.env.locals=none
 freeC:∀ x c,X.env.cells.lookup x=some c→H c=none
 pin:∀ p ∈ X.pn ++ pins,s.heap.get? p.1=some p.2∧H p.1=none∧p.1 ≠ X.env.locals∧p.1 ∉ X.fs∧∀ v,p.2.data ≠ .cell v
 hok:HOk X.prog X.w H s.heap
 len:σ.length=X.N.length
section
variable {X:Cx} {pins:List (Addr × Obj)} {σ:List (Option V)} {H H' : Hp} {s:Shared} {h' : Heap}
theorem Cx.Ok.nofr (ok:X.Ok) {b:Addr} {o:Obj} (e:X.base.get? b=some o):b ∉ X.fs:=fun hb => by
 have:=(ok.funs.mem hb).1
 rw [e] at this; cases this
theorem Inv.bs (I:Inv X pins σ H s):∀ b o,X.base.get? b=some o→s.heap.get? b=some o∧H b=none:=fun b o e =>
 ⟨I.base.keep b o (I.ok.bs b o e).1 (I.ok.bs b o e).2 (I.ok.nofr e) (I.ok.noex b o e),I.base.free b o (I.ok.bs b o e).1 (I.ok.bs b o e).2 (I.ok.noex b o e)⟩
theorem Inv.bk (I:Inv X pins σ H s):∀ b o,X.base.get? b=some o→s.heap.get? b=some o:=fun b o e => (I.bs b o e).1
theorem Inv.mod (I:Inv X pins σ H s):Mod X.K X.mg X.base:=I.ok.mod
theorem Inv.kIn (I:Inv X pins σ H s):X.K.In s.heap:=I.ok.mod.kin.keeps I.bk
theorem Inv.lt (I:Inv X pins σ H s):X.env.locals < s.heap.objs.size:=let ⟨_,hn,_⟩:=I.loc; hn.lt
theorem Inv.sz (I:Inv X pins σ H s):X.s₀.heap.objs.size ≤ s.heap.objs.size:=Nat.le_trans I.ok.above (Nat.le_of_lt I.lt)
theorem Inv.nofs (I:Inv X pins σ H s) {a:Addr} (h:s.heap.objs.size ≤ a):a ∉ X.fs:=fun hb => by
 obtain ⟨_,o,ho,_⟩:=I.ok.funs.mem hb
 exact absurd (Nat.lt_of_lt_of_le (Heap.lt_size ho) (Nat.le_trans I.sz h)) (Nat.lt_irrefl _)
theorem Inv.cne (I:Inv X pins σ H s):∀ x c,X.env.cells.lookup x=some c→c ≠ X.env.locals:=fun x c e z => by
 obtain ⟨v,o,ho,hd⟩:=I.cell x c e
 obtain ⟨m,⟨o',es,ep,ho',hd',_⟩,_⟩:=I.loc
 rw [z,ho'] at ho; cases ho; rw [hd'] at hd; cases hd
theorem Inv.funs (I:Inv X pins σ H s):s.heap.FunFrames X.base X.outer:=by
 have all:∀ (l:List Env),(∀ b ∈ frs l,b ∈ X.fs)→X.s₀.heap.FunFrames X.base l→s.heap.FunFrames X.base l:=by
  intro l
  induction l with
  | nil => intro _ _; trivial
  | cons env r ih =>
   intro hs hl
   obtain ⟨hk,⟨L,o,hf,hn,ho,hd⟩,hr⟩:=hl
   have hL:L ∈ X.fs:=hs L (by unfold frs; rw [List.filterMap_cons,hf]; exact List.mem_cons_self)
   obtain ⟨sl,e⟩:=I.base.slot L o ho (I.ok.frf L hL) hL fun z => I.ok.exfs L z hL
   exact ⟨hk,⟨L,_,hf,hn,e,hd⟩,ih (fun b hb => hs b (by unfold frs; rw [List.filterMap_cons,hf]; exact List.mem_cons_of_mem _ hb)) hr⟩
 exact all X.outer (fun _ hb => hb) I.ok.funs
theorem Inv.stack (I:Inv X pins σ H s):s.heap.FunFrames X.base X.stack:=by
 rcases I.ok.stk with e | ⟨e,hf⟩
 ·rw [e]; exact I.funs
 ·rw [e]
  obtain ⟨m,hn,_⟩:=I.loc
  refine .cons (by rw [I.ok.kind]; decide) hf hn ?_ I.funs
  exact Heap.get?_none_of_le (Nat.le_trans I.ok.bsz I.ok.above)
theorem Inv.stkSub (I:Inv X pins σ H s):∀ b ∈ frs X.stack,b ∈ X.env.locals :: X.fs:=fun b hb => by
 rcases I.ok.stk with e | ⟨e,hf⟩
 ·rw [e] at hb; exact List.mem_cons_of_mem _ hb
 ·rw [e] at hb
  unfold frs at hb
  rw [List.filterMap_cons,hf] at hb
  exact hb
theorem Inv.stkFree (I:Inv X pins σ H s):∀ b ∈ frs X.stack,H b=none:=fun b hb => by
 rcases List.mem_cons.mp (I.stkSub b hb) with e | hb
 ·rw [e]; exact I.free
 ·obtain ⟨_,o,ho,_⟩:=I.ok.funs.mem hb
  exact I.base.free b o ho (I.ok.frf b hb) fun z => I.ok.exfs b z hb
theorem Inv.step {g' : Array GenState} {t' : Nat} {d' : Drawn} {ch:List Addr} (I:Inv X pins σ H s)
  (hch:∀ b ∈ ch,(b ∈ X.ex ∨ X.s₀.heap.objs.size ≤ b)∧b ≠ X.env.locals∧(∀ x c,X.env.cells.lookup x=some c→c ≠ b)∧∀ p ∈ X.pn ++ pins,p.1 ≠ b)
  (keep:∀ b o,b ≠ X.env.locals→b ∉ X.fs→b ∉ ch→s.heap.get? b=some o→H b=none→h'.get? b=some o)
  (slot:∀ b o,b ≠ X.env.locals→b ∈ X.fs→b ∉ ch→s.heap.get? b=some o→H b=none→∃ sl,h'.get? b=some { o with slots:=sl }) (free:∀ b o,b ∉ ch→s.heap.get? b=some o→H b=none→H' b=none)
  (there:∀ b o,b ∉ ch→s.heap.get? b=some o→∃ o',h'.get? b=some o')
  (tups:∀ b xs,H b=some (.tup xs)→H' b=some (.tup xs)) (frzs:∀ b o u,H b=some (.frz o u)→H' b=some (.frz o u)) (tbls:∀ b ps,H b=some (.tbl ps)→∃ more,H' b=some (.tbl (ps ++ more)))
  (ns:∀ m,s.heap.Ns X.env.locals m→h'.Ns X.env.locals m) (hok:HOk X.prog X.w H' h') (hg:AllBare g') :
  Inv X pins σ H' { s with heap:=h',gens:=g',drawn:=d',toks:=t' }:=by
 have neL:∀ b o,X.s₀.heap.get? b=some o→b ≠ X.env.locals:=fun b o e => Nat.ne_of_lt (Nat.lt_of_lt_of_le (Heap.lt_size e) I.ok.above)
 have neC:∀ b o,X.s₀.heap.get? b=some o→b ∉ X.ex→b ∉ ch:=fun b o e hx hb => by
  rcases (hch b hb).1 with z | z
  ·exact hx z
  ·exact absurd (Nat.lt_of_lt_of_le (Heap.lt_size e) z) (Nat.lt_irrefl _)
 have cellK:∀ x c,X.env.cells.lookup x=some c→∀ v,s.heap.IsCell c v→h'.IsCell c v:=fun x c e v ⟨o,ho,hd⟩ => by
  have nch:c ∉ ch:=fun z => (hch c z).2.2.1 x c e rfl
  by_cases hc:c ∈ X.fs
  ·obtain ⟨sl,q⟩:=slot c o (I.cne x c e) hc nch ho (I.freeC x c e)
   exact ⟨_,q,hd⟩
  ·exact ⟨o,keep c o (I.cne x c e) hc nch ho (I.freeC x c e),hd⟩
 refine ⟨I.ok,I.os,hg,⟨fun b o e n hb hx => ?_,fun b o e n hb hx => ?_,fun b o e n hx => ?_,fun b o e hx => ?_,fun b xs e => tups b xs (I.base.tups b xs e),fun b o xs e => frzs b o xs (I.base.frzs b o xs e),fun b ps e => ?_⟩,?_,fun x c e => ?_,?_,fun x c e => ?_,fun p hp => ?_,hok,I.len⟩
 ·exact keep b o (neL b o e) hb (neC b o e hx) (I.base.keep b o e n hb hx) (I.base.free b o e n hx)
 ·obtain ⟨sl,e1⟩:=I.base.slot b o e n hb hx
  obtain ⟨sl',e2⟩:=slot b _ (neL b o e) hb (neC b o e hx) e1 (I.base.free b o e n hx)
  exact ⟨sl',e2⟩
 ·obtain ⟨o',e1⟩:=I.base.there b o e hx
  exact free b o' (neC b o e hx) e1 (I.base.free b o e n hx)
 ·obtain ⟨o',e1⟩:=I.base.there b o e hx
  exact there b o' (neC b o e hx) e1
 ·obtain ⟨m1,e1⟩:=I.base.tbls b ps e
  obtain ⟨m2,e2⟩:=tbls b _ e1
  exact ⟨m1 ++ m2,by rw [e2,Array.append_assoc]⟩
 ·obtain ⟨m,hn,hl⟩:=I.loc
  refine ⟨m,ns m hn,fun i x v e1 e2 e3 => ?_⟩
  obtain ⟨u,r,l⟩:=hl i x v e1 e2 e3
  refine ⟨u,r,?_⟩
  rcases l with l | ⟨k,c,e,z⟩
  ·exact .inl l
  ·exact .inr ⟨k,c,e,cellK x c e _ z⟩
 ·obtain ⟨v,z⟩:=I.cell x c e
  exact ⟨v,cellK x c e v z⟩
 ·obtain ⟨m,⟨o,_,_,ho,_⟩,_⟩:=I.loc
  exact free _ o (fun z => (hch _ z).2.1 rfl) ho I.free
 ·obtain ⟨v,o,ho,hd⟩:=I.cell x c e
  exact free c o (fun z => (hch c z).2.2.1 x c e rfl) ho (I.freeC x c e)
 ·obtain ⟨e,n,ne,nf,d⟩:=I.pin p hp
  have nch:p.1 ∉ ch:=fun z => (hch p.1 z).2.2.2 p hp rfl
  exact ⟨keep p.1 p.2 ne nf nch e n,free p.1 p.2 nch e n,ne,nf,d⟩
theorem Inv.un {t' : Nat} (I:Inv X pins σ H s) (u:Un X.fs [] H H' s.heap h') (hok:HOk X.prog X.w H' h'):Inv X pins σ H' { s with heap:=h',toks:=t' }:=by
 obtain ⟨m,⟨o,es,ep,ho,r⟩,_⟩:=id I.loc
 obtain ⟨sl,hL⟩:=u.any ho I.free (by simp)
 exact I.step (g':=s.gens) (d':=s.drawn) (ch:=[]) (fun _ z => nomatch z) (fun b o _ hb _ e n => u.keep b o e n hb (by simp)) (fun b o _ hb _ e n => u.slot b o e n hb (by simp)) (fun b o _ e n => u.free b o e n (by simp)) (fun b o _ e => u.there b o e (by simp)) u.tups u.frzs u.tbls (fun m' hm => by
  obtain ⟨o',es',ep',ho',r'⟩:=hm
  rw [ho] at ho'; cases ho'
  exact ⟨_,es',ep',hL,r'⟩) hok I.bare
theorem Inv.call {g' : Array GenState} {t' : Nat} {d' : Drawn} {ch:List Addr} (I:Inv X pins σ H s) (u:Un (frs X.stack) ch H H' s.heap h') (hok:HOk X.prog X.w H' h') (hg:AllBare g')
  (hch:∀ b ∈ ch,(b ∈ X.ex ∨ X.s₀.heap.objs.size ≤ b)∧b ≠ X.env.locals∧(∀ x c,X.env.cells.lookup x=some c→c ≠ b)∧∀ p ∈ X.pn ++ pins,p.1 ≠ b) :
  Inv X pins σ H' { s with heap:=h',gens:=g',drawn:=d',toks:=t' }:=by
 obtain ⟨m,⟨o,es,ep,ho,r⟩,_⟩:=id I.loc
 obtain ⟨sl,hL⟩:=u.any ho I.free fun z => (hch _ z).2.1 rfl
 exact I.step (ch:=ch) hch (fun b o hL hb hc e n => u.keep b o e n (fun z => (List.mem_cons.mp (I.stkSub b z)).elim hL hb) hc) (fun b o _ _ hc e n => u.any e n hc) (fun b o hc e n => u.free b o e n hc) (fun b o hc e => u.there b o e hc) u.tups u.frzs u.tbls (fun m' hm => by
  obtain ⟨o',es',ep',ho',r'⟩:=hm
  rw [ho] at ho'; cases ho'
  exact ⟨_,es',ep',hL,r'⟩) hok hg
theorem Inv.turned {t' : Nat} {it:Addr} (I:Inv X pins σ H s) (k:∀ b o,b ≠ it→s.heap.get? b=some o→h'.get? b=some o) (hn:H it=none) (hL:it ≠ X.env.locals)
  (h1:it ∈ X.ex ∨ X.s₀.heap.objs.size ≤ it) (h2:∀ x c,X.env.cells.lookup x=some c→c ≠ it) (h3:∀ p ∈ X.pn ++ pins,p.1 ≠ it):Inv X pins σ H { s with heap:=h',toks:=t' }:=by
 have nit:∀ b u,H b=some u→b ≠ it:=fun b u e z => by rw [z,hn] at e; cases e
 refine I.step (g':=s.gens) (d':=s.drawn) (ch:=[it]) (fun b hb => ?_) (fun b o _ _ hc e _ => k b o (fun z => hc (by simp [z])) e) (fun b o _ _ hc e _ => ⟨o.slots,k b o (fun z => hc (by simp [z])) e⟩) (fun _ _ _ _ n => n)
  (fun b o hc e => ⟨o,k b o (fun z => hc (by simp [z])) e⟩) (fun _ _ e => e) (fun _ _ _ e => e) (fun b ps e => ⟨#[],by rw [e]; simp⟩) (fun m hm => ?_) (fun b u e => ?_) I.bare
 ·have e:b=it:=by simpa using hb
  subst e
  exact ⟨h1,hL,h2,h3⟩
 ·obtain ⟨o,es,ep,ho,r⟩:=hm
  exact ⟨o,es,ep,k _ o (Ne.symm hL) ho,r⟩
 ·refine (I.hok b u e).stay (fun c v hc q => k c v ?_ q) (fun _ q => q) fun _ _ q => q
  rcases hc with z | z
  ·rw [z]; exact nit b u e
  ·exact nit c _ z
theorem Inv.tok (I:Inv X pins σ H s) (t:Nat):Inv X pins σ H { s with toks:=t }:=I.un (h':=s.heap) (t':=t) Un.refl I.hok
theorem Inv.kept {t' : Nat} (I:Inv X pins σ H s) (k:∀ b u,s.heap.get? b=some u→h'.get? b=some u):Inv X pins σ H { s with heap:=h',toks:=t' }:=I.un (Un.kept k) (I.hok.kept k)
theorem Inv.laid {a:Addr} {o:HO} {t' : Nat} (I:Inv X pins σ H s) (k:∀ b u,s.heap.get? b=some u→h'.get? b=some u) (hp:s.heap.objs.size ≤ a) (new:ObjOk X.prog X.w (upd H a o) h' a o) :
  Inv X pins σ (upd H a o) { s with heap:=h',toks:=t' }:=I.un (Un.laid k hp (I.hok.fresh hp)) (I.hok.laid k hp new)
theorem Inv.write {x e:Addr} {o:HO} {t' : Nat} (I:Inv X pins σ H s) (mu:Mut (H x)) (he:e=x ∨ H e=some (.own x)) (k:∀ b u,b ≠ e→s.heap.get? b=some u→h'.get? b=some u) (heo:∃ u,h'.get? e=some u)
  (new:ObjOk X.prog X.w (upd H x o) h' x o):Inv X pins σ (upd H x o) { s with heap:=h',toks:=t' }:=I.un (Un.write mu he k heo) (I.hok.write mu he k heo new)
theorem Inv.pins_of {pins' : List (Addr × Obj)} (I:Inv X pins σ H s) (h:∀ p ∈ pins',s.heap.get? p.1=some p.2∧H p.1=none∧p.1 ≠ X.env.locals∧p.1 ∉ X.fs∧∀ v,p.2.data ≠ .cell v):Inv X pins' σ H s :=
 ⟨I.ok,I.os,I.bare,I.base,I.loc,I.cell,I.free,I.freeC,fun p hp => (List.mem_append.mp hp).elim (fun z => I.pin p (List.mem_append_left _ z)) (h p),I.hok,I.len⟩
theorem nodup_ix {N:List Str} (hN:N.Nodup) {i j:Nat} {x:Str} (a:N[i]? = some x) (b:N[j]? = some x):i=j:=by
 obtain ⟨h1,e1⟩:=List.getElem?_eq_some_iff.mp a
 obtain ⟨h2,e2⟩:=List.getElem?_eq_some_iff.mp b
 exact (List.getElem_inj hN).mp (e1.trans e2.symm)
theorem store_ok2 {M:Model} {A:Around} {E:Value→Shared→Prop} {i:Nat} {x:Str} {v:V} {u:Value} {Q:Unit→Shared→Prop} (I:Inv X pins σ H s) (hN:X.N.Nodup) (hi:X.N[i]? = some x) (hx:Loc X.env.scope x) (r:RelV v u)
  (h:∀ s',Inv X pins (σ.set i (some v)) H s'→(∃ a,Heap.SameBut a s.heap s'.heap∧(a=X.env.locals ∨ X.env.cells.lookup x=some a))→Q () s') (hf:X.fn x=true ∨ X.env.scope.names.lookup x=some .local:=by first | exact .inl rfl | exact .inr rfl | assumption):wpAny M A (storeName X.env x u) Q E s:=by
 obtain ⟨m,hn,hl⟩:=id I.loc
 have hcls:(X.env.scope.kind == .class || (X.env.scope.kind == .module && X.env.locals != X.env.globals))=false:=by rw [I.ok.kind]; rfl
 have hiσ:i < σ.length:=by rw [I.len]; exact (List.getElem?_eq_some_iff.mp hi).1
 have cne:=I.cne
 have tracked:∀ {a:Addr} {h' : Heap},(∃ o,s.heap.get? a=some o∧H a=none)→Heap.SameBut a s.heap h'→HOk X.prog X.w H h':=fun {a h'} ha hs b ob e => by
  obtain ⟨_,_,hfree⟩:=ha
  refine (I.hok b ob e).stay (fun c w' hc q => (hs.2 c ?_).trans q) (fun _ q => q) fun _ _ q => q
  rintro rfl
  rcases hc with rfl | hc
  ·rw [hfree] at e; cases e
  ·rw [hfree] at hc; cases hc
 rcases hx with hk | hk
 ·refine wpAny_storeName_local hk hn (fun h' hn' hs => ?_) hcls
  obtain ⟨oL,_,_,hoL,_⟩:=id hn
  refine h _ ⟨I.ok,I.os,I.bare,⟨fun b o e n hb hx => ?_,fun b o e n hb hx => ?_,I.base.free,fun b o e hx => ?_,I.base.tups,I.base.frzs,I.base.tbls⟩,⟨_,hn',fun j y v' e1 e2 e3 => ?_⟩,fun y c e => ?_,I.free,I.freeC,fun p hp => ?_,tracked ⟨oL,hoL,I.free⟩ hs,by simpa using I.len⟩ ⟨_,hs,.inl rfl⟩
  ·exact (hs.2 b (Nat.ne_of_lt (Nat.lt_of_lt_of_le (Heap.lt_size e) I.ok.above))).trans (I.base.keep b o e n hb hx)
  ·obtain ⟨sl,e1⟩:=I.base.slot b o e n hb hx
   exact ⟨sl,(hs.2 b (Nat.ne_of_lt (Nat.lt_of_lt_of_le (Heap.lt_size e) I.ok.above))).trans e1⟩
  ·obtain ⟨o',e1⟩:=I.base.there b o e hx
   exact ⟨o',(hs.2 b (Nat.ne_of_lt (Nat.lt_of_lt_of_le (Heap.lt_size e) I.ok.above))).trans e1⟩
  ·by_cases hj:j=i
   ·subst hj
    rw [hi] at e1; cases e1
    rw [List.getElem?_set_self hiσ] at e2
    cases e2
    exact ⟨u,r,.inl ⟨hk,by simp⟩⟩
   ·rw [List.getElem?_set_ne (Ne.symm hj)] at e2
    obtain ⟨u',r',q⟩:=hl j y v' e1 e2 e3
    refine ⟨u',r',?_⟩
    rcases q with ⟨k,e⟩ | ⟨k,c,e,z⟩
    ·refine .inl ⟨k,?_⟩
     have:y ≠ x:=fun e => hj (nodup_ix hN e1 (e ▸ hi))
     simp [this,e]
    ·exact .inr ⟨k,c,e,z.sameBut hs (cne y c e)⟩
  ·obtain ⟨w',z⟩:=I.cell y c e
   exact ⟨w',z.sameBut hs (cne y c e)⟩
  ·obtain ⟨e,n,ne,nf,d⟩:=I.pin p hp
   exact ⟨(hs.2 p.1 ne).trans e,n,ne,nf,d⟩
 ·have hfn:X.fn x=true:=by
   rcases hf with z | z
   ·exact z
   ·rw [z] at hk; cases hk
  obtain ⟨c,hc⟩:=I.ok.has x (.inl hk)
  obtain ⟨w',z⟩:=I.cell x c hc
  refine wpAny_storeName_cell I.ok.kind hk hc z (fun h' hc' hs => ?_)
  obtain ⟨oc,hoc,hocd⟩:=id z
  refine h { s with heap:=h' } ⟨I.ok,I.os,I.bare,⟨fun b o e n hb hx => ?_,fun b o e n hb hx => ?_,I.base.free,fun b o e hx => ?_,I.base.tups,I.base.frzs,I.base.tbls⟩,⟨m,hn.sameBut hs (Ne.symm (cne x c hc)),fun j y v' e1 e2 e3 => ?_⟩,fun y c' e => ?_,I.free,I.freeC,fun p hp => ?_,tracked ⟨oc,hoc,I.freeC x c hc⟩ hs,by simpa using I.len⟩ ⟨c,hs,.inr hc⟩
  ·exact (hs.2 b (Nat.ne_of_lt (Nat.lt_of_lt_of_le (Heap.lt_size e) (I.ok.cab x c hfn hc)))).trans (I.base.keep b o e n hb hx)
  ·obtain ⟨sl,e1⟩:=I.base.slot b o e n hb hx
   exact ⟨sl,(hs.2 b (Nat.ne_of_lt (Nat.lt_of_lt_of_le (Heap.lt_size e) (I.ok.cab x c hfn hc)))).trans e1⟩
  ·obtain ⟨o',e1⟩:=I.base.there b o e hx
   exact ⟨o',(hs.2 b (Nat.ne_of_lt (Nat.lt_of_lt_of_le (Heap.lt_size e) (I.ok.cab x c hfn hc)))).trans e1⟩
  ·by_cases hj:j=i
   ·subst hj
    rw [hi] at e1; cases e1
    rw [List.getElem?_set_self hiσ] at e2
    cases e2
    exact ⟨u,r,.inr ⟨.inl hk,c,hc,hc'⟩⟩
   ·rw [List.getElem?_set_ne (Ne.symm hj)] at e2
    obtain ⟨u',r',q⟩:=hl j y v' e1 e2 e3
    refine ⟨u',r',?_⟩
    rcases q with q | ⟨k,c',e,z'⟩
    ·exact .inl q
    ·refine .inr ⟨k,c',e,z'.sameBut hs ?_⟩
     rintro rfl
     exact hj (nodup_ix hN e1 (I.ok.inj _ _ _ e hc ▸ hi))
  ·by_cases hcc:c' = c
   ·subst hcc; exact ⟨_,hc'⟩
   ·obtain ⟨w2,z2⟩:=I.cell y c' e
    exact ⟨w2,z2.sameBut hs hcc⟩
  ·obtain ⟨e,n,ne,nf,d⟩:=I.pin p hp
   refine ⟨(hs.2 p.1 ?_).trans e,n,ne,nf,d⟩
   intro q
   rw [q,hoc] at e
   have q' : oc=p.2:=Option.some.inj e
   exact d w' (by rw [← q']; exact hocd)
theorem store_ok {M:Model} {A:Around} {E:Value→Shared→Prop} {i:Nat} {x:Str} {v:V} {u:Value} {Q:Unit→Shared→Prop} (I:Inv X pins σ H s) (hN:X.N.Nodup) (hi:X.N[i]? = some x) (hx:Loc X.env.scope x) (r:RelV v u)
  (h:∀ s',Inv X pins (σ.set i (some v)) H s'→Q () s') (hf:X.fn x=true ∨ X.env.scope.names.lookup x=some .local:=by first | exact .inl rfl | exact .inr rfl | assumption):wpAny M A (storeName X.env x u) Q E s :=
 store_ok2 I hN hi hx r (fun s' I' _ => h s' I') hf
theorem Inv.call' {s' : Shared} {ch:List Addr} (I:Inv X pins σ H s) (ho:s'.os=s.os) (u:Un (frs X.stack) ch H H' s.heap s'.heap) (hok:HOk X.prog X.w H' s'.heap) (hg:AllBare s'.gens)
  (hch:∀ b ∈ ch,(b ∈ X.ex ∨ X.s₀.heap.objs.size ≤ b)∧b ≠ X.env.locals∧(∀ x c,X.env.cells.lookup x=some c→c ≠ b)∧∀ p ∈ X.pn ++ pins,p.1 ≠ b):Inv X pins σ H' s':=by
 obtain ⟨h',g',d',t',o'⟩:=s'
 have e:o' = s.os:=ho
 subst e
 exact I.call (g':=g') (t':=t') (d':=d') u hok hg hch
end
abbrev XK:=Value→Option Addr→Hp→Prop
abbrev St:=List (Option V)
abbrev VK:=V→Hp→Prop
abbrev TE:=St→Hp→VK→Prop
abbrev TT:=St→Hp→(Bool→Hp→Prop)→Prop
abbrev TA:=St→Hp→(List V→Hp→Prop)→Prop
structure Ends where
 nx:St→Hp→Prop
 rt:VK
 bk:St→Hp→Prop:=fun _ _ => False
 ct:St→Hp→Prop:=fun _ _ => False
abbrev TS:=Ends→St→Hp→Prop
def EP (X:Cx) (pins:List (Addr × Obj)) (σ:St) (Q:VK) (u:Value) (s' : Shared):Prop:=∃ v H',Inv X pins σ H' s'∧RelV v u∧Q v H'
def TP (X:Cx) (pins:List (Addr × Obj)) (σ:St) (Q:Bool→Hp→Prop) (b:Bool) (s' : Shared):Prop:=∃ H',Inv X pins σ H' s'∧Q b H'
def AP (X:Cx) (pins:List (Addr × Obj)) (σ:St) (Q:List V→Hp→Prop) (us:List Value) (s' : Shared):Prop:=∃ vs H',Inv X pins σ H' s'∧Vals vs us∧Q vs H'
def SP (X:Cx) (pins:List (Addr × Obj)) (D:Ends) (f:Flow) (s' : Shared):Prop :=
 match f with
 | .next => ∃ σ' H',Inv X pins σ' H' s'∧D.nx σ' H'
 | .brk => ∃ σ' H',Inv X pins σ' H' s'∧D.bk σ' H'
 | .cont => ∃ σ' H',Inv X pins σ' H' s'∧D.ct σ' H'
 | .ret u => ∃ v σ' H',Inv X pins σ' H' s'∧RelV v u∧D.rt v H'
def PE (X:Cx) (e:Expr) (t:TE):Prop :=
 ∀ (pins:List (Addr × Obj)) (s:Shared) (σ:St) (H:Hp) (Q:VK),Inv X pins σ H s→t σ H Q→wpAny (model X.prog X.w) X.A (eval e X.env) (EP X pins σ Q) X.xe s
def PT (X:Cx) (e:Expr) (t:TT):Prop :=
 ∀ (pins:List (Addr × Obj)) (s:Shared) (σ:St) (H:Hp) (Q:Bool→Hp→Prop),Inv X pins σ H s→t σ H Q→wpAny (model X.prog X.w) X.A (isTrue e X.env (eval e X.env)) (TP X pins σ Q) X.xe s
def PW (X:Cx) (e:Expr) (t:TT):Prop :=
 ∀ (whole:Sem Value) (pins:List (Addr × Obj)) (s:Shared) (σ:St) (H:Hp) (Q:Bool→Hp→Prop),Inv X pins σ H s→t σ H Q→wpAny (model X.prog X.w) X.A (isTrue e X.env whole) (TP X pins σ Q) X.xe s
theorem PW.pt {X:Cx} {e:Expr} {t:TT} (h:PW X e t):PT X e t:=h _
def PA (X:Cx) (es:List Expr) (t:TA):Prop :=
 ∀ (pos:PySem.Pos) (pins:List (Addr × Obj)) (s:Shared) (σ:St) (H:Hp) (Q:List V→Hp→Prop),Inv X pins σ H s→t σ H Q→wpAny (model X.prog X.w) X.A (spliced (backTo pos (starEach es X.env))) (AP X pins σ Q) X.xe s
def PS (X:Cx) (st:Stmt) (t:TS):Prop :=
 ∀ (pins:List (Addr × Obj)) (s:Shared) (σ:St) (H:Hp) (D:Ends),Inv X pins σ H s→t D σ H→wpAny (model X.prog X.w) X.A (exec st X.env) (SP X pins D) X.xe s
def PSs (X:Cx) (st:List Stmt) (t:TS):Prop :=
 ∀ (pins:List (Addr × Obj)) (s:Shared) (σ:St) (H:Hp) (D:Ends),Inv X pins σ H s→t D σ H→wpAny (model X.prog X.w) X.A (execs st X.env) (SP X pins D) X.xe s
theorem thn {α:Type} {t:Sem α} {Q Q' : α→Shared→Prop} {M:Model} {A:Around} {E:Value→Shared→Prop} {s:Shared} (h:wpAny M A t Q E s) (hQ:∀ a s,Q a s→Q' a s):wpAny M A t Q' E s:=wpAny_mono h hQ fun _ _ x => x
end L2
namespace L2
open PySem PySem.Spec PyProof.Rows
section
variable {X:Cx}
def tVar (i:Nat):TE:=fun σ H Q => ∃ v,σ[i]? = some (some v)∧Q v H
def tC (v:V):TE:=fun _ H Q => Q v H
theorem pe_var {i:Nat} {x:Str} {pos:PySem.Pos} (hN:X.N[i]? = some x) (hv:Vis X.env.scope x) (hd:(x == ("__debug__" : Str))=false:=by decide) (hcd:(x == ("__classdict__" : Str))=false:=by decide):PE X (.Name x pos) (tVar i):=by
 intro pins s σ H Q I h
 obtain ⟨v,e,h⟩:=h
 obtain ⟨m,hn,hl⟩:=I.loc
 obtain ⟨u,r,l⟩:=hl i x v hN e hv
 have fin:EP X pins σ Q u s:=⟨v,H,I,r,h⟩
 rcases l with ⟨hk,hm⟩ | ⟨hk,c,hc,hcell⟩
 ·exact wpAny_Name (wpAny_loadName_local I.ok.kind hk hn hm fin) hd
 ·rcases hk with hk | hk
  ·exact wpAny_Name (wpAny_loadName_cell I.ok.kind hk hc hcell fin) hd
  ·exact wpAny_Name (wpAny_loadName_free I.ok.kind hk hc hcell fin hcd) hd
theorem pe_int {i j pos} : PE X (.Constant (.int i) j pos) (tC (.int i)):=fun _ _ _ H _ I h => wpAny_Constant_int ⟨.int i,H,I.tok _,⟨_,rfl⟩,h⟩
theorem pe_bl {b j pos} : PE X (.Constant (.bool b) j pos) (tC (.bl b)):=fun _ _ _ H _ I h => Constant_bool ⟨.bl b,H,I,rfl,h⟩
theorem pe_non {j pos} : PE X (.Constant .none j pos) (tC .non):=fun _ _ _ H _ I h => Constant_none ⟨.non,H,I,rfl,h⟩
def Gl (X:Cx) (x:Str):Prop:=X.env.kindOf x=some .globalImplicit
theorem ld_glob {E:Value→Shared→Prop} {pins:List (Addr × Obj)} {s:Shared} {σ:St} {H:Hp} {x:Str} {u:Value} {pos:PySem.Pos} {Q:Value→Shared→Prop} (I:Inv X pins σ H s) (hg:Gl X x) (hm:X.mg x=some u) (h:Q u s)
  (hd:(x == ("__debug__" : Str))=false:=by decide):wpAny (model X.prog X.w) X.A (eval (.Name x pos) X.env) Q E s :=
 Calls.Name_function_global I.ok.kind hg (Calls.loadGlobal_global (by rw [I.ok.glob]; exact I.mod.glob.keeps I.bk) hm h) hd
theorem ld_blt {E:Value→Shared→Prop} {pins:List (Addr × Obj)} {s:Shared} {σ:St} {H:Hp} {x:Str} {u:Value} {pos:PySem.Pos} {Q:Value→Shared→Prop} (I:Inv X pins σ H s) (hg:Gl X x) (hm:X.mg x=none) (hv:bootBuiltins x=some u) (h:Q u s)
  (hn:x ≠ "__name__" := by decide) (hd:(x == ("__debug__" : Str))=false:=by decide):wpAny (model X.prog X.w) X.A (eval (.Name x pos) X.env) Q E s:=by
 obtain ⟨mb,h1,h2⟩:=I.mod.blt
 exact Calls.Name_function_global I.ok.kind hg (Calls.loadGlobal_builtin (by rw [I.ok.glob]; exact I.mod.glob.keeps I.bk) hm (by rw [I.ok.blt]; exact h1.keeps I.bk) ((h2 x hn).trans hv) h) hd
theorem pe_glob {x:Str} {v:V} {u:Value} {pos:PySem.Pos} (hg:Gl X x) (hm:X.mg x=some u) (r:RelV v u) (hd:(x == ("__debug__" : Str))=false:=by decide):PE X (.Name x pos) (tC v) :=
 fun _ _ _ H _ I h => ld_glob I hg hm ⟨v,H,I,r,h⟩ hd
theorem pe_bltn {x:Str} {v:V} {u:Value} {pos:PySem.Pos} (hg:Gl X x) (hm:X.mg x=none) (hv:bootBuiltins x=some u) (r:RelV v u) (hn:x ≠ "__name__" := by decide) (hd:(x == ("__debug__" : Str))=false:=by decide):PE X (.Name x pos) (tC v) :=
 fun _ _ _ H _ I h => ld_blt I hg hm hv ⟨v,H,I,r,h⟩ hn hd
variable {a b:Expr} {ta tb:TE} {pos:PySem.Pos}
def tB (t:TE):TT:=fun σ H Q => t σ H fun x H1 => ∃ c,x = .bl c∧Q c H1
theorem pt_val {e:Expr} {t:TE} (h:PE X e t) (he:∀ whole,isTrue e X.env whole=(do let v ← whole; standAt e.pos; holding [v] (truthy v)):=by intro _; rfl):PT X e (tB t):=by
 intro pins s σ H Q I hw
 refine isTrue_plain (thn (h pins s σ H _ I hw) fun v s1 ⟨x,H1,I1,r1,q1⟩ => ?_) (he _)
 obtain ⟨d,rfl,q⟩:=q1
 cases r1
 exact wpAny_truthy_bool ⟨H1,I1,q⟩
variable {tA tB' : TT} {rest:List Expr}
def tAnd (t u:TT):TT:=fun σ H Q => t σ H fun c H1 => if c=true then u σ H1 Q else Q false H1
def tOr (t u:TT):TT:=fun σ H Q => t σ H fun c H1 => if c=true then Q true H1 else u σ H1 Q
def tNot (t:TT):TT:=fun σ H Q => t σ H fun c H1 => Q (!c) H1
theorem pw_and1 (ha:PT X a tA):PW X (.BoolOp .And [a] pos) tA:=by
 intro wh pins s σ H Q I h
 refine isTrue_and (thn (ha pins s σ H Q I h) fun c s1 e => ?_)
 cases c with
 | true => exact isTrue_and_nil e
 | false => exact e
theorem pw_or1 (ha:PT X a tA):PW X (.BoolOp .Or [a] pos) tA:=by
 intro wh pins s σ H Q I h
 refine isTrue_or (thn (ha pins s σ H Q I h) fun c s1 e => ?_)
 cases c with
 | false => exact isTrue_or_nil e
 | true => exact e
theorem pw_and (ha:PT X a tA) (hb:PW X (.BoolOp .And (b :: rest) pos) tB'):PW X (.BoolOp .And (a :: b :: rest) pos) (tAnd tA tB'):=by
 intro wh pins s σ H Q I h
 refine isTrue_and (thn (ha pins s σ H _ I h) fun c s1 ⟨H1,I1,q1⟩ => ?_)
 cases c with
 | true => exact hb wh pins s1 σ H1 Q I1 q1
 | false => exact ⟨H1,I1,q1⟩
theorem pw_or (ha:PT X a tA) (hb:PW X (.BoolOp .Or (b :: rest) pos) tB'):PW X (.BoolOp .Or (a :: b :: rest) pos) (tOr tA tB'):=by
 intro wh pins s σ H Q I h
 refine isTrue_or (thn (ha pins s σ H _ I h) fun c s1 ⟨H1,I1,q1⟩ => ?_)
 cases c with
 | true => exact ⟨H1,I1,q1⟩
 | false => exact hb wh pins s1 σ H1 Q I1 q1
theorem pt_not (ha:PT X a tA):PT X (.UnaryOp .Not a pos) (tNot tA):=by
 intro pins s σ H Q I h
 exact isTrue_not (ha pins s σ H (fun c H1 => Q (!c) H1) I h)
def tAndV (ta tb:TE):TE:=fun σ H Q => ta σ H fun x H1 => ∃ c,x = .bl c∧if c=true then tb σ H1 Q else Q (.bl false) H1
def tNotV (ta:TE):TE:=fun σ H Q => ta σ H fun x H1 => ∃ c,x = .bl c∧Q (.bl (!c)) H1
theorem pe_one {op} {t:TE} (h:PE X a t):PE X (.BoolOp op [a] pos) t:=fun pins s σ H Q I hw => BoolOp_one (h pins s σ H Q I hw)
theorem pe_and (ha:PE X a ta) (hb:PE X (.BoolOp .And (b :: rest) pos) tb):PE X (.BoolOp .And (a :: b :: rest) pos) (tAndV ta tb):=by
 intro pins s σ H Q I h
 refine BoolOp_and (thn (ha pins s σ H _ I h) fun v s1 ⟨x,H1,I1,r1,q1⟩ => ?_)
 obtain ⟨c,rfl,q1⟩:=q1
 cases r1
 refine wpAny_truthy_bool ?_
 cases c with
 | true => exact hb pins s1 σ H1 Q I1 q1
 | false => exact ⟨.bl false,H1,I1,rfl,q1⟩
theorem pe_not (ha:PE X a ta):PE X (.UnaryOp .Not a pos) (tNotV ta):=by
 intro pins s σ H Q I h
 refine UnaryOp_ (thn (ha pins s σ H _ I h) fun v s1 ⟨x,H1,I1,r1,q1⟩ => ?_)
 obtain ⟨c,rfl,q1⟩:=q1
 cases r1
 exact not_of (wpAny_truthy_bool ⟨.bl (!c),H1,I1,rfl,q1⟩)
def tIf (t:TT) (ta tb:TE):TE:=fun σ H Q => t σ H fun c H1 => if c=true then ta σ H1 Q else tb σ H1 Q
theorem pe_ifExp {c:Expr} (hc:PT X c tA) (ha:PE X a ta) (hb:PE X b tb):PE X (.IfExp c a b pos) (tIf tA ta tb):=by
 intro pins s σ H Q I h
 refine wpAny_IfExp (thn (hc pins s σ H _ I h) fun d s1 ⟨H1,I1,q1⟩ => ?_)
 cases d with
 | true => exact ha pins s1 σ H1 Q I1 q1
 | false => exact hb pins s1 σ H1 Q I1 q1
end
end L2
namespace L2
open PySem PySem.Spec PyProof.Rows
def SqL (K:PySem.W.Frag) (H:Hp) (a:Addr) (xs:List V):Prop :=
 Rd H a (.lst xs) ∨
  ∃ (o:Obj) (its:Array Value) (n:Nat),K.lookup a=some o∧o.cls = .type "list" ∧ o.dict=none∧o.data = .seq its n∧its.size ≤ sizeLine∧Vals xs its.toList
def SqT (K:PySem.W.Frag) (H:Hp) (a:Addr) (xs:List V):Prop :=
 Rd H a (.tup xs) ∨
  ∃ (o:Obj) (its:Array Value) (n:Nat),K.lookup a=some o∧o.cls = .type "tuple" ∧ o.data = .seq its n∧its.size ≤ sizeLine∧Vals xs its.toList
def absV:Value→Option V
 | .none => some .non
 | .bool b => some (.bl b)
 | .int i _ => some (.int i)
 | .str x _ => some (.str x)
 | .bytes b _ => some (.byt b)
 | .float b _ => some (.flt b)
 | .ref a => some (.ref a)
 | .type n => some (.ty n)
 | _ => none
theorem RelV.abs {x:V} {u:Value} (r:RelV x u):absV u=some x:=by
 cases x with
 | non => cases r; rfl
 | bl _ => cases r; rfl
 | int _ => obtain ⟨t,rfl⟩:=r; rfl
 | str _ => obtain ⟨t,rfl⟩:=r; rfl
 | byt _ => obtain ⟨t,rfl⟩:=r; rfl
 | flt _ => obtain ⟨t,rfl⟩:=r; rfl
 | ref _ => cases r; rfl
 | ty _ => cases r; rfl
theorem RelV.inj {x y:V} {u:Value} (r:RelV x u) (q:RelV y u):x=y:=Option.some.inj (r.abs.symm.trans q.abs)
theorem Vals.inj:∀ {xs ys:List V} {us:List Value},Vals xs us→Vals ys us→xs=ys
 | _,_,_,.nil,.nil => rfl
 | _,_,_,.cons r t,.cons r' t' => by rw [r.inj r',Vals.inj t t']
section
variable {X:Cx} {pins:List (Addr × Obj)} {σ:St} {H:Hp} {s:Shared} {a:Addr} {xs ys:List V}
theorem SqL.of {K:PySem.W.Frag} (h:H a=some (.lst xs)):SqL K H a xs:=.inl (.inl h)
theorem SqT.of {K:PySem.W.Frag} (h:H a=some (.tup xs)):SqT K H a xs:=.inl (.inl h)
theorem Inv.list (I:Inv X pins σ H s) (h:SqL X.K H a xs):∃ its:List Value,Vals xs its∧PlainL s.heap a its.toArray∧xs.length ≤ sizeLine:=by
 rcases h with h | ⟨o,its,n,hk,hc,hd,hs,hz,r⟩
 ·obtain ⟨z,its,n,r,e⟩:=h.ok I.hok
  exact ⟨its,r,⟨_,n,e,rfl,rfl,rfl⟩,z⟩
 ·refine ⟨its.toList,r,⟨o,n,I.kIn a o hk,hc,hd,by simpa using hs⟩,?_⟩
  have e:=r.length
  simp only [Array.length_toList] at e
  omega
theorem Inv.tuple (I:Inv X pins σ H s) (h:SqT X.K H a xs):∃ its:List Value,Vals xs its∧IsTup s.heap a its.toArray∧xs.length ≤ sizeLine:=by
 rcases h with h | ⟨o,its,n,hk,hc,hs,hz,r⟩
 ·obtain ⟨z,its,r,p⟩:=h.ok I.hok
  exact ⟨its,r,p,z⟩
 ·refine ⟨its.toList,r,⟨o,I.kIn a o hk,hc,n,by simpa using hs⟩,?_⟩
  have e:=r.length
  simp only [Array.length_toList] at e
  omega
theorem Inv.list_inj (I:Inv X pins σ H s) (h:SqL X.K H a xs) (h' : SqL X.K H a ys):xs=ys:=by
 obtain ⟨its,r,⟨o,n,e,_,_,d⟩,_⟩:=I.list h
 obtain ⟨its',r',⟨o',n',e',_,_,d'⟩,_⟩:=I.list h'
 rw [e] at e'; cases e'
 rw [d] at d'
 injection d' with d1 _
 have:its=its':=by simpa using congrArg Array.toList d1
 subst this
 exact r.inj r'
theorem Inv.tuple_inj (I:Inv X pins σ H s) (h:SqT X.K H a xs) (h' : SqT X.K H a ys):xs=ys:=by
 obtain ⟨its,r,⟨o,e,_,n,d⟩,_⟩:=I.tuple h
 obtain ⟨its',r',⟨o',e',_,n',d'⟩,_⟩:=I.tuple h'
 rw [e] at e'; cases e'
 rw [d] at d'
 injection d' with d1 _
 have:its=its':=by simpa using congrArg Array.toList d1
 subst this
 exact r.inj r'
end
abbrev Cx.wish (X:Cx) (E:Value→Shared→Prop):Cx:={ X with xe:=E }
abbrev Cx.nox (X:Cx):Cx:=X.wish fun _ _ => False
theorem Cx.Ok.wish {X:Cx} (ok:X.Ok) (E:Value→Shared→Prop):(X.wish E).Ok :=
 ⟨ok.mod,ok.kind,ok.glob,ok.blt,ok.above,ok.inj,ok.has,ok.cab,ok.hd,ok.frames,ok.stk,ok.exf,ok.bs,ok.bsz,ok.noex,ok.exfs,ok.funs,ok.frf⟩
theorem Cx.Ok.unwish {X:Cx} {E:Value→Shared→Prop} (ok:(X.wish E).Ok):X.Ok :=
 ⟨ok.mod,ok.kind,ok.glob,ok.blt,ok.above,ok.inj,ok.has,ok.cab,ok.hd,ok.frames,ok.stk,ok.exf,ok.bs,ok.bsz,ok.noex,ok.exfs,ok.funs,ok.frf⟩
section
variable {X:Cx} {pins:List (Addr × Obj)} {σ:St} {H:Hp} {s:Shared} {E:Value→Shared→Prop}
theorem Inv.wish (I:Inv X pins σ H s) (E:Value→Shared→Prop):Inv (X.wish E) pins σ H s:=⟨I.ok.wish E,I.os,I.bare,I.base,I.loc,I.cell,I.free,I.freeC,I.pin,I.hok,I.len⟩
theorem Inv.unwish (I:Inv (X.wish E) pins σ H s):Inv X pins σ H s:=⟨I.ok.unwish,I.os,I.bare,I.base,I.loc,I.cell,I.free,I.freeC,I.pin,I.hok,I.len⟩
theorem SP.unwish {D:Ends} {f:Flow} {s' : Shared} (h:SP (X.wish E) pins D f s'):SP X pins D f s':=by
 cases f with
 | next => obtain ⟨σ',H',I,q⟩:=h; exact ⟨σ',H',I.unwish,q⟩
 | brk => obtain ⟨σ',H',I,q⟩:=h; exact ⟨σ',H',I.unwish,q⟩
 | cont => obtain ⟨σ',H',I,q⟩:=h; exact ⟨σ',H',I.unwish,q⟩
 | ret u => obtain ⟨v,σ',H',I,r,q⟩:=h; exact ⟨v,σ',H',I.unwish,r,q⟩
theorem PSs.nox {st:List Stmt} {t:TS} (h:PSs X.nox st t):PSs X st t:=fun pins s σ H D I hw =>
 wpAny_mono (h pins s σ H D (I.wish _) hw) (fun _ _ q => q.unwish) fun _ _ z => False.elim z
end
section
variable {X:Cx} {st:Stmt} {rest:List Stmt} {t u:TS} {e:Expr} {te:TE} {pos:PySem.Pos}
def tNext:TS:=fun D σ H => D.nx σ H
def tSeq (t u:TS):TS:=fun D σ H => t { D with nx:=u D } σ H
theorem pss_nil:PSs X [] tNext:=fun _ _ σ H _ I h => wpAny_execs_nil ⟨σ,H,I,h⟩
theorem pss_cons (h1:PS X st t) (h2:PSs X rest u):PSs X (st :: rest) (tSeq t u):=by
 intro pins s σ H D I h
 refine wpAny_execs_cons (thn (h1 pins s σ H { D with nx:=u D } I h) fun f s1 q => ?_)
 cases f with
 | next =>
  obtain ⟨σ',H',I',q⟩:=q
  exact h2 pins s1 σ' H' D I' q
 | ret v => exact q
 | brk => exact q
 | cont => exact q
theorem pss_one (h1:PS X st t):PSs X [st] t:=by
 intro pins s σ H D I h
 refine wpAny_execs_cons (thn (h1 pins s σ H D I h) fun f s1 q => ?_)
 cases f with
 | next => exact wpAny_execs_nil q
 | ret v => exact q
 | brk => exact q
 | cont => exact q
theorem Inv.quiet {pins:List (Addr × Obj)} {σ:St} {H:Hp} {s:Shared} (I:Inv X pins σ H s):interactive X.env=false:=by simp [interactive,I.ok.kind]
def tDrop (te:TE):TS:=fun D σ H => te σ H fun _ H1 => D.nx σ H1
theorem ps_expr (he:PE X e te) (hs:swapsWith e none pos.line X.env=pure false:=by rfl):PS X (.Expr e pos) (tDrop te):=by
 intro pins s σ H D I h
 exact wpAny_Expr_any (thn (he pins s σ H _ I h) fun v s1 ⟨x,H1,I1,r1,q1⟩ => ⟨σ,H1,I1,q1⟩) I.quiet hs
def tRet (te:TE):TS:=fun D σ H => te σ H D.rt
theorem ps_ret (he:PE X e te):PS X (.Return (some e) pos) (tRet te):=by
 intro pins s σ H D I h
 exact wpAny_Return_some (thn (he pins s σ H _ I h) fun v s1 ⟨x,H1,I1,r1,q1⟩ => ⟨x,σ,H1,I1,r1,q1⟩)
def tIfS (c:TT) (t u:TS):TS:=fun D σ H => c σ H fun b H1 => if b=true then t D σ H1 else u D σ H1
theorem ps_if {c:Expr} {a b:List Stmt} {tc:TT} (hc:PT X c tc) (ha:PSs X a t) (hb:PSs X b u):PS X (.If c a b pos) (tIfS tc t u):=by
 intro pins s σ H D I h
 refine wpAny_If (thn (hc pins s σ H _ I h) fun d s1 ⟨H1,I1,q1⟩ => ?_)
 cases d with
 | true => exact ha pins s1 σ H1 D I1 q1
 | false => exact hb pins s1 σ H1 D I1 q1
end
abbrev TG:=V→St→Hp→(St→Hp→Prop)→Prop
abbrev TGs:=List V→St→Hp→(St→Hp→Prop)→Prop
def PG (X:Cx) (target:Expr) (t:TG):Prop :=
 ∀ (pins:List (Addr × Obj)) (s:Shared) (σ:St) (H:Hp) (v:V) (u:Value) (Q:St→Hp→Prop),Inv X pins σ H s→RelV v u→t v σ H Q →
  wpAny (model X.prog X.w) X.A (assign target X.env u) (fun _ s' => ∃ σ' H',Inv X pins σ' H' s'∧Q σ' H') X.xe s
def PGs (X:Cx) (ts:List Expr) (t:TGs):Prop :=
 ∀ (pins:List (Addr × Obj)) (s:Shared) (σ:St) (H:Hp) (vs:List V) (us:List Value) (Q:St→Hp→Prop),Inv X pins σ H s→Vals vs us→t vs σ H Q →
  wpAny (model X.prog X.w) X.A (assignInOrder ((assignEach ts X.env).map (·.2)) us) (fun _ s' => ∃ σ' H',Inv X pins σ' H' s'∧Q σ' H') X.xe s
abbrev TSet:=V→V→V→Hp→(Hp→Prop)→Prop
def PSet (X:Cx) (t:TSet):Prop :=
 ∀ (pins:List (Addr × Obj)) (s:Shared) (σ:St) (H:Hp) (o i v:V) (ov iv u:Value) (Q:Hp→Prop),Inv X pins σ H s→RelV o ov→RelV i iv→RelV v u→t o i v H Q →
  wpAny (model X.prog X.w) X.A (setItem ov iv u) (fun _ s' => ∃ H',Inv X pins σ H' s'∧Q H') X.xe s
section
variable {X:Cx} {pos:PySem.Pos}
def gName (i:Nat):TG:=fun v σ H Q => Q (σ.set i (some v)) H
theorem pg_name {i:Nat} {x:Str} (hN:X.N.Nodup) (hi:X.N[i]? = some x) (hx:Loc X.env.scope x) (hf:X.fn x=true ∨ X.env.scope.names.lookup x=some .local:=by first | exact .inl rfl | exact .inr rfl | assumption):PG X (.Name x pos) (gName i):=by
 intro pins s σ H v u Q I r h
 exact wpAny_assign_Name (store_ok I hN hi hx r (fun s' I' => ⟨_,H,I',h⟩) hf)
def gNil:TGs:=fun vs σ H Q => vs=[]∧Q σ H
def gCons (t:TG) (u:TGs):TGs:=fun vs σ H Q => ∃ v r,vs=v :: r∧t v σ H fun σ' H' => u r σ' H' Q
theorem pgs_nil:PGs X [] gNil:=by
 intro pins s σ H vs us Q I r h
 obtain ⟨e,h⟩:=h
 subst e
 cases r
 exact assignInOrder_nil ⟨σ,H,I,h⟩
theorem pgs_cons {e:Expr} {es:List Expr} {t:TG} {u:TGs} (h1:PG X e t) (h2:PGs X es u)
  (hs:(assignEach (e :: es) X.env).map (·.2)=assign e X.env :: (assignEach es X.env).map (·.2):=by rfl):PGs X (e :: es) (gCons t u):=by
 intro pins s σ H vs us Q I r h
 obtain ⟨v,vr,e1,h⟩:=h
 subst e1
 cases r with
 | cons r rr =>
  rw [hs]
  refine assignInOrder_cons (thn (h1 pins s σ H _ _ _ I r h) fun _ s1 ⟨σ1,H1,I1,q1⟩ => ?_)
  exact h2 pins s1 σ1 H1 _ _ Q I1 rr q1
def gTup (K:PySem.W.Frag) (n:Nat) (t:TGs):TG:=fun v σ H Q => ∃ a xs,v = .ref a∧SqT K H a xs∧xs.length=n∧t xs σ H Q
theorem pg_tup {es:List Expr} {k:Nat} {t:TGs} {n:Nat} (hc:X.calm=true) (h:PGs X es t)
  (hn:(assignEach es X.env).length=n:=by rfl) (hst:(assignEach es X.env).findIdx? (·.1)=none:=by rfl):PG X (.Tuple es k pos) (gTup X.K n t):=by
 intro pins s σ H v u Q I r hw
 obtain ⟨a,xs,e1,hq,hl,hw⟩:=hw
 subst e1
 cases r
 obtain ⟨its,rv,ht,hz⟩:=I.tuple hq
 refine assign_Tuple_tuple (I.ok.hd hc) ht (by simp [hn,← hl,rv.length]) hst fun h' hx => ?_
 have I1:Inv X pins σ H { s with heap:=h' }:=I.kept (t':=s.toks) fun b o e => hx b o (Nat.ne_of_lt (Heap.lt_size e)) e
 exact h pins _ σ H xs _ Q I1 (by simpa using rv) hw
def gSub (to ti:TE) (t:TSet):TG:=fun v σ H Q => to σ H fun o H1 => ti σ H1 fun i H2 => t o i v H2 fun H3 => Q σ H3
theorem pg_sub {o i:Expr} {to ti:TE} {t:TSet} (ho:PE X o to) (hi:PE X i ti) (hs:PSet X t)
  (ha:∀ v,assign (.Subscript o i pos) X.env v=(do
   let ov ← holding [v] (eval o X.env)
   let iv ← holding [v,ov] (eval i X.env)
   standAt pos
   holding [v,ov,iv] (setItem ov iv v)
   release [v,ov,iv] []):=by intro _; rfl):PG X (.Subscript o i pos) (gSub to ti t):=by
 intro pins s σ H v u Q I r h
 rw [ha]
 refine wpAny_bind (wpAny_holding (thn (ho pins s σ H _ I h) fun ov s1 ⟨x,H1,I1,r1,q1⟩ => ?_))
 refine wpAny_bind (wpAny_holding (thn (hi pins s1 σ H1 _ I1 q1) fun iv s2 ⟨y,H2,I2,r2,q2⟩ => ?_))
 refine wpAny_bind (wpAny_standAt (wpAny_bind (wpAny_holding (thn (hs pins s2 σ H2 x y v ov iv u _ I2 r1 r2 r q2) fun _ s3 ⟨H3,I3,q3⟩ => ?_))))
 exact wpAny_release ⟨σ,H3,I3,q3⟩
def tAsg (te:TE) (g:TG):TS:=fun D σ H => te σ H fun x H1 => g x σ H1 D.nx
theorem ps_asg {tg e:Expr} {te:TE} {g:TG} (he:PE X e te) (hg:PG X tg g) (hs:swapsWithSole [tg] e pos.line X.env=pure false:=by rfl) (hw:swappedStores [tg] e X.env=pure none:=by rfl)
  (h1:(assignEach [tg] X.env).map (·.2)=[assign tg X.env]:=by rfl):PS X (.Assign [tg] e pos) (tAsg te g):=by
 intro pins s σ H D I h
 refine wpAny_Assign_stores (thn (he pins s σ H _ I h) fun v s1 ⟨x,H1,I1,r1,q1⟩ => ?_) hs hw
 rw [h1]
 exact thn (hg pins s1 σ H1 x v _ I1 r1 q1) fun _ s2 q => q
theorem ps_set {i:Nat} {x:Str} {e:Expr} {te:TE} {pos' : PySem.Pos} (hN:X.N.Nodup) (hi:X.N[i]? = some x) (hx:Loc X.env.scope x) (he:PE X e te) (hs:swapsWith e (some (.Name x pos')) pos.line X.env=pure false:=by rfl) (hf:X.fn x=true ∨ X.env.scope.names.lookup x=some .local:=by first | exact .inl rfl | exact .inr rfl | assumption) :
  PS X (.Assign [.Name x pos'] e pos) (tAsg te (gName i)):=by
 intro pins s σ H D I h
 refine wpAny_Assign_Name (thn (he pins s σ H _ I h) fun v s1 ⟨y,H1,I1,r1,q1⟩ => ?_) hs
 exact store_ok I1 hN hi hx r1 (fun s2 I2 => ⟨_,H1,I2,q1⟩) hf
end
section
variable {X:Cx} {pos:PySem.Pos}
def tWhile (c:TT) (tb:TS):TS:=fun D σ H => ∃ W:Nat→St→Hp→Prop,(∃ m,W m σ H)∧∀ m σ H,W m σ H →
 c σ H fun b H1 => if b=true then ∃ N:St→Hp→Prop,(∀ σ' H',N σ' H'→∃ m',m' < m∧W m' σ' H')∧tb { D with nx:=N,ct:=N,bk:=D.nx } σ H1 else D.nx σ H1
theorem ps_while {c:Expr} {body:List Stmt} {tc:TT} {tb:TS} (hp:PassesOwn (model X.prog X.w) X.A X.env X.xe) (hc:PT X c tc) (hb:PSs X body tb):PS X (.While c body [] pos) (tWhile tc tb):=by
 intro pins s σ H D I h
 obtain ⟨W,⟨m0,w0⟩,turn⟩:=h
 refine wpAny_While (codeAny_whileLoop (fun n s' => ∃ σ' H',Inv X pins σ' H' s'∧W n σ' H') ?_ m0 ⟨σ,H,I,w0⟩)
 rintro n s1 ⟨σ1,H1,I1,w1⟩
 refine wpAny_passesOwn hp (thn (hc pins s1 σ1 H1 _ I1 (turn n σ1 H1 w1)) fun b s2 ⟨H2,I2,q2⟩ => ?_)
 cases b with
 | true =>
  obtain ⟨N,hN,q2⟩:=q2
  rw [if_pos rfl]
  refine wpAny_passesOwn hp (thn (hb pins s2 σ1 H2 _ I2 q2) fun f s3 q3 => ?_)
  cases f with
  | next =>
   obtain ⟨σ3,H3,I3,n3⟩:=q3
   obtain ⟨m',hm,w3⟩:=hN σ3 H3 n3
   exact ⟨m',hm,σ3,H3,I3,w3⟩
  | cont =>
   obtain ⟨σ3,H3,I3,n3⟩:=q3
   obtain ⟨m',hm,w3⟩:=hN σ3 H3 n3
   exact ⟨m',hm,σ3,H3,I3,w3⟩
  | brk => exact q3
  | ret v => exact q3
 | false =>
  rw [if_neg Bool.false_ne_true]
  exact wpAny_execs_nil ⟨σ1,H2,I2,q2⟩
end
structure It where
 go:Nat→Hp→Prop
 yld:Nat→Hp→V→Hp→Prop
 stop:Nat→Hp→Prop
def FpOk (X:Cx) (pins:List (Addr × Obj)) (H:Hp) (b:Addr):Prop :=
 H b=none∧b ≠ X.env.locals∧b ∉ X.fs∧(b ∈ X.ex ∨ X.s₀.heap.objs.size ≤ b)∧(∀ x c,X.env.cells.lookup x=some c→c ≠ b)∧∀ p ∈ X.pn ++ pins,p.1 ≠ b
theorem Inv.fpOk {X:Cx} {pins:List (Addr × Obj)} {σ:St} {H H' : Hp} {s:Shared} {b:Addr} (I:Inv X pins σ H s) (hb:s.heap.objs.size ≤ b) (hn:H' b=none):FpOk X pins H' b:=by
 refine ⟨hn,Nat.ne_of_gt (Nat.lt_of_lt_of_le I.lt hb),I.nofs hb,.inr (Nat.le_trans I.sz hb),fun x c e z => ?_,fun p hp z => ?_⟩
 ·obtain ⟨v,q⟩:=I.cell x c e
  exact absurd (Nat.lt_of_lt_of_le q.lt (by rw [z]; exact hb)) (Nat.lt_irrefl _)
 ·exact absurd (Nat.lt_of_lt_of_le (Heap.lt_size (I.pin p hp).1) (by rw [z]; exact hb)) (Nat.lt_irrefl _)
structure Turn (P:Program) (w:World) (K:PySem.W.Frag) (tg:Expr) (J:It) (fp:List Addr) (it:Addr) (tn:Nat→Heap→Prop):Prop where
 mem:it ∈ fp
 obj:∀ i h,tn i h→∀ b ∈ fp,∃ o,h.get? b=some o∧∀ v,o.data ≠ .cell v
 keep:∀ i h h',tn i h→(∀ b ∈ fp,∀ o,h.get? b=some o→h'.get? b=some o)→tn i h'
 item:∀ (X:Cx),X.prog=P→X.w=w→X.K=K→X.calm=true→∀ (i:Nat) (pins:List (Addr × Obj)) (s:Shared) (σ:St) (H:Hp) (E:Value→Shared→Prop),Inv X pins σ H s→(∀ b ∈ fp,FpOk X pins H b)→tn i s.heap→J.go i H →
  wpAny (model P w) X.A (pyNext (.ref it)) (fun r s1 => ∃ u,r=some u ∧
   wpAny (model P w) X.A (letOwnedTupleGo tg (.ref it) u) (fun _ s2 => ∃ x H',Inv X pins σ H' s2∧RelV x u∧J.yld i H x H'∧tn (i + 1) s2.heap∧∀ b ∈ fp,H' b=none) E s1) E s
 done:∀ (X:Cx),X.prog=P→X.w=w→X.K=K→X.calm=true→∀ (i:Nat) (pins:List (Addr × Obj)) (s:Shared) (σ:St) (H:Hp) (E:Value→Shared→Prop),Inv X pins σ H s→(∀ b ∈ fp,FpOk X pins H b)→tn i s.heap→J.stop i H →
  wpAny (model P w) X.A (pyNext (.ref it)) (fun r s1 => r=none∧Inv X pins σ H s1) E s
 self:∀ (A:Around) (i:Nat) (s:Shared) (Q:Value→Shared→Prop) (E:Value→Shared→Prop),tn i s.heap→Q (.ref it) s→wpAny (model P w) A (pyIter (.ref it)) Q E s
abbrev TI:=St→Hp→(It→Hp→Prop)→Prop
def PIE (X:Cx) (pins:List (Addr × Obj)) (σ:St) (tg:Expr) (R:It→Hp→Prop) (itv:Value) (s2:Shared):Prop :=
 ∃ (it:Addr) (fp:List Addr) (tn:Nat→Heap→Prop) (J:It) (H' : Hp),itv = .ref it∧Inv X pins σ H' s2∧Turn X.prog X.w X.K tg J fp it tn∧tn 0 s2.heap∧(∀ b ∈ fp,FpOk X pins H' b)∧R J H'
def PI (X:Cx) (tg iter:Expr) (wi:TI):Prop :=
 ∀ (pins:List (Addr × Obj)) (s:Shared) (σ:St) (H:Hp) (R:It→Hp→Prop),Inv X pins σ H s→wi σ H R →
  wpAny (model X.prog X.w) X.A (eval iter X.env) (fun v s1 => wpAny (model X.prog X.w) X.A (pyIter v) (PIE X pins σ tg R) X.xe s1) X.xe s
theorem go_of {M:Model} {A:Around} {E:Value→Shared→Prop} {s:Shared} {tg:Expr} {it:Addr} {u:Value} {o:Obj} {n:String} {vs:Array Value} {Q:Unit→Shared→Prop} (ho:s.heap.get? it=some o) (hc:o.cls = .type n) (hd:o.data = .fields vs)
  (hn:["enumerate", "zip", "dict_itemiterator", "dict_reverseitemiterator", "odict_iterator", "itertools.zip_longest", "itertools.pairwise"].contains n=false) (hQ:Q () s):wpAny M A (letOwnedTupleGo tg (.ref it) u) Q E s:=by
 unfold letOwnedTupleGo
 cases tg <;> first
  | exact wpAny_pure hQ
  | (cases u <;> first
    | exact wpAny_pure hQ
    | (refine wpAny_bind (wpAny_load ho ?_)
       rw [hc,hd]
       show wpAny M A (if (["enumerate", "zip", "dict_itemiterator", "dict_reverseitemiterator", "odict_iterator", "itertools.zip_longest", "itertools.pairwise"].contains n && vs[0]? == some (rawInt _))=true then _ else _) Q E s
       rw [if_neg (by intro h; rw [hn,Bool.false_and] at h; cases h)]
       exact wpAny_pure hQ))
def Itl (K:PySem.W.Frag) (a:Addr):It :=
 ⟨fun i H => ∃ xs x,SqL K H a xs∧xs[i]? = some x,fun i H x H' => H' = H∧∀ xs,SqL K H a xs→xs[i]? = some x,fun i H => ∃ xs,SqL K H a xs∧xs.length ≤ i⟩
def Itt (K:PySem.W.Frag) (a:Addr):It :=
 ⟨fun i H => ∃ xs x,SqT K H a xs∧xs[i]? = some x,fun i H x H' => H' = H∧∀ xs,SqT K H a xs→xs[i]? = some x,fun i H => ∃ xs,SqT K H a xs∧xs.length ≤ i⟩
def Itr (lo:Int) (n:Nat):It:=⟨fun i _ => i < n,fun i H x H' => H' = H∧x = .int (lo + i),fun i _ => n ≤ i⟩
theorem turn_list {P:Program} {w:World} {K:PySem.W.Frag} {tg:Expr} (a it:Addr):Turn P w K tg (Itl K a) [it] it (fun i h => h.IsListIter it a i) where
 mem:=by simp
 obj:=fun i h st b hb => by
  have e:b=it:=by simpa using hb
  subst e
  obtain ⟨o,e,c,d⟩:=st
  exact ⟨o,e,fun v z => by rw [d] at z; cases z⟩
 keep:=fun i h h' st k => st.at fun o e => k it (by simp) o e
 item:=by
  intro X hP hw hK hc i pins s σ H E I hf st hg
  subst hP hw hK
  obtain ⟨xs,x,hq,hx⟩:=hg
  obtain ⟨its,rv,p,hz⟩:=I.list hq
  obtain ⟨u,hu,ru⟩:=rv.get hx
  obtain ⟨f0,f1,f2,f3,f4,f5⟩:=hf it (by simp)
  refine wpAny_pyNext_list_item st p.isList (x:=u) (by simpa using hu) fun h' st' sb => ?_
  have I1:Inv X pins σ H { s with heap:=h' }:=I.turned (t':=s.toks) (fun b o hb e => (sb.2 b hb).trans e) f0 f1 f3 f4 f5
  obtain ⟨o,e,c,d⟩:=id st'
  exact ⟨u,rfl,go_of (s:={ s with heap:=h' }) e c d (by decide) ⟨x,H,I1,ru,⟨rfl,fun ys hy => by rw [I.list_inj hy hq]; exact hx⟩,st',fun b hb => (hf b hb).1⟩⟩
 done:=by
  intro X hP hw hK hc i pins s σ H E I hf st hg
  subst hP hw hK
  obtain ⟨xs,hq,hx⟩:=hg
  obtain ⟨its,rv,p,hz⟩:=I.list hq
  obtain ⟨f0,f1,f2,f3,f4,f5⟩:=hf it (by simp)
  have hl:=rv.length
  exact wpAny_pyNext_list_end (I.ok.hd hc) st p.isList (by simp; omega) fun h' eb => ⟨rfl,I.turned (t':=s.toks) (fun b o hb e => eb b o hb e) f0 f1 f3 f4 f5⟩
 self:=fun _ _ _ _ _ st h => wpAny_pyIter_listiter st h
theorem turn_tuple {P:Program} {w:World} {K:PySem.W.Frag} {tg:Expr} (a it:Addr):Turn P w K tg (Itt K a) [it] it (fun i h => h.IsTupleIter it a i) where
 mem:=by simp
 obj:=fun i h st b hb => by
  have e:b=it:=by simpa using hb
  subst e
  obtain ⟨o,e,c,d⟩:=st
  exact ⟨o,e,fun v z => by rw [d] at z; cases z⟩
 keep:=fun i h h' st k => st.at fun o e => k it (by simp) o e
 item:=by
  intro X hP hw hK hc i pins s σ H E I hf st hg
  subst hP hw hK
  obtain ⟨xs,x,hq,hx⟩:=hg
  obtain ⟨its,rv,p,hz⟩:=I.tuple hq
  obtain ⟨u,hu,ru⟩:=rv.get hx
  obtain ⟨f0,f1,f2,f3,f4,f5⟩:=hf it (by simp)
  refine wpAny_pyNext_tuple_item st (show s.heap.IsTuple a its.toArray from p) (x:=u) (by simpa using hu) fun h' st' sb => ?_
  have I1:Inv X pins σ H { s with heap:=h' }:=I.turned (t':=s.toks) (fun b o hb e => (sb.2 b hb).trans e) f0 f1 f3 f4 f5
  obtain ⟨o,e,c,d⟩:=id st'
  exact ⟨u,rfl,go_of (s:={ s with heap:=h' }) e c d (by decide) ⟨x,H,I1,ru,⟨rfl,fun ys hy => by rw [I.tuple_inj hy hq]; exact hx⟩,st',fun b hb => (hf b hb).1⟩⟩
 done:=by
  intro X hP hw hK hc i pins s σ H E I hf st hg
  subst hP hw hK
  obtain ⟨xs,hq,hx⟩:=hg
  obtain ⟨its,rv,p,hz⟩:=I.tuple hq
  obtain ⟨f0,f1,f2,f3,f4,f5⟩:=hf it (by simp)
  have hl:=rv.length
  exact wpAny_pyNext_tuple_end (I.ok.hd hc) st (show s.heap.IsTuple a its.toArray from p) (by simp; omega) fun h' eb => ⟨rfl,I.turned (t':=s.toks) (fun b o hb e => eb b o hb e) f0 f1 f3 f4 f5⟩
 self:=fun _ _ _ _ _ st h => wpAny_pyIter_tupleiter st h
theorem turn_range {P:Program} {w:World} {K:PySem.W.Frag} {tg:Expr} (it:Addr) (lo:Int) (n:Nat):Turn P w K tg (Itr lo n) [it] it (fun i h => IsRangeIter h it (lo + (i:Nat) * 1) ((n:Int) - (i:Nat)) 1) where
 mem:=by simp
 obj:=fun i h st b hb => by
  have e:b=it:=by simpa using hb
  subst e
  exact ⟨_,st,fun v z => by
   have z' : Data.fields _=Data.cell v:=z
   cases z'⟩
 keep:=fun i h h' st k => k it (by simp) _ st
 item:=by
  intro X hP hw hK hc i pins s σ H E I hf st hg
  subst hP hw hK
  obtain ⟨f0,f1,f2,f3,f4,f5⟩:=hf it (by simp)
  have W:=Walks.range (prog:=X.prog) (w:=X.w) (I.ok.hd hc) it lo 1 n
  refine W.item i s _ _ hg st fun v h' tk hv st' kk => ?_
  obtain ⟨t,rfl⟩:=hv
  have I1:Inv X pins σ H { s with heap:=h',toks:=tk }:=I.turned (fun b o hb e => kk b o (by simpa using hb) e) f0 f1 f3 f4 f5
  refine ⟨_,rfl,go_of (s:={ s with heap:=h',toks:=tk }) (n := "range_iterator") st' rfl rfl (by decide) ⟨.int (lo + i),H,I1,⟨t,?_⟩,⟨rfl,rfl⟩,st',fun b hb => (hf b hb).1⟩⟩
  rw [Int.mul_one]
 done:=by
  intro X hP hw hK hc i pins s σ H E I hf st hg
  subst hP hw hK
  obtain ⟨f0,f1,f2,f3,f4,f5⟩:=hf it (by simp)
  exact wpAny_pyNext_range_end (I.ok.hd hc) st (by have:n ≤ i:=hg; omega) fun h' eb => ⟨rfl,I.turned (t':=s.toks) (fun b o hb e => eb b o hb e) f0 f1 f3 f4 f5⟩
 self:=fun _ _ _ _ _ st h => wpAny_pyIter_rangeiter st h
end L2
namespace L2
open PySem PySem.Spec PyProof.Rows
section
variable {X:Cx} {tg:Expr}
def iList (K:PySem.W.Frag) (tl:TE):TI:=fun σ H R => tl σ H fun x H1 => ∃ a,x = .ref a∧(∃ xs,SqL K H1 a xs)∧R (Itl K a) H1
def iTup (K:PySem.W.Frag) (tl:TE):TI:=fun σ H R => tl σ H fun x H1 => ∃ a,x = .ref a∧(∃ xs,SqT K H1 a xs)∧R (Itt K a) H1
theorem pi_list {l:Expr} {tl:TE} (hl:PE X l tl):PI X tg l (iList X.K tl):=by
 intro pins s σ H R I h
 refine thn (hl pins s σ H _ I h) fun v s1 ⟨x,H1,I1,r1,q1⟩ => ?_
 obtain ⟨a,e,⟨xs,hq⟩,q⟩:=q1
 subst e
 cases r1
 obtain ⟨its,rv,p,hz⟩:=I1.list hq
 refine wpAny_pyIter_list p.isList ?_
 refine ⟨s1.heap.objs.size,[s1.heap.objs.size],_,_,H1,rfl,I1.kept (t':=s1.toks) fun b o e => Heap.get?_push_of_some _ e,turn_list a _,⟨_,Heap.get?_push_size _ rfl,rfl,rfl⟩,fun b hb => ?_,q⟩
 have e:b=s1.heap.objs.size:=by simpa using hb
 subst e
 exact I1.fpOk (Nat.le_refl _) (I1.hok.fresh (Nat.le_refl _))
theorem pi_tup {l:Expr} {tl:TE} (hl:PE X l tl):PI X tg l (iTup X.K tl):=by
 intro pins s σ H R I h
 refine thn (hl pins s σ H _ I h) fun v s1 ⟨x,H1,I1,r1,q1⟩ => ?_
 obtain ⟨a,e,⟨xs,hq⟩,q⟩:=q1
 subst e
 cases r1
 obtain ⟨its,rv,p,hz⟩:=I1.tuple hq
 refine wpAny_pyIter_tuple (show s1.heap.IsTuple a its.toArray from p) ?_
 refine ⟨s1.heap.objs.size,[s1.heap.objs.size],_,_,H1,rfl,I1.kept (t':=s1.toks) fun b o e => Heap.get?_push_of_some _ e,turn_tuple a _,⟨_,Heap.get?_push_size _ rfl,rfl,rfl⟩,fun b hb => ?_,q⟩
 have e:b=s1.heap.objs.size:=by simpa using hb
 subst e
 exact I1.fpOk (Nat.le_refl _) (I1.hok.fresh (Nat.le_refl _))
theorem range_it {pins:List (Addr × Obj)} {σ:St} {H:Hp} {s:Shared} {R:It→Hp→Prop} {E:Value→Shared→Prop} {lo hi:Int} {t u v:Tok} {tk:Nat} (I:Inv X pins σ H s) (h1 : -(2 ^ 62) ≤ lo) (h2:lo < 2 ^ 62) (h3 : -(2 ^ 62) ≤ hi) (h4:hi < 2 ^ 62)
  (q:R (Itr lo (hi - lo).toNat) H):wpAny (model X.prog X.w) X.A (pyIter (.ref s.heap.objs.size)) (PIE X pins σ tg R) E { s with heap:=s.heap.push { cls:=.type "range",data:=.fields #[.int lo t,.int hi u,.int 1 v] },toks:=tk }:=by
 refine wpAny_pyIter_range (IsRange.new ..) (small_one h1 h2 h3 h4) ?_
 have I1:Inv X pins σ H { s with heap:=s.heap.push { cls:=.type "range",data:=.fields #[.int lo t,.int hi u,.int 1 v] },toks:=tk }:=I.kept fun b o e => Heap.get?_push_of_some _ e
 refine ⟨(s.heap.push { cls:=.type "range",data:=.fields #[.int lo t,.int hi u,.int 1 v] }).objs.size,[(s.heap.push { cls:=.type "range",data:=.fields #[.int lo t,.int hi u,.int 1 v] }).objs.size],_,_,H,rfl,
  I1.kept (t':=tk) fun b o e => Heap.get?_push_of_some _ e,turn_range _ lo (hi - lo).toNat,?_,fun b hb => ?_,q⟩
 ·have e1:lo + ((0:Nat):Int) * 1=lo:=by simp
  have e2:(((hi - lo).toNat:Nat):Int) - ((0:Nat):Int)=Builtin.Range.rangeSize lo hi 1:=by rw [rangeSize_one]; split <;> omega
  show IsRangeIter _ _ (lo + ((0:Nat):Int) * 1) ((((hi - lo).toNat:Nat):Int) - ((0:Nat):Int)) 1
  rw [e1,e2]
  exact Heap.get?_push_size _ rfl
 ·have e:b=(s.heap.push { cls:=.type "range",data:=.fields #[.int lo t,.int hi u,.int 1 v] }).objs.size:=by simpa using hb
  subst e
  exact I1.fpOk (Nat.le_refl _) (I1.hok.fresh (Nat.le_refl _))
def iRng1 (ta:TA):TI:=fun σ H R => ta σ H fun vs H1 => ∃ j:Int,vs=[.int j]∧-(2 ^ 62) ≤ j∧j < 2 ^ 62∧R (Itr 0 j.toNat) H1
def iRng2 (ta:TA):TI:=fun σ H R => ta σ H fun vs H1 => ∃ i j:Int,vs=[.int i,.int j]∧(-(2 ^ 62) ≤ i∧i < 2 ^ 62∧-(2 ^ 62) ≤ j∧j < 2 ^ 62)∧R (Itr i (j - i).toNat) H1
theorem pi_range1 {a:Expr} {ta:TA} {p pos:PySem.Pos} (hg:Gl X "range") (hm:X.mg "range" = none) (ha:PA X [a] ta) (hs:starEach [a] X.env=[(false,eval a X.env)]:=by rfl):PI X tg (.Call (.Name "range" p) [a] [] pos) (iRng1 ta):=by
 intro pins s σ H R I h
 refine Call_ (ld_blt I hg hm boot_range (PyProof.Rows.callWith_type1 (thn (ha pos pins s σ H _ I h) fun us s1 ⟨vs,H1,I1,r1,q1⟩ => ?_) hs rfl))
 obtain ⟨j,e,q1,q2,q⟩:=q1
 subst e
 cases r1 with
 | cons r rr =>
  cases rr
  obtain ⟨t,rfl⟩:=r
  exact call_range_1 (range_it I1 (by omega) (by omega) q1 q2 (by simpa using q))
theorem pi_range2 {a b:Expr} {ta:TA} {p pos:PySem.Pos} (hg:Gl X "range") (hm:X.mg "range" = none) (ha:PA X [a,b] ta) (hs:starEach [a,b] X.env=[(false,eval a X.env),(false,eval b X.env)]:=by rfl) (hs2:starEach [b] X.env=[(false,eval b X.env)]:=by rfl) :
  PI X tg (.Call (.Name "range" p) [a,b] [] pos) (iRng2 ta):=by
 intro pins s σ H R I h
 refine Call_ (ld_blt I hg hm boot_range (PyProof.Rows.callWith_type1 (thn (ha pos pins s σ H _ I h) fun us s1 ⟨vs,H1,I1,r1,q1⟩ => ?_) (by rw [hs,hs2]) (by rw [hs2]; rfl)))
 obtain ⟨i,j,e,⟨q1,q2,q3,q4⟩,q⟩:=q1
 subst e
 cases r1 with
 | cons r rr =>
  cases rr with
  | cons r' rr =>
   cases rr
   obtain ⟨t,rfl⟩:=r
   obtain ⟨t',rfl⟩:=r'
   exact call_range_2 (range_it I1 q1 q2 q3 q4 q)
def tFor (wi:TI) (g:TG) (tb:TS):TS:=fun D σ H => wi σ H fun J H1 => ∃ W:Nat→Nat→St→Hp→Prop,(∃ m,W 0 m σ H1)∧∀ i m σ H,W i m σ H →
 (J.stop i H∧D.nx σ H) ∨ (J.go i H∧∃ N:St→Hp→Prop,(∀ σ' H',N σ' H'→∃ m',m' < m∧W (i + 1) m' σ' H')∧∀ x H',J.yld i H x H'→g x σ H' fun σ2 H2 => tb { D with nx:=N,ct:=N,bk:=D.nx } σ2 H2)
def pinsAt (fp:List Addr) (h:Heap):List (Addr × Obj):=fp.filterMap fun b => (h.get? b).map fun o => (b,o)
theorem mem_pinsAt {fp:List Addr} {h:Heap} {b:Addr} {o:Obj} (hb:b ∈ fp) (e:h.get? b=some o):(b,o) ∈ pinsAt fp h:=List.mem_filterMap.mpr ⟨b,hb,by rw [e]; rfl⟩
theorem of_pinsAt {fp:List Addr} {h:Heap} {p:Addr × Obj} (hp:p ∈ pinsAt fp h):p.1 ∈ fp∧h.get? p.1=some p.2:=by
 obtain ⟨b,hb,e⟩:=List.mem_filterMap.mp hp
 cases q:h.get? b with
 | none => rw [q] at e; cases e
 | some o =>
  rw [q] at e
  have e' : (b,o)=p:=Option.some.inj e
  subst e'
  exact ⟨hb,q⟩
theorem Inv.pinned {pins:List (Addr × Obj)} {σ:St} {H:Hp} {s:Shared} {fp:List Addr} (I:Inv X pins σ H s) (hf:∀ b ∈ fp,FpOk X pins H b) (ho:∀ b ∈ fp,∃ o,s.heap.get? b=some o∧∀ v,o.data ≠ .cell v):Inv X (pins ++ pinsAt fp s.heap) σ H s :=
 I.pins_of fun p hp => (List.mem_append.mp hp).elim (fun z => I.pin p (List.mem_append_right _ z)) fun z => by
  obtain ⟨hb,e⟩:=of_pinsAt z
  obtain ⟨f0,f1,f2,_⟩:=hf p.1 hb
  obtain ⟨o,e',d⟩:=ho p.1 hb
  rw [e] at e'; cases e'
  exact ⟨e,f0,f1,f2,d⟩
theorem Inv.unpinned {pins pl:List (Addr × Obj)} {σ:St} {H:Hp} {s:Shared} (I:Inv X (pins ++ pl) σ H s):Inv X pins σ H s:=I.pins_of fun p hp => I.pin p (List.mem_append_right _ (List.mem_append_left _ hp))
theorem ps_for {iter:Expr} {body:List Stmt} {wi:TI} {g:TG} {tb:TS} {pos:PySem.Pos} (hp:PassesOwn (model X.prog X.w) X.A X.env X.xe) (hc:X.calm=true) (hi:PI X tg iter wi) (hg:PG X tg g) (hb:PSs X body tb)
  (hs:∀ x,foldedSetIterable iter X.env x=pure x:=by intro _; rfl):PS X (.For tg iter body [] pos) (tFor wi g tb):=by
 intro pins s σ H D I h
 refine wpAny_For (thn (hi pins s σ H _ I h) fun v s1 h1 => thn h1 fun itv s2 h2 => ?_) hs
 obtain ⟨it,fp,tn,J,H2,e,I2,T,st2,f2,W,⟨m0,w0⟩,turn⟩:=h2
 subst e
 have stat:∀ {H' : Hp},(∀ b ∈ fp,H' b=none)→∀ b ∈ fp,FpOk X pins H' b:=fun hn b hb => ⟨hn b hb,(f2 b hb).2⟩
 refine codeAny_forLoop_any (fun n s' => ∃ i σ' H',Inv X pins σ' H' s'∧tn i s'.heap∧(∀ b ∈ fp,H' b=none)∧W i n σ' H') ?_ m0 ⟨0,σ,H2,I2,st2,fun b hb => (f2 b hb).1,w0⟩
 rintro n s3 ⟨i,σ3,H3,I3,st3,fr3,w3⟩
 rcases turn i n σ3 H3 w3 with ⟨stop,qn⟩ | ⟨go,N,hN,step⟩
 ·refine wpAny_passesOwn hp (thn (T.done X rfl rfl rfl hc i pins s3 σ3 H3 X.xe I3 (stat fr3) st3 stop) fun r s4 ⟨hr,I4⟩ => ?_)
  subst hr
  exact wpAny_execs_nil ⟨σ3,H3,I4,qn⟩
 ·refine wpAny_passesOwn hp (thn (T.item X rfl rfl rfl hc i pins s3 σ3 H3 X.xe I3 (stat fr3) st3 go) fun r s4 ⟨u,hr,h4⟩ => ?_)
  subst hr
  refine wpAny_passesOwn hp (thn h4 fun _ s5 ⟨x,H5,I5,r5,y5,st5,fr5⟩ => ?_)
  have I5':=I5.pinned (stat fr5) (T.obj _ _ st5)
  refine wpAny_passesOwn hp (thn (hg _ s5 σ3 H5 x u _ I5' r5 (step x H5 y5)) fun _ s6 ⟨σ6,H6,I6,q6⟩ => ?_)
  refine wpAny_passesOwn hp (thn (hb _ s6 σ6 H6 _ I6 q6) fun f s7 q7 => ?_)
  have again:∀ {σ7:St} {H7:Hp},Inv X (pins ++ pinsAt fp s5.heap) σ7 H7 s7→N σ7 H7→∃ m,m < n∧∃ i σ' H',Inv X pins σ' H' s7∧tn i s7.heap∧(∀ b ∈ fp,H' b=none)∧W i m σ' H':=fun {σ7 H7} I7 n7 => by
   obtain ⟨m',hm,w7⟩:=hN σ7 H7 n7
   refine ⟨m',hm,i + 1,σ7,H7,I7.unpinned,T.keep _ _ _ st5 fun b hb o e => (I7.pin (b,o) (List.mem_append_right _ (List.mem_append_right _ (mem_pinsAt hb e)))).1,fun b hb => ?_,w7⟩
   obtain ⟨o,e,d⟩:=T.obj _ _ st5 b hb
   exact (I7.pin (b,o) (List.mem_append_right _ (List.mem_append_right _ (mem_pinsAt hb e)))).2.1
  cases f with
  | next => obtain ⟨σ7,H7,I7,n7⟩:=q7; exact again I7 n7
  | cont => obtain ⟨σ7,H7,I7,n7⟩:=q7; exact again I7 n7
  | brk => obtain ⟨σ7,H7,I7,q7⟩:=q7; exact ⟨σ7,H7,I7.unpinned,q7⟩
  | ret v => obtain ⟨x7,σ7,H7,I7,r7,q7⟩:=q7; exact ⟨x7,σ7,H7,I7.unpinned,r7,q7⟩
end
theorem for_list {K:PySem.W.Frag} {a:Addr} {xs:List V} {g:TG} {tb:TS} {D:Ends} {σ:St} {H:Hp} (Pv:Nat→St→Hp→Prop) (h0:Pv 0 σ H) (hl:∀ i σ H,i ≤ xs.length→Pv i σ H→SqL K H a xs)
  (hs:∀ i x σ H,xs[i]? = some x→Pv i σ H→g x σ H fun σ2 H2 => tb { D with nx:=Pv (i + 1),ct:=Pv (i + 1),bk:=D.nx } σ2 H2) (hd:∀ σ H,Pv xs.length σ H→D.nx σ H) :
  ∃ W:Nat→Nat→St→Hp→Prop,(∃ m,W 0 m σ H)∧∀ i m σ H,W i m σ H →
   ((Itl K a).stop i H∧D.nx σ H) ∨ ((Itl K a).go i H∧∃ N:St→Hp→Prop,(∀ σ' H',N σ' H'→∃ m',m' < m∧W (i + 1) m' σ' H')∧∀ x H',(Itl K a).yld i H x H'→g x σ H' fun σ2 H2 => tb { D with nx:=N,ct:=N,bk:=D.nx } σ2 H2):=by
 refine ⟨fun i m σ H => m=xs.length - i∧i ≤ xs.length∧Pv i σ H,⟨xs.length,by simp,Nat.zero_le _,h0⟩,?_⟩
 rintro i m σ H ⟨rfl,hi,p⟩
 have q:=hl i σ H hi p
 by_cases hlt:i < xs.length
 ·refine .inr ⟨⟨xs,xs[i],q,by simp [hlt]⟩,Pv (i + 1),fun σ' H' p' => ⟨xs.length - (i + 1),by omega,rfl,hlt,p'⟩,fun x H' y => ?_⟩
  obtain ⟨e,y⟩:=y
  subst e
  exact hs i x σ _ (y xs q) p
 ·have e:i=xs.length:=by omega
  subst e
  exact .inl ⟨⟨xs,q,Nat.le_refl _⟩,hd σ H p⟩
theorem for_range {lo:Int} {n:Nat} {g:TG} {tb:TS} {D:Ends} {σ:St} {H:Hp} (Pv:Nat→St→Hp→Prop) (h0:Pv 0 σ H)
  (hs:∀ i σ H,i < n→Pv i σ H→g (.int (lo + i)) σ H fun σ2 H2 => tb { D with nx:=Pv (i + 1),ct:=Pv (i + 1),bk:=D.nx } σ2 H2) (hd:∀ σ H,Pv n σ H→D.nx σ H) :
  ∃ W:Nat→Nat→St→Hp→Prop,(∃ m,W 0 m σ H)∧∀ i m σ H,W i m σ H →
   ((Itr lo n).stop i H∧D.nx σ H) ∨ ((Itr lo n).go i H∧∃ N:St→Hp→Prop,(∀ σ' H',N σ' H'→∃ m',m' < m∧W (i + 1) m' σ' H')∧∀ x H',(Itr lo n).yld i H x H'→g x σ H' fun σ2 H2 => tb { D with nx:=N,ct:=N,bk:=D.nx } σ2 H2):=by
 refine ⟨fun i m σ H => m=n - i∧i ≤ n∧Pv i σ H,⟨n,by simp,Nat.zero_le _,h0⟩,?_⟩
 rintro i m σ H ⟨rfl,hi,p⟩
 by_cases hlt:i < n
 ·refine .inr ⟨hlt,Pv (i + 1),fun σ' H' p' => ⟨n - (i + 1),by omega,rfl,hlt,p'⟩,fun x H' y => ?_⟩
  obtain ⟨e,y⟩:=y
  subst e y
  exact hs i σ _ hlt p
 ·have e:i=n:=by omega
  subst e
  exact .inl ⟨Nat.le_refl _,hd σ H p⟩
theorem while_by {c:TT} {tb:TS} {D:Ends} {σ:St} {H:Hp} (Pv:St→Hp→Prop) (μ:St→Hp→Nat) (h0:Pv σ H)
  (hs:∀ σ H,Pv σ H→c σ H fun b H1 => if b=true then tb { D with nx:=fun σ' H' => Pv σ' H'∧μ σ' H' < μ σ H,ct:=fun σ' H' => Pv σ' H'∧μ σ' H' < μ σ H,bk:=D.nx } σ H1 else D.nx σ H1)
  (mono:∀ σ H Q Q',(∀ b H1,Q b H1→Q' b H1)→c σ H Q→c σ H Q'):tWhile c tb D σ H:=by
 refine ⟨fun m σ H => m=μ σ H∧Pv σ H,⟨_,rfl,h0⟩,?_⟩
 rintro m σ H ⟨rfl,p⟩
 refine mono σ H _ _ (fun b H1 q => ?_) (hs σ H p)
 cases b with
 | true => exact ⟨_,fun σ' H' ⟨p',l⟩ => ⟨_,l,rfl,p'⟩,q⟩
 | false => exact q
end L2
namespace L2
open PySem PySem.Spec PyProof.Rows
abbrev R2:=V→V→Hp→VK→Prop
def OpR (X:Cx) (f:Value→Value→Sem Value) (r:R2):Prop :=
 ∀ (pins:List (Addr × Obj)) (s:Shared) (σ:St) (H:Hp) (x y:V) (v u:Value) (Q:VK),Inv X pins σ H s→RelV x v→RelV y u→r x y H Q →
  wpAny (model X.prog X.w) X.A (f v u) (EP X pins σ Q) X.xe s
def UnR (X:Cx) (f:Value→Sem Value) (r:V→Hp→VK→Prop):Prop :=
 ∀ (pins:List (Addr × Obj)) (s:Shared) (σ:St) (H:Hp) (x:V) (v:Value) (Q:VK),Inv X pins σ H s→RelV x v→r x H Q →
  wpAny (model X.prog X.w) X.A (f v) (EP X pins σ Q) X.xe s
def CallR (X:Cx) (f:Value) (r:List V→Hp→VK→Prop):Prop :=
 ∀ (pins:List (Addr × Obj)) (s:Shared) (σ:St) (H:Hp) (xs:List V) (us:List Value) (Q:VK),Inv X pins σ H s→Vals xs us→r xs H Q →
  wpAny (model X.prog X.w) X.A (call f us) (EP X pins σ Q) X.xe s
def TruR (X:Cx) (r:V→Hp→(Bool→Hp→Prop)→Prop):Prop :=
 ∀ (pins:List (Addr × Obj)) (s:Shared) (σ:St) (H:Hp) (x:V) (v:Value) (Q:Bool→Hp→Prop),Inv X pins σ H s→RelV x v→r x H Q →
  wpAny (model X.prog X.w) X.A (truthy v) (TP X pins σ Q) X.xe s
def tOp (r:R2) (ta tb:TE):TE:=fun σ H Q => ta σ H fun x H1 => tb σ H1 fun y H2 => r x y H2 Q
def tUn (r:V→Hp→VK→Prop) (ta:TE):TE:=fun σ H Q => ta σ H fun x H1 => r x H1 Q
def rI (C:Int→Int→Prop) (g:Int→Int→V):R2:=fun x y H Q => ∃ i j,x = .int i∧y = .int j∧C i j∧Q (g i j) H
def rI0 (g:Int→Int→V):R2:=fun x y H Q => ∃ i j,x = .int i∧y = .int j∧Q (g i j) H
def rU (g:Int→V):V→Hp→VK→Prop:=fun x H Q => ∃ i,x = .int i∧Q (g i) H
section
variable {X:Cx} {a b c:Expr} {ta tb tc:TE} {pos:PySem.Pos}
theorem binT (ha:PE X a ta) (hb:PE X b tb) {pins:List (Addr × Obj)} {s:Shared} {σ:St} {H:Hp} {R:V→V→Hp→Prop} (I:Inv X pins σ H s)
  (h:ta σ H fun x H1 => tb σ H1 fun y H2 => R x y H2) {Q:Value→Shared→Prop} {f:Value→Value→Sem Value}
  (hf:∀ v u s2 x y H2,Inv X pins σ H2 s2→RelV x v→RelV y u→R x y H2→wpAny (model X.prog X.w) X.A (f v u) Q X.xe s2) :
  wpAny (model X.prog X.w) X.A (eval a X.env) (fun v s₁ => wpAny (model X.prog X.w) X.A (eval b X.env) (fun u s₂ => wpAny (model X.prog X.w) X.A (f v u) Q X.xe s₂) X.xe s₁) X.xe s:=by
 refine thn (ha pins s σ H _ I h) fun v s1 ⟨x,H1,I1,r1,q1⟩ => ?_
 refine thn (hb pins s1 σ H1 _ I1 q1) fun u s2 ⟨y,H2,I2,r2,q2⟩ => ?_
 exact hf v u s2 x y H2 I2 r1 r2 q2
theorem pe_op {op:Operator} {r:R2} (ho:OpR X (binaryOp op) r) (ha:PE X a ta) (hb:PE X b tb):PE X (.BinOp a op b pos) (tOp r ta tb):=by
 intro pins s σ H Q I h
 exact wpAny_BinOp (binT ha hb I h fun v u s2 x y H2 I2 rx ry q => ho pins s2 σ H2 x y v u Q I2 rx ry q)
theorem pe_un {op:UnaryOp} {r:V→Hp→VK→Prop} (ho:UnR X (unaryOp op) r) (ha:PE X a ta):PE X (.UnaryOp op a pos) (tUn r ta):=by
 intro pins s σ H Q I h
 exact UnaryOp_ (thn (ha pins s σ H _ I h) fun v s1 ⟨x,H1,I1,r1,q1⟩ => ho pins s1 σ H1 x v Q I1 r1 q1)
theorem opI {f:Value→Value→Sem Value} {C:Int→Int→Prop} {g:Int→Int→Int}
  (rule:∀ (i j:Int) (t u:Tok) (s:Shared) (Q:Value→Shared→Prop) (E:Value→Shared→Prop),C i j→Q (.int (g i j) s.toks) { s with toks:=s.toks + 1 }→wpAny (model X.prog X.w) X.A (f (.int i t) (.int j u)) Q E s) :
  OpR X f (rI C fun i j => .int (g i j)):=by
 intro pins s σ H x y v u Q I rx ry h
 obtain ⟨i,j,rfl,rfl,hc,q⟩:=h
 obtain ⟨t,rfl⟩:=rx
 obtain ⟨t',rfl⟩:=ry
 exact rule i j t t' s _ _ hc ⟨.int (g i j),H,I.tok _,⟨_,rfl⟩,q⟩
theorem opI0 {f:Value→Value→Sem Value} {g:Int→Int→Int}
  (rule:∀ (i j:Int) (t u:Tok) (s:Shared) (Q:Value→Shared→Prop) (E:Value→Shared→Prop),Q (.int (g i j) s.toks) { s with toks:=s.toks + 1 }→wpAny (model X.prog X.w) X.A (f (.int i t) (.int j u)) Q E s) :
  OpR X f (rI0 fun i j => .int (g i j)):=by
 intro pins s σ H x y v u Q I rx ry h
 obtain ⟨i,j,rfl,rfl,q⟩:=h
 obtain ⟨t,rfl⟩:=rx
 obtain ⟨t',rfl⟩:=ry
 exact rule i j t t' s _ _ ⟨.int (g i j),H,I.tok _,⟨_,rfl⟩,q⟩
theorem opB0 {f:Value→Value→Sem Value} {g:Int→Int→Bool}
  (rule:∀ (i j:Int) (t u:Tok) (s:Shared) (Q:Value→Shared→Prop) (E:Value→Shared→Prop),Q (.bool (g i j)) s→wpAny (model X.prog X.w) X.A (f (.int i t) (.int j u)) Q E s) :
  OpR X f (rI0 fun i j => .bl (g i j)):=by
 intro pins s σ H x y v u Q I rx ry h
 obtain ⟨i,j,rfl,rfl,q⟩:=h
 obtain ⟨t,rfl⟩:=rx
 obtain ⟨t',rfl⟩:=ry
 exact rule i j t t' s _ _ ⟨.bl (g i j),H,I,rfl,q⟩
def CPow (i j:Int):Prop:=0 ≤ j∧j ≤ 1000000∧i.natAbs < 2 ^ 64
def CMul (i j:Int):Prop:=(-(2 ^ 64) < i∧i < 2 ^ 64) ∨ (-(2 ^ 64) < j∧j < 2 ^ 64)
theorem CMul.ok {i j:Int} (h:CMul i j):IntMulOk i j:=by
 rcases h with ⟨h1,h2⟩ | ⟨h1,h2⟩
 ·exact .of_left (intBits_le_64 h1 h2)
 ·exact .of_right (intBits_le_64 h1 h2)
theorem op_add:OpR X (binaryOp .Add) (rI0 fun i j => .int (i + j)):=opI0 fun _ _ _ _ _ _ _ q => add_int q
theorem op_sub:OpR X (binaryOp .Sub) (rI0 fun i j => .int (i - j)):=opI0 fun _ _ _ _ _ _ _ q => sub_int q
theorem op_mul:OpR X (binaryOp .Mult) (rI CMul fun i j => .int (i * j)):=opI fun _ _ _ _ _ _ _ hc q => mul_int q hc.ok
theorem op_mod:OpR X (binaryOp .Mod) (rI (fun _ j => 0 < j) fun i j => .int (i % j)):=opI fun i j _ _ _ _ _ hc q => by
 have h1:(0:Int) < j:=hc
 exact mod_int' (by omega) (by rw [Int.fmod_eq_emod_of_nonneg i (by omega)]; exact q)
theorem op_pow:OpR X (binaryOp .Pow) (rI CPow fun i j => .int (i ^ j.toNat)):=opI fun _ _ _ _ _ _ _ hc q => pow_int_small hc.1 hc.2.1 hc.2.2 q
theorem unI {f:Value→Sem Value} {g:Int→Int}
  (rule:∀ (i:Int) (t:Tok) (s:Shared) (Q:Value→Shared→Prop) (E:Value→Shared→Prop),Q (.int (g i) s.toks) { s with toks:=s.toks + 1 }→wpAny (model X.prog X.w) X.A (f (.int i t)) Q E s) :
  UnR X f (rU fun i => .int (g i)):=by
 intro pins s σ H x v Q I rx h
 obtain ⟨i,rfl,q⟩:=h
 obtain ⟨t,rfl⟩:=rx
 exact rule i t s _ _ ⟨.int (g i),H,I.tok _,⟨_,rfl⟩,q⟩
theorem un_neg:UnR X (unaryOp .USub) (rU fun i => .int (-i)):=unI fun _ _ _ _ _ q => neg_int q
end
def scal:V→V→Bool
 | .non,.non => true | .non,.int _ => true | .int _,.non => true | .non,.bl _ => true | .bl _,.non => true | .non,.str _ => true | .str _,.non => true
 | .int _,.int _ => true | .bl _,.bl _ => true | .str _,.str _ => true | .byt _,.byt _ => true
 | .int _,.str _ => true | .str _,.int _ => true | .bl _,.str _ => true | .str _,.bl _ => true
 | _,_ => false
def rEq:R2:=fun x y H Q => scal x y=true∧Q (.bl (decide (x=y))) H
def rNe:R2:=fun x y H Q => scal x y=true∧Q (.bl (!decide (x=y))) H
theorem dec_int {i j:Int} : decide (V.int i=V.int j)=(i == j):=by
 rw [Bool.eq_iff_iff]
 simp
theorem dec_bl {i j:Bool} : decide (V.bl i=V.bl j)=(i == j):=by
 rw [Bool.eq_iff_iff]
 simp
theorem dec_str {i j:Str} : decide (V.str i=V.str j)=(i == j):=by
 rw [Bool.eq_iff_iff]
 simp
theorem dec_byt {i j:Array UInt8} : decide (V.byt i=V.byt j)=(i.toList == j.toList):=by
 rw [Bool.eq_iff_iff]
 cases i
 cases j
 simp
section
variable {X:Cx} {a b c:Expr} {ta tb tc:TE} {pos:PySem.Pos}
theorem fin_bl {pins:List (Addr × Obj)} {σ:St} {H:Hp} {s:Shared} {Q:VK} {k k' : Bool} (I:Inv X pins σ H s) (q:Q (.bl k) H) (e:k=k'):EP X pins σ Q (.bool k') s:=by
 subst e
 exact ⟨.bl k,H,I,rfl,q⟩
theorem op_eq:OpR X (compareOp .Eq) rEq:=by
 intro pins s σ H x y v u Q I rx ry h
 obtain ⟨hs,q⟩:=h
 cases x with
 | non =>
  cases rx
  cases y with
  | non => cases ry; exact PySem.EqNone.eq_none_none (fin_bl I q (by simp))
  | bl j => cases ry; exact PySem.EqNone.eq_none_bool (fin_bl I q (by simp))
  | int j => obtain ⟨t',rfl⟩:=ry; exact PySem.EqNone.eq_none_int (fin_bl I q (by simp))
  | str j => obtain ⟨t',rfl⟩:=ry; exact PySem.EqNone.eq_none_str (fin_bl I q (by simp))
  | _ => exact absurd (show false=true from hs) Bool.false_ne_true
 | bl i =>
  cases rx
  cases y with
  | non => cases ry; exact PySem.EqNone.eq_bool_none (fin_bl I q (by simp))
  | bl j => cases ry; exact eq_bool (fin_bl I q dec_bl)
  | str j => obtain ⟨t',rfl⟩:=ry; exact PySem.EqMixed.eq_bool_str (fin_bl I q (by simp))
  | _ => exact absurd (show false=true from hs) Bool.false_ne_true
 | int i =>
  obtain ⟨t,rfl⟩:=rx
  cases y with
  | non => cases ry; exact PySem.EqNone.eq_int_none (fin_bl I q (by simp))
  | int j => obtain ⟨t',rfl⟩:=ry; exact eq_int (fin_bl I q dec_int)
  | str j => obtain ⟨t',rfl⟩:=ry; exact PySem.EqMixed.eq_int_str (fin_bl I q (by simp))
  | _ => exact absurd (show false=true from hs) Bool.false_ne_true
 | str i =>
  obtain ⟨t,rfl⟩:=rx
  cases y with
  | non => cases ry; exact PySem.EqNone.eq_str_none (fin_bl I q (by simp))
  | bl j => cases ry; exact PySem.EqMixed.eq_str_bool (fin_bl I q (by simp))
  | int j => obtain ⟨t',rfl⟩:=ry; exact PySem.EqMixed.eq_str_int (fin_bl I q (by simp))
  | str j => obtain ⟨t',rfl⟩:=ry; exact eq_str (fin_bl I q dec_str)
  | _ => exact absurd (show false=true from hs) Bool.false_ne_true
 | byt i =>
  obtain ⟨t,rfl⟩:=rx
  cases y with
  | byt j => obtain ⟨t',rfl⟩:=ry; exact PySem.W.eq_bytes (fin_bl I q dec_byt)
  | _ => exact absurd (show false=true from hs) Bool.false_ne_true
 | _ => cases y <;> exact absurd (show false=true from hs) Bool.false_ne_true
theorem op_ne:OpR X (compareOp .NotEq) rNe:=by
 intro pins s σ H x y v u Q I rx ry h
 obtain ⟨hs,q⟩:=h
 cases x with
 | non =>
  cases rx
  cases y with
  | non => cases ry; exact PySem.EqNone.ne_none_none (fin_bl I q (by simp))
  | bl j => cases ry; exact PySem.EqNone.ne_none_bool (fin_bl I q (by simp))
  | int j => obtain ⟨t',rfl⟩:=ry; exact PySem.EqNone.ne_none_int (fin_bl I q (by simp))
  | str j => obtain ⟨t',rfl⟩:=ry; exact PySem.EqNone.ne_none_str (fin_bl I q (by simp))
  | _ => exact absurd (show false=true from hs) Bool.false_ne_true
 | bl i =>
  cases rx
  cases y with
  | non => cases ry; exact PySem.EqNone.ne_bool_none (fin_bl I q (by simp))
  | bl j => cases ry; exact ne_bool (fin_bl I q (congrArg not dec_bl))
  | str j => obtain ⟨t',rfl⟩:=ry; exact PySem.EqMixed.ne_bool_str (fin_bl I q (by simp))
  | _ => exact absurd (show false=true from hs) Bool.false_ne_true
 | int i =>
  obtain ⟨t,rfl⟩:=rx
  cases y with
  | non => cases ry; exact PySem.EqNone.ne_int_none (fin_bl I q (by simp))
  | int j => obtain ⟨t',rfl⟩:=ry; exact ne_int (fin_bl I q (congrArg not dec_int))
  | str j => obtain ⟨t',rfl⟩:=ry; exact PySem.EqMixed.ne_int_str (fin_bl I q (by simp))
  | _ => exact absurd (show false=true from hs) Bool.false_ne_true
 | str i =>
  obtain ⟨t,rfl⟩:=rx
  cases y with
  | non => cases ry; exact PySem.EqNone.ne_str_none (fin_bl I q (by simp))
  | bl j => cases ry; exact PySem.EqMixed.ne_str_bool (fin_bl I q (by simp))
  | int j => obtain ⟨t',rfl⟩:=ry; exact PySem.EqMixed.ne_str_int (fin_bl I q (by simp))
  | str j => obtain ⟨t',rfl⟩:=ry; exact ne_str (fin_bl I q (congrArg not dec_str))
  | _ => exact absurd (show false=true from hs) Bool.false_ne_true
 | byt i =>
  obtain ⟨t,rfl⟩:=rx
  cases y with
  | byt j => obtain ⟨t',rfl⟩:=ry; exact PySem.W.ne_bytes (fin_bl I q (congrArg not dec_byt))
  | _ => exact absurd (show false=true from hs) Bool.false_ne_true
 | _ => cases y <;> exact absurd (show false=true from hs) Bool.false_ne_true
theorem op_lt:OpR X (compareOp .Lt) (rI0 fun i j => .bl (decide (i < j))):=opB0 fun _ _ _ _ _ _ _ q => lt_int q
theorem op_le:OpR X (compareOp .LtE) (rI0 fun i j => .bl (decide (i ≤ j))):=opB0 fun _ _ _ _ _ _ _ q => le_int q
theorem op_gt:OpR X (compareOp .Gt) (rI0 fun i j => .bl (decide (j < i))):=opB0 fun _ _ _ _ _ _ _ q => gt_int q
theorem op_ge:OpR X (compareOp .GtE) (rI0 fun i j => .bl (decide (j ≤ i))):=opB0 fun _ _ _ _ _ _ _ q => ge_int q
theorem nomark (b:Expr) {op:CmpOp} (h:op ≠ .In:=by decide) (h2:op ≠ .NotIn:=by decide):behindInMarks op b=false:=by
 have e1:(op == CmpOp.In)=false:=by cases op <;> first | rfl | exact absurd rfl h
 have e2:(op == CmpOp.NotIn)=false:=by cases op <;> first | rfl | exact absurd rfl h2
 cases b <;> simp [behindInMarks,e1,e2]
theorem pe_cmpR {op:CmpOp} {r:R2} (ho:OpR X (compareOp op) r) (ha:PE X a ta) (hb:PE X b tb) (hm:behindInMarks op b=false):PE X (.Compare a [op] [b] pos) (tOp r ta tb):=by
 intro pins s σ H Q I h
 exact wpAny_Compare1 (binT ha hb I h fun v u s2 x y H2 I2 rx ry q => ho pins s2 σ H2 x y v u Q I2 rx ry q) hm
def tTest (t:TE):TT:=fun σ H Q => t σ H fun x H' => ∃ k,x = .bl k∧Q k H'
theorem pt_cmpR {op:CmpOp} {r:R2} (ho:OpR X (compareOp op) r) (ha:PE X a ta) (hb:PE X b tb) (hm:behindInMarks op b=false):PT X (.Compare a [op] [b] pos) (tTest (tOp r ta tb)):=by
 intro pins s σ H Q I h
 refine wpAny_isTrue_Compare1 (thn (ha pins s σ H _ I h) fun v s1 ⟨x,H1,I1,r1,q1⟩ => thn (hb pins s1 σ H1 _ I1 q1) fun u s2 ⟨y,H2,I2,r2,q2⟩ =>
  thn (ho pins s2 σ H2 x y v u _ I2 r1 r2 q2) fun c s3 ⟨z,H3,I3,r3,k,e,q3⟩ => ?_) hm
 subst e
 cases r3
 exact wpAny_truthy_bool ⟨H3,I3,q3⟩
def tChain (r r' : R2) (ta tb tc:TE):TE:=fun σ H Q => ta σ H fun x H1 => tb σ H1 fun y H2 => r x y H2 fun z H3 => ∃ k,z = .bl k ∧
 (if k=true then tc σ H3 fun w' H4 => r' y w' H4 Q else Q (.bl false) H3)
theorem pt_chain {op op' : CmpOp} {r r' : R2} (ho:OpR X (compareOp op) r) (ho' : OpR X (compareOp op') r') (ha:PE X a ta) (hb:PE X b tb) (hc:PE X c tc)
  (hm:lastMarks [op,op'] [b,c]=false:=by with_unfolding_all rfl):PT X (.Compare a [op,op'] [b,c] pos) (tTest (tChain r r' ta tb tc)):=by
 intro pins s σ H Q I h
 refine isTrue_chain (thn (ha pins s σ H _ I h) fun v s1 ⟨x,H1,I1,r1,q1⟩ => test_link (thn (hb pins s1 σ H1 _ I1 q1) fun u s2 ⟨y,H2,I2,r2,q2⟩ =>
  thn (ho pins s2 σ H2 x y v u _ I2 r1 r2 q2) fun d s3 ⟨z,H3,I3,r3,k,e,q3⟩ => ?_)) hm
 subst e
 cases r3
 refine wpAny_truthy_bool ?_
 cases k with
 | false =>
  obtain ⟨k',e',q'⟩:=q3
  cases e'
  exact ite_ff ⟨H3,I3,q'⟩
 | true =>
  refine ite_tt (test_last (thn (hc pins s3 σ H3 _ I3 q3) fun w' s4 ⟨z',H4,I4,r4,q4⟩ => thn (ho' pins s4 σ H4 y z' u w' _ I4 r2 r4 q4) fun d' s5 ⟨z2,H5,I5,r5,k2,e2,q5⟩ => ?_))
  subst e2
  cases r5
  exact wpAny_truthy_bool ⟨H5,I5,q5⟩
def TruV (K:PySem.W.Frag) (x:V) (H:Hp) (k:Bool):Prop :=
 match x with
 | .non => k=false
 | .bl b => k=b
 | .int i => k=(i != 0)
 | .str y => y.length ≤ sizeLine∧k=((y.length:Int) != 0)
 | .byt y => y.size ≤ sizeLine∧k=((y.size:Int) != 0)
 | .ref p => (∃ xs,SqL K H p xs∧k = !xs.isEmpty) ∨ (∃ xs,SqT K H p xs∧k = !xs.isEmpty) ∨ ∃ kvs,H p=some (.dK kvs)∧k = !kvs.isEmpty
 | _ => False
theorem isEmpty_kv {κ:Type} {kvs:List (κ × V)} {vs:List (κ × Value)} (r:KV kvs vs):(!vs.isEmpty) = !kvs.isEmpty:=by
 cases r <;> rfl
theorem isEmpty_of {xs:List V} {its:List Value} (r:Vals xs its):(!its.toArray.isEmpty) = !xs.isEmpty:=by
 cases r <;> simp
theorem line63:(sizeLine:Nat) < 2 ^ 63:=by rw [sizeLine_eq]; decide
theorem tru_ok:TruR X (fun x H Q => ∃ k,TruV X.K x H k∧Q k H):=by
 intro pins s σ H x v Q I rx h
 obtain ⟨k,e,q⟩:=h
 have hl:=line63
 have hs:sizeLine=16777216:=sizeLine_eq
 cases x with
 | non =>
  cases rx
  have e' : k=false:=e
  subst e'
  exact truthy_none ⟨H,I,q⟩
 | bl b =>
  cases rx
  have e' : k=b:=e
  subst e'
  exact wpAny_truthy_bool ⟨H,I,q⟩
 | int i =>
  obtain ⟨t,rfl⟩:=rx
  have e' : k=(i != 0):=e
  subst e'
  exact PySem.P.truthy_int ⟨H,I,q⟩
 | str y =>
  obtain ⟨t,rfl⟩:=rx
  obtain ⟨hy,e'⟩:y.length ≤ sizeLine∧k=((y.length:Int) != 0):=e
  subst e'
  exact PySem.P.truthy_str (by omega) ⟨H,I.tok _,q⟩
 | byt y =>
  obtain ⟨t,rfl⟩:=rx
  obtain ⟨hy,e'⟩:y.size ≤ sizeLine∧k=((y.size:Int) != 0):=e
  subst e'
  exact PySem.W.truthy_bytes (by omega) ⟨H,I.tok _,q⟩
 | ref p =>
  cases rx
  have e' : (∃ xs,SqL X.K H p xs∧k = !xs.isEmpty) ∨ (∃ xs,SqT X.K H p xs∧k = !xs.isEmpty) ∨ ∃ kvs,H p=some (.dK kvs)∧k = !kvs.isEmpty:=e
  rcases e' with ⟨xs,hx,e'⟩ | ⟨xs,hx,e'⟩ | ⟨kvs,hx,e'⟩
  ·subst e'
   obtain ⟨its,r,pl,hz⟩:=I.list hx
   have hlen:=r.length
   exact wpAny_truthy_list pl.isList (by simp only [List.size_toArray]; omega) ⟨H,I.tok _,by rw [isEmpty_of r]; exact q⟩
  ·subst e'
   obtain ⟨its,r,pl,hz⟩:=I.tuple hx
   have hlen:=r.length
   exact truthy_tuple pl (by simp only [List.size_toArray]; omega) ⟨H,I.tok _,by rw [isEmpty_of r]; exact q⟩
  ·subst e'
   obtain ⟨hz,hS,vs,r,m⟩:kvs.length ≤ sizeLine∧(p == sysModules)=false∧∃ vs,KV kvs vs∧s.heap.DictOf (mixKind X.prog X.w) p vs:=I.hok p _ hx
   have hlen:kvs.length=vs.length:=Paired.length r
   exact wpAny_truthy_dict hS m (by omega) ⟨H,I.tok _,by rw [isEmpty_kv r]; exact q⟩
 | _ => exact (show False from e).elim
theorem pt_truth (ha:PE X a ta) (he:∀ whole,isTrue a X.env whole=(do let v ← whole; standAt a.pos; holding [v] (truthy v))) :
  PT X a (fun σ H Q => ta σ H fun x H' => ∃ k,TruV X.K x H' k∧Q k H'):=by
 intro pins s σ H Q I h
 exact isTrue_plain (thn (ha pins s σ H _ I h) fun v s1 ⟨x,H1,I1,r1,q1⟩ => tru_ok pins s1 σ H1 x v Q I1 r1 q1) (he _)
theorem vals1 {x:V} {us:List Value} (r:Vals [x] us):∃ u,us=[u]∧RelV x u:=by
 cases r with
 | cons r1 r2 => cases r2; exact ⟨_,rfl,r1⟩
theorem vals2 {x y:V} {us:List Value} (r:Vals [x,y] us):∃ u w',us=[u,w']∧RelV x u∧RelV y w':=by
 cases r with
 | cons r1 r2 =>
  cases r2 with
  | cons r3 r4 => cases r4; exact ⟨_,_,rfl,r1,r3⟩
theorem call_max2 (hc:X.calm=true):CallR X (.builtin "max") (fun xs H Q => ∃ i j,xs=[.int i,.int j]∧Q (.int (if j > i then j else i)) H):=by
 intro pins s σ H xs us Q I r h
 obtain ⟨i,j,rfl,q⟩:=h
 obtain ⟨u,w',rfl,⟨t,rfl⟩,⟨t',rfl⟩⟩:=vals2 r
 refine max_two_ints (I.ok.hd hc) fun h' tk k => ⟨_,H,I.kept k,?_,q⟩
 by_cases hj:j > i
 ·rw [if_pos hj,if_pos hj]; exact ⟨_,rfl⟩
 ·rw [if_neg hj,if_neg hj]; exact ⟨_,rfl⟩
theorem call_min2 (hc:X.calm=true):CallR X (.builtin "min") (fun xs H Q => ∃ i j,xs=[.int i,.int j]∧Q (.int (if j < i then j else i)) H):=by
 intro pins s σ H xs us Q I r h
 obtain ⟨i,j,rfl,q⟩:=h
 obtain ⟨u,w',rfl,⟨t,rfl⟩,⟨t',rfl⟩⟩:=vals2 r
 refine min_two_ints (I.ok.hd hc) fun h' tk k => ⟨_,H,I.kept k,?_,q⟩
 by_cases hj:j < i
 ·rw [if_pos hj,if_pos hj]; exact ⟨_,rfl⟩
 ·rw [if_neg hj,if_neg hj]; exact ⟨_,rfl⟩
theorem call_int1:CallR X (.type "int") (fun xs H Q => (∃ i,xs=[.int i]∧Q (.int i) H) ∨ ∃ k,xs=[.bl k]∧Q (.int (if k then 1 else 0)) H):=by
 intro pins s σ H xs us Q I r h
 rcases h with ⟨i,rfl,q⟩ | ⟨k,rfl,q⟩
 ·obtain ⟨u,rfl,t,rfl⟩:=vals1 r
  exact call_int_int ⟨.int i,H,I,⟨_,rfl⟩,q⟩
 ·obtain ⟨u,rfl,r1⟩:=vals1 r
  cases r1
  exact call_int_bool ⟨.int (if k then 1 else 0),H,I.tok _,⟨_,rfl⟩,q⟩
end
end L2
namespace L2
open PySem PySem.Spec PyProof.Rows
structure ObjM (h:Heap) (x dx C:Addr) (mA:Str→Option Value):Prop where
 obj:h.get? x=some (PySem.W.instObj C dx)
 ns:h.Ns1 dx mA
 ne:dx ≠ x
theorem lookIn_ns {h:Heap} {dx:Addr} {mA:Str→Option Value} (n:h.Ns1 dx mA):∃ od,h.get? dx=some od∧∀ name,PySem.W.lookIn name od=some (mA name):=by
 obtain ⟨o,es,ep,ho,hd,hk,_,hm⟩:=n
 refine ⟨o,ho,fun name => ?_⟩
 have e:=hm name
 unfold nsFind findBy at e
 rw [← Array.find?_toList] at e
 unfold PySem.W.lookIn
 rw [hd]
 dsimp only
 split
 ·rename_i y q
  rw [q] at e
  exact congrArg some e
 ·rename_i q
  rw [q] at e
  have a:es.toList.any (·.refKey)=false:=by
   rw [List.any_eq_false]
   intro y hy
   obtain ⟨z,t,hkey⟩:=hk y (Array.mem_toList_iff.mp hy)
   simp [DictEntry.refKey,hkey]
  have a' : ¬ es.toList.any (·.refKey)=true:=by rw [a]; exact Bool.false_ne_true
  rw [if_neg a']
  exact congrArg some e
theorem ObjM.look {h:Heap} {x dx C:Addr} {mA:Str→Option Value} (I:ObjM h x dx C mA):∃ od,PySem.W.InstAt h x (PySem.W.instObj C dx) C (some od)∧∀ name,PySem.W.lookIn name od=some (mA name) :=
 let ⟨od,ho,hl⟩:=lookIn_ns I.ns
 ⟨od,⟨I.obj,rfl,rfl,ho⟩,hl⟩
theorem RelO.some_of {v:V} {o:Option Value} (r:RelO (some v) o):∃ u,o=some u∧RelV v u:=by
 cases o with
 | none => exact (show False from r).elim
 | some u => exact ⟨u,rfl,r⟩
section
variable {P:Program} {w:World} {H H' : Hp} {h h' : Heap} {a C dx:Addr} {fs fs' : List (Str × V)}
theorem ins_get (hok:HOk P w H h) (e:H a=some (.ins C dx fs)):∃ mA,ObjM h a dx C mA∧(∀ f,RelO (fs.lookup f) (mA f))∧PySem.Within mA (fs.map (·.1))∧fs.length ≤ 1000∧H dx=some (.own a):=by
 obtain ⟨d,z,ne,ob,mA,n,r,q⟩:=(show ObjOk P w H h a (.ins C dx fs) from hok a _ e)
 exact ⟨mA,⟨ob,n,ne⟩,r,q,z,d⟩
end
structure Cls (K:PySem.W.Frag) (C:Addr):Prop where
 pg:PySem.W.plainGet K C Str.empty=true
 hd:PySem.W.hasDictIn K C=true
 po:PySem.W.plainOver K C=true
 sa:PySem.W.findIn K (.ref C) "__setattr__" = some (some (.builtin "object.__setattr__"))
theorem Cls.get {K:PySem.W.Frag} {C:Addr} (c:Cls K C) (f:Str):PySem.W.plainGet K C f=true:=c.pg
section
variable {X:Cx} {pins:List (Addr × Obj)} {σ:St} {H:Hp} {s:Shared} {A:Around} {E:Value→Shared→Prop} {Q:Value→Shared→Prop} {c:Value} {b:Bool}
inductive TyOf (K:PySem.W.Frag) (H:Hp):V→Value→Prop where
 | non:TyOf K H .non (.type "NoneType")
 | bl (x:Bool):TyOf K H (.bl x) (.type "bool")
 | int (i:Int):TyOf K H (.int i) (.type "int")
 | str (x:Str):TyOf K H (.str x) (.type "str")
 | flt (x:UInt64):TyOf K H (.flt x) (.type "float")
 | lst {a:Addr} {xs:List V} (e:H a=some (.lst xs)):TyOf K H (.ref a) (.type "list")
 | frz {a:Addr} {o:Obj} {xs:List V} (e:H a=some (.frz o (.lst xs))):TyOf K H (.ref a) (.type "list")
 | tup {a:Addr} {xs:List V} (e:H a=some (.tup xs)):TyOf K H (.ref a) (.type "tuple")
 | dK {a:Addr} {kvs:List (Key × V)} (e:H a=some (.dK kvs)):TyOf K H (.ref a) (.type "dict")
 | dT {a:Addr} {kvs:List (List Key × V)} (e:H a=some (.dT kvs)):TyOf K H (.ref a) (.type "dict")
 | ins {a C dx:Addr} {fs:List (Str × V)} (e:H a=some (.ins C dx fs)) (cl:Cls K C) (ha:PySem.W.findIn K (.ref C) "__class__" = some (some (.builtin "object.__class__")))
   (hn:PySem.W.specialIn K (.builtin "object.__class__") "__get__" = some (some (.builtin "getset_descriptor.__get__"))) (htk:PySem.W.takesIn K (.builtin "object.__class__")=some true)
   (hm:PySem.W.mroIn K C (.type "object")=some true):TyOf K H (.ref a) (.ref C)
theorem isinst_ok {x:V} {u t:Value} (I:Inv X pins σ H s) (rx:RelV x u) (ty:TyOf X.K H x t) (e:PySem.W.kitOne X.K t c=some b) (h:∀ tk,Q (.bool b) { s with toks:=tk }) :
  wpAny (model X.prog X.w) A (call (.builtin "isinstance") [u,c]) Q E s:=by
 cases ty with
 | non => cases (show u=Value.none from rx); exact PySem.W.kia_one PySem.W.kitx_none I.kIn True.intro e (fun z => nomatch z) h
 | bl y => cases (show u=Value.bool y from rx); exact PySem.W.kia_one PySem.W.kitx_bool I.kIn True.intro e (fun z => nomatch z) h
 | int i => obtain ⟨t,q⟩:=(show ∃ t,u=Value.int i t from rx); cases q; exact PySem.W.kia_one PySem.W.kitx_int I.kIn True.intro e (fun z => nomatch z) h
 | str y => obtain ⟨t,q⟩:=(show ∃ t,u=Value.str y t from rx); cases q; exact PySem.W.kia_one PySem.W.kitx_str I.kIn True.intro e (fun z => nomatch z) h
 | flt y => obtain ⟨t,q⟩:=(show ∃ t,u=Value.float y t from rx); cases q; exact PySem.W.kia_one PySem.W.kitx_float I.kIn True.intro e (fun z => nomatch z) h
 | @lst a xs ea =>
  cases (show u=Value.ref a from rx)
  obtain ⟨_,_,n,_,h1⟩:=(show ObjOk X.prog X.w H s.heap a (.lst xs) from I.hok a _ ea)
  exact PySem.W.kia_one PySem.W.kitx_list I.kIn ⟨_,h1,rfl⟩ e (fun z => nomatch z) h
 | @frz a ob xs ea =>
  cases (show u=Value.ref a from rx)
  obtain ⟨_,_,_,n,_,h1⟩:=(show ObjOk X.prog X.w H s.heap a (.frz ob (.lst xs)) from I.hok a _ ea)
  exact PySem.W.kia_one PySem.W.kitx_list I.kIn ⟨_,h1,rfl⟩ e (fun z => nomatch z) h
 | @tup a xs ea =>
  cases (show u=Value.ref a from rx)
  obtain ⟨_,_,_,p⟩:=(show ObjOk X.prog X.w H s.heap a (.tup xs) from I.hok a _ ea)
  obtain ⟨o,h1,h2,_⟩:=p
  exact PySem.W.kia_one PySem.W.kitx_tuple I.kIn ⟨o,h1,h2⟩ e (fun z => nomatch z) h
 | @dK a kvs ea =>
  cases (show u=Value.ref a from rx)
  obtain ⟨_,_,vs,_,p⟩:=(show ObjOk X.prog X.w H s.heap a (.dK kvs) from I.hok a _ ea)
  obtain ⟨o,es,ep,h1,h2,_⟩:=p
  exact PySem.W.kia_one PySem.W.kitx_dict I.kIn ⟨o,h1,h2.1⟩ e (fun z => nomatch z) h
 | @dT a kvs ea =>
  cases (show u=Value.ref a from rx)
  obtain ⟨_,_,xs,_,o,es,ep,h1,h2,_⟩:=(show ObjOk X.prog X.w H s.heap a (.dT kvs) from I.hok a _ ea)
  exact PySem.W.kia_one PySem.W.kitx_dict I.kIn ⟨o,h1,h2.1⟩ e (fun z => nomatch z) h
 | @ins a C dx fs ea cl ha hn htk hm =>
  cases (show u=Value.ref a from rx)
  obtain ⟨mA,O,_⟩:=ins_get I.hok ea
  obtain ⟨od,J,_⟩:=O.look
  exact PySem.W.kia_one (PySem.W.kitx_own (cl.get _) cl.hd ha hn htk hm) I.kIn J e (fun z => nomatch z) h
end
end L2
namespace L2
open PySem PySem.Spec PyProof.Rows
structure Room (k:Nat) (A:Around):Prop where
 hd:A.handled=none
 dp:A.depth + 3 * k + 5 < recursionLimit
 un:A.units + 16 * k + 200 < cLine
 gd:A.guards=some []
theorem Room.mono {j k:Nat} {A:Around} (r:Room k A) (h:j ≤ k):Room j A:=⟨r.hd,by have:=r.dp; omega,by have:=r.un; omega,r.gd⟩
theorem Room.deeper {k:Nat} {A:Around} (r:Room (k + 1) A) (env:Env):Room k (A.deeper env) :=
 ⟨r.hd,by have:=r.dp; show A.depth + 1 + 3 * k + 5 < _; omega,by have:=r.un; show A.units + 3 + 16 * k + 200 < _; omega,r.gd⟩
theorem Room.depth {k:Nat} {A:Around} (r:Room k A):A.depth < recursionLimit:=by have:=r.dp; omega
theorem Room.units {k:Nat} {A:Around} (r:Room k A):A.units + 64 < cLine:=by have:=r.un; omega
def tNil:TA:=fun _ H Q => Q [] H
def tCons (ta:TE) (tr:TA):TA:=fun σ H Q => ta σ H fun x H1 => tr σ H1 fun xs H2 => Q (x :: xs) H2
section
variable {X:Cx} {e:Expr} {es:List Expr} {te:TE} {t:TA} {pos:PySem.Pos}
theorem pa_nil:PA X [] tNil:=fun _ _ _ _ H Q I h => Calls.spliced_nil ⟨[],H,I,.nil,h⟩
theorem pa_cons (ha:PE X e te) (hr:PA X es t) (hs:starEach (e :: es) X.env=(false,eval e X.env) :: starEach es X.env:=by rfl):PA X (e :: es) (tCons te t):=by
 intro pos pins s σ H Q I h
 rw [hs]
 show wpAny _ _ (spliced ((false,eval e X.env) :: backTo pos (starEach es X.env))) _ _ s
 refine Calls.spliced_cons (thn (ha pins s σ H _ I h) fun u s1 ⟨x,H1,I1,r1,q1⟩ => ?_)
 exact thn (hr pos pins s1 σ H1 _ I1 q1) fun us s2 ⟨xs,H2,I2,r2,q2⟩ => ⟨x :: xs,H2,I2,.cons r1 r2,q2⟩
def tTup (t:TA):TE:=fun σ H Q => t σ H fun xs H1 => xs.length ≤ sizeLine∧∀ p,H1 p=none→Q (.ref p) (upd H1 p (.tup xs))
def tLst (t:TA):TE:=fun σ H Q => t σ H fun xs H1 => xs.length ≤ sizeLine∧∀ p,H1 p=none→Q (.ref p) (upd H1 p (.lst xs))
theorem pe_tup {x1} (h:PA X es t):PE X (.Tuple es x1 pos) (tTup t):=by
 intro pins s σ H Q I hq
 refine wpAny_Tuple_spliced (thn (h pos pins s σ H _ I hq) fun us s1 ⟨xs,H1,I1,r,z,q⟩ => ⟨by rw [← r.length]; exact z,?_⟩)
 have hf:H1 s1.heap.objs.size=none:=I1.hok.fresh (Nat.le_refl _)
 refine ⟨.ref s1.heap.objs.size,upd H1 s1.heap.objs.size (.tup xs),I1.laid (t':=s1.toks) (fun b u e => Heap.get?_push_of_some _ e) (Nat.le_refl _) ?_,rfl,q _ hf⟩
 exact ⟨z,us,r,⟨_,Heap.get?_push_size _ rfl,rfl,_,rfl⟩⟩
theorem pe_lst (h:PA X es t):PE X (.List es pos) (tLst t):=by
 intro pins s σ H Q I hq
 refine wpAny_List_spliced (thn (h pos pins s σ H _ I hq) fun us s1 ⟨xs,H1,I1,r,z,q⟩ => ⟨by rw [← r.length]; exact z,?_⟩)
 have hf:H1 s1.heap.objs.size=none:=I1.hok.fresh (Nat.le_refl _)
 refine ⟨.ref s1.heap.objs.size,upd H1 s1.heap.objs.size (.lst xs),I1.laid (t':=s1.toks) (fun b u e => Heap.get?_push_of_some _ e) (Nat.le_refl _) ?_,rfl,q _ hf⟩
 exact ⟨z,us,0,r,Heap.get?_push_size _ rfl⟩
end
abbrev Sp:=List V→Hp→VK→XK→Prop
abbrev CXT:=List Env→Hp→Shared→XK→Value→Shared→Prop
structure Env0 (P:Program) (w:World) (K:PySem.W.Frag) (mg:Str→Option Value) (base:Heap) (A:Around) (outer:List Env) (s:Shared) (H:Hp):Prop where
 frames:A.frames=some outer
 mod:Mod K mg base
 bs:∀ b o,base.get? b=some o→s.heap.get? b=some o∧H b=none
 bsz:base.objs.size ≤ s.heap.objs.size
 funs:s.heap.FunFrames base outer
 frf:∀ b ∈ frs outer,H b=none
 hok:HOk P w H s.heap
 bare:AllBare s.gens
def CE (outer:List Env) (P:Program) (w:World) (H:Hp) (s:Shared) (Q:VK) (u:Value) (s' : Shared):Prop :=
 ∃ v H',s'.os=s.os∧AllBare s'.gens∧Un (frs outer) [] H H' s.heap s'.heap∧HOk P w H' s'.heap∧RelV v u∧Q v H'
def CR (CX:CXT) (outer:List Env) (P:Program) (w:World) (H:Hp) (s:Shared) (Q:VK) (E:XK) (r:Result) (s' : Shared):Prop :=
 match r with
 | .ok (.ret u) => CE outer P w H s Q u s'
 | .ok _ => False
 | .error e => CX outer H s E e s'
structure FnOk (P:Program) (w:World) (K:PySem.W.Frag) (mg:Str→Option Value) (base:Heap) (CX:CXT) (k:Nat) (f:Addr) (fd:FuncData) (ps:List Str) (sp:Sp):Prop where
 len:∀ vs H Q E,sp vs H Q E→vs.length=ps.length
 run:∀ (A:Around) (outer:List Env) (s:Shared) (H:Hp) (args:Args) (us:List Value) (vs:List V) (Q:VK) (E:XK),Room k A→Env0 P w K mg base A outer s H→BindsTo s fd args (ps.zip us)→Vals vs us→sp vs H Q E →
  codeAny (model P w) A (.call (.ref f) args) (CR CX outer P w H s Q E) s
section
variable {X:Cx} {pins:List (Addr × Obj)} {σ:St} {H:Hp} {s s' : Shared}
theorem Inv.env0 (I:Inv X pins σ H s):Env0 X.prog X.w X.K X.mg X.base X.A X.stack s H :=
 ⟨I.ok.frames,I.ok.mod,I.bs,Nat.le_trans I.ok.bsz I.sz,I.stack,I.stkFree,I.hok,I.bare⟩
theorem Inv.after {Q:VK} {u:Value} (I:Inv X pins σ H s) (h:CE X.stack X.prog X.w H s Q u s'):EP X pins σ Q u s':=by
 obtain ⟨v,H',os,bare,un,hok,r,q⟩:=h
 obtain ⟨hh,g,d,t,os'⟩:=s'
 obtain rfl:os' = s.os:=os
 exact ⟨v,H',I.call (h':=hh) (g':=g) (d':=d) (t':=t) (ch:=[]) un hok bare (fun b z => absurd z (by simp)),r,q⟩
end
def tCall (sp:Sp) (dvs:List V) (E:XK) (t:TA):TE:=fun σ H Q => t σ H fun vs H1 => sp (vs ++ dvs) H1 Q E
def Binds (K:PySem.W.Frag) (fd:FuncData) (ps:List Str) (ds:List Value):Prop :=
 ∀ (s:Shared) (us:List Value),K.In s.heap→(us ++ ds).length=ps.length→BindsTo s fd ⟨us,[]⟩ (ps.zip (us ++ ds))
theorem Binds.all {K:PySem.W.Frag} {fd:FuncData} {ps:List Str} (h:∀ us:List Value,us.length=ps.length→bindArgs fd ⟨us,[]⟩=pure (ps.zip us)):Binds K fd ps []:=fun s us _ hl => by
 rw [List.append_nil] at hl ⊢
 exact .of_eq (h us hl)
def Passes (CX:CXT) (X:Cx) (E:XK):Prop:=∀ (pins:List (Addr × Obj)) (σ:St) (H:Hp) (s:Shared) (e:Value) (s' : Shared),Inv X pins σ H s→CX X.stack H s E e s'→X.xe e s'
section
variable {X:Cx} {CX:CXT} {k:Nat} {f C:Addr} {fd:FuncData} {ps:List Str} {sp:Sp} {dvs:List V} {ds:List Value} {E:XK} {x m:Str} {p pos apos:PySem.Pos} {e o:Expr} {es:List Expr} {ta:TE} {t:TA}
theorem run_fn {pins:List (Addr × Obj)} {σ:St} {H:Hp} {s:Shared} {Q:VK} {us:List Value} {vs:List V} (F:FnOk X.prog X.w X.K X.mg X.base CX k f fd ps sp) (hr:Room k X.A) (hb:Binds X.K fd ps ds) (hd:Vals dvs ds) (hx:Passes CX X E)
  (I:Inv X pins σ H s) (r:Vals vs us) (h:sp (vs ++ dvs) H Q E):wpAny (model X.prog X.w) X.A (call (.ref f) us) (EP X pins σ Q) X.xe s:=by
 have r2:Vals (vs ++ dvs) (us ++ ds):=r.append hd
 have hl:(us ++ ds).length=ps.length:=by rw [← r2.length]; exact F.len _ _ _ _ h
 refine wpAny_call (codeAny_mono (F.run X.A X.stack s H ⟨us,[]⟩ (us ++ ds) (vs ++ dvs) Q E hr I.env0 (hb s us I.kIn hl) r2 h) fun r s' hq => ?_)
 cases r with
 | error e => exact hx pins σ H s e s' I hq
 | ok fl =>
  cases fl with
  | ret u => exact I.after hq
  | next => exact False.elim hq
  | brk => exact False.elim hq
  | cont => exact False.elim hq
theorem pe_call (F:FnOk X.prog X.w X.K X.mg X.base CX k f fd ps sp) (hr:Room k X.A) (hg:Gl X x) (hm:X.mg x=some (.ref f)) (hk:PySem.W.keepIn X.K (.ref f)=true) (hb:Binds X.K fd ps ds) (hd:Vals dvs ds) (hx:Passes CX X E)
  (ha:PA X (e :: es) t) (hdb:(x == ("__debug__" : Str))=false:=by decide) (he:starEach (e :: es) X.env=(false,eval e X.env) :: starEach es X.env:=by rfl) (hpl:(backTo pos (starEach es X.env)).any (·.1)=false:=by rfl) :
  PE X (.Call (.Name x p) (e :: es) [] pos) (tCall sp dvs E t):=by
 intro pins s σ H Q I h
 refine wpAny_Call_Name_kw (ld_glob I hg hm ?_ hdb)
 refine PySem.W.callWith_K (h₀:=X.base) I.ok.mod.kin hk (thn (ha pos pins s σ H _ I h) fun us s1 ⟨vs,H1,I1,r,q⟩ => ⟨I1.kIn,?_⟩) he hpl
 exact run_fn F hr hb hd hx I1 r q
end
structure FnScope (N P:List Str) (sc:Scope):Prop where
 kind:sc.kind = .function
 co:sc.isCoroutine=false
 gen:sc.isGenerator=false
 nd:N.Nodup
 pre:N.take P.length=P
 par:∀ x ∈ P,sc.names.lookup x=some .local ∨ sc.names.lookup x=some .cell
 nofree:∀ y ∈ sc.names,y.2 ≠ .free
theorem bindL_out {kindOf:Str→Option NameKind} {x:Str} : ∀ {binds:List (Str × Value)} {m:Str→Option Value},(∀ v,(x,v) ∉ binds)→bindL kindOf binds m x=m x
 | [],_,_ => rfl
 | (n,v) :: r,m,h => by
  unfold bindL
  rw [bindL_out fun w hw => h w (List.mem_cons_of_mem _ hw)]
  split
  ·have:x ≠ n:=by rintro rfl; exact h v List.mem_cons_self
   simp [this]
  ·rfl
theorem bindC_out {kindOf:Str→Option NameKind} {x:Str} : ∀ {binds:List (Str × Value)} {m:Str→Option Value},(∀ v,(x,v) ∉ binds)→bindC kindOf binds m x=m x
 | [],_,_ => rfl
 | (n,v) :: r,m,h => by
  unfold bindC
  rw [bindC_out fun w hw => h w (List.mem_cons_of_mem _ hw)]
  split
  ·rfl
  ·have:x ≠ n:=by rintro rfl; exact h v List.mem_cons_self
   simp [this]
theorem bindL_get {kindOf:Str→Option NameKind} {x:Str} {v:Value} : ∀ {P:List Str} {vs:List Value} {i:Nat} {m:Str→Option Value},P.Nodup→P[i]? = some x→vs[i]? = some v→kindOf x=some .local →
  bindL kindOf (P.zip vs) m x=some v
 | [],_,_,_,_,h,_,_ => by simp at h
 | _ :: _,[],_,_,_,_,h,_ => by simp at h
 | p :: P,w :: vs,0,m,nd,h1,h2,hk => by
  simp at h1 h2; subst h1; subst h2
  show bindL kindOf ((p,w) :: P.zip vs) m p=_
  unfold bindL
  rw [bindL_out fun v hv => (List.nodup_cons.mp nd).1 (List.of_mem_zip hv).1,if_pos hk]
  simp
 | p :: P,w :: vs,i + 1,m,nd,h1,h2,hk => by
  show bindL kindOf ((p,w) :: P.zip vs) m x=_
  unfold bindL
  exact bindL_get (i:=i) (List.nodup_cons.mp nd).2 (by simpa using h1) (by simpa using h2) hk
theorem bindC_get {kindOf:Str→Option NameKind} {x:Str} {v:Value} : ∀ {P:List Str} {vs:List Value} {i:Nat} {m:Str→Option Value},P.Nodup→P[i]? = some x→vs[i]? = some v→kindOf x ≠ some .local →
  bindC kindOf (P.zip vs) m x=some v
 | [],_,_,_,_,h,_,_ => by simp at h
 | _ :: _,[],_,_,_,_,h,_ => by simp at h
 | p :: P,w :: vs,0,m,nd,h1,h2,hk => by
  simp at h1 h2; subst h1; subst h2
  show bindC kindOf ((p,w) :: P.zip vs) m p=_
  unfold bindC
  rw [bindC_out fun v hv => (List.nodup_cons.mp nd).1 (List.of_mem_zip hv).1,if_neg hk]
  simp
 | p :: P,w :: vs,i + 1,m,nd,h1,h2,hk => by
  show bindC kindOf ((p,w) :: P.zip vs) m x=_
  unfold bindC
  exact bindC_get (i:=i) (List.nodup_cons.mp nd).2 (by simpa using h1) (by simpa using h2) hk
def start (N:List Str) (vs:List V):St:=vs.map some ++ List.replicate (N.length - vs.length) none
def cxOf (CX:CXT) (P:Program) (w:World) (K:PySem.W.Frag) (mg:Str→Option Value) (base:Heap) (N:List Str) (qual:Str) (scope:Scope) (f:Addr) (cd:Value) (A:Around) (outer:List Env) (s:Shared) (H:Hp) (E:XK):Cx where
 prog:=P
 w:=w
 K:=K
 mg:=mg
 base:=base
 A:=A.deeper (envOfC qual scope s.heap.objs.size f cd)
 N:=N
 s₀:=s
 H₀:=H
 env:=envOfC qual scope s.heap.objs.size f cd
 outer:=outer
 stack:=envOfC qual scope s.heap.objs.size f cd :: outer
 ex:=[]
 calm:=true
 fn:=fun _ => true
 pn:=[]
 xe:=fun e s' => wpAny (model P w) (A.deeper (envOfC qual scope s.heap.objs.size f cd)) (leaving (envOfC qual scope s.heap.objs.size f cd) e) (fun _ s'' => CX outer H s E e s'') (fun e' s'' => CX outer H s E e' s'') s'
theorem cell_has {sc:Scope} {n:Nat} {x:Str} (h:sc.names.lookup x=some .cell):∃ c,(cellsFrom n sc.names []).lookup x=some c:=by
 have q:=PySem.W.cellsFrom_some sc.names n [] (.inl h)
 exact Option.isSome_iff_exists.mp q
theorem inv_start {CX:CXT} {P:Program} {w:World} {K:PySem.W.Frag} {mg:Str→Option Value} {base:Heap} {N ps:List Str} {qual:Str} {scope:Scope} {f:Addr} {cd:Value} {A:Around} {outer:List Env} {s s1:Shared} {H:Hp} {E:XK} {us:List Value} {vs:List V}
  (S:FnScope N ps scope) (hd:A.handled=none) (e0:Env0 P w K mg base A outer s H) (hl:vs.length=ps.length) (r:Vals vs us)
  (x:InCallC s s.heap.objs.size (bindL (envOfC qual scope s.heap.objs.size f cd).kindOf (ps.zip us) fun _ => none) (cellsFrom (s.heap.objs.size + 1) scope.names []) (bindC (envOfC qual scope s.heap.objs.size f cd).kindOf (ps.zip us) fun _ => none) s1) :
  Inv (cxOf CX P w K mg base N qual scope f cd A outer s H E) [] (start N vs) H s1:=by
 have hpl:ps.length ≤ N.length:=by have:=congrArg List.length S.pre; rw [List.length_take] at this; omega
 obtain ⟨h1,tk,rfl,hk⟩:=x.done
 have noA:∀ b:Addr,b ∉ (cxOf CX P w K mg base N qual scope f cd A outer s H E).ex:=fun b z => absurd (show b ∈ ([]:List Addr) from z) (by simp)
 refine ⟨⟨e0.mod,S.kind,rfl,rfl,Nat.le_refl _,fun y z c h1 h2 => ?_,fun y hy => ?_,fun y c _ h => ?_,fun _ => hd,Around.frames_deeper e0.frames,.inr ⟨rfl,rfl⟩,fun b z => absurd z (noA b),e0.bs,e0.bsz,fun b _ _ => noA b,fun b z => absurd z (noA b),e0.funs,e0.frf⟩,
  rfl,e0.bare,Un.kept hk,⟨_,x.toInCall.ns,fun i y v h1 h2 h3 => ?_⟩,fun y c h => ⟨_,x.cell y c h⟩,e0.hok.fresh (Nat.le_refl _),fun y c h => ?_,fun p hp => absurd (show p ∈ ([]:List (Addr × Obj)) from hp) (by simp),e0.hok.kept hk,?_⟩
 ·exact name_of_addr x.apart (PySem.mem_of_lookup h1) (PySem.mem_of_lookup h2)
 ·have hy:scope.names.lookup y=some .cell ∨ scope.names.lookup y=some .free:=hy
  rcases hy with hy | hy
  ·exact cell_has hy
  ·exact absurd rfl (S.nofree _ (PySem.mem_of_lookup hy))
 ·exact Nat.le_of_lt (x.above y c (PySem.mem_of_lookup h))
 ·have hi:i < vs.length:=by
   unfold start at h2
   by_cases hi:i < vs.length
   ·exact hi
   ·rw [List.getElem?_append_right (by simpa using hi)] at h2
    rw [List.getElem?_replicate] at h2
    split at h2 <;> cases h2
  have ha:vs[i]? = some v:=by
   unfold start at h2
   rw [List.getElem?_append_left (by simpa using hi),List.getElem?_map] at h2
   cases e:vs[i]? with
   | none => rw [e] at h2; cases h2
   | some a => rw [e] at h2; cases h2; rfl
  obtain ⟨u,hu,rv⟩:=r.get ha
  have hp:ps[i]? = some y:=by
   rw [← S.pre,List.getElem?_take_of_lt (by omega)]; exact h1
  have ndP:ps.Nodup:=by rw [← S.pre]; exact S.nd.sublist (List.take_sublist _ _)
  refine ⟨u,rv,?_⟩
  rcases S.par y (List.mem_of_getElem? hp) with k | k
  ·exact .inl ⟨k,bindL_get ndP hp hu k⟩
  ·obtain ⟨c,e⟩:=cell_has (n:=s.heap.objs.size + 1) k
   refine .inr ⟨.inl k,c,e,?_⟩
   have q:=x.cell y c e
   rw [bindC_get ndP hp hu (by show scope.names.lookup y ≠ _; rw [k]; decide)] at q
   exact q
 ·exact e0.hok.fresh (Nat.le_of_lt (x.above y c (PySem.mem_of_lookup h)))
 ·unfold start
  show _=N.length
  rw [List.length_append,List.length_map,List.length_replicate]
  omega
theorem fn_of {CX:CXT} {P:Program} {w:World} {K:PySem.W.Frag} {mg:Str→Option Value} {base:Heap} {k:Nat} {f:Addr} {name qual:Str} {params:Arguments} {body:List Stmt} {scope:Scope} {dV kV doc pm cdv ct oc:Value} {an od:Option Addr}
  {osl:Array (Option Value)} {N ps:List Str} {sp:Sp} (lk:K.lookup f=some ⟨oc,od,.func (PySem.W.fnOf name qual params body scope dV kV doc pm an cdv ct),osl⟩) (hcd:PySem.W.codeIn K cdv qual=true) (S:FnScope N ps scope)
  (len:∀ vs H Q E,sp vs H Q E→vs.length=ps.length)
  (hbody:∀ (A:Around) (outer:List Env) (s:Shared) (H:Hp) (vs:List V) (Q:VK) (E:XK),Room k (A.deeper (envOfC qual scope s.heap.objs.size f cdv))→sp vs H Q E →
   ∃ t,PSs (cxOf CX P w K mg base N qual scope f cdv A outer s H E) body t∧t { nx:=fun _ H' => Q .non H',rt:=Q } (start N vs) H) :
  FnOk P w K mg base CX (k + 1) f (PySem.W.fnOf name qual params body scope dV kV doc pm an cdv ct) ps sp:=by
 refine ⟨len,fun A outer s H args us vs Q E hr e0 hb r hsp => ?_⟩
 have hl:=len _ _ _ _ hsp
 have KX:K.In s.heap:=e0.mod.kin.keeps fun b o e => (e0.bs b o e).1
 have lim:s.heap.NoLimit:=e0.mod.nolimit.keeps fun b o e => (e0.bs b o e).1
 have hkind:∀ y ∈ ps.zip us,scope.names.lookup y.1=some .local ∨ (scope.names.lookup y.1=some .cell∧((cellsFrom (s.heap.objs.size + 1) scope.names []).lookup y.1).isSome=true):=fun ⟨n,v⟩ hy => by
  rcases S.par n (List.of_mem_zip hy).1 with q | q
  ·exact .inl q
  ·exact .inr ⟨q,PySem.W.cellsFrom_some _ _ _ (.inl q)⟩
 refine codeAny_call_function hr.depth (KX _ _ lk) rfl S.co S.gen rfl (PySem.W.codeRec_of KX hcd) (hb _ _ _ _ ?_)
 refine wpAny_newFunctionEnv_cells S.kind hkind fun env he s1 x => ?_
 subst he
 refine ⟨lim.keeps x.toInCall.keep,codeAny_func ?_⟩
 obtain ⟨t,ht,hq⟩:=hbody A outer s H vs Q E (hr.deeper _) hsp
 have I:Inv (cxOf CX P w K mg base N qual scope f cdv A outer s H E) [] (start N vs) H s1:=inv_start S hr.hd e0 hl r x
 refine wpAny_mono (ht [] s1 (start N vs) H _ I hq) (fun fl s' hs => ?_) fun e s' hs => hs
 have fin:∀ {σ' : St} {H' : Hp} {v:V} {u:Value},Inv (cxOf CX P w K mg base N qual scope f cdv A outer s H E) [] σ' H' s'→RelV v u→Q v H'→CE outer P w H s Q u s' :=
  fun {σ' H' v u} J rv q => ⟨v,H',J.os,J.bare,J.base,J.hok,rv,q⟩
 cases fl with
 | ret u =>
  obtain ⟨v,σ',H',J,rv,q⟩:=hs
  exact fin J rv q
 | next =>
  obtain ⟨σ',H',J,q⟩:=hs
  exact fin (v:=V.non) (u:=Value.none) J rfl q
 | brk =>
  obtain ⟨_,_,_,q⟩:=hs
  exact False.elim q
 | cont =>
  obtain ⟨_,_,_,q⟩:=hs
  exact False.elim q
end L2
namespace L2
open PySem PySem.Spec PyProof.Rows
section
variable {X:Cx} {x:Str} {p pos:PySem.Pos} {e:Expr} {es:List Expr} {t:TA} {id T:String} {r:List V→Hp→VK→Prop}
def tCB (r:List V→Hp→VK→Prop) (t:TA):TE:=fun σ H Q => t σ H fun vs H1 => r vs H1 Q
theorem pe_callB (hc:CallR X (.builtin id) r) (hg:Gl X x) (hm:X.mg x=none) (hv:bootBuiltins x=some (.builtin id)) (ha:PA X (e :: es) t) (hn:x ≠ "__name__" := by decide) (hdb:(x == ("__debug__" : Str))=false:=by decide)
  (he:starEach (e :: es) X.env=(false,eval e X.env) :: starEach es X.env:=by rfl) (hpl:(backTo pos (starEach es X.env)).any (·.1)=false:=by rfl):PE X (.Call (.Name x p) (e :: es) [] pos) (tCB r t):=by
 intro pins s σ H Q I h
 refine wpAny_Call_Name_kw (ld_blt I hg hm hv ?_ hn hdb)
 exact PyProof.Rows.callWith_builtin1 (thn (ha pos pins s σ H _ I h) fun us s1 ⟨vs,H1,I1,r1,q1⟩ => hc pins s1 σ H1 vs us Q I1 r1 q1) he hpl
theorem pe_callTy (hc:CallR X (.type T) r) (hg:Gl X x) (hm:X.mg x=none) (hv:bootBuiltins x=some (.type T)) (ha:PA X (e :: es) t) (hn:x ≠ "__name__" := by decide) (hdb:(x == ("__debug__" : Str))=false:=by decide)
  (he:starEach (e :: es) X.env=(false,eval e X.env) :: starEach es X.env:=by rfl) (hpl:(backTo pos (starEach es X.env)).any (·.1)=false:=by rfl):PE X (.Call (.Name x p) (e :: es) [] pos) (tCB r t):=by
 intro pins s σ H Q I h
 refine wpAny_Call_Name_kw (ld_blt I hg hm hv ?_ hn hdb)
 exact PyProof.Rows.callWith_type1 (thn (ha pos pins s σ H _ I h) fun us s1 ⟨vs,H1,I1,r1,q1⟩ => hc pins s1 σ H1 vs us Q I1 r1 q1) he hpl
end
end L2
namespace HT
open PySem PyProof.Rows
def lexLt:List Int→List Int→Bool
 | [],[] => false
 | [],_ :: _ => true
 | _ :: _,[] => false
 | x :: xs,y :: ys => if x=y then lexLt xs ys else decide (x < y)
theorem lexLt_cons (x y:Int) (xs ys:List Int):lexLt (x :: xs) (y :: ys)=if x=y then lexLt xs ys else decide (x < y):=rfl
theorem lexLt_nil_nil:lexLt [] []=false:=rfl
theorem lexLt_nil_cons (y:Int) (ys:List Int):lexLt [] (y :: ys)=true:=rfl
theorem lexLt_cons_nil (x:Int) (xs:List Int):lexLt (x :: xs) []=false:=rfl
theorem eqAt_int (A:Around) (s:Shared) (a:Int) (t:Tok) (c:Int) (u:Tok):∃ e,SeqAt.EqAt A s (.int a t) (.int c u) e∧(e=true ↔ a=c) :=
 ⟨(a == c),SeqAt.EqAt.int_int a t c u,by simp⟩
theorem rcLt_int (A:Around) (s:Shared) (a:Int) (t:Tok) (c:Int) (u:Tok) (prog:Program) (w:World) (E:Value→Shared→Prop) (Q:Value→Shared→Prop) (h:Q (.bool (decide (a < c))) s) :
  wpAny (model prog w) A (richCompare .Lt (.int a t) (.int c u)) Q E s :=
 (PyProof.Rows.lt_int h:wpAny (model prog w) A (compareOp .Lt (.int a t) (.int c u)) Q E s)
section
open PySem.SeqAt
open PySem.AutoSeq1 (wpAny_loadPart')
open PySem.MeetsSeq PySem.MeetsSeq2 PySem.MeetsSeq3
theorem tuple_lt_ints (l b:Addr) (items items2:Array Value) (n n2:Nat) (dd dd2:Option Addr) (sl sl2:Array (Option Value)) (ns ms:List Int) (hi:IntsAre items.toList ns) (hj:IntsAre items2.toList ms) :
  Meets (Builtin.«tuple.__lt__» ⟨[.ref l,.ref b],[]⟩)
   (fun _ R s => s.heap.get? l=some { cls:=.type "tuple",dict:=dd,data:=.seq items n,slots:=sl }∧s.heap.get? b=some { cls:=.type "tuple",dict:=dd2,data:=.seq items2 n2,slots:=sl2 } ∧
    R (.ok (.ret (.bool (lexLt ns ms)))) s) :=
 .of_wp fun prog w A R s h => by
  obtain ⟨hp,g,d,tk,os⟩:=s; obtain ⟨hl,hb,h⟩:=h
  have f2:=AutoSeq1.sub_tuple_tuple
  have z1:items.size=ns.length:=by rw [← hi.length]; simp
  have z2:items2.size=ms.length:=by rw [← hj.length]; simp
  wp_walk using wpAny_loadPart' hl,wpAny_loadPart' hb,wpAny_forIn_list _ (fun rest b s' => b.1=none∧s' = ⟨hp,g,d,tk,os⟩∧∃ (vs ws:List Value) (ns' ms' : List Int),rest=vs.zip ws ∧
   IntsAre vs ns'∧IntsAre ws ms'∧ns'.length + items2.size=ms'.length + items.size∧R (.ok (.ret (.bool (lexLt ns' ms')))) ⟨hp,g,d,tk,os⟩) _
  case turn =>
   rintro ⟨y,x⟩ rest b s' ⟨hb',rfl,vs,ws,ns',ms',hz,hvi,hwi,hlen,hR⟩
   cases hvi with
   | nil => rw [List.zip_nil_left] at hz; cases hz
   | cons a t hvi' =>
    cases hwi with
    | nil => rw [List.zip_nil_right] at hz; cases hz
    | cons c u hwi' =>
     rw [List.zip_cons_cons] at hz
     injection hz with hyx hrest
     injection hyx with hy hx
     subst hy hx
     rw [lexLt_cons] at hR
     simp only [List.length_cons] at hlen
     obtain ⟨e,he,hiff⟩:=eqAt_int A.in1 ⟨hp,g,d,tk,os⟩ a t c u
     refine wpAny_bind (he prog w _ _ ?_)
     cases e with
     | true =>
      rw [if_pos (hiff.mp rfl)] at hR
      wp_walk
      exact ⟨rfl,rfl,_,_,_,_,hrest,hvi',hwi',by omega,hR⟩
     | false =>
      rw [if_neg (fun q => absurd (hiff.mpr q) Bool.false_ne_true)] at hR
      have hri:=rcLt_int A.in1 ⟨hp,g,d,tk,os⟩ a t c u prog w
      wp_walk using hri
      exact ⟨_,rfl,by simpa using hR⟩
  case fin =>
   rintro ⟨b1,b2⟩ s' ⟨hb',rfl,vs,ws,ns',ms',hz,hvi,hwi,hlen,hR⟩
   simp only at hb'
   subst hb'
   have hv:lexLt ns' ms' = decide (items.size < items2.size):=by
    cases hvi with
    | nil =>
     cases hwi with
     | nil =>
      simp only [List.length_nil] at hlen
      rw [lexLt_nil_nil]
      exact (decide_eq_false (by omega)).symm
     | cons c u hw =>
      simp only [List.length_nil,List.length_cons] at hlen
      rw [lexLt_nil_cons]
      exact (decide_eq_true (by omega)).symm
    | cons a t hv =>
     cases hwi with
     | nil =>
      simp only [List.length_nil,List.length_cons] at hlen
      rw [lexLt_cons_nil]
      exact (decide_eq_false (by omega)).symm
     | cons c u hw =>
      rw [List.zip_cons_cons] at hz
      cases hz
   rw [hv] at hR
   wp_walk
   exact ⟨_,rfl,by simpa [Builtin.Tuple.tupleCompareSizes] using hR⟩
  case h =>
   exact ⟨rfl,rfl,items.toList,items2.toList,ns,ms,rfl,hi,hj,by omega,h⟩
end
section
variable {prog:Program} {w:World} {A:Around} {E:Value→Shared→Prop} {s:Shared}
theorem lt_tupInts {l b:Addr} {items items2:Array Value} {ns ms:List Int} {Q:Value→Shared→Prop} (hl:IsTup s.heap l items) (hb:IsTup s.heap b items2) (hi:IntsAre items.toList ns) (hj:IntsAre items2.toList ms)
  (hu:A.units < cLine) (h:Q (.bool (lexLt ns ms)) s):wpAny (model prog w) A (compareOp .Lt (.ref l) (.ref b)) Q E s:=by
 obtain ⟨⟨cls,dd,data,sl⟩,ho,hc,n,hd⟩:=id hl
 obtain ⟨⟨cls2,dd2,data2,sl2⟩,ho2,hc2,n2,hd2⟩:=id hb
 simp only at hc hd hc2 hd2
 subst hc hd hc2 hd2
 exact richCompare_meets_room (op:=.Lt) ⟨_,ho,rfl⟩ ⟨_,ho2,rfl⟩ PySem.F.slot_tuple_lt PySem.F.entry_tuple_lt (PySem.F.args_tuple_lt_2 _ _) (tuple_lt_ints l b items items2 n n2 dd dd2 sl sl2 ns ms hi hj)
  ⟨ho,ho2,show Value.bool (lexLt ns ms) ≠ Value.notImplemented∧Q (.bool (lexLt ns ms)) s from ⟨(fun x => nomatch x),h⟩⟩ hu
def sIx (n d:Nat):Option Int→Nat
 | none => d
 | some v => if v < 0 then (v + (n:Int)).toNat else min v.toNat n
theorem sIx_none (n d:Nat):sIx n d none=d:=rfl
theorem sIx_nat (n d k:Nat):sIx n d (some (k:Int))=min k n:=by
 show (if (k:Int) < 0 then ((k:Int) + (n:Int)).toNat else min (k:Int).toNat n)=min k n
 rw [if_neg (by omega),Int.toNat_natCast]
end
end HT
namespace L2
open PySem PySem.Spec PyProof.Rows
abbrev TO:=St→Hp→(Option Int→Hp→Prop)→Prop
def PO (X:Cx) (e:Option Expr) (t:TO):Prop :=
 ∀ (pins:List (Addr × Obj)) (s:Shared) (σ:St) (H:Hp) (Q:Option Int→Hp→Prop),Inv X pins σ H s→t σ H Q →
  wpAny (model X.prog X.w) X.A (evalPart e X.env) (fun u s' => ∃ o H',Inv X pins σ H' s'∧IsPart u o∧Q o H') X.xe s
def tNoPart:TO:=fun _ H Q => Q none H
def tPart (t:TE):TO:=fun σ H Q => t σ H fun x H1 => ∃ i,x = .int i∧Q (some i) H1
theorem intsAre_of {ns:List Int} : ∀ {us:List Value},Vals (ns.map V.int) us→IntsAre us ns:=by
 induction ns with
 | nil => intro us r; rw [List.map_nil] at r; cases r; exact .nil
 | cons n ns ih =>
  intro us r
  rw [List.map_cons] at r
  cases r with
  | cons r1 r2 =>
   obtain ⟨t,e⟩:=r1
   subst e
   exact .cons n t (ih r2)
section
variable {X:Cx} {e:Expr} {te:TE} {lo hi:Option Expr} {tl th:TO} {pos p2:PySem.Pos}
theorem po_none:PO X none tNoPart:=by
 intro pins s σ H Q I h
 rw [evalPart_none]
 exact wpAny_pure ⟨none,H,I,.none,h⟩
theorem po_some (h:PE X e te):PO X (some e) (tPart te):=by
 intro pins s σ H Q I hw
 rw [evalPart_some]
 refine thn (h pins s σ H _ I hw) fun u s1 ⟨x,H1,I1,r1,q1⟩ => ?_
 obtain ⟨i,rfl,q⟩:=q1
 obtain ⟨t,rfl⟩:=r1
 exact ⟨some i,H1,I1,.int i t,q⟩
def SlR (X:Cx) (r:V→Option Int→Option Int→Hp→VK→Prop):Prop :=
 ∀ (pins:List (Addr × Obj)) (s:Shared) (σ:St) (H:Hp) (x:V) (v vl vu:Value) (lo hi:Option Int) (sl:Addr) (Q:VK),Inv X pins σ H s→RelV x v→s.heap.IsSliceOf sl vl vu .none→IsPart vl lo→IsPart vu hi→r x lo hi H Q →
  ∃ T id,typeLookup (.type T) "__getitem__" = pure (some (.builtin id))∧s.TypeIs v T∧wpAny (model X.prog X.w) X.A (getItem v (.ref sl)) (EP X pins σ Q) X.xe s
def tSl (r:V→Option Int→Option Int→Hp→VK→Prop) (te:TE) (tl th:TO):TE:=fun σ H Q => te σ H fun x H1 => tl σ H1 fun l H2 => th σ H2 fun u H3 => r x l u H3 Q
theorem pe_slice {r:V→Option Int→Option Int→Hp→VK→Prop} (hr:SlR X r) (he:PE X e te) (hl:PO X lo tl) (hu:PO X hi th):PE X (.Subscript e (.Slice lo hi none p2) pos) (tSl r te tl th):=by
 intro pins s σ H Q I h
 refine Subscript_ (thn (he pins s σ H _ I h) fun v s1 ⟨x,H1,I1,r1,q1⟩ => ?_)
 refine wpAny_Slice (thn (hl pins s1 σ H1 _ I1 q1) fun vl s2 ⟨l,H2,I2,pl,q2⟩ => thn (hu pins s2 σ H2 _ I2 q2) fun vu s3 ⟨u,H3,I3,pu,q3⟩ => ?_)
 rw [evalPart_none]
 refine wpAny_pure ?_
 have I4:Inv X pins σ H3 { s3 with heap:=s3.heap.push { cls:=.type "slice",data:=.fields #[vl,vu,.none] } }:=I3.kept (t':=s3.toks) fun b ob q => Heap.get?_push_of_some _ q
 obtain ⟨T,id,hT,ht,hg⟩:=hr pins { s3 with heap:=s3.heap.push { cls:=.type "slice",data:=.fields #[vl,vu,.none] } } σ H3 x v vl vu l u s3.heap.objs.size Q I4 r1 (Heap.IsSliceOf.new ..) pl pu q3
 show wpAny (model X.prog X.w) X.A (subscriptTail e (.Slice lo hi none p2) v (.ref s3.heap.objs.size)) (EP X pins σ Q) X.xe { s3 with heap:=s3.heap.push { cls:=.type "slice",data:=.fields #[vl,vu,.none] } }
 exact tail_any (ops:=[.ref s3.heap.objs.size,v]) ht hT hg (by with_unfolding_all rfl)
def cutV (xs:List V) (lo hi:Option Int):List V:=(xs.drop (HT.sIx xs.length 0 lo)).take (HT.sIx xs.length xs.length hi - HT.sIx xs.length 0 lo)
theorem cutV_length (xs:List V) (lo hi:Option Int):(cutV xs lo hi).length ≤ xs.length:=by
 unfold cutV
 rw [List.length_take,List.length_drop]
 omega
end
end L2
namespace L2
open PySem PySem.Spec PyProof.Rows
def ixN (n:Nat) (i:Int):Option Nat:=if 0 ≤ i then (if i < n then some i.toNat else none) else if -(n:Int) ≤ i then some (i + n).toNat else none
def atI {α:Type} (xs:List α) (i:Int):Option α:=(ixN xs.length i).bind fun j => xs[j]?
theorem ixN_seq {n:Nat} {i:Int} {j:Nat} (h:ixN n i=some j):seqIndex? i n=some j∧j < n∧-(n:Int) ≤ i∧i < n:=by
 unfold ixN at h
 by_cases h0:0 ≤ i
 ·rw [if_pos h0] at h
  by_cases h1:i < n
  ·rw [if_pos h1] at h
   have e:i.toNat=j:=Option.some.inj h
   exact ⟨by rw [seqIndex_of h0 h1,e],by omega,by omega,h1⟩
  ·rw [if_neg h1] at h; cases h
 ·rw [if_neg h0] at h
  by_cases h1 : -(n:Int) ≤ i
  ·rw [if_pos h1] at h
   have e:(i + n).toNat=j:=Option.some.inj h
   exact ⟨by rw [seqIndex_neg (by omega) h1,e],by omega,h1,by omega⟩
  ·rw [if_neg h1] at h; cases h
theorem atI_get {α:Type} {xs:List α} {i:Int} {v:α} (h:atI xs i=some v):∃ j,seqIndex? i xs.length=some j∧xs[j]? = some v∧j < xs.length∧-(xs.length:Int) ≤ i∧i < xs.length:=by
 unfold atI at h
 cases e:ixN xs.length i with
 | none => rw [e] at h; cases h
 | some j =>
  rw [e] at h
  obtain ⟨h1,h2,h3,h4⟩:=ixN_seq e
  exact ⟨j,h1,h,h2,h3,h4⟩
theorem atI_nat {α:Type} {xs:List α} {j:Nat} {v:α} (h:xs[j]? = some v):atI xs (j:Int)=some v:=by
 have hj:j < xs.length:=(List.getElem?_eq_some_iff.mp h).1
 have e:ixN xs.length (j:Int)=some j:=by
  unfold ixN
  rw [if_pos (by omega),if_pos (by omega)]; simp
 unfold atI; rw [e]; exact h
theorem atI_last {α:Type} (xs:List α) (v:α):atI (xs ++ [v]) (-1)=some v:=by
 have hl:(xs ++ [v]).length=xs.length + 1:=by simp
 have e:ixN (xs ++ [v]).length (-1)=some xs.length:=by
  unfold ixN
  rw [hl,if_neg (by decide),if_pos (by omega)]
  congr 1
  omega
 unfold atI
 rw [e]
 show (xs ++ [v])[xs.length]? = some v
 simp
def PlainIx (b:Expr):Prop:=∀ o i,subscripted b false o i=operate [o,i] (getItem o i)
def IxR (X:Cx) (r:R2):Prop :=
 ∀ (value slice:Expr) (pins:List (Addr × Obj)) (s:Shared) (σ:St) (H:Hp) (x y:V) (v u:Value) (Q:VK),Inv X pins σ H s→RelV x v→RelV y u→r x y H Q →
  subscripted slice false v u=operate [v,u] (getItem v u)→wpAny (model X.prog X.w) X.A (subscriptTail value slice v u) (EP X pins σ Q) X.xe s
def MtR (X:Cx) (id:String) (r:V→List V→Hp→VK→Prop):Prop :=
 ∀ (pins:List (Addr × Obj)) (s:Shared) (σ:St) (H:Hp) (x:V) (xs:List V) (v:Value) (us:List Value) (Q:VK),Inv X pins σ H s→RelV x v→Vals xs us→r x xs H Q →
  wpAny (model X.prog X.w) X.A (call (.builtin id) (v :: us)) (EP X pins σ Q) X.xe s
section
variable {X:Cx} {a b:Expr} {ta tb:TE} {pos:PySem.Pos}
theorem pe_ix {r:R2} (hr:IxR X r) (ha:PE X a ta) (hb:PE X b tb) (hs:PlainIx b):PE X (.Subscript a b pos) (tOp r ta tb):=by
 intro pins s σ H Q I h
 exact Subscript_ (binT ha hb I h fun v u s2 x y H2 I2 rx ry q => hr a b pins s2 σ H2 x y v u Q I2 rx ry q (hs _ _))
def rIxL (K:PySem.W.Frag):R2:=fun x y H Q => ∃ p xs i v,x = .ref p∧y = .int i∧SqL K H p xs∧atI xs i=some v∧Q v H
def rIxT (K:PySem.W.Frag):R2:=fun x y H Q => ∃ p xs i v,x = .ref p∧y = .int i∧SqT K H p xs∧atI xs i=some v∧Q v H
theorem ix_list:IxR X (rIxL X.K):=by
 intro value slice pins s σ H x y v u Q I rx ry h hs
 obtain ⟨p,xs,i,z,rfl,rfl,hq,he,q⟩:=h
 cases rx
 obtain ⟨t,rfl⟩:=ry
 obtain ⟨its,r,pl,hz⟩:=I.list hq
 obtain ⟨j,h1,h2,h3,h4,h5⟩:=atI_get he
 obtain ⟨w,ew,rw'⟩:=r.get h2
 have hl:=r.length
 have hn:=line63
 have fin:EP X pins σ Q w s:=⟨z,H,I,rw',q⟩
 by_cases h0:0 ≤ i
 ·have hj:i.toNat=j:=by
   rw [seqIndex_of h0 h5] at h1
   exact Option.some.inj h1
  exact item_listR pl.isList h0 (by omega) (by rw [hj]; simpa using ew) fin hs
 ·have hj:(i + (its.toArray.size:Int)).toNat=j:=by
   rw [seqIndex_neg (by omega) h4] at h1
   rw [List.size_toArray,← hl]
   exact Option.some.inj h1
  exact subscriptTail_builtinR (x:=w) pl.isList.typeIs slot_list_getitem.lookup
   (wpAny_getItem_list_neg (Q:=fun r s' => r=w∧EP X pins σ Q r s') pl.isList (by omega) (by rw [List.size_toArray] <;> omega) (by omega) (by rw [hj]; simpa using ew) ⟨rfl,fin⟩) hs
theorem ix_tup:IxR X (rIxT X.K):=by
 intro value slice pins s σ H x y v u Q I rx ry h hs
 obtain ⟨p,xs,i,z,rfl,rfl,hq,he,q⟩:=h
 cases rx
 obtain ⟨t,rfl⟩:=ry
 obtain ⟨its,r,pl,hz⟩:=I.tuple hq
 obtain ⟨j,h1,h2,h3,h4,h5⟩:=atI_get he
 obtain ⟨w,ew,rw'⟩:=r.get h2
 have hl:=r.length
 have hn:=line63
 have fin:EP X pins σ Q w s:=⟨z,H,I,rw',q⟩
 exact subscriptTail_builtinR (x:=w) pl.typeIs slot_tuple_getitem.lookup
  (getItem_tuple (j:=j) (Q:=fun r s' => r=w∧EP X pins σ Q r s') pl (by omega) (by omega) (by rw [List.size_toArray,← hl]; exact h1) (by simpa using ew) ⟨rfl,fin⟩) hs
theorem mapSeq_set (its:List Value) (n j:Nat) (u:Value):Obj.mapSeq (·.setIfInBounds j u) { cls:=.type "list",data:=.seq its.toArray n } = { cls:=.type "list",data:=.seq (its.set j u).toArray n }:=by
 simp [Obj.mapSeq]
theorem Inv.lst {pins:List (Addr × Obj)} {σ:St} {H:Hp} {s:Shared} {p:Addr} {xs:List V} (I:Inv X pins σ H s) (h:H p=some (.lst xs)) :
  ∃ (its:List Value) (n:Nat),Vals xs its∧s.heap.get? p=some { cls:=.type "list",data:=.seq its.toArray n }∧xs.length ≤ sizeLine:=by
 obtain ⟨z,its,n,r,e⟩:=I.hok p _ h
 exact ⟨its,n,r,e,z⟩
theorem Inv.lstUpd {pins:List (Addr × Obj)} {σ:St} {H:Hp} {s:Shared} {p:Addr} {xs ys:List V} {its its' : List Value} {n n' : Nat} {f:Obj→Obj} (I:Inv X pins σ H s) (h:H p=some (.lst xs))
  (ho:s.heap.get? p=some { cls:=.type "list",data:=.seq its.toArray n }) (hf:f { cls:=.type "list",data:=.seq its.toArray n } = { cls:=.type "list",data:=.seq its'.toArray n' }) (r:Vals ys its') (hz:ys.length ≤ sizeLine) (t:Nat) :
  Inv X pins σ (upd H p (.lst ys)) { s with heap:=s.heap.update p f,toks:=t }:=by
 have e:(s.heap.update p f).get? p=some { cls:=.type "list",data:=.seq its'.toArray n' }:=by
  rw [Heap.get?_update_self f ho (by rw [hf] <;> rfl),hf]
 refine I.write (x:=p) (e:=p) (by rw [h]; trivial) (.inl rfl) (fun b u hb q => (Heap.get?_update_other _ _ (Ne.symm hb)).trans q) ⟨_,e⟩ ?_
 exact ⟨hz,its',n',r,e⟩
def rSetL:V→V→V→Hp→(Hp→Prop)→Prop:=fun o i v H Q => ∃ p xs k j,o = .ref p∧i = .int k∧H p=some (.lst xs)∧ixN xs.length k=some j∧Q (upd H p (.lst (xs.set j v)))
theorem set_list:PSet X rSetL:=by
 intro pins s σ H o i v ov iv u Q I ro ri rv h
 obtain ⟨p,xs,k,j,rfl,rfl,hp,hj,q⟩:=h
 cases ro
 obtain ⟨t,rfl⟩:=ri
 obtain ⟨its,n,r,ho,hz⟩:=I.lst hp
 obtain ⟨h1,h2,h3,h4⟩:=ixN_seq hj
 have hl:=r.length
 have hn:=line63
 have I' : Inv X pins σ (upd H p (.lst (xs.set j v))) { s with heap:=s.heap.update p (Obj.mapSeq (·.setIfInBounds j u)) } :=
  I.lstUpd hp ho (mapSeq_set its n j u) (r.set rv j) (by rw [List.length_set]; exact hz) s.toks
 by_cases h0:0 ≤ k
 ·have hk:k.toNat=j:=by
   rw [seqIndex_of h0 h4] at h1
   exact Option.some.inj h1
  exact PySem.W.ki_setAt ho h0 (by omega) (by rw [List.size_toArray,← hl]; exact h4) (by rw [hk]; exact ⟨_,I',q⟩)
 ·have hk:(k + (its.toArray.size:Int)).toNat=j:=by
   rw [seqIndex_neg (by omega) h3] at h1
   rw [List.size_toArray,← hl]
   exact Option.some.inj h1
  exact PySem.W.ki_setBack ho (by omega) (by rw [List.size_toArray,← hl]; exact h3) (by omega) (by rw [hk]; exact ⟨_,I',q⟩)
theorem slice_bounds (lo hi:Option Int) (n:Nat):(sliceBounds lo hi none n).1=((HT.sIx n 0 lo:Nat):Int)∧(sliceBounds lo hi none n).2.1=((HT.sIx n n hi:Nat):Int)∧(sliceBounds lo hi none n).2.2=1:=by
 refine ⟨?_,?_,rfl⟩
 ·cases lo with
  | none => simp [sliceBounds,HT.sIx]
  | some i =>
   simp only [sliceBounds,HT.sIx,Option.getD_none,show (1:Int) > 0 by decide,if_true]
   by_cases h:i < 0
   ·simp only [h,if_true] <;> omega
   ·simp only [h,if_false] <;> omega
 ·cases hi with
  | none => simp [sliceBounds,HT.sIx]
  | some i =>
   simp only [sliceBounds,HT.sIx,Option.getD_none,show (1:Int) > 0 by decide,if_true]
   by_cases h:i < 0
   ·simp only [h,if_true] <;> omega
   ·simp only [h,if_false] <;> omega
theorem slicePick_cut (its:List Value) (lo hi:Option Int):slicePick its.toArray lo hi none=((its.drop (HT.sIx its.length 0 lo)).take (HT.sIx its.length its.length hi - HT.sIx its.length 0 lo)).toArray:=by
 obtain ⟨h1,h2,h3⟩:=slice_bounds lo hi its.toArray.size
 unfold slicePick
 rw [h1,h2,h3]
 simp only [sliceRange_one,pick_run,List.size_toArray] <;> rfl
def rSlL (K:PySem.W.Frag):V→Option Int→Option Int→Hp→VK→Prop:=fun x lo hi H Q => ∃ a xs,x = .ref a∧SqL K H a xs∧∀ p,H p=none→Q (.ref p) (upd H p (.lst (cutV xs lo hi)))
theorem sl_list:SlR X (rSlL X.K):=by
 intro pins s σ H x v vl vu lo hi sl Q I rx hs pl pu h
 obtain ⟨a,xs,rfl,hx,q⟩:=h
 cases rx
 obtain ⟨its,r,ht,hz⟩:=I.list hx
 have hlen:=r.length
 refine ⟨"list",_,slot_list_getitem.lookup,ht.isList.typeIs,?_⟩
 refine wpAny_getItem_list_slice ht.isList hs pl pu .none (by simp) ?_ (by rw [List.size_toArray] <;> omega)
 rw [slicePick_cut,← hlen]
 refine ⟨.ref s.heap.objs.size,_,I.laid (t':=s.toks) (o:=.lst (cutV xs lo hi)) (fun b ob q => Heap.get?_push_of_some _ q) (Nat.le_refl _) ?_,rfl,q _ (I.hok.fresh (Nat.le_refl _))⟩
 exact ⟨Nat.le_trans (cutV_length xs lo hi) hz,_,0,(r.drop (HT.sIx xs.length 0 lo)).take (HT.sIx xs.length xs.length hi - HT.sIx xs.length 0 lo),Heap.get?_push_size _ rfl⟩
theorem call_len_seq:CallR X (.builtin "len") (fun xs H Q => ∃ p ys,xs=[.ref p]∧(SqL X.K H p ys ∨ SqT X.K H p ys)∧Q (.int ys.length) H):=by
 intro pins s σ H xs us Q I r h
 obtain ⟨p,ys,rfl,hq,q⟩:=h
 obtain ⟨u,rfl,rx⟩:=vals1 r
 cases rx
 have hn:=line63
 rcases hq with hq | hq
 ·obtain ⟨its,r',pl,hz⟩:=I.list hq
  have hlen:=r'.length
  exact Calls.call_len_list pl.isList (by simp only [List.size_toArray] <;> omega) ⟨.int ys.length,H,I.tok _,⟨s.toks + 1,by rw [List.size_toArray,hlen]⟩,q⟩
 ·obtain ⟨its,r',pl,hz⟩:=I.tuple hq
  have hlen:=r'.length
  exact len_tuple pl (by simp only [List.size_toArray] <;> omega) ⟨.int ys.length,H,I.tok _,⟨s.toks + 1,by rw [List.size_toArray,hlen]⟩,q⟩
theorem call_list_of:CallR X (.type "list") (fun xs H Q => ∃ p ys,xs=[.ref p]∧(SqL X.K H p ys ∨ SqT X.K H p ys)∧∀ l,H l=none→Q (.ref l) (upd H l (.lst ys))):=by
 intro pins s σ H xs us Q I r h
 obtain ⟨p,ys,rfl,hq,q⟩:=h
 obtain ⟨u,rfl,rx⟩:=vals1 r
 cases rx
 have fin:∀ (its:List Value),Vals ys its→ys.length ≤ sizeLine→∀ (h' : Heap) (c' : Nat),(∀ b o',s.heap.get? b=some o'→h'.get? b=some o') →
   h'.get? s.heap.objs.size=some { cls:=.type "list",dict:=none,data:=.seq its.toArray c',slots:=#[] }→EP X pins σ Q (.ref s.heap.objs.size) { s with heap:=h' }:=fun its r' hz h' c' kp e =>
  ⟨.ref s.heap.objs.size,_,I.laid (t':=s.toks) kp (Nat.le_refl _) (show ObjOk X.prog X.w _ h' _ (.lst ys) from ⟨hz,its,c',r',e⟩),rfl,q _ (I.hok.fresh (Nat.le_refl _))⟩
 rcases hq with hq | hq
 ·obtain ⟨its,r',pl,hz⟩:=I.list hq
  have hlen:=r'.length
  obtain ⟨o,ho,hc,n,hd⟩:=pl.isList
  exact call_list_seq p (.inl rfl) ho hc hd (fun h' c' kp e => fin its r' hz h' c' kp e) (by simp only [List.size_toArray] <;> omega)
 ·obtain ⟨its,r',pl,hz⟩:=I.tuple hq
  have hlen:=r'.length
  obtain ⟨o,ho,hc,n,hd⟩:=pl
  exact call_list_seq p (.inr rfl) ho hc hd (fun h' c' kp e => fin its r' hz h' c' kp e) (by simp only [List.size_toArray] <;> omega)
theorem call_tuple_of:CallR X (.type "tuple") (fun xs H Q => ∃ p ys,xs=[.ref p]∧((SqL X.K H p ys∧∀ l,H l=none→Q (.ref l) (upd H l (.tup ys))) ∨ (SqT X.K H p ys∧Q (.ref p) H))):=by
 intro pins s σ H xs us Q I r h
 obtain ⟨p,ys,rfl,h⟩:=h
 obtain ⟨u,rfl,rx⟩:=vals1 r
 cases rx
 rcases h with ⟨hq,q⟩ | ⟨hq,q⟩
 ·obtain ⟨its,r',pl,hz⟩:=I.list hq
  have hlen:=r'.length
  refine call_tuple_list pl.isList (fun h' kp => ?_) (by simp only [List.size_toArray] <;> omega)
  have I1:Inv X pins σ H { s with heap:=h' }:=I.kept (t':=s.toks) kp
  have I2:Inv X pins σ (upd H h'.objs.size (.tup ys)) { s with heap:=h'.push { cls:=.type "tuple",data:=.seq its.toArray } } :=
   I1.laid (t':=s.toks) (fun b o e => Heap.get?_push_of_some _ e) (Nat.le_refl _) (show ObjOk X.prog X.w _ _ _ (.tup ys) from ⟨hz,its,r',IsTup.new _ _⟩)
  exact ⟨.ref h'.objs.size,_,I2,rfl,q _ (I1.hok.fresh (Nat.le_refl _))⟩
 ·obtain ⟨its,r',pl,hz⟩:=I.tuple hq
  exact call_tuple_same pl ⟨.ref p,H,I,rfl,q⟩
def tyV (K:PySem.W.Frag) (T:String) (x:V) (H:Hp):Prop:=match x with
 | .str _ => T = "str"
 | .int _ => T = "int"
 | .ref p => (T = "list" ∧ ∃ xs,SqL K H p xs) ∨ (T = "tuple" ∧ ∃ o,K.lookup p=some o∧o.cls = .type "tuple" ∧ o.dict=none) ∨
   (T = "dict" ∧ ((∃ kvs,H p=some (.dK kvs)) ∨ ∃ kvs,H p=some (.dT kvs))) ∨ (T = "set" ∧ ∃ S n,H p=some (.set S n))
 | _ => False
theorem tyV_is {pins:List (Addr × Obj)} {σ:St} {H:Hp} {s:Shared} {T:String} {x:V} {v:Value} (I:Inv X pins σ H s) (r:RelV x v) (ty:tyV X.K T x H) :
  s.TypeIs v T∧∀ a,v = .ref a→∃ ob,s.heap.get? a=some ob∧ob.dict=none:=by
 cases x with
 | str z =>
  obtain ⟨t,rfl⟩:=r
  cases (show T = "str" from ty)
  exact ⟨typeIs_str s z t,fun _ e => nomatch e⟩
 | int i =>
  obtain ⟨t,rfl⟩:=r
  cases (show T = "int" from ty)
  exact ⟨typeIs_int s i t,fun _ e => nomatch e⟩
 | ref p =>
  cases r
  rcases ty with ⟨rfl,xs,hq⟩ | ⟨rfl,o,hk,hc,hd⟩ | ⟨rfl,hk⟩ | ⟨rfl,S,n,hk⟩
  ·obtain ⟨its,_,pl,_⟩:=I.list hq
   refine ⟨pl.isList.typeIs,fun a e => ?_⟩
   cases e
   obtain ⟨o,n,e,c,hd,_⟩:=pl
   exact ⟨o,e,hd⟩
  ·refine ⟨⟨o,I.kIn p o hk,hc⟩,fun a e => ?_⟩
   cases e
   exact ⟨o,I.kIn _ o hk,hd⟩
  ·have z:∃ o,s.heap.get? p=some o∧o.ExactDict:=by
    rcases hk with ⟨kvs,hk⟩ | ⟨kvs,hk⟩
    ·obtain ⟨_,_,_,_,o,_,_,e,ex,_⟩:=I.hok p _ hk
     exact ⟨o,e,ex⟩
    ·obtain ⟨_,_,_,_,o,_,_,e,ex,_⟩:=I.hok p _ hk
     exact ⟨o,e,ex⟩
   obtain ⟨o,e,ex⟩:=z
   refine ⟨⟨o,e,ex.1⟩,fun a e2 => ?_⟩
   cases e2
   exact ⟨o,e,ex.2.1⟩
  ·obtain ⟨o,_,_,_,e,ex,_⟩:=I.hok p _ hk
   refine ⟨⟨o,e,ex.1⟩,fun a e2 => ?_⟩
   cases e2
   exact ⟨o,e,ex.2.1⟩
 | _ => exact False.elim ty
def tBM0 (K:PySem.W.Frag) (T:String) (r:V→List V→Hp→VK→Prop) (to:TE):TE:=fun σ H Q => to σ H fun x H1 => tyV K T x H1∧r x [] H1 Q
def tBM (K:PySem.W.Frag) (T:String) (r:V→List V→Hp→VK→Prop) (to:TE) (t:TA):TE:=fun σ H Q => to σ H fun x H1 => tyV K T x H1∧t σ H1 fun xs H2 => r x xs H2 Q
variable {o e:Expr} {es:List Expr} {to:TE} {t:TA} {name:Str} {apos cpos:PySem.Pos} {T id:String} {r:V→List V→Hp→VK→Prop}
theorem pe_bm0 (pa:PlainAttrs T) (slot:Slot T name id) (hty:typeOf (.builtin id)=pure (.type "method_descriptor")) (hm:MtR X id r) (ho:PE X o to)
  (hbase:attributeBase o name X.env (eval o X.env)=eval o X.env:=by rfl) (hline:(apos.endLine == cpos.line)=true:=by rfl):PE X (.Call (.Attribute o name apos) [] [] cpos) (tBM0 X.K T r to):=by
 intro pins s σ H Q I h
 refine wpAny_Call_method0_late hbase hline (thn (ho pins s σ H _ I h) fun v s1 ⟨x,H1,I1,r1,ty,q1⟩ => ?_)
 obtain ⟨h1,h2⟩:=tyV_is I1 r1 ty
 exact ⟨T,id,pa,slot,hty,h1,h2,Calls.callWith_builtin rfl (PySem.evalArgs_none (hm pins s1 σ H1 x [] v [] Q I1 r1 .nil q1))⟩
theorem pe_bm (pa:PlainAttrs T) (slot:Slot T name id) (hty:typeOf (.builtin id)=pure (.type "method_descriptor")) (hm:MtR X id r) (ho:PE X o to) (ha:PA X (e :: es) t)
  (hbase:attributeBase o name X.env (eval o X.env)=eval o X.env:=by rfl)
  (hfew:((backTo cpos (starEach (e :: es) X.env)).all (fun x => !x.1) && (backToKw cpos (keywordEach [] X.env)).all (fun x => x.1.isSome)
   && decide ((e :: es).length + ([]:List Keyword).length + (if ([]:List Keyword).isEmpty then 0 else 1) < 30))=true:=by rfl)
  (hline:(apos.endLine == cpos.line)=true:=by rfl) (hs:starEach (e :: es) X.env=(false,eval e X.env) :: starEach es X.env:=by rfl) (hplain:(backTo cpos (starEach es X.env)).any (·.1)=false:=by rfl) :
  PE X (.Call (.Attribute o name apos) (e :: es) [] cpos) (tBM X.K T r to t):=by
 intro pins s σ H Q I h
 refine wpAny_Call_method_late hbase hfew hline rfl (thn (ho pins s σ H _ I h) fun v s1 ⟨x,H1,I1,r1,ty,q1⟩ => ?_)
 obtain ⟨h1,h2⟩:=tyV_is I1 r1 ty
 refine ⟨T,id,pa,slot,hty,h1,h2,?_⟩
 have hA:=ha cpos pins s1 σ H1 _ I1 q1
 rw [hs] at hA ⊢
 refine Calls.callWith_builtin (by show (false || (backTo cpos (starEach es X.env)).any (·.1))=false; rw [hplain] <;> rfl) (Calls.evalArgs_plain ?_)
 exact thn hA fun us s2 ⟨vs,H2,I2,r2,q2⟩ => hm pins s2 σ H2 x vs v us Q I2 r1 r2 q2
end
end L2
namespace L2
open PySem PySem.Spec PyProof.Rows
def MtM (X:Cx) (id:String) (r:V→List V→Hp→VK→Prop):Prop :=
 ∀ (pins:List (Addr × Obj)) (s:Shared) (σ:St) (H:Hp) (x:V) (xs:List V) (v:Value) (us:List Value) (Q:VK),Inv X pins σ H s→RelV x v→Vals xs us→r x xs H Q →
  wpAny (model X.prog X.w) X.A (call (.builtin id) (v :: us)) (EP X pins σ Q) X.xe s
theorem Vals.one:∀ {x:V} {us:List Value},Vals [x] us→∃ u,us=[u]∧RelV x u
 | _,_,.cons r .nil => ⟨_,rfl,r⟩
theorem Vals.zero:∀ {us:List Value},Vals [] us→us=[]
 | _,.nil => rfl
theorem Vals.dropLast {xs:List V} {us:List Value} (h:Vals xs us):Vals xs.dropLast us.dropLast:=by
 induction h with
 | nil => exact .nil
 | cons r t ih =>
  cases t with
  | nil => exact .nil
  | cons q t' => exact .cons r ih
theorem Vals.rep {xs:List V} {us:List Value} (h:Vals xs us):∀ k:Nat,Vals (List.replicate k xs).flatten (List.replicate k us).flatten
 | 0 => .nil
 | k + 1 => by
  rw [List.replicate_succ,List.replicate_succ,List.flatten_cons,List.flatten_cons]
  exact Vals.append h (Vals.rep h k)
theorem erase_last {α:Type} (l:List α):l.eraseIdx (l.length - 1)=l.dropLast:=by
 induction l with
 | nil => rfl
 | cons a r ih =>
  cases r with
  | nil => rfl
  | cons b r =>
   have e:(a :: b :: r).length - 1=((b :: r).length - 1) + 1:=by
    have h1:(a :: b :: r).length=r.length + 2:=rfl
    have h2:(b :: r).length=r.length + 1:=rfl
    omega
   rw [e,List.eraseIdx_cons_succ,ih]
   all_goals rfl
theorem foldl_rep (its:List Value):∀ (k:Nat) (acc:List Value),
  List.foldl (fun x1 x2 => x1 ++ x2) acc.toArray (List.replicate k its.toArray)=(acc ++ (List.replicate k its).flatten).toArray
 | 0,acc => by simp
 | k + 1,acc => by
  have e:acc.toArray ++ its.toArray=(acc ++ its).toArray:=by simp
  have e2:(acc ++ its) ++ (List.replicate k its).flatten=acc ++ (List.replicate (k + 1) its).flatten:=by
   rw [List.replicate_succ,List.flatten_cons,List.append_assoc]
  rw [← e2,← foldl_rep its k (acc ++ its),← e,List.replicate_succ,List.foldl_cons]
section
variable {X:Cx} {pins:List (Addr × Obj)} {σ:St} {H:Hp} {s:Shared} {l b:Addr} {xs ys zs:List V}
theorem Inv.lset {its its' : List Value} {n:Nat} {f:Array Value→Array Value} {t' : Nat} (I:Inv X pins σ H s) (hH:H l=some (.lst xs))
  (e:s.heap.get? l=some { cls:=.type "list",data:=.seq its.toArray n }) (hf:f its.toArray=its'.toArray) (hv:Vals ys its') (hz:ys.length ≤ sizeLine) :
  Inv X pins σ (upd H l (.lst ys)) { s with heap:=s.heap.update l (Obj.mapSeq f),toks:=t' }:=by
 have q:=PySem.IsL.update e f
 rw [hf] at q
 refine I.write (x:=l) (e:=l) (by rw [hH]; exact trivial) (.inl rfl) (fun b' u hb hu => (Heap.get?_update_other s.heap (Obj.mapSeq f) (Ne.symm hb)).trans hu) ⟨_,q⟩ ?_
 exact ⟨hz,its',_,hv,q⟩
theorem Inv.lnew {its:List Value} {t' : Nat} (I:Inv X pins σ H s) (hv:Vals ys its) (hz:ys.length ≤ sizeLine) :
  Inv X pins σ (upd H s.heap.objs.size (.lst ys)) { s with heap:=s.heap.push { cls:=.type "list",data:=.seq its.toArray },toks:=t' } :=
 I.laid (fun _ _ q => Heap.get?_push_of_some _ q) (Nat.le_refl _) ⟨hz,its,0,hv,Heap.get?_push_size _ rfl⟩
theorem Inv.fresh (I:Inv X pins σ H s):H s.heap.objs.size=none:=I.hok.fresh (Nat.le_refl _)
theorem Inv.lstM (I:Inv X pins σ H s) (hH:H l=some (.lst xs)):xs.length ≤ sizeLine∧∃ (its:List Value) (n:Nat),Vals xs its∧xs.length=its.length∧s.heap.get? l=some { cls:=.type "list",data:=.seq its.toArray n }:=by
 obtain ⟨z,its,n,r,e⟩:=I.hok l _ hH
 exact ⟨z,its,n,r,r.length,e⟩
theorem notLongL {n:Nat} (h:n ≤ sizeLine):Builtin.List.listTooLong n=false:=by
 unfold Builtin.List.listTooLong
 exact decide_eq_false (by omega)
end
section
variable {X:Cx}
def rAppend:V→List V→Hp→VK→Prop:=fun x vs H Q => ∃ l xs y,x = .ref l∧vs=[y]∧H l=some (.lst xs)∧xs.length < sizeLine∧Q .non (upd H l (.lst (xs ++ [y])))
theorem mt_append:MtM X "list.append" rAppend:=by
 intro pins s σ H x vs v us Q I rx rv h
 obtain ⟨l,xs,y,rfl,rfl,hH,hz,q⟩:=h
 cases rx
 obtain ⟨u,rfl,ru⟩:=rv.one
 obtain ⟨z,its,n,r,hl,e⟩:=I.lstM hH
 refine call_meets F.slot_list_append ⟨_,e,rfl⟩ F.entry_list_append (F.args_list_append_2 _ _) (PySem.list_append l its.toArray n u (by rw [List.size_toArray]; omega)) ⟨e,?_⟩
 refine ⟨.non,_,I.lset (its':=its ++ [u]) hH e (by simp) (r.append (.cons ru .nil)) ?_,rfl,q⟩
 rw [List.length_append,List.length_singleton]
 omega
def rExtend:V→List V→Hp→VK→Prop:=fun x vs H Q => ∃ l b xs zs,x = .ref l∧vs=[.ref b]∧H l=some (.lst xs)∧H b=some (.lst zs)∧xs.length + zs.length ≤ sizeLine∧Q .non (upd H l (.lst (xs ++ zs)))
theorem mt_extend:MtM X "list.extend" rExtend:=by
 intro pins s σ H x vs v us Q I rx rv h
 obtain ⟨l,b,xs,zs,rfl,rfl,hH,hB,hz,q⟩:=h
 cases rx
 obtain ⟨u,rfl,ru⟩:=rv.one
 cases ru
 obtain ⟨z,its,n,r,hl,e⟩:=I.lstM hH
 obtain ⟨z2,its2,n2,r2,hl2,e2⟩:=I.lstM hB
 have hsz:its.toArray.size + its2.toArray.size ≤ sizeLine:=by rw [List.size_toArray,List.size_toArray]; omega
 have hlong : ¬ (!its.toArray.isEmpty && Builtin.List.listTooLong (its.toArray.size + its2.toArray.size))=true:=by
  rw [notLongL hsz,Bool.and_false]
  exact Bool.false_ne_true
 refine call_meets F.slot_list_extend ⟨_,e,rfl⟩ F.entry_list_extend (F.args_list_extend_2 _ _)
  (AutoSeq1.list_extend_list_list_0 l its.toArray n b its2.toArray n2 hlong (by rw [List.size_toArray]; omega) (by omega)) ⟨e,e2,?_⟩
 refine ⟨.non,_,I.lset (its':=its ++ its2) hH e (by simp) (r.append r2) ?_,rfl,q⟩
 rw [List.length_append]
 omega
def rPop:V→List V→Hp→VK→Prop:=fun x vs H Q => ∃ l xs y,x = .ref l∧vs=[]∧H l=some (.lst xs)∧xs[xs.length - 1]? = some y∧Q y (upd H l (.lst xs.dropLast))
theorem mt_pop:MtM X "list.pop" rPop:=by
 intro pins s σ H x vs v us Q I rx rv h
 obtain ⟨l,xs,y,rfl,rfl,hH,hy,q⟩:=h
 cases rx
 have hus:=rv.zero
 subst hus
 obtain ⟨z,its,n,r,hl,e⟩:=I.lstM hH
 obtain ⟨u,hu,ru⟩:=r.get hy
 have hy' : its.toArray[its.toArray.size - 1]? = some u:=by
  show its.toArray[its.length - 1]? = some u
  rw [← Array.getElem?_toList,← hl]
  exact hu
 refine call_meets F.slot_list_pop ⟨_,e,rfl⟩ F.entry_list_pop (F.args_list_pop_1 _) (MeetsSeq.list_pop_last l its.toArray n u hy' (by rw [List.size_toArray]; omega)) ⟨e,?_⟩
 refine ⟨y,_,I.lset (its':=its.dropLast) hH e ?_ r.dropLast ?_,ru,q⟩
 ·show its.toArray.eraseIdxIfInBounds (its.toArray.size - 1)=its.dropLast.toArray
  rw [List.size_toArray,List.eraseIdxIfInBounds_toArray,erase_last]
 ·rw [List.length_dropLast]
  omega
def rCat:R2:=fun x y H Q => ∃ l b xs zs,x = .ref l∧y = .ref b∧H l=some (.lst xs)∧H b=some (.lst zs)∧xs.length + zs.length ≤ sizeLine∧∀ p,H p=none→Q (.ref p) (upd H p (.lst (xs ++ zs)))
theorem op_cat:OpR X (binaryOp .Add) rCat:=by
 intro pins s σ H x y v u Q I rx ry h
 obtain ⟨l,b,xs,zs,rfl,rfl,hH,hB,hz,q⟩:=h
 cases rx
 cases ry
 obtain ⟨z,its,n,r,hl,e⟩:=I.lstM hH
 obtain ⟨z2,its2,n2,r2,hl2,e2⟩:=I.lstM hB
 refine PySem.P.add_list e e2 ?_ (by rw [List.size_toArray,List.size_toArray]; omega)
 have ea:its.toArray ++ its2.toArray=(its ++ its2).toArray:=by simp
 rw [ea]
 exact ⟨.ref _,_,I.lnew (t':=s.toks) (r.append r2) (by rw [List.length_append]; omega),rfl,q _ I.fresh⟩
def rRep:R2:=fun x y H Q => ∃ l k xs,x = .ref l∧y = .int k∧H l=some (.lst xs)∧-(2 ^ 63) ≤ k∧k < 2 ^ 63∧xs.length * k.toNat ≤ sizeLine ∧
 ∀ p,H p=none→Q (.ref p) (upd H p (.lst (List.replicate k.toNat xs).flatten))
theorem len_rep {α:Type} (xs:List α) (k:Nat):(List.replicate k xs).flatten.length=k * xs.length:=by
 induction k with
 | zero => simp
 | succ k ih => rw [List.replicate_succ,List.flatten_cons,List.length_append,ih,Nat.succ_mul,Nat.add_comm]
theorem op_rep:OpR X (binaryOp .Mult) rRep:=by
 intro pins s σ H x y v u Q I rx ry h
 obtain ⟨l,k,xs,rfl,rfl,hH,h1,h2,hz,q⟩:=h
 cases rx
 obtain ⟨t,rfl⟩:=ry
 obtain ⟨z,its,n,r,hl,e⟩:=I.lstM hH
 have hlen:its.toArray.size * k.toNat ≤ sizeLine:=by rw [List.size_toArray,← hl]; exact hz
 have hcap : ¬ its.toArray.size * k.toNat > (2 ^ 63 - 1) / 8:=by
  have:(sizeLine:Nat) ≤ (2 ^ 63 - 1) / 8:=by decide
  omega
 have hfit : ¬ (!Builtin.List.listFitsIndex k)=true:=by
  rw [fitsIndex_both h1 h2]
  exact Bool.false_ne_true
 have hlong : ¬ Builtin.List.listTooLong (its.toArray.size * k.toNat)=true:=by
  rw [notLongL hlen]
  exact Bool.false_ne_true
 have hnew:List.foldl (fun x1 x2 => x1 ++ x2) #[] (List.replicate (if its.toArray.isEmpty=true then 0 else k.toNat) its.toArray)=(List.replicate k.toNat its).flatten.toArray:=by
  have f0:∀ m:Nat,List.foldl (fun x1 x2 => x1 ++ x2) #[] (List.replicate m its.toArray)=(List.replicate m its).flatten.toArray:=fun m => by
   have:=foldl_rep its m []
   rw [List.nil_append] at this
   exact this
  rw [f0]
  cases its with
  | nil => simp
  | cons a r' => rw [if_neg (by simp)]
 refine wpAny_binaryOp_repeat_ref (T := "list") (U := "int") (by decide) ⟨_,e,rfl⟩ (fun s' => typeIs_int s' k t) noFill_list_mul F.fills_int_mul F.slot_int_rmul repeat_list F.slot_int_index.lookup
  (call_meets F.slot_int_rmul (typeIs_int s k t) F.entry_int_rmul (F.args_int_rmul_2 _ _) (int___rmul___int_list k t l its.toArray n)
   ⟨e,rfl,⟨_,e,rfl⟩,call_meets F.slot_list_mul ⟨_,e,rfl⟩ F.entry_list_mul (F.args_list_mul_2 _ _) (AutoListH.list___mul___list_int_3 l its.toArray n k t hfit hcap hlong) ⟨e,?_⟩⟩)
 rw [hnew]
 exact ⟨.ref _,_,I.lnew (t':=s.toks) (r.rep k.toNat) (by rw [len_rep,Nat.mul_comm]; exact hz),rfl,q _ I.fresh⟩
end
end L2
namespace Att
open PySem PySem.W PySem.Calls PyProof.Rows
theorem ints_of_wellAll {P:Params} {h:Heap} : ∀ (ns:List Int) (vs:List Value),WellAll P h vs (ns.map WData.int)→IntsAre vs ns:=by
 intro ns
 induction ns with
 | nil =>
  intro vs w
  rw [List.map_nil] at w
  cases w
  exact .nil
 | cons n ns ih =>
  intro vs w
  rw [List.map_cons] at w
  cases w with
  | cons a b =>
   cases a
   exact .cons _ _ (ih _ b)
theorem script_of {l:OpenLaw} {n:Nat} (hn:l.most=some n) {P:Params} {h:Heap} {args:List WData} {vals:List Value}
  (hpre:l.row.toRowW.claim.pre args=true) (hwl:WellAll P h vals args) :
  ∃ a vs ns,vals=[Value.ref a]∧args=[WData.list (ns.map WData.int)]∧h.get? a=some { cls:=.type "list",data:=.seq vs.toArray }∧IntsAre vs ns∧ns.length ≤ n:=by
 have hsh:WShape.hasAll [] args [.list .int]=true:=(pre_splitW hpre).1
 have hc:l.pre.holds [] { args:=args } = true:=(pre_splitW hpre).2
 obtain ⟨d,r,rfl,h1,h2⟩:=hasAllW_cons hsh
 obtain rfl:=hasAllW_nil h2
 obtain ⟨xs,rfl,h3⟩:=hasW_list h1
 obtain ⟨ns,rfl⟩:=items_int h3
 have hlen:ns.length ≤ n:=by
  unfold OpenLaw.pre at hc
  have h4:(WTm.not (.lt (.lit (.int (n:Int))) (.len (.arg 0)))).holds [] { args:=[.list (ns.map .int)] } = true:=by
   have h4:=(holds_andW hc).1
   rw [hn] at h4
   exact h4
  have h5:=condW_of h4 (w_not (w_lt w_lit (w_len_list (w_arg rfl))))
  rw [List.length_map] at h5
  refine Nat.le_of_not_lt fun q => ?_
  have q' : (n:Int) < ((ns.length:Nat):Int):=by omega
  first
   | (rw [decide_eq_true q'] at h5; exact absurd h5 (by decide))
   | (simp at h5; omega)
 cases hwl with
 | cons w1 w2 =>
  cases w2
  cases w1 with
  | list ho hall => exact ⟨_,_,ns,rfl,rfl,ho,ints_of_wellAll ns _ hall,hlen⟩
theorem post_true (l:OpenLaw) (args:List WData):l.row.toRowW.claim.post args (.bool true) args=true :=
 postW_of (r:=l.row.toRowW) (X:=(true == true))
  (show WShape.has [] (.bool true) .bool=true by first | rfl | decide | simp [WShape.has,WShape.arms,WShape.armsAll])
  (show (WTm.eq .res (.lit (.bool true))).value [] { args:=args,res:=some (.bool true),after:=args } = some (.bool (true == true)) from w_eq_bool (w_res rfl) w_lit) rfl
theorem attach_call {l:OpenLaw} {n:Nat} {q:Program} {loose:List Str} {XP:(Str→Option Value)→Heap→Prop} {YP:World→Heap→Prop} {d:DefRec}
  (hn:l.most=some n) (hdf:d.params.defaults=[])
  (call:∀ (w:World) (s₀ s₁:Shared) (mg mb:Str→Option Value) (fa:Addr) (o:Obj) (pm cd doc:Value) (a:Addr) (vs:List Value) (ns:List Int),
   Ground q loose [] XP w s₀ mg mb s₁.heap→YP w s₁.heap →
   s₁.heap.get? fa=some o→o.data = .func (docDef d.name d.params d.body d.scope pm cd doc)→s₁.heap.CodeRec cd d.name→mg d.name=some (.ref fa) →
   s₁.heap.get? a=some { cls:=.type "list",data:=.seq vs.toArray }→IntsAre vs ns→ns.length ≤ n→s₁.gens = #[] →
   codeAny (model l.prog w) callerA (.call (.ref fa) ⟨[.ref a],[]⟩) (fun r s' => r = .ok (.ret (.bool true))∧OldK s₁.heap s'.heap∧s'.os=s₁.os∧AllBare s'.gens) s₁) :
  WalkO q loose XP YP l.row.toRowW d [] (fun f vs => PySem.call f vs):=by
 intro w s₀ s₁ mg mb G Y fa o pm cd doc dV kV ho hd hcd hD hmg hg args vals as hpre hlay hrd hwl hlo
 obtain rfl:dV = .none:=Dflts.none hD hdf
 obtain rfl:kV = .none:=Dflts.noKw hD
 obtain ⟨a,vs,ns,rfl,rfl,hobj,hints,hlen⟩:=script_of hn hpre hwl
 refine enter_call (codeAny_mono (call w s₀ s₁ mg mb fa o pm cd doc a vs ns G Y ho (fd_plain hd) hcd hmg hobj hints hlen hg) fun r s' hq => ?_)
 obtain ⟨rfl,h2,h3,h4⟩:=hq
 exact ⟨.inl ⟨.bool true,.bool true,[],rfl,fun _ => rfl,.bool true,post_true l _,fun _ => ⟨List.Pairwise.nil,fun _ hm => (nomatch hm)⟩⟩,h2,h3,h4⟩
end Att
namespace L2
open PySem PySem.Spec PyProof.Rows
theorem vals_ints:∀ {vs:List Value} {ns:List Int},IntsAre vs ns→Vals (ns.map V.int) vs
 | _,_,.nil => .nil
 | _,_,.cons n t h => .cons ⟨t,rfl⟩ (vals_ints h)
def Only (H:Hp):Prop:=∀ b,H b=none ∨ ∃ o xs,H b=some (.frz o (.lst xs))
theorem law_call {P:Program} {w:World} {K:PySem.W.Frag} {mg mb:Str→Option Value} {CX:CXT} {k:Nat} {fa a:Addr} {fd:FuncData} {x:Str} {sp:Sp} {s₁:Shared} {vs:List Value} {ns:List Int}
  (KX:K.In s₁.heap) (hns:s₁.heap.Ns mainGlobals mg) (hb:s₁.heap.Ns builtinsNs mb) (hbb:∀ x:Str,x ≠ "__name__" → mb x=bootBuiltins x) (hlim:s₁.heap.NoLimit) (hg:s₁.gens = #[])
  (ha:s₁.heap.get? a=some { cls:=.type "list",data:=.seq vs.toArray }) (hi:IntsAre vs ns) (hl:ns.length ≤ sizeLine) (hr:Room k callerA)
  (F:∀ base:Heap,K.In base→base.Ns mainGlobals mg→FnOk P w K mg base CX k fa fd [x] sp) (hbind:∀ (s:Shared) (u:Value),BindsTo s fd ⟨[u],[]⟩ [(x,u)])
  (hsp:∀ H:Hp,Only H→SqL K H a (ns.map V.int)→sp [.ref a] H (fun v _ => v = .bl true) fun _ _ _ => False)
  (hCX:∀ H e s',CX [] H s₁ (fun _ _ _ => False) e s'→False) :
  codeAny (model P w) callerA (.call (.ref fa) ⟨[.ref a],[]⟩) (fun r s' => r = .ok (.ret (.bool true))∧OldK s₁.heap s'.heap∧s'.os=s₁.os∧AllBare s'.gens) s₁:=by
 have rv:=vals_ints hi
 have lenV:=hi.length
 have core:∀ H:Hp,Only H→SqL K H a (ns.map V.int)→HOk P w H s₁.heap→(∀ b,H b ≠ none→b=a)→(H a ≠ none→K.lookup a=none) →
   codeAny (model P w) callerA (.call (.ref fa) ⟨[.ref a],[]⟩) (fun r s' => r = .ok (.ret (.bool true))∧OldK s₁.heap s'.heap∧s'.os=s₁.os∧AllBare s'.gens) s₁:=by
  intro H hO hS hok hA hK
  have base_of:∀ {b:Addr} {o:Obj},s₁.heap.get? b=some o→H b=none→(hidT s₁.heap H).get? b=some o:=fun e n => hidT_get e n
  have noA:∀ {b:Addr} {o:Obj} {es:Array DictEntry} {ep:Nat},s₁.heap.get? b=some o→o.data = .dict es ep→H b=none:=fun {b o es ep} e d => by
   cases q:H b with
   | none => rfl
   | some u =>
    have e' : b=a:=hA b (by rw [q]; simp)
    subst e'
    rw [ha] at e; cases e
    have d' : Data.seq vs.toArray _=Data.dict es ep:=d
    cases d'
  have nsK:∀ {b:Addr} {m:Str→Option Value},s₁.heap.Ns b m→(hidT s₁.heap H).Ns b m:=fun {b m} ⟨o,es,ep,e,d,r⟩ => ⟨o,es,ep,base_of e (noA e d),d,r⟩
  have hKb:K.In (hidT s₁.heap H):=fun b o e => base_of (KX b o e) (by
   cases q:H b with
   | none => rfl
   | some u =>
    have e' : b=a:=hA b (by rw [q]; simp)
    subst e'
    rw [hK (by rw [q]; simp)] at e; cases e)
  have hM:Mod K mg (hidT s₁.heap H):=⟨hKb,nsK hns,⟨mb,nsK hb,hbb⟩,let ⟨mc,h1,h2⟩:=hlim; ⟨mc,nsK h1,h2⟩⟩
  have e0:Env0 P w K mg (hidT s₁.heap H) callerA [] s₁ H:=⟨rfl,hM,fun b o e => of_hidT e,Nat.le_of_eq (hidT_size _ _),trivial,fun b hb => absurd (show b ∈ ([]:List Addr) from hb) (by simp),hok,.of_eq hg⟩
  refine codeAny_mono ((F _ hKb (nsK hns)).run callerA [] s₁ H ⟨[.ref a],[]⟩ [.ref a] [.ref a] _ _ hr e0 (hbind s₁ (.ref a)) (.cons rfl .nil) (hsp H hO hS)) fun r s' h => ?_
  cases r with
  | error e => exact (hCX H e s' h).elim
  | ok fl =>
   cases fl with
   | next => exact False.elim h
   | brk => exact False.elim h
   | cont => exact False.elim h
   | ret u =>
    obtain ⟨v,H',os,bare,un,hok',r',q⟩:=h
    have q' : v = .bl true:=q
    subst q'
    obtain rfl:u=Value.bool true:=r'
    refine ⟨rfl,OldK.of_keep fun b o e => ?_,os,bare⟩
    cases q:H b with
    | none => exact un.keep b o e q (by intro z; exact absurd (show b ∈ ([]:List Addr) from z) (by simp)) (by simp)
    | some u =>
     rcases hO b with z | ⟨ob,xs,z⟩
     ·rw [q] at z; cases z
     ·have z2:=un.frzs b ob _ z
      obtain ⟨e1,_⟩:=hok b _ z
      obtain ⟨e2,_⟩:=hok' b _ z2
      rw [e] at e1; cases e1
      exact e2
 cases hk:K.lookup a with
 | some o =>
  have e:=KX a o hk
  rw [ha] at e
  cases e
  refine core (fun _ => none) (fun _ => .inl rfl) (.inr ⟨_,vs.toArray,_,hk,rfl,rfl,rfl,by rw [List.size_toArray,lenV]; exact hl,by simpa using rv⟩) (fun b u z => by have z' : (none:Option HO)=some u:=z; cases z') (fun b z => absurd rfl z) fun z => absurd rfl z
 | none =>
  refine core (fun b => if b=a then some (.frz { cls:=.type "list",data:=.seq vs.toArray } (.lst (ns.map V.int))) else none) (fun b => ?_) (.inl (.inr ⟨{ cls:=.type "list",data:=.seq vs.toArray },if_pos rfl⟩)) (fun b u z => ?_) (fun b z => ?_) fun _ => hk
  ·by_cases hb:b=a
   ·exact .inr ⟨_,_,if_pos hb⟩
   ·exact .inl (if_neg hb)
  ·by_cases hb:b=a
   ·have z':=(if_pos hb).symm.trans z
    cases z'
    subst hb
    exact ⟨ha,by rw [List.length_map]; exact hl,vs,_,rv,ha⟩
   ·have z':=(if_neg hb).symm.trans z
    cases z'
  ·by_cases hb:b=a
   ·exact hb
   ·exact absurd (if_neg hb) z
end L2
namespace L2
open PySem PySem.Spec PyProof.Rows
theorem walk_of {l:PySem.W.OpenLaw} {n k:Nat} {q:Program} {loose:List Str} {XP:(Str→Option Value)→Heap→Prop} {YP:World→Heap→Prop} {d:DefRec} {K:Params→PySem.W.Frag} {CX:World→CXT} {sp:World→Sp} {x:Str}
  (hn:l.most=some n) (hn2:n ≤ sizeLine) (hdf:d.params.defaults=[]) (hr:Room k callerA)
  (hY:∀ (w:World) (h:Heap),YP w h→(K w.params).In h)
  (F:∀ (w:World) (mg:Str→Option Value) (fa:Addr) (h:Heap),(K w.params).In h→h.Ns mainGlobals mg→mg d.name=some (.ref fa) →
   ∃ fd:FuncData,(∀ (s:Shared) (u:Value),BindsTo s fd ⟨[u],[]⟩ [(x,u)]) ∧
    ∀ base:Heap,(K w.params).In base→base.Ns mainGlobals mg→FnOk l.prog w (K w.params) mg base (CX w) k fa fd [x] (sp w))
  (hsp:∀ (w:World) (H:Hp) (a:Addr) (ns:List Int),ns.length ≤ n→Only H→SqL (K w.params) H a (ns.map V.int)→sp w [.ref a] H (fun v _ => v = .bl true) fun _ _ _ => False)
  (hCX:∀ (w:World) (H:Hp) (s:Shared) (e:Value) (s' : Shared),CX w [] H s (fun _ _ _ => False) e s'→False) :
  PySem.W.WalkO q loose XP YP l.row.toRowW d [] (fun f vs => PySem.call f vs):=by
 refine Att.attach_call hn hdf fun w s₀ s₁ mg mb fa o pm cd doc a vs ns G Y ho hd hcd hmg hobj hints hlen hg => ?_
 have KX:=hY w _ Y
 obtain ⟨fd,hb,hF⟩:=F w mg fa _ KX G.T.g hmg
 exact law_call KX G.T.g G.T.b G.T.builtins G.T.nolimit hg hobj hints (Nat.le_trans hlen hn2) hr hF hb (fun H hO hS => hsp w H a ns hlen hO hS) fun H e s' => hCX w H s₁ e s'
end L2
namespace L2
open PySem PySem.Spec PyProof.Rows
def defArgs (s:Stmt):Arguments:=match s with
 | .FunctionDef _ a _ _ _ _ _ _ _ _ => a
 | _ => { posonlyargs:=[],args:=[],vararg:=none,kwonlyargs:=[],kw_defaults:=[],kwarg:=none,defaults:=[] }
def defBody (s:Stmt):List Stmt:=match s with
 | .FunctionDef _ _ b _ _ _ _ _ _ _ => b
 | _ => []
def defScope (s:Stmt):Scope:=match s with
 | .FunctionDef _ _ _ _ _ _ sc _ _ _ => sc
 | _ => { kind:=.function,names:=[],isGenerator:=false,isCoroutine:=false }
abbrev CX0:CXT:=fun _ _ _ _ _ _ => False
abbrev E0:XK:=fun _ _ _ => False
theorem pass0 {X:Cx} : Passes CX0 X E0:=fun _ _ _ _ _ _ _ h => h.elim
structure Fun (K:PySem.W.Frag) (x qual:Str) (st:Stmt) (f:Addr) (fd:FuncData):Prop where
 ex:∃ (oc:Value) (od:Option Addr) (kV doc pm:Value) (an:Option Addr) (cdv ct:Value) (osl:Array (Option Value)),
  fd=PySem.W.fnOf x qual (defArgs st) (defBody st) (defScope st) .none kV doc pm an cdv ct∧K.lookup f=some ⟨oc,od,.func fd,osl⟩∧PySem.W.codeIn K cdv qual=true
 kp:PySem.W.keepIn K (.ref f)=true
section
variable {P:Program} {w:World} {K:PySem.W.Frag} {mg:Str→Option Value} {base:Heap}
theorem Fun.ok {x qual:Str} {st:Stmt} {f:Addr} {fd:FuncData} {N ps:List Str} {k:Nat} {sp:Sp} (F:Fun K x qual st f fd) (S:FnScope N ps (defScope st)) (len:∀ vs H Q E,sp vs H Q E→vs.length=ps.length)
  (hbody:∀ (cdv:Value) (A:Around) (outer:List Env) (s:Shared) (H:Hp) (vs:List V) (Q:VK) (E:XK),Room k (A.deeper (envOfC qual (defScope st) s.heap.objs.size f cdv))→sp vs H Q E →
   ∃ t,PSs (cxOf CX0 P w K mg base N qual (defScope st) f cdv A outer s H E).nox (defBody st) t∧t { nx:=fun _ H' => Q .non H',rt:=Q } (start N vs) H):FnOk P w K mg base CX0 (k + 1) f fd ps sp:=by
 obtain ⟨oc,od,kV,doc,pm,an,cdv,ct,osl,rfl,lk,hcd⟩:=F.ex
 refine fn_of lk hcd S len fun A outer s H vs Q E hr hsp => ?_
 obtain ⟨t,h,q⟩:=hbody cdv A outer s H vs Q E hr hsp
 exact ⟨t,h.nox,q⟩
theorem Fun.binds {x qual:Str} {st:Stmt} {f:Addr} {fd:FuncData} {ps:List Str} (F:Fun K x qual st f fd)
  (h:∀ (kV doc pm:Value) (an:Option Addr) (cdv ct:Value) (us:List Value),us.length=ps.length→bindArgs (PySem.W.fnOf x qual (defArgs st) (defBody st) (defScope st) .none kV doc pm an cdv ct) ⟨us,[]⟩=pure (ps.zip us)):Binds K fd ps []:=by
 obtain ⟨oc,od,kV,doc,pm,an,cdv,ct,osl,rfl,lk,hcd⟩:=F.ex
 exact .all (h kV doc pm an cdv ct)
theorem fun_mk {x qual:Str} {st:Stmt} {f:Addr} {oc:Value} {od an:Option Addr} {osl:Array (Option Value)} {kV doc pm cdv ct:Value} (l:K.lookup f=some ⟨oc,od,.func (PySem.W.fnOf x qual (defArgs st) (defBody st) (defScope st) .none kV doc pm an cdv ct),osl⟩)
  (c:PySem.W.codeIn K cdv qual=true) (k:PySem.W.keepIn K (.ref f)=true):Fun K x qual st f (PySem.W.fnOf x qual (defArgs st) (defBody st) (defScope st) .none kV doc pm an cdv ct):=⟨⟨oc,od,kV,doc,pm,an,cdv,ct,osl,rfl,l,c⟩,k⟩
end
theorem hu_of {A:Around} {k:Nat} (hr:Room k A):A.units + 1 < cLine:=Nat.lt_of_le_of_lt (Nat.add_le_add_left (by decide:1 ≤ 64) _) hr.units
theorem small1000 {n:Nat} (h:n ≤ 1000):n < sizeLine:=Nat.lt_of_le_of_lt h (by decide)
section
variable {X:Cx}
theorem pv (i:Nat) {x:Str} {pos:PySem.Pos} (hN:X.N[i]? = some x:=by rfl) (hv:Vis X.env.scope x:=by first | exact Or.inl rfl | exact Or.inr (Or.inl rfl) | exact Or.inr (Or.inr rfl)) (hd:(x == ("__debug__" : Str))=false:=by decide)
  (hcd:(x == ("__classdict__" : Str))=false:=by decide):PE X (.Name x pos) (tVar i):=pe_var hN hv hd hcd
end
theorem iteF {A B:Prop} (h:B):if false=true then A else B:=by
 rw [if_neg Bool.false_ne_true]
 exact h
theorem iteT {A B:Prop} (h:A):if true=true then A else B:=by
 rw [if_pos rfl]
 exact h
theorem ite2 {c A B:Prop} [Decidable c] (h1:c→A) (h2 : ¬ c→B):if c then A else B:=by
 by_cases h:c
 ·rw [if_pos h]
  exact h1 h
 ·rw [if_neg h]
  exact h2 h
def Same (H H' : Hp):Prop:=∀ b o,H b=some o→H' b=some o
theorem Same.refl (H:Hp):Same H H:=fun _ _ h => h
theorem Same.trans {H H1 H2:Hp} (a:Same H H1) (b:Same H1 H2):Same H H2:=fun c o h => b c o (a c o h)
theorem Same.free {H H' : Hp} (e:Same H H') {l:Addr} (h:H' l=Option.none):H l=Option.none:=by
 cases q:H l with
 | none => rfl
 | some o =>
  rw [e l o q] at h
  cases h
theorem Same.seq {K:PySem.W.Frag} {H H' : Hp} {a:Addr} {xs:List V} (e:Same H H') (h:SqL K H a xs):SqL K H' a xs:=by
 rcases h with (h | ⟨o,h⟩) | h
 ·exact .inl (.inl (e _ _ h))
 ·exact .inl (.inr ⟨o,e _ _ h⟩)
 ·exact .inr h
end L2
set_option maxHeartbeats 4000000
namespace L2
open PySem PySem.Spec PyProof.Rows
section
variable {X:Cx}
def CDivL (i j:Int):Prop:=0 < j∧j.natAbs.log2 < 9000
theorem op_fdivL:OpR X (binaryOp .FloorDiv) (rI CDivL fun i j => .int (i / j)):=opI fun i j _ _ _ _ _ hc q => by
 have h1:(0:Int) < j:=hc.1
 exact floordiv_int (by omega) (by rw [Int.fdiv_eq_ediv_of_nonneg i (by omega)]; exact q) (.inl (PyProof.noPylong_of_log2 hc.2))
theorem call_isinst {T:String} : CallR X (.builtin "isinstance") (fun xs H Q => ∃ x t b,xs=[x,.ty T]∧TyOf X.K H x t∧PySem.W.kitOne X.K t (.type T)=some b∧Q (.bl b) H):=by
 intro pins s σ H xs us Q I r h
 obtain ⟨x,t,b,rfl,ty,e,q⟩:=h
 obtain ⟨u,w',rfl,r1,r2⟩:=vals2 r
 cases (show w' = .type T from r2)
 exact isinst_ok I r1 ty e fun tk => ⟨.bl b,H,I.tok _,rfl,q⟩
theorem mt_bits:MtR X "int.bit_length" (fun x vs H Q => ∃ i,x = .int i∧vs=[]∧Q (.int (Builtin.Int.intBits i:Nat)) H):=by
 intro pins s σ H x xs v us Q I r rv h
 obtain ⟨i,rfl,rfl,q⟩:=h
 obtain ⟨t,rfl⟩:=r
 cases rv.zero
 exact call_gives F.slot_int_bit_length (typeIs_int _ _ _) F.entry_int_bit_length (F.args_int_bit_length_1 _) (AutoIntG2.int_bit_length_int_0 _ _) (show EP X pins σ Q _ _ from ⟨.int _,H,I.tok _,⟨_,rfl⟩,q⟩)
theorem kit_ib {K:PySem.W.Frag} : PySem.W.kitOne K (.type "int") (.type "bool")=some false:=by with_unfolding_all rfl
theorem kit_ii {K:PySem.W.Frag} : PySem.W.kitOne K (.type "int") (.type "int")=some true:=by rfl
end
end L2
namespace L2
open PySem PySem.Spec PyProof.Rows
section
variable {X:Cx}
theorem clos_go (env:Env):∀ (names:List (Str × NameKind)) (acc:List (Str × Addr)),(∀ y ∈ names,y.2 = .free→∃ c,env.cells.lookup y.1=some c)→(∀ y c,acc.lookup y=some c→env.cells.lookup y=some c) →
  ∃ cl,(forIn names acc fun (x:Str × NameKind) (r:List (Str × Addr)) => if (x.2 == NameKind.free)=true then (do let c ← cellOf env x.1; pure (ForInStep.yield ((x.1,c) :: r))) else pure (ForInStep.yield r):Sem _)=pure cl ∧
   (∀ y c,cl.lookup y=some c→env.cells.lookup y=some c)∧(∀ y,(y,NameKind.free) ∈ names→(cl.lookup y).isSome=true)∧(∀ y,(acc.lookup y).isSome=true→(cl.lookup y).isSome=true)
 | [],acc,_,h => ⟨acc,by simp,h,fun y z => absurd z (by simp),fun _ z => z⟩
 | (n,k) :: r,acc,hf,h => by
  by_cases hk:k = .free
  ·subst hk
   obtain ⟨c,hc⟩:=hf (n,.free) List.mem_cons_self rfl
   obtain ⟨cl,e,h1,h2,h3⟩:=clos_go env r ((n,c) :: acc) (fun y hy => hf y (List.mem_cons_of_mem _ hy)) (fun y d hd => by
    rw [List.lookup_cons] at hd
    cases z:y == n with
    | true =>
     rw [z] at hd
     have:y=n:=by simpa using z
     subst this
     cases hd
     exact hc
    | false => rw [z] at hd; exact h y d hd)
   have hin:∀ y,(((n,c) :: acc).lookup y).isSome=true ∨ True:=fun _ => .inr trivial
   refine ⟨cl,?_,h1,fun y hy => ?_,fun y hy => h3 y ?_⟩
   ·rw [List.forIn_cons]
    have e0:cellOf env n=pure c:=by unfold cellOf; rw [hc]
    simp only [beq_self_eq_true,if_true,e0,pure_bind]
    exact e
   ·rcases List.mem_cons.mp hy with z | z
    ·cases z
     exact h3 _ (by rw [List.lookup_cons]; simp)
    ·exact h2 y z
   ·rw [List.lookup_cons]
    cases y == n with
    | true => rfl
    | false => exact hy
  ·obtain ⟨cl,e,h1,h2,h3⟩:=clos_go env r acc (fun y hy => hf y (List.mem_cons_of_mem _ hy)) h
   refine ⟨cl,?_,h1,fun y hy => ?_,h3⟩
   ·rw [List.forIn_cons]
    have hb:(k == NameKind.free)=false:=by simpa using hk
    simp only [hb,Bool.false_eq_true,if_false,pure_bind]
    exact e
   ·rcases List.mem_cons.mp hy with z | z
    ·cases z; exact absurd rfl hk
    ·exact h2 y z
theorem clos_ok {scope:Scope} {env:Env} (hf:∀ y ∈ scope.names,y.2 = .free→∃ c,env.cells.lookup y.1=some c):∃ cl,closureFor scope env=pure cl∧(∀ y c,cl.lookup y=some c→env.cells.lookup y=some c)∧(∀ y,(y,NameKind.free) ∈ scope.names→(cl.lookup y).isSome=true):=by
 obtain ⟨cl,e,h1,h2,_⟩:=clos_go env scope.names [] hf (fun y c h => by cases h)
 refine ⟨cl,?_,h1,h2⟩
 unfold closureFor
 simp only [bind_pure]
 exact e
end
end L2
namespace L2
open PySem PySem.Spec PyProof.Rows
section
variable {X:Cx}
def tYes:TT:=fun _ H Q => Q true H
def PIf (X:Cx) (ifs:List Expr) (t:TT):Prop :=
 ∀ (pins:List (Addr × Obj)) (s:Shared) (σ:St) (H:Hp) (Q:Bool→Hp→Prop),Inv X pins σ H s→t σ H Q →
  wpAny (model X.prog X.w) X.A (forIn ifs true fun c r => if r=true then do let ok ← isTrue c X.env (eval c X.env); pure (ForInStep.yield ok) else pure (ForInStep.yield r)) (TP X pins σ Q) X.xe s
theorem pif_nil:PIf X [] tYes:=fun pins s σ H Q I h => wpAny_tests_nil ⟨H,I,h⟩
theorem relabel_kind {names:List (Str × NameKind)} {env:Env} {x:Str} {k:NameKind} (hc:∀ y ∈ names,y.2 ≠ .cell) (h:(names.map fun (n,k) => if (k == NameKind.free && env.scope.kind == .function && env.kindOf n == some .cell) then (n,NameKind.cell) else (n,k)).lookup x=some k) :
  (k = .cell ∨ k = .free)→names.lookup x=some .free∧(k = .cell→env.kindOf x=some .cell):=by
 induction names with
 | nil => cases h
 | cons p r ih =>
  obtain ⟨n,k0⟩:=p
  intro hk
  have h:List.lookup x ((if (k0 == NameKind.free && env.scope.kind == .function && env.kindOf n == some .cell)=true then (n,NameKind.cell) else (n,k0)) :: _)=some k:=h
  by_cases c:(k0 == NameKind.free && env.scope.kind == .function && env.kindOf n == some .cell)=true
  ·rw [if_pos c] at h
   rw [List.lookup_cons] at h ⊢
   cases z:x == n with
   | true =>
    have e:x=n:=by simpa using z
    subst e
    simp only [Bool.and_eq_true,beq_iff_eq] at c
    exact ⟨by rw [c.1.1],fun _ => c.2⟩
   | false => rw [z] at h; exact ih (fun y hy => hc y (List.mem_cons_of_mem _ hy)) h hk
  ·rw [if_neg c] at h
   rw [List.lookup_cons] at h ⊢
   cases z:x == n with
   | true =>
    rw [z] at h
    have e:k0=k:=Option.some.inj h
    subst e
    rcases hk with rfl | rfl
    ·exact absurd rfl (hc (n,.cell) List.mem_cons_self)
    ·exact ⟨rfl,fun z => by cases z⟩
   | false => rw [z] at h; exact ih (fun y hy => hc y (List.mem_cons_of_mem _ hy)) h hk
end
end L2
namespace L2
open PySem PySem.Spec PyProof.Rows
section
variable {X:Cx}
theorem relabel_local {names:List (Str × NameKind)} {env:Env} {x:Str} (h:(names.map fun (n,k) => if (k == NameKind.free && env.scope.kind == .function && env.kindOf n == some .cell) then (n,NameKind.cell) else (n,k)).lookup x=some .local) :
  names.lookup x=some .local:=by
 induction names with
 | nil => cases h
 | cons p r ih =>
  obtain ⟨n,k0⟩:=p
  have h:List.lookup x ((if (k0 == NameKind.free && env.scope.kind == .function && env.kindOf n == some .cell)=true then (n,NameKind.cell) else (n,k0)) :: _)=some .local:=h
  by_cases c:(k0 == NameKind.free && env.scope.kind == .function && env.kindOf n == some .cell)=true
  ·rw [if_pos c] at h
   rw [List.lookup_cons] at h ⊢
   cases z:x == n with
   | true => rw [z] at h; cases h
   | false => rw [z] at h; exact ih h
  ·rw [if_neg c] at h
   rw [List.lookup_cons] at h ⊢
   cases z:x == n with
   | true => rw [z] at h; exact h
   | false => rw [z] at h; exact ih h
end
end L2
namespace L2
open PySem PySem.Spec PyProof.Rows
inductive DI (K:PySem.W.Frag) (H:Hp):V→PyData→Prop where
 | non:DI K H .non .none
 | bl (b:Bool):DI K H (.bl b) (.bool b)
 | int (i:Int):DI K H (.int i) (.int i)
 | str (x:Str):DI K H (.str x) (.str x)
 | tup {a:Addr} {xs:List V} {ds:List PyData} : SqT K H a xs→xs.length=ds.length→(∀ (i:Nat) (x:V) (d:PyData),xs[i]? = some x→ds[i]? = some d→DI K H x d)→DI K H (.ref a) (.tuple ds)
 | lst {a:Addr} {xs:List V} {ds:List PyData} : SqL K H a xs→xs.length=ds.length→(∀ (i:Nat) (x:V) (d:PyData),xs[i]? = some x→ds[i]? = some d→DI K H x d)→DI K H (.ref a) (.list ds)
section
variable {X:Cx} {pins:List (Addr × Obj)} {σ:St} {H:Hp} {s:Shared}
theorem readsAll_of:∀ {us:List Value} {ds:List PyData} {xs:List V},Vals xs us→xs.length=ds.length→(∀ (i:Nat) (x:V) (d:PyData) (u:Value),xs[i]? = some x→ds[i]? = some d→RelV x u→∃ as,Reads s.heap u d as)→∃ as,ReadsAll s.heap us ds as
 | _,ds,_,.nil,hl,_ => by
  cases ds with
  | nil => exact ⟨_,.nil⟩
  | cons d r => cases hl
 | _,ds,_,.cons (a:=x) r t,hl,h => by
  cases ds with
  | nil => cases hl
  | cons d rest =>
   obtain ⟨as,ra⟩:=h 0 x d _ rfl rfl r
   obtain ⟨bs,rb⟩:=readsAll_of t (by simpa using hl) (fun i y e u h1 h2 h3 => h (i + 1) y e u (by simpa using h1) (by simpa using h2) h3)
   exact ⟨_,.cons ra rb⟩
theorem DI.reads (I:Inv X pins σ H s) {x:V} {d:PyData} (h:DI X.K H x d):∀ {u:Value},RelV x u→∃ as,Reads s.heap u d as:=by
 induction h with
 | non => intro u r; cases r; exact ⟨_,.none⟩
 | bl b => intro u r; cases r; exact ⟨_,.bool b⟩
 | int i => intro u r; obtain ⟨t,rfl⟩:=r; exact ⟨_,.int i t⟩
 | str x => intro u r; obtain ⟨t,rfl⟩:=r; exact ⟨_,.str x t⟩
 | tup hq hl _ ih =>
  intro u r
  cases r
  obtain ⟨its,rv,⟨o,e,c,n,hd⟩,_⟩:=I.tuple hq
  obtain ⟨as,ra⟩:=readsAll_of (s:=s) rv hl (fun i y d u h1 h2 h3 => ih i y d h1 h2 h3)
  exact ⟨_,.tuple e c hd (by simpa using ra)⟩
 | lst hq hl _ ih =>
  intro u r
  cases r
  obtain ⟨its,rv,pl,_⟩:=I.list hq
  obtain ⟨o,e,c,n,hd⟩:=pl.isList
  obtain ⟨as,ra⟩:=readsAll_of (s:=s) rv hl (fun i y d u h1 h2 h3 => ih i y d h1 h2 h3)
  exact ⟨_,.list e c hd (by simpa using ra)⟩
def rEqD (K:PySem.W.Frag) (g:Bool→Bool):R2:=fun x y H Q => ∃ dx dy,DI K H x dx∧DI K H y dy∧dx.canLay0=true∧dy.canLay0=true∧dx.depth ≤ 60∧Q (.bl (g (PyData.eqv dx dy))) H
theorem op_eqD {k:Nat} (hr:Room k X.A):OpR X (compareOp .Eq) (rEqD X.K fun b => b):=by
 intro pins s σ H x y v u Q I rx ry h
 obtain ⟨dx,dy,hx,hy,cx,cy,hd,q⟩:=h
 obtain ⟨as,ra⟩:=hx.reads I rx
 obtain ⟨bs,rb⟩:=hy.reads I ry
 have hu:=hr.units
 exact SeqAt.compareEq_reads ra rb cx cy (by omega) ⟨.bl _,H,I,rfl,q⟩
theorem op_neD {k:Nat} (hr:Room k X.A):OpR X (compareOp .NotEq) (rEqD X.K fun b => !b):=by
 intro pins s σ H x y v u Q I rx ry h
 obtain ⟨dx,dy,hx,hy,cx,cy,hd,q⟩:=h
 obtain ⟨as,ra⟩:=hx.reads I rx
 obtain ⟨bs,rb⟩:=hy.reads I ry
 have hu:=hr.units
 exact SeqAt.compareNe_reads ra rb cx cy (by omega) ⟨.bl _,H,I,rfl,q⟩
end
end L2
namespace L2
open PySem PySem.Spec PyProof.Rows
section
variable {X:Cx}
theorem range_all_get (bs:List Bool):(List.range bs.length).all (fun i => bs.getD i true)=bs.all id:=by
 induction bs with
 | nil => rfl
 | cons b r ih =>
  rw [List.length_cons,List.range_succ_eq_map,List.all_cons,List.all_map,List.all_cons]
  have:(List.range r.length).all ((fun i => (b :: r).getD i true) ∘ Nat.succ)=(List.range r.length).all (fun i => r.getD i true):=by
   congr 1
  rw [this,ih]
  rfl
theorem call_all (hc:X.calm=true):CallR X (.builtin "all") (fun xs H Q => ∃ (p:Addr) (bs:List Bool),xs=[.ref p]∧SqL X.K H p (bs.map V.bl)∧Q (.bl (bs.all id)) H):=by
 intro pins s σ H xs us Q I r h
 obtain ⟨p,bs,rfl,hq,q⟩:=h
 obtain ⟨u,rfl,rx⟩:=vals1 r
 cases rx
 obtain ⟨its,rv,pl,hz⟩:=I.list hq
 have hlt:p < s.heap.objs.size:=by
  obtain ⟨o,e,_⟩:=pl.isList
  exact Heap.lt_size e
 have hlen:its.length=bs.length:=by have:=rv.length; rw [List.length_map] at this; exact this.symm
 refine call_all_walk (wpAny_pyIter_list pl.isList ?_)
 refine ⟨_,_,_,_,_,_,fun i => bs.getD i true,rfl,Walks.list (A:=X.A.in1) (I.ok.hd hc) s.heap.objs.size p (Nat.ne_of_lt hlt) its.toArray,?_,?_,fun h' tk hk => ?_⟩
 ·exact ⟨⟨_,Heap.get?_push_size _ rfl,rfl,rfl⟩,(let ⟨o,e,c⟩:=pl.isList; ⟨o,Heap.get?_push_of_some _ e,c⟩)⟩
 ·intro i v s' Q' E' hP hQ
  have hv:its[i]? = some v:=by simpa using hP
  have hil:i < bs.length:=by rw [← hlen]; exact (List.getElem?_eq_some_iff.mp hv).1
  obtain ⟨u,e,ru⟩:=rv.get (x:=V.bl (bs.getD i true)) (i:=i) (by rw [List.getElem?_map,List.getElem?_eq_getElem hil,List.getD_eq_getElem?_getD,List.getElem?_eq_getElem hil]; rfl)
  rw [hv] at e
  cases e
  cases ru
  exact wpAny_truthy_bool hQ
 ·have e:(List.range its.toArray.size).all (fun i => bs.getD i true)=bs.all id:=by
   rw [List.size_toArray,hlen]; exact range_all_get bs
  rw [e]
  refine ⟨.bl _,H,?_,rfl,q⟩
  exact I.kept fun b o eb => hk b o (by simp; exact Nat.ne_of_lt (Heap.lt_size eb)) (Heap.get?_push_of_some _ eb)
theorem kit_tt {K:PySem.W.Frag} : PySem.W.kitOne K (.type "tuple") (.type "tuple")=some true:=by rfl
theorem kit_ll {K:PySem.W.Frag} : PySem.W.kitOne K (.type "list") (.type "list")=some true:=by rfl
theorem call_isinstK {K:PySem.W.Frag} {T:String} (hK:X.K=K:=by rfl):CallR X (.builtin "isinstance") (fun xs H Q => ∃ x t b,xs=[x,.ty T]∧TyOf K H x t∧PySem.W.kitOne K t (.type T)=some b∧Q (.bl b) H):=by
 subst hK; exact call_isinst
theorem ix_listK {K:PySem.W.Frag} (hK:X.K=K:=by rfl):IxR X (rIxL K):=by subst hK; exact ix_list
theorem ix_tupK {K:PySem.W.Frag} (hK:X.K=K:=by rfl):IxR X (rIxT K):=by subst hK; exact ix_tup
theorem call_lenK {K:PySem.W.Frag} (hK:X.K=K:=by rfl):CallR X (.builtin "len") (fun xs H Q => ∃ p ys,xs=[.ref p]∧(SqL K H p ys ∨ SqT K H p ys)∧Q (.int ys.length) H):=by subst hK; exact call_len_seq
end
end L2
namespace L2
open PySem PySem.Spec PyProof.Rows
section
variable {X:Cx}
section
variable {prog:Program} {w:World} {A:Around} {R:Result→Shared→Prop} {s:Shared}
theorem loop_turns {elt tg iter:Expr} {ifs:List Expr} {scope:Scope} {pos:PySem.Pos} {it acc:Value} {env:Env} {EE:Value→Shared→Prop} (hE:EE=notedBy (model prog w) A env fun e s' => R (.error e) s') (I:Nat→Shared→Prop)
  (turn:∀ n s,I n s→wpAny (model prog w) A (pyNext it) (fun r z1 => match r with
   | none => R (.ok .next) z1
   | some v => wpAny (model prog w) A (letOwnedTupleGo tg it v) (fun _ y1 => wpAny (model prog w) A (assign tg env v) (fun _ z2 =>
     wpAny (model prog w) A (forIn ifs true fun c r => if r=true then do let ok ← isTrue c env (eval c env); pure (ForInStep.yield ok) else pure (ForInStep.yield r)) (fun ok z3 =>
      if ok=true then wpAny (model prog w) A (eval elt env) (fun x z4 => wpAny (model prog w) A (call (.builtin "list.append") [acc,x]) (fun _ z5 => ∃ m,m < n∧I m z5) EE z4) EE z3 else ∃ m,m < n∧I m z3) EE z2) EE y1) EE z1) EE s)
  (n:Nat) (h:I n s):codeAny (model prog w) A (.compLoop (.ListComp elt [⟨tg,iter,ifs,0⟩] scope pos) 0 it acc env) R s:=by
 subst hE
 refine codeAny_loop rfl I (fun n s hI => ?_) n h
 show wpAny _ A ((compTurn (.ListComp elt [⟨tg,iter,ifs,0⟩] scope pos) 0 it acc env).onRaise (fun x => do noteFrame x env; theTreesLotGoes x)) _ _ s
 refine wpAny_noted ?_
 rw [compTurn_list]
 refine wpAny_bind (wpAny_standAt (wpAny_bind (wpAny_mono (turn n s hI) (fun r z1 q1 => ?_) fun _ _ z => z)))
 cases r with
 | none => exact wpAny_pure q1
 | some v =>
  refine wpAny_bind (wpAny_mono q1 (fun _ y1 q1 => ?_) fun _ _ z => z)
  refine wpAny_bind (wpAny_mono q1 (fun _ z2 q2 => wpAny_bind (wpAny_mono q2 (fun ok z3 q3 => ?_) fun _ _ z => z)) fun _ _ z => z)
  cases ok with
  | false => exact wpAny_pure ⟨rfl,q3⟩
  | true => exact wpAny_bind (wpAny_bind (wpAny_mono q3 (fun x z4 q4 => wpAny_bind (wpAny_mono q4 (fun _ z5 q5 => wpAny_pure (wpAny_pure ⟨rfl,q5⟩)) fun _ _ z => z)) fun _ _ z => z))
end
def cxC (X:Cx) (xs Nb:List Str) (scope:Scope) (cl:List (Str × Addr)) (C:Addr) (s₂:Shared) (H₂:Hp) (fp:List Addr):Cx :=
 { X with N:=xs ++ Nb,s₀:=s₂,H₀:=H₂,env:=compEnvC scope cl C X.env,outer:=X.stack,stack:=X.stack,ex:=fp,fn:=fun _ => false,pn:=[],xe:=fun _ _ => False }
def InB (X:Cx) (xs Nb:List Str) (scope:Scope) (φ:Cx→Prop):Prop:=∀ (cl:List (Str × Addr)) (C:Addr) (s₂:Shared) (H₂:Hp) (fp:List Addr),φ (cxC X xs Nb scope cl C s₂ H₂ fp)
def CGo (k:Nat) (J:It) (g:TG) (tt:TT) (te:TE) (Q:VK) (σ:St) (H1:Hp):Prop:=∃ W:Nat→Nat→List V→Hp→Prop,(∃ m,W 0 m [] H1)∧∀ i m ys H,W i m ys H →
 (J.stop i H∧∀ D,H D=none→Q (.ref D) (upd H D (.lst ys))) ∨ (J.go i H∧ys.length < sizeLine∧∃ N:List V→Hp→Prop,(∀ zs H',N zs H'→∃ m',m' < m∧W (i + 1) m' zs H')∧∀ v H' (pre:St),pre.length=k→J.yld i H v H'→g v (pre ++ σ) H' fun σ' H2 => (∃ pre' : St,σ' = pre' ++ σ∧pre'.length=k)∧tt σ' H2 fun ok H3 => if ok=true then te σ' H3 fun y H4 => N (ys ++ [y]) H4 else N ys H3)
def tCompG (k:Nat) (wi:TI) (g:TG) (tt:TT) (te:TE):TE:=fun σ H Q => wi σ H fun J H1 => CGo k J g tt te Q σ H1
theorem comp_core {elt iter tg:Expr} {xs Nb:List Str} {ifs:List Expr} {scope:Scope} {pos:PySem.Pos} {wi:TI} {g:TG} {tt:TT} {te:TE}
  (hc:X.calm=true) (hi:PI X tg iter wi) (hlen:Nb.length=X.N.length) (hNb:∀ p ∈ Nb.zip X.N,p.1=p.2 ∨ scope.names.lookup p.1=none) (hxN:∀ y ∈ Nb,scope.names.lookup y ≠ some .local)
  (hg:InB X xs Nb scope fun Y => PG Y tg g) (ht:InB X xs Nb scope fun Y => PIf Y ifs tt) (he:InB X xs Nb scope fun Y => PE Y elt te)
  (hcell:∀ y ∈ scope.names,y.2 ≠ .cell) (hkind:scope.kind = .function) (hnames:∀ y ∈ scope.names,y.2 = .local→scope.names.lookup y.1=some .local)
  (hfree:∀ y ∈ scope.names,y.2 = .free→X.env.kindOf y.1=some .cell)
  (hs:∀ x,foldedSetIterable iter X.env x=pure x) {pos2:PySem.Pos} {use:Option (Value→Sem Unit)} {QQ:Value→Shared→Prop} {pins:List (Addr × Obj)} {s:Shared} {σ:St} {H:Hp} {Q:VK} (I:Inv X pins σ H s) (h:tCompG xs.length wi g tt te σ H Q)
  (post:∀ (s2 s4:Shared) (H2 H4:Hp) (C D:Addr) (m4:Str→Option Value),Inv X pins σ H2 s2→s2.heap.objs.size ≤ C→s4.heap.Ns C m4→H4 C=none→(∀ h',Heap.SameBut C s4.heap h'→Inv X pins σ H4 { s4 with heap:=h' })→Q (.ref D) H4→compPost (model X.prog X.w) X.A X.xe use QQ (.ref D) C (.ok .next) s4) :
  wpAny (model X.prog X.w) X.A (comprehension (.ListComp elt [⟨tg,iter,ifs,0⟩] scope pos) scope X.env pos2 (newList []) false (eval iter X.env) use) QQ X.xe s:=by
 obtain ⟨cl,hcl,cl1,cl2⟩:=clos_ok (scope:=scope) (env:=X.env) (fun y hy hf => I.ok.has y.1 (.inl (hfree y hy hf)))
 refine wpAny_comprehension_free rfl hs hcl hkind hnames (thn (hi pins s σ H _ I h) fun v s1 h1 => thn h1 fun itv s2 h2 => ?_)
 obtain ⟨it,fp,tn,J,H2,e,I2,T,st2,f2,W,⟨m0,w0⟩,turn⟩:=h2
 subst e
 refine wpAny_newObj_type (wpAny_newFunctionEnv hcell (by intro y hy; simp at hy) (fun h₁ hns₁ hsb₁ => ?_) hkind)
 dsimp only at hns₁ hsb₁ ⊢
 generalize hHp:s2.heap.push { cls:=.type "list",dict:=none,data:=.seq ([]:List Value).toArray } = Hp2 at hns₁ hsb₁ ⊢
 have hC:Hp2.objs.size=s2.heap.objs.size + 1:=by rw [← hHp,Heap.size_push]
 have hDC:s2.heap.objs.size ≠ Hp2.objs.size:=by rw [hC]; exact Nat.ne_of_lt (Nat.lt_succ_self _)
 have below:∀ b,b < s2.heap.objs.size→b ≠ Hp2.objs.size∧b ≠ s2.heap.objs.size:=fun b hb => ⟨by rw [hC]; exact Nat.ne_of_lt (Nat.lt_succ_of_lt hb),Nat.ne_of_lt hb⟩
 have old:∀ b o,s2.heap.get? b=some o→h₁.get? b=some o:=fun b o e => hsb₁.extBut b o (below b (Heap.lt_size e)).1 (Heap.get?_push_of_some _ (hHp ▸ Heap.get?_push_of_some _ e))
 have hacc:h₁.PlainList s2.heap.objs.size #[]:=⟨_,hsb₁.extBut _ _ hDC (Heap.get?_push_of_some _ (hHp ▸ Heap.get?_push_size _ rfl))⟩
 generalize hY:cxC X xs Nb scope cl Hp2.objs.size s2 H2 fp=Y
 have Yprog:Y.prog=X.prog:=by rw [← hY]; rfl
 have fpLt:∀ b ∈ fp,b < s2.heap.objs.size:=fun b hb => by
  obtain ⟨o,e,_⟩:=T.obj _ _ st2 b hb
  exact Heap.lt_size e
 have cellLt:∀ y c,cl.lookup y=some c→c < s2.heap.objs.size:=fun y c hc => by
  obtain ⟨v,q⟩:=I2.cell y c (cl1 y c hc)
  exact q.lt
 have frSub:∀ b ∈ frs X.stack,b < s2.heap.objs.size:=fun b hb => by
  rcases List.mem_cons.mp (I2.stkSub b hb) with z | z
  ·rw [z]; exact I2.lt
  ·by_cases hlt:b < s2.heap.objs.size
   ·exact hlt
   ·exact absurd z (I2.nofs (Nat.le_of_not_lt hlt))
 have ok:(cxC X xs Nb scope cl Hp2.objs.size s2 H2 fp).Ok:=by
  refine ⟨I2.ok.mod,hkind,I2.ok.glob,I2.ok.blt,(by show s2.heap.objs.size ≤ Hp2.objs.size; omega),fun y z c h1 h2 => I2.ok.inj y z c (cl1 y c h1) (cl1 z c h2),fun y hy => ?_,fun y c hf _ => absurd hf (by intro z; cases z),I2.ok.hd,I2.ok.frames,.inl rfl,fun b hb => ⟨?_,fun y c h1 h2 => ?_⟩,I2.bs,Nat.le_trans I2.ok.bsz I2.sz,fun b o e hb => ?_,fun b hb hm => ?_,I2.stack,I2.stkFree⟩
  ·have hy:(scope.names.map fun (n,k) => if (k == NameKind.free && X.env.scope.kind == .function && X.env.kindOf n == some .cell) then (n,NameKind.cell) else (n,k)).lookup y=some .cell ∨ (scope.names.map fun (n,k) => if (k == NameKind.free && X.env.scope.kind == .function && X.env.kindOf n == some .cell) then (n,NameKind.cell) else (n,k)).lookup y=some .free:=hy
   have q:scope.names.lookup y=some .free:=by
    rcases hy with z | z
    ·exact (relabel_kind hcell z (.inl rfl)).1
    ·exact (relabel_kind hcell z (.inr rfl)).1
   exact Option.isSome_iff_exists.mp (cl2 y (PySem.mem_of_lookup q))
  ·exact (below b (fpLt b hb)).1
  ·exact (f2 b hb).2.2.2.2.1 y c (cl1 y c h1) h2
  ·rcases (f2 b hb).2.2.2.1 with z | z
   ·exact I2.ok.noex b o e z
   ·exact absurd (Nat.lt_of_lt_of_le (Heap.lt_size e) (Nat.le_trans I2.ok.bsz z)) (Nat.lt_irrefl _)
  ·rcases List.mem_cons.mp (I2.stkSub b hm) with z | z
   ·exact (f2 b hb).2.1 z
   ·exact (f2 b hb).2.2.1 z
 have fpY:∀ {H' : Hp} {pl:List (Addr × Obj)},(∀ b ∈ fp,H' b=none)→(∀ p ∈ pl,p.1=s2.heap.objs.size)→∀ b ∈ fp,FpOk Y pl H' b:=fun {H' pl} hn hp b hb => by
  rw [← hY]
  refine ⟨hn b hb,(below b (fpLt b hb)).1,fun hm => ?_,.inl hb,fun y c h1 h2 => (f2 b hb).2.2.2.2.1 y c (cl1 y c h1) h2,fun p hm z => ?_⟩
  ·rcases List.mem_cons.mp (I2.stkSub b hm) with z | z
   ·exact (f2 b hb).2.1 z
   ·exact (f2 b hb).2.2.1 z
  ·have hm:p ∈ pl:=hm
   rw [hp p hm] at z
   exact (below b (fpLt b hb)).2 z.symm
 have HD:H2 s2.heap.objs.size=none:=I2.hok.fresh (Nat.le_refl _)
 have HC:H2 Hp2.objs.size=none:=I2.hok.fresh (by omega)
 obtain ⟨m2,hns2,hloc2⟩:=I2.loc
 have IY:∀ tk,Inv (cxC X xs Nb scope cl Hp2.objs.size s2 H2 fp) [] (List.replicate xs.length none ++ σ) H2 { s2 with heap:=h₁,toks:=tk }:=fun tk => by
  refine ⟨ok,rfl,I2.bare,Un.kept old,⟨_,hns₁,fun i y v h1 h2 h3 => ?_⟩,fun y c h1 => ?_,HC,fun y c h1 => I2.freeC y c (cl1 y c h1),fun p hp => absurd (show p ∈ ([]:List (Addr × Obj)) from hp) (by simp),I2.hok.kept old,(by show (List.replicate xs.length (none:Option V) ++ σ).length=(xs ++ Nb).length; rw [List.length_append,List.length_append,List.length_replicate,hlen,I2.len])⟩
  ·have h1:(xs ++ Nb)[i]? = some y:=h1
   by_cases hik:i < xs.length
   ·rw [List.getElem?_append_left (by rw [List.length_replicate]; exact hik),List.getElem?_replicate,if_pos hik] at h2
    cases h2
   ·rw [List.getElem?_append_right (by omega)] at h1
    rw [List.getElem?_append_right (by rw [List.length_replicate]; omega),List.length_replicate] at h2
    generalize i - xs.length=i at h1 h2
    have h3:Vis (relabel scope X.env) y:=h3
    have key:∀ k,(k=NameKind.cell ∨ k=NameKind.free)→(relabel scope X.env).names.lookup y=some k→∃ u,RelV v u∧Look (compEnvC scope cl Hp2.objs.size X.env) h₁ (fun x => ([]:List (Str × Value)).reverse.lookup x) y u:=fun k hk hl => by
     obtain ⟨q1,_⟩:=relabel_kind hcell hl hk
     have q2:=hfree (y,.free) (PySem.mem_of_lookup q1) rfl
     have h1' : X.N[i]? = some y:=by
      have hi' : i < X.N.length:=by rw [← hlen]; exact (List.getElem?_eq_some_iff.mp h1).1
      have hz:(Nb.zip X.N)[i]? = some (y,X.N[i]):=by rw [List.getElem?_zip_eq_some]; exact ⟨h1,List.getElem?_eq_getElem hi'⟩
      rcases hNb _ (List.mem_of_getElem? hz) with z | z
      ·have z:y=X.N[i]:=z
       rw [z]; exact List.getElem?_eq_getElem hi'
      ·have z:scope.names.lookup y=none:=z
       rw [q1] at z; cases z
     obtain ⟨u,r,l⟩:=hloc2 i y v h1' h2 (.inr (.inl q2))
     refine ⟨u,r,.inr ⟨?_,?_⟩⟩
     ·rcases hk with rfl | rfl
      ·exact .inl hl
      ·exact .inr hl
     ·rcases l with ⟨k1,_⟩ | ⟨_,c,e1,z⟩
      ·rw [q2] at k1; cases k1
      ·obtain ⟨c',e2⟩:=Option.isSome_iff_exists.mp (cl2 y (PySem.mem_of_lookup q1))
       have e3:=cl1 y c' e2
       rw [e1] at e3
       cases e3
       obtain ⟨o,ho,hd⟩:=z
       exact ⟨c,e2,o,old c o ho,hd⟩
    rcases h3 with h3 | h3 | h3
    ·
     exfalso
     exact hxN y (List.mem_of_getElem? h1) (relabel_local h3)
    ·exact key _ (.inl rfl) h3
    ·exact key _ (.inr rfl) h3
  ·obtain ⟨v,o,ho,hd⟩:=I2.cell y c (cl1 y c h1)
   exact ⟨v,o,old c o ho,hd⟩
 have noErr:∀ {α:Type} {m:Sem α} {G:α→Shared→Prop} {E' : Value→Shared→Prop} {s' : Shared},wpAny (model X.prog X.w) X.A m G (fun _ _ => False) s'→wpAny (model X.prog X.w) X.A m G E' s':=fun h => wpAny_mono h (fun _ _ q => q) fun _ _ q => q.elim
 have loop:∀ (tk:Nat) (R:Result→Shared→Prop),R=compPost (model X.prog X.w) X.A X.xe use QQ (.ref s2.heap.objs.size) Hp2.objs.size →
   codeAny (model X.prog X.w) X.A (.compLoop (.ListComp elt [⟨tg,iter,ifs,0⟩] scope pos) 0 (.ref it) (.ref s2.heap.objs.size) (compEnvC scope cl Hp2.objs.size X.env)) R { s2 with heap:=h₁,toks:=tk }:=by
  rintro tk R rfl
  refine loop_turns rfl (fun n s' => ∃ i σv H' ys its,σv.length=xs.length∧Inv Y [] (σv ++ σ) H' s'∧tn i s'.heap∧(∀ b ∈ fp,H' b=none)∧Vals ys its∧ys.length ≤ sizeLine∧s'.heap.PlainList s2.heap.objs.size its.toArray∧H' s2.heap.objs.size=none∧W i n ys H') ?_ m0
   ⟨0,List.replicate xs.length none,H2,[],[],List.length_replicate,hY ▸ IY tk,T.keep _ _ _ st2 fun b _ o e => old b o e,fun b hb => (f2 b hb).1,.nil,Nat.zero_le _,hacc,HD,w0⟩
  rintro n s3 ⟨i,σv,H3,ys,its,lv,I3,st3,fr3,rv,hz,⟨nn,pl3⟩,HD3,w3⟩
  have I3p:Inv Y [(s2.heap.objs.size,{ cls:=.type "list",data:=.seq its.toArray nn })] (σv ++ σ) H3 s3:=I3.pins_of fun p hp => by
   rw [List.mem_singleton] at hp
   subst hp
   refine ⟨pl3,HD3,?_,fun hm => ?_,fun v z => by cases z⟩
   ·rw [← hY]; exact hDC
   ·rw [← hY] at hm
    exact absurd (frSub _ hm) (Nat.lt_irrefl _)
  have pinD:∀ p ∈ [((s2.heap.objs.size:Addr),({ cls:=.type "list",data:=.seq its.toArray nn } : Obj))],p.1=s2.heap.objs.size:=fun p hp => by
   rw [List.mem_singleton] at hp
   rw [hp]
  subst hY
  rcases turn i n ys H3 w3 with ⟨stop,qn⟩ | ⟨go,hlt,NN,hNN,step⟩
  ·refine noErr (thn (T.done (cxC X xs Nb scope cl Hp2.objs.size s2 H2 fp) rfl rfl rfl hc i _ s3 _ H3 (fun _ _ => False) I3p (fpY fr3 pinD) st3 stop) fun r s4 ⟨hr,I4⟩ => ?_)
   subst hr
   obtain ⟨m4,hns4,_⟩:=I4.loc
   refine post s2 s4 H2 (upd H3 s2.heap.objs.size (.lst ys)) Hp2.objs.size s2.heap.objs.size m4 I2 (by omega) hns4 (by rw [upd_ne (Ne.symm hDC)]; exact I4.free) (fun h' sb => ?_) (qn _ HD3)
   have pl4:=(I4.pin _ (List.mem_append_right _ List.mem_cons_self)).1
   have up:∀ b o,b ≠ Hp2.objs.size→s4.heap.get? b=some o→h'.get? b=some o:=fun b o hb e => sb.extBut b o hb e
   have base:=I4.base
   have HC4:H3 Hp2.objs.size=none:=I4.free
   have neC:∀ b o,s2.heap.get? b=some o→b ≠ Hp2.objs.size:=fun b o e => (below b (Heap.lt_size e)).1
   have neD:∀ b o,s2.heap.get? b=some o→b ≠ s2.heap.objs.size:=fun b o e => (below b (Heap.lt_size e)).2
   have hokN:HOk X.prog X.w (upd H3 s2.heap.objs.size (.lst ys)) h':=fun b u e => by
    by_cases hb:b=s2.heap.objs.size
    ·subst hb
     rw [upd_same] at e
     cases e
     exact ⟨hz,its,nn,rv,up _ _ hDC pl4⟩
    ·rw [upd_ne hb] at e
     refine (I4.hok b u e).stay (fun c v hc q => up c v ?_ q) (fun c q => by rw [upd_ne (ne_of_none q HD3)]; exact q) fun c xs q => by rw [upd_ne (ne_of_none q HD3)]; exact q
     rcases hc with z | z
     ·rw [z]; exact ne_of_none e HC4
     ·exact ne_of_none z HC4
   refine I2.call' (s':={ s4 with heap:=h' }) (ch:=fp) I4.os ⟨fun b o e n hb hx' => up b o (neC b o e) (base.keep b o e n hb hx'),fun b o e n hb hx' => ?_,fun b o e n hx' => ?_,fun b o e hx' => ?_,fun b xs e => ?_,fun b o u e => ?_,fun b ps e => ?_⟩ hokN I4.bare (fun b hb => ?_)
   ·obtain ⟨sl,q⟩:=base.slot b o e n hb hx'
    exact ⟨sl,up b _ (neC b o e) q⟩
   ·rw [upd_ne (neD b o e)]
    exact base.free b o e n hx'
   ·obtain ⟨o',q⟩:=base.there b o e hx'
    exact ⟨o',up b o' (neC b o e) q⟩
   ·have q:=base.tups b xs e
    rw [upd_ne (ne_of_none q HD3)]; exact q
   ·have q:=base.frzs b o u e
    rw [upd_ne (ne_of_none q HD3)]; exact q
   ·obtain ⟨more,q⟩:=base.tbls b ps e
    exact ⟨more,by rw [upd_ne (ne_of_none q HD3)]; exact q⟩
   ·obtain ⟨_,g1,_,g3,g4,g5⟩:=f2 b hb
    exact ⟨g3,g1,g4,g5⟩
  ·refine noErr (thn (T.item (cxC X xs Nb scope cl Hp2.objs.size s2 H2 fp) rfl rfl rfl hc i _ s3 _ H3 (fun _ _ => False) I3p (fpY fr3 pinD) st3 go) fun r s4 ⟨u,hr,h4⟩ => ?_)
   subst hr
   refine noErr (thn h4 fun _ s5 ⟨v,H5,I5,r5,y5,st5,fr5⟩ => ?_)
   have I5':=I5.pinned (fpY fr5 pinD) (T.obj _ _ st5)
   have stp:=step v H5 σv lv y5
   refine noErr (thn (hg cl Hp2.objs.size s2 H2 fp _ s5 _ H5 v u _ I5' r5 stp) fun _ s6 ⟨σ6,H6,I6,⟨pre',e6,l6⟩,stp⟩ => ?_)
   subst e6
   have again:∀ {s7 s8:Shared} {H7:Hp} {zs:List V} {ws:List Value} {m' : Nat},Inv (cxC X xs Nb scope cl Hp2.objs.size s2 H2 fp) ([((s2.heap.objs.size:Addr),({ cls:=.type "list",data:=.seq its.toArray nn } : Obj))] ++ pinsAt fp s5.heap) (pre' ++ σ) H7 s7 →
     (∃ h',s8 = { s7 with heap:=h' }∧(∀ b o,b ≠ s2.heap.objs.size→s7.heap.get? b=some o→h'.get? b=some o)∧h'.PlainList s2.heap.objs.size ws.toArray)→Vals zs ws→zs.length ≤ sizeLine→m' < n→W (i + 1) m' zs H7 →
     ∃ m,m < n∧∃ i σv H' ys its,σv.length=xs.length∧Inv (cxC X xs Nb scope cl Hp2.objs.size s2 H2 fp) [] (σv ++ σ) H' s8∧tn i s8.heap∧(∀ b ∈ fp,H' b=none)∧Vals ys its∧ys.length ≤ sizeLine∧s8.heap.PlainList s2.heap.objs.size its.toArray∧H' s2.heap.objs.size=none∧W i m ys H':=by
    rintro s7 s8 H7 zs ws m' I7 ⟨h',rfl,up,plw⟩ rz hzz hm w7
    have HD7:H7 s2.heap.objs.size=none:=(I7.pin _ (List.mem_append_right _ (List.mem_append_left _ List.mem_cons_self))).2.1
    have fr7:∀ b ∈ fp,H7 b=none:=fun b hb => by
     obtain ⟨o,e,d⟩:=T.obj _ _ st5 b hb
     exact (I7.pin (b,o) (List.mem_append_right _ (List.mem_append_right _ (mem_pinsAt hb e)))).2.1
    have I7' : Inv (cxC X xs Nb scope cl Hp2.objs.size s2 H2 fp) [] (pre' ++ σ) H7 s7:=I7.pins_of fun p hp => absurd hp (by simp)
    refine ⟨m',hm,i + 1,pre',H7,zs,ws,l6,?_,?_,fr7,rz,hzz,plw,HD7,w7⟩
    ·have:=I7'.turned (it:=s2.heap.objs.size) (h':=h') (t':=s7.toks) up HD7 hDC (.inr (Nat.le_refl _)) (fun y c h1 h2 => absurd (cellLt y c h1) (by rw [h2]; exact Nat.lt_irrefl _)) (fun p hp => absurd (show p ∈ ([]:List (Addr × Obj)) from hp) (by simp))
     exact this
    ·refine T.keep _ _ _ st5 fun b hb o e => up b o (below b (fpLt b hb)).2 ?_
     exact (I7.pin (b,o) (List.mem_append_right _ (List.mem_append_right _ (mem_pinsAt hb e)))).1
   refine noErr (thn (ht cl Hp2.objs.size s2 H2 fp _ s6 _ H6 _ I6 stp) fun okb s7 ⟨H7,I7,q7⟩ => ?_)
   have pl7:=(I7.pin _ (List.mem_append_right _ (List.mem_append_left _ List.mem_cons_self))).1
   cases okb with
   | false =>
    rw [if_neg Bool.false_ne_true] at q7 ⊢
    obtain ⟨m',hm,w7⟩:=hNN _ _ q7
    exact again I7 ⟨s7.heap,rfl,fun _ _ _ e => e,nn,pl7⟩ rv hz hm w7
   | true =>
    rw [if_pos rfl] at q7 ⊢
    refine noErr (thn (he cl Hp2.objs.size s2 H2 fp _ s7 _ H7 _ I7 q7) fun w' s8 ⟨y,H8,I8,r8,q8⟩ => ?_)
    obtain ⟨m',hm,w8⟩:=hNN _ _ q8
    have pl8:=(I8.pin _ (List.mem_append_right _ (List.mem_append_left _ List.mem_cons_self))).1
    refine wpAny_list_append_plain (hsz:=by have:=rv.length; simp only [List.size_toArray]; omega) ⟨nn,pl8⟩ fun h9 pl9 sb9 => ?_
    refine again I8 ⟨h9,rfl,fun b o hb e => sb9.extBut b o hb e,?_⟩ (rv.append (.cons r8 .nil)) (by rw [List.length_append,List.length_singleton]; omega) hm w8
    have e9:its.toArray.push w' = (its ++ [w']).toArray:=by simp
    rw [← e9]
    exact pl9
 refine codeAny_compStart_list (loop _ _ rfl) (noErr (T.self _ 0 _ _ _ (T.keep _ _ _ st2 fun b _ o e => old b o e) (loop _ _ rfl)))
theorem pe_compG {elt iter tg:Expr} {xs Nb:List Str} {ifs:List Expr} {scope:Scope} {pos:PySem.Pos} {wi:TI} {g:TG} {tt:TT} {te:TE}
  (hc:X.calm=true) (hi:PI X tg iter wi) (hlen:Nb.length=X.N.length) (hNb:∀ p ∈ Nb.zip X.N,p.1=p.2 ∨ scope.names.lookup p.1=none) (hxN:∀ y ∈ Nb,scope.names.lookup y ≠ some .local)
  (hg:InB X xs Nb scope fun Y => PG Y tg g) (ht:InB X xs Nb scope fun Y => PIf Y ifs tt) (he:InB X xs Nb scope fun Y => PE Y elt te)
  (hcell:∀ y ∈ scope.names,y.2 ≠ .cell) (hkind:scope.kind = .function) (hnames:∀ y ∈ scope.names,y.2 = .local→scope.names.lookup y.1=some .local)
  (hfree:∀ y ∈ scope.names,y.2 = .free→X.env.kindOf y.1=some .cell)
  (hs:∀ x,foldedSetIterable iter X.env x=pure x:=by intro _; rfl) :
  PE X (.ListComp elt [⟨tg,iter,ifs,0⟩] scope pos) (tCompG xs.length wi g tt te):=by
 intro pins s σ H Q I h
 rw [eval_ListComp]
 exact comp_core (use:=none) (QQ:=EP X pins σ Q) hc hi hlen hNb hxN hg ht he hcell hkind hnames hfree hs I h fun s2 s4 H2 H4 C D m4 _ _ hn _ IX q => ⟨m4,hn,fun h' sb => ⟨.ref D,H4,IX h' sb,rfl,q⟩⟩
theorem ps_compG {elt iter tg:Expr} {xs Nb:List Str} {ifs:List Expr} {scope:Scope} {pos spos py:PySem.Pos} {wi:TI} {g g2:TG} {tt:TT} {te:TE} {y:Str}
  (hg2:PG X (.Name y py) g2) (hsw:swapsWith (.ListComp elt [⟨tg,iter,ifs,0⟩] scope pos) (some (.Name y py)) spos.line X.env=pure true)
  (hc:X.calm=true) (hi:PI X tg iter wi) (hlen:Nb.length=X.N.length) (hNb:∀ p ∈ Nb.zip X.N,p.1=p.2 ∨ scope.names.lookup p.1=none) (hxN:∀ y ∈ Nb,scope.names.lookup y ≠ some .local)
  (hg:InB X xs Nb scope fun Y => PG Y tg g) (ht:InB X xs Nb scope fun Y => PIf Y ifs tt) (he:InB X xs Nb scope fun Y => PE Y elt te)
  (hcell:∀ y ∈ scope.names,y.2 ≠ .cell) (hkind:scope.kind = .function) (hnames:∀ y ∈ scope.names,y.2 = .local→scope.names.lookup y.1=some .local)
  (hfree:∀ y ∈ scope.names,y.2 = .free→X.env.kindOf y.1=some .cell)
  (hs:∀ x,foldedSetIterable iter X.env x=pure x:=by intro _; rfl) :
  PS X (.Assign [.Name y py] (.ListComp elt [⟨tg,iter,ifs,0⟩] scope pos) spos) (tAsg (tCompG xs.length wi g tt te) g2):=by
 intro pins s σ H D I h
 rw [exec_Assign_Name_used _ _ _ _ hsw]
 refine wpAny_bind (wpAny_standAt (wpAny_bind ?_))
 show wpAny (model X.prog X.w) X.A (comprehension (.ListComp elt [⟨tg,iter,ifs,0⟩] scope pos) scope X.env _ (newList []) false (eval iter X.env) (some (assign (.Name y py) X.env)) >>= fun _ => pure ()) _ _ s
 refine wpAny_bind (wpAny_mono (comp_core (use:=some (assign (.Name y py) X.env)) (QQ:=fun _ s' => SP X pins D .next s') hc hi hlen hNb hxN hg ht he hcell hkind hnames hfree hs I h ?_) (fun _ s' hq => wpAny_pure (wpAny_pure hq)) fun _ _ e => e)
 intro s2 s4 H2 H4 C R m4 I2 hC hn HC IX q
 have I4:Inv X pins σ H4 s4:=IX s4.heap (Heap.SameBut.refl _ _)
 obtain ⟨o,es,ep,ho,hd,hn'⟩:=id hn
 have hLC:C ≠ X.env.locals:=fun z => absurd (Nat.lt_of_lt_of_le I2.lt hC) (by rw [z]; exact Nat.lt_irrefl _)
 have hfsC:C ∉ X.fs:=I2.nofs hC
 have I4p:Inv X ((C,o) :: pins) σ H4 s4:=I4.pins_of fun p hp => by
  rcases List.mem_cons.mp hp with rfl | z
  ·exact ⟨ho,HC,hLC,hfsC,fun v z => by rw [hd] at z; cases z⟩
  ·exact I4.pin p (List.mem_append_right _ z)
 show wpAny _ X.A (assign (.Name y py) X.env (.ref R)) _ _ s4
 refine thn (hg2 _ s4 σ H4 (.ref R) (.ref R) _ I4p rfl q) fun _ s5 ⟨σ5,H5,I5,q5⟩ => ?_
 have pC:=I5.pin (C,o) (List.mem_append_right _ List.mem_cons_self)
 refine ⟨m4,⟨o,es,ep,pC.1,hd,hn'⟩,fun h' sb => ⟨σ5,H5,?_,q5⟩⟩
 have I6:Inv X pins σ5 H5 s5:=I5.pins_of fun p hp => I5.pin p (List.mem_append_right _ (List.mem_cons_of_mem _ hp))
 exact I6.turned (it:=C) (h':=h') (t':=s5.toks) (fun b o hb e => sb.extBut b o hb e) pC.2.1 hLC (.inr (Nat.le_trans I2.sz hC)) (fun y c e z => by
   obtain ⟨v,qq⟩:=I2.cell y c e
   exact absurd (Nat.lt_of_lt_of_le qq.lt hC) (by rw [z]; exact Nat.lt_irrefl _)) (fun p hp z => by
   exact absurd (Nat.lt_of_lt_of_le (Heap.lt_size (I2.pin p hp).1) hC) (by rw [z]; exact Nat.lt_irrefl _))
theorem compR {k:Nat} {lo:Int} {n:Nat} {g:TG} {tt:TT} {te:TE} {Q:VK} {σ:St} {H:Hp} (Pv:Nat→List V→Hp→Prop) (h0:Pv 0 [] H) (hb:n ≤ 1000) (hz:∀ i ys H,Pv i ys H→ys.length ≤ i)
  (hs:∀ (i:Nat) ys H (pre:St),pre.length=k→i < n→Pv i ys H→g (.int (lo + i)) (pre ++ σ) H fun σ' H2 => (∃ pre' : St,σ' = pre' ++ σ∧pre'.length=k)∧tt σ' H2 fun ok H3 => if ok=true then te σ' H3 fun y H4 => Pv (i + 1) (ys ++ [y]) H4 else Pv (i + 1) ys H3) (hd:∀ ys H,Pv n ys H→∀ D,H D=none→Q (.ref D) (upd H D (.lst ys))):CGo k (Itr lo n) g tt te Q σ H:=by
 refine ⟨fun i m ys H => m=n - i∧i ≤ n∧Pv i ys H,⟨n,by simp,Nat.zero_le _,h0⟩,?_⟩
 rintro i m ys H ⟨rfl,hi,p⟩
 by_cases hlt:i < n
 ·refine .inr ⟨hlt,Nat.lt_of_le_of_lt (hz i ys H p) (small1000 (by omega)),Pv (i + 1),fun zs H' p' => ⟨n - (i + 1),by omega,rfl,hlt,p'⟩,fun x H' pre hp y => ?_⟩
  obtain ⟨e,y⟩:=y
  subst e y
  exact hs i ys _ pre hp hlt p
 ·have e:i=n:=by omega
  subst e
  exact .inl ⟨Nat.le_refl _,hd ys H p⟩
end
end L2
namespace L2
open PySem PySem.Spec PyProof.Rows
section
variable {X:Cx}
theorem pg_tupK {K:PySem.W.Frag} {es:List Expr} {k:Nat} {t:TGs} {n:Nat} {pos:PySem.Pos} (hc:X.calm=true) (h:PGs X es t) (hK:X.K=K:=by rfl)
  (hn:(assignEach es X.env).length=n:=by rfl) (hst:(assignEach es X.env).findIdx? (·.1)=none:=by rfl):PG X (.Tuple es k pos) (gTup K n t):=by
 subst hK; exact pg_tup hc h hn hst
end
def dT (ns:List Int):PyData:=.tuple (ns.map .int)
def dE (e:Int × List Int):PyData:=.tuple [.int e.1,dT e.2]
def dL (L:List (Int × List Int)):PyData:=.list (L.map dE)
theorem eqvAll_ints:∀ ns ms:List Int,PyData.eqvAll (ns.map .int) (ms.map .int)=decide (ns=ms)
 | [],[] => rfl
 | [],_ :: _ => rfl
 | _ :: _,[] => rfl
 | n :: ns,m :: ms => by
  show (PyData.eqv (.int n) (.int m) && PyData.eqvAll (ns.map .int) (ms.map .int))=_
  rw [eqvAll_ints ns ms]
  show ((n == m) && _)=_
  by_cases h:n=m
  ·subst h; by_cases h2:ns=ms <;> simp [h2]
  ·simp [h]
theorem eqv_dT (ns ms:List Int):PyData.eqv (dT ns) (dT ms)=decide (ns=ms):=eqvAll_ints ns ms
theorem eqv_dE (a b:Int × List Int):PyData.eqv (dE a) (dE b)=decide (a=b):=by
 show ((a.1 == b.1) && (PyData.eqv (dT a.2) (dT b.2) && true))=_
 rw [eqv_dT]
 obtain ⟨a1,a2⟩:=a
 obtain ⟨b1,b2⟩:=b
 by_cases h:a1=b1
 ·subst h; by_cases h2:a2=b2 <;> simp [h2]
 ·simp [h]
theorem eqvAll_dE:∀ L M:List (Int × List Int),PyData.eqvAll (L.map dE) (M.map dE)=decide (L=M)
 | [],[] => rfl
 | [],_ :: _ => rfl
 | _ :: _,[] => rfl
 | a :: L,b :: M => by
  show (PyData.eqv (dE a) (dE b) && PyData.eqvAll (L.map dE) (M.map dE))=_
  rw [eqvAll_dE L M,eqv_dE]
  by_cases h:a=b
  ·subst h; by_cases h2:L=M <;> simp [h2]
  ·simp [h]
theorem eqv_dL (L M:List (Int × List Int)):PyData.eqv (dL L) (dL M)=decide (L=M):=eqvAll_dE L M
theorem lay_ints:∀ ns:List Int,PyData.canLayAll0 (ns.map .int)=true
 | [] => rfl
 | _ :: ns => by show (true && _)=true; rw [lay_ints ns]; rfl
theorem lay_dT (ns:List Int):(dT ns).canLay0=true:=lay_ints ns
theorem lay_dE (e:Int × List Int):(dE e).canLay0=true:=by show (true && ((dT e.2).canLay0 && true))=true; rw [lay_dT]; rfl
theorem lay_dEs:∀ L:List (Int × List Int),PyData.canLayAll0 (L.map dE)=true
 | [] => rfl
 | e :: L => by show ((dE e).canLay0 && _)=true; rw [lay_dE,lay_dEs L]; rfl
theorem lay_dL (L:List (Int × List Int)):(dL L).canLay0=true:=lay_dEs L
theorem dep_ints:∀ ns:List Int,PyData.depthAll (ns.map .int)=0
 | [] => rfl
 | _ :: ns => by show max 0 _=0; rw [dep_ints ns]; rfl
theorem dep_dT (ns:List Int):(dT ns).depth=1:=by show PyData.depthAll _ + 1=1; rw [dep_ints]
theorem dep_dE (e:Int × List Int):(dE e).depth=2:=by show max 0 (max (dT e.2).depth 0) + 1=2; rw [dep_dT]; rfl
theorem dep_dEs:∀ L:List (Int × List Int),PyData.depthAll (L.map dE) ≤ 2
 | [] => Nat.zero_le _
 | e :: L => by show max (dE e).depth _ ≤ 2; rw [dep_dE]; have:=dep_dEs L; omega
theorem dep_dL (L:List (Int × List Int)):(dL L).depth ≤ 60:=by show PyData.depthAll _ + 1 ≤ 60; have:=dep_dEs L; omega
def Tups (H H' : Hp):Prop:=∀ b ys,H b=some (.tup ys)→H' b=some (.tup ys)
theorem Tups.refl (H:Hp):Tups H H:=fun _ _ h => h
theorem Tups.trans {H H1 H2:Hp} (a:Tups H H1) (b:Tups H1 H2):Tups H H2:=fun c y h => b c y (a c y h)
theorem Tups.new {H H1:Hp} {p:Addr} {o:HO} (a:Tups H H1) (h:H1 p=none):Tups H (upd H1 p o):=fun c y e => by
 have:=a c y e
 rw [upd_ne (ne_of_none this h)]; exact this
theorem Tups.lst {H H1:Hp} {p:Addr} {xs ys:List V} (a:Tups H H1) (h:H1 p=some (.lst xs)):Tups H (upd H1 p (.lst ys)):=fun c y e => by
 have:=a c y e
 have hn:c ≠ p:=fun z => by rw [z,h] at this; cases this
 rw [upd_ne hn]; exact this
theorem Same.tups {H H' : Hp} (s:Same H H'):Tups H H':=fun b ys e => s b _ e
def Sh (H:Hp) (x:V) (e:Int × List Int):Prop:=∃ p w,x = .ref p∧H p=some (.tup [.int e.1,.ref w])∧H w=some (.tup (e.2.map V.int))
def Wg (H:Hp) (xs:List V) (L:List (Int × List Int)):Prop:=xs.length=L.length∧∀ (i:Nat) (x:V) (e:Int × List Int),xs[i]? = some x→L[i]? = some e→Sh H x e
theorem Sh.up {H H' : Hp} {x:V} {e:Int × List Int} (h:Sh H x e) (t:Tups H H'):Sh H' x e:=by
 obtain ⟨p,w,rfl,h1,h2⟩:=h
 exact ⟨p,w,rfl,t _ _ h1,t _ _ h2⟩
theorem Wg.up {H H' : Hp} {xs:List V} {L:List (Int × List Int)} (h:Wg H xs L) (t:Tups H H'):Wg H' xs L:=⟨h.1,fun i x e h1 h2 => (h.2 i x e h1 h2).up t⟩
theorem Wg.nil (H:Hp):Wg H [] []:=⟨rfl,fun i x e h _ => by cases h⟩
theorem Wg.snoc {H:Hp} {xs:List V} {L:List (Int × List Int)} {x:V} {e:Int × List Int} (h:Wg H xs L) (s:Sh H x e):Wg H (xs ++ [x]) (L ++ [e]):=by
 refine ⟨by simp [h.1],fun i y d h1 h2 => ?_⟩
 by_cases hi:i < xs.length
 ·rw [List.getElem?_append_left hi] at h1
  rw [List.getElem?_append_left (by rw [← h.1]; exact hi)] at h2
  exact h.2 i y d h1 h2
 ·have hl:i < (xs ++ [x]).length:=(List.getElem?_eq_some_iff.mp h1).1
  rw [List.length_append,List.length_singleton] at hl
  have e0:i=xs.length:=by omega
  subst e0
  rw [List.getElem?_append_right (Nat.le_refl _),Nat.sub_self] at h1
  rw [List.getElem?_append_right (by rw [h.1]; exact Nat.le_refl _),h.1,Nat.sub_self] at h2
  cases h1
  cases h2
  exact s
theorem Wg.get {H:Hp} {xs:List V} {L:List (Int × List Int)} {i:Nat} {e:Int × List Int} (h:Wg H xs L) (he:L[i]? = some e):∃ x,xs[i]? = some x∧Sh H x e:=by
 have hi:i < xs.length:=by rw [h.1]; exact (List.getElem?_eq_some_iff.mp he).1
 exact ⟨xs[i],List.getElem?_eq_getElem hi,h.2 i _ e (List.getElem?_eq_getElem hi) he⟩
theorem Wg.at' {H:Hp} {xs:List V} {L:List (Int × List Int)} {i:Nat} {x:V} (h:Wg H xs L) (he:xs[i]? = some x):∃ e,L[i]? = some e∧Sh H x e:=by
 have hi:i < L.length:=by rw [← h.1]; exact (List.getElem?_eq_some_iff.mp he).1
 exact ⟨L[i],List.getElem?_eq_getElem hi,h.2 i _ _ he (List.getElem?_eq_getElem hi)⟩
theorem Wg.pop {H:Hp} {xs:List V} {L:List (Int × List Int)} (h:Wg H xs L):Wg H xs.dropLast L.dropLast:=by
 refine ⟨by rw [List.length_dropLast,List.length_dropLast,h.1],fun i x e h1 h2 => ?_⟩
 rw [List.getElem?_dropLast] at h1 h2
 split at h1
 ·split at h2
  ·exact h.2 i x e h1 h2
  ·cases h2
 ·cases h1
theorem di_ints {K:PySem.W.Frag} {H:Hp} {w:Addr} {ns:List Int} (h:H w=some (.tup (ns.map V.int))):DI K H (.ref w) (dT ns):=by
 refine .tup (SqT.of h) (by simp) fun i x d h1 h2 => ?_
 rw [List.getElem?_map] at h1 h2
 cases z:ns[i]? with
 | none => rw [z] at h1; cases h1
 | some n =>
  rw [z] at h1 h2
  cases h1
  cases h2
  exact .int _
theorem Sh.di {K:PySem.W.Frag} {H:Hp} {x:V} {e:Int × List Int} (h:Sh H x e):DI K H x (dE e):=by
 obtain ⟨p,w,rfl,h1,h2⟩:=h
 refine .tup (SqT.of h1) rfl fun i y d a b => ?_
 rcases i with _ | _ | i
 ·cases a; cases b; exact .int _
 ·cases a; cases b; exact di_ints h2
 ·cases a
theorem Wg.di {K:PySem.W.Frag} {H:Hp} {a:Addr} {xs:List V} {L:List (Int × List Int)} (h:Wg H xs L) (ha:SqL K H a xs):DI K H (.ref a) (dL L):=by
 refine .lst ha (by rw [List.length_map]; exact h.1) fun i x d h1 h2 => ?_
 rw [List.getElem?_map] at h2
 cases z:L[i]? with
 | none => rw [z] at h2; cases h2
 | some e =>
  rw [z] at h2
  cases h2
  exact (h.2 i x e h1 z).di
theorem di_nil {K:PySem.W.Frag} {H:Hp} {a:Addr} (ha:SqL K H a []):DI K H (.ref a) (dL []):=.lst ha rfl fun i x d h1 _ => by cases h1
def shStep (acc:List (Int × List Int)) (e:Int × List Int):List (Int × List Int) :=
 if 0 < e.1 then match acc.getLast? with
  | some l => if l.2=e.2 then acc.dropLast ++ [(e.1 + l.1,e.2)] else acc ++ [e]
  | none => acc ++ [e]
 else acc
def shape (L:List (Int × List Int)):List (Int × List Int):=L.foldl shStep []
def tot (L:List (Int × List Int)):Int:=(L.map (·.1)).sum
theorem tot_nil:tot []=0:=rfl
theorem tot_cons (e:Int × List Int) (L:List (Int × List Int)):tot (e :: L)=e.1 + tot L:=by unfold tot; simp
theorem tot_append (L M:List (Int × List Int)):tot (L ++ M)=tot L + tot M:=by unfold tot; simp
theorem take_succ' {α:Type} {L:List α} {i:Nat} {e:α} (h:L[i]? = some e):L.take (i + 1)=L.take i ++ [e]:=by
 rw [List.take_add_one,h]; rfl
theorem tot_succ {L:List (Int × List Int)} {i:Nat} {e:Int × List Int} (h:L[i]? = some e):tot (L.take (i + 1))=tot (L.take i) + e.1:=by
 rw [take_succ' h,tot_append,tot_cons,tot_nil]; omega
theorem shape_succ {L:List (Int × List Int)} {i:Nat} {e:Int × List Int} (h:L[i]? = some e):shape (L.take (i + 1))=shStep (shape (L.take i)) e:=by
 unfold shape
 rw [take_succ' h,List.foldl_append]; rfl
theorem drop_get {α:Type} {L:List α} {l:α} (h:L.getLast? = some l):L=L.dropLast ++ [l]:=by
 have hne:L ≠ []:=by intro z; rw [z] at h; cases h
 rw [List.getLast?_eq_some_getLast hne] at h
 cases h
 exact (List.dropLast_concat_getLast hne).symm
end L2
namespace L2
abbrev WL:=List (Int × List Int)
def mn (i j:Int):Int:=if j < i then j else i
def Pos (L:WL):Prop:=∀ e ∈ L,0 < e.1
end L2
namespace L2
open PySem PySem.Spec PyProof.Rows
def isInt:PyData→Bool
 | .int _ | .bool _ => true
 | _ => false
section
variable {X:Cx} {es:List Expr} {te:TE} {t:TA}
theorem pa_Constant {c:Const} {j:Nat} {p:PySem.Pos} (ha:PE X (.Constant c j p) te) (hr:PA X es t):PA X (.Constant c j p :: es) (tCons te t):=pa_cons ha hr rfl
theorem pa_Name {x:Str} {p:PySem.Pos} (ha:PE X (.Name x p) te) (hr:PA X es t):PA X (.Name x p :: es) (tCons te t):=pa_cons ha hr rfl
theorem pa_Tuple {l:List Expr} {k:Nat} {p:PySem.Pos} (ha:PE X (.Tuple l k p) te) (hr:PA X es t):PA X (.Tuple l k p :: es) (tCons te t):=pa_cons ha hr rfl
theorem pa_BinOp {a b:Expr} {o:Operator} {p:PySem.Pos} (ha:PE X (.BinOp a o b p) te) (hr:PA X es t):PA X (.BinOp a o b p :: es) (tCons te t):=pa_cons ha hr rfl
theorem pa_Subscript {a b:Expr} {p:PySem.Pos} (ha:PE X (.Subscript a b p) te) (hr:PA X es t):PA X (.Subscript a b p :: es) (tCons te t):=pa_cons ha hr rfl
theorem pa_Call {f:Expr} {l:List Expr} {kw:List Keyword} {p:PySem.Pos} (ha:PE X (.Call f l kw p) te) (hr:PA X es t):PA X (.Call f l kw p :: es) (tCons te t):=pa_cons ha hr rfl
end
theorem pa_o2 {X:Cx} {e1 e2:Expr} {t1 t2:TE} {es:List Expr} {t:TA} (h1:PE X e1 t1) (h2:PE X e2 t2) (hr:PA X es t) (s1:∀ l,starEach (e1 :: l) X.env=(false,eval e1 X.env) :: starEach l X.env:=by intro _; rfl) (s2:∀ l,starEach (e2 :: l) X.env=(false,eval e2 X.env) :: starEach l X.env:=by intro _; rfl):PA X (e1 :: e2 :: es) (tCons t1 (tCons t2 t)):=(pa_cons h1 (pa_cons h2 hr (s2 _)) (s1 _))
theorem pa_o3 {X:Cx} {e1 e2 e3:Expr} {t1 t2 t3:TE} {es:List Expr} {t:TA} (h1:PE X e1 t1) (h2:PE X e2 t2) (h3:PE X e3 t3) (hr:PA X es t) (s1:∀ l,starEach (e1 :: l) X.env=(false,eval e1 X.env) :: starEach l X.env:=by intro _; rfl) (s2:∀ l,starEach (e2 :: l) X.env=(false,eval e2 X.env) :: starEach l X.env:=by intro _; rfl) (s3:∀ l,starEach (e3 :: l) X.env=(false,eval e3 X.env) :: starEach l X.env:=by intro _; rfl):PA X (e1 :: e2 :: e3 :: es) (tCons t1 (tCons t2 (tCons t3 t))):=(pa_cons h1 (pa_cons h2 (pa_cons h3 hr (s3 _)) (s2 _)) (s1 _))
theorem pa_o4 {X:Cx} {e1 e2 e3 e4:Expr} {t1 t2 t3 t4:TE} {es:List Expr} {t:TA} (h1:PE X e1 t1) (h2:PE X e2 t2) (h3:PE X e3 t3) (h4:PE X e4 t4) (hr:PA X es t) (s1:∀ l,starEach (e1 :: l) X.env=(false,eval e1 X.env) :: starEach l X.env:=by intro _; rfl) (s2:∀ l,starEach (e2 :: l) X.env=(false,eval e2 X.env) :: starEach l X.env:=by intro _; rfl) (s3:∀ l,starEach (e3 :: l) X.env=(false,eval e3 X.env) :: starEach l X.env:=by intro _; rfl) (s4:∀ l,starEach (e4 :: l) X.env=(false,eval e4 X.env) :: starEach l X.env:=by intro _; rfl):PA X (e1 :: e2 :: e3 :: e4 :: es) (tCons t1 (tCons t2 (tCons t3 (tCons t4 t)))):=(pa_cons h1 (pa_cons h2 (pa_cons h3 (pa_cons h4 hr (s4 _)) (s3 _)) (s2 _)) (s1 _))
theorem sw_sub {a b:Expr} {p:PySem.Pos} {t:Option Expr} {l:Nat} {env:Env} : swapsWith (.Subscript a b p) t l env=pure false:=rfl
end L2
set_option maxHeartbeats 1000000
namespace L2
open PySem PySem.Spec PyProof.Rows
section
variable {X:Cx} {pins:List (Addr × Obj)} {σ:St} {H:Hp} {s:Shared} {h' : Heap}
theorem Inv.turnedNew {t' : Nat} {ch:List Addr} {p:Addr} {xs:List V} (I:Inv X pins σ H s) (k:∀ b o,b ∉ ch→s.heap.get? b=some o→h'.get? b=some o) (hf:∀ b ∈ ch,FpOk X pins H b) (hp:s.heap.objs.size ≤ p)
  (new:ObjOk X.prog X.w (upd H p (.tup xs)) h' p (.tup xs)):Inv X pins σ (upd H p (.tup xs)) { s with heap:=h',toks:=t' }:=by
 have hn:H p=none:=I.hok.fresh hp
 have nit:∀ b u,H b=some u→b ∉ ch:=fun b u e z => by rw [(hf b z).1] at e; cases e
 have nL:X.env.locals ∉ ch:=fun z => (hf _ z).2.1 rfl
 refine I.step (g':=s.gens) (d':=s.drawn) (ch:=ch) (fun b hb => ?_) (fun b o _ _ hc e _ => k b o hc e) (fun b o _ _ hc e _ => ⟨o.slots,k b o hc e⟩) (fun b o _ e n => ?_)
  (fun b o hc e => ⟨o,k b o hc e⟩) (fun b xs e => ?_) (fun b o u e => ?_) (fun b ps e => ⟨#[],?_⟩) (fun m hm => ?_) (fun b u e => ?_) I.bare
 ·obtain ⟨f0,f1,f2,f3,f4,f5⟩:=hf b hb
  exact ⟨f3,f1,f4,f5⟩
 ·rw [upd_ne (fun z => by rw [z] at e; exact absurd (Nat.lt_of_lt_of_le (Heap.lt_size e) hp) (Nat.lt_irrefl _))]
  exact n
 ·rw [upd_ne (ne_of_none e hn)]; exact e
 ·rw [upd_ne (ne_of_none e hn)]; exact e
 ·rw [upd_ne (ne_of_none e hn),e]; simp
 ·obtain ⟨o,es,ep,ho,r⟩:=hm
  exact ⟨o,es,ep,k _ o nL ho,r⟩
 ·by_cases hb:b=p
  ·subst hb; rw [upd_same] at e; cases e; exact new
  ·rw [upd_ne hb] at e
   refine (I.hok b u e).stay (fun c v hc q => k c v ?_ q) (fun c q => by rw [upd_ne (ne_of_none q hn)]; exact q) fun c xs q => by rw [upd_ne (ne_of_none q hn)]; exact q
   rcases hc with z | z
   ·rw [z]; exact nit b u e
   ·exact nit c _ z
theorem Inv.turnedL {t' : Nat} {ch:List Addr} (I:Inv X pins σ H s) (k:∀ b o,b ∉ ch→s.heap.get? b=some o→h'.get? b=some o) (hf:∀ b ∈ ch,FpOk X pins H b):Inv X pins σ H { s with heap:=h',toks:=t' }:=by
 have nit:∀ b u,H b=some u→b ∉ ch:=fun b u e z => by rw [(hf b z).1] at e; cases e
 have nL:X.env.locals ∉ ch:=fun z => (hf _ z).2.1 rfl
 refine I.step (g':=s.gens) (d':=s.drawn) (ch:=ch) (fun b hb => ?_) (fun b o _ _ hc e _ => k b o hc e) (fun b o _ _ hc e _ => ⟨o.slots,k b o hc e⟩) (fun b o _ e n => n)
  (fun b o hc e => ⟨o,k b o hc e⟩) (fun b xs e => e) (fun b o u e => e) (fun b ps e => ⟨#[],by rw [e]; simp⟩) (fun m hm => ?_) (fun b u e => ?_) I.bare
 ·obtain ⟨f0,f1,f2,f3,f4,f5⟩:=hf b hb
  exact ⟨f3,f1,f4,f5⟩
 ·obtain ⟨o,es,ep,ho,r⟩:=hm
  exact ⟨o,es,ep,k _ o nL ho,r⟩
 ·refine (I.hok b u e).stay (fun c v hc q => k c v ?_ q) (fun _ q => q) fun _ _ q => q
  rcases hc with z | z
  ·rw [z]; exact nit b u e
  ·exact nit c _ z
end
end L2
namespace L2
open PySem PySem.Spec PyProof.Rows
structure TB (t:SetTable) (led:Bool):Prop where
 led:t.led=led
 dum:t.dummies = #[]
 up:t.place.toList.Pairwise (· < ·)
theorem below_go {xs:Array Nat} (h:xs.toList.Pairwise (· < ·)) (j:Nat):∀ (fuel lo hi:Nat),hi ≤ xs.size→lo ≤ hi→hi - lo ≤ fuel→(∀ i,i < lo→xs.getD i 0 < j)→(∀ i,hi ≤ i→i < xs.size→j ≤ xs.getD i 0) →
  SetTable.below.go xs j fuel lo hi ≤ xs.size∧(∀ i,i < SetTable.below.go xs j fuel lo hi→xs.getD i 0 < j)∧(∀ i,SetTable.below.go xs j fuel lo hi ≤ i→i < xs.size→j ≤ xs.getD i 0):=by
 have inc:∀ a b,a ≤ b→b < xs.size→xs.getD a 0 ≤ xs.getD b 0:=fun a b hab hb => by
  rcases Nat.lt_or_eq_of_le hab with z | z
  ·have:=List.pairwise_iff_getElem.mp h a b (by simpa using Nat.lt_trans z hb) (by simpa using hb) z
   simp only [Array.getElem_toList] at this
   rw [Array.getD_eq_getD_getElem?,Array.getD_eq_getD_getElem?,Array.getElem?_eq_getElem (Nat.lt_trans z hb),Array.getElem?_eq_getElem hb]
   exact Nat.le_of_lt this
  ·rw [z]; exact Nat.le_refl _
 intro fuel
 induction fuel with
 | zero =>
  intro lo hi h1 h2 h3 h4 h5
  have e:lo=hi:=by omega
  subst e
  exact ⟨h1,h4,h5⟩
 | succ fuel ih =>
  intro lo hi h1 h2 h3 h4 h5
  unfold SetTable.below.go
  by_cases hlt:lo < hi
  ·rw [if_pos hlt]
   have hm:(lo + hi) / 2 < hi:=by omega
   have hm0:lo ≤ (lo + hi) / 2:=by omega
   have hms:(lo + hi) / 2 < xs.size:=by omega
   have eg:xs.getD ((lo + hi) / 2) j=xs.getD ((lo + hi) / 2) 0:=by
    rw [Array.getD_eq_getD_getElem?,Array.getD_eq_getD_getElem?,Array.getElem?_eq_getElem hms]; rfl
   dsimp only
   rw [eg]
   by_cases hc:xs.getD ((lo + hi) / 2) 0 < j
   ·rw [if_pos hc]
    refine ih _ _ h1 (by omega) (by omega) (fun i hi' => ?_) h5
    exact Nat.lt_of_le_of_lt (inc i _ (by omega) hms) hc
   ·rw [if_neg hc]
    refine ih _ _ (by omega) (by omega) (by omega) h4 (fun i hi' hs => ?_)
    exact Nat.le_trans (Nat.not_lt.mp hc) (inc _ i hi' hs)
  ·rw [if_neg hlt]
   have e:lo=hi:=by omega
   subst e
   exact ⟨h1,h4,h5⟩
theorem below_ok {xs:Array Nat} (h:xs.toList.Pairwise (· < ·)) (j:Nat):SetTable.below xs j ≤ xs.size∧(∀ i,i < SetTable.below xs j→xs.getD i 0 < j)∧(∀ i,SetTable.below xs j ≤ i→i < xs.size→j ≤ xs.getD i 0) :=
 below_go h j xs.size 0 xs.size (Nat.le_refl _) (Nat.zero_le _) (Nat.le_refl _) (fun i hi => by omega) (fun i h1 h2 => by omega)
theorem below_next {xs:Array Nat} (h:xs.toList.Pairwise (· < ·)) {i:Nat} (hi:i ≤ xs.size) {s:Nat} (hs:s=if i=0 then 0 else xs.getD (i - 1) 0 + 1):SetTable.below xs s=i:=by
 obtain ⟨b1,b2,b3⟩:=below_ok h s
 have lt:∀ a b,a < b→b < xs.size→xs.getD a 0 < xs.getD b 0:=fun a b hab hb => by
  have:=List.pairwise_iff_getElem.mp h a b (by simpa using Nat.lt_trans hab hb) (by simpa using hb) hab
  simp only [Array.getElem_toList] at this
  rw [Array.getD_eq_getD_getElem?,Array.getD_eq_getD_getElem?,Array.getElem?_eq_getElem (Nat.lt_trans hab hb),Array.getElem?_eq_getElem hb]
  exact this
 rcases Nat.lt_trichotomy (SetTable.below xs s) i with z | z | z
 ·exfalso
  have i0:i ≠ 0:=by omega
  rw [if_neg i0] at hs
  have h1:=b3 (i - 1) (by omega) (by omega)
  omega
 ·exact z
 ·exfalso
  have h1:=b2 i z
  by_cases i0:i=0
  ·rw [if_pos i0] at hs; omega
  ·rw [if_neg i0] at hs
   have h2:=lt (i - 1) i (by omega) (by omega)
   omega
theorem put_tb {t:SetTable} {led:Bool} (h:TB t led) {j:Nat} (he:t.slot j = .empty):TB (t.put j).1 led:=by
 have hd:SetTable.has t.dummies j=false:=by rw [h.dum]; rfl
 refine ⟨h.led,?_,?_⟩
 ·show (if SetTable.has t.dummies j=true then _ else t.dummies) = #[]
  rw [hd]
  exact h.dum
 ·show (SetTable.insertAt t.place (SetTable.below t.place j) j).toList.Pairwise (· < ·)
  rw [SetTable.toList_insertAt]
  obtain ⟨b1,b2,b3⟩:=below_ok h.up j
  have hne:t.place[SetTable.below t.place j]? ≠ some j:=fun z => by
   unfold SetTable.slot at he
   dsimp only at he
   rw [z] at he
   simp at he
  rw [List.pairwise_append]
  refine ⟨h.up.sublist (List.take_sublist _ _),?_,?_⟩
  ·rw [List.pairwise_cons]
   refine ⟨fun b hb => ?_,h.up.sublist (List.drop_sublist _ _)⟩
   obtain ⟨i,hi⟩:=List.mem_iff_getElem?.mp hb
   rw [List.getElem?_drop,Array.getElem?_toList] at hi
   obtain ⟨hlt,hg⟩:=Array.getElem?_eq_some_iff.mp hi
   have h1:=b3 _ (Nat.le_add_right _ i) hlt
   rw [Array.getD_eq_getD_getElem?,hi] at h1
   rcases Nat.lt_or_eq_of_le h1 with z | z
   ·exact z
   ·exfalso
    have z:j=b:=z
    cases i with
    | zero => exact hne (by rw [← z] at hi; simpa using hi)
    | succ i =>
     have hlt0:SetTable.below t.place j < t.place.size:=by omega
     have h2:=b3 _ (Nat.le_refl _) hlt0
     have h3:=List.pairwise_iff_getElem.mp h.up (SetTable.below t.place j) (SetTable.below t.place j + (i + 1)) (by simpa using hlt0) (by simpa using hlt) (by omega)
     simp only [Array.getElem_toList] at h3
     rw [Array.getD_eq_getD_getElem?,Array.getElem?_eq_getElem hlt0] at h2
     have h2:j ≤ t.place[SetTable.below t.place j]:=h2
     omega
  ·intro a ha b hb
   have haj:a < j:=by
    obtain ⟨i,hi⟩:=List.mem_iff_getElem?.mp ha
    rw [List.getElem?_take] at hi
    split at hi
    ·rename_i hir
     rw [Array.getElem?_toList] at hi
     have:=b2 i hir
     rw [Array.getD_eq_getD_getElem?,hi] at this
     exact this
    ·cases hi
   rcases List.mem_cons.mp hb with rfl | hb
   ·exact haj
   ·obtain ⟨i,hi⟩:=List.mem_iff_getElem?.mp hb
    rw [List.getElem?_drop,Array.getElem?_toList] at hi
    obtain ⟨hlt,hg⟩:=Array.getElem?_eq_some_iff.mp hi
    have h1:=b3 _ (Nat.le_add_right _ i) hlt
    rw [Array.getD_eq_getD_getElem?,hi] at h1
    exact Nat.lt_of_lt_of_le haj h1
theorem probe_go {t:SetTable} (hd:t.dummies = #[]) {f:Nat→Int} {h:Int} : ∀ (fuel:Nat) (p:SetTable.Probe),p.dummy=none→∀ {j:Nat} {d:Option Nat},SetTable.probe.go t f h fuel p=some (.empty j d)→t.slot j = .empty∧d=none:=by
 have nd:∀ j,t.slot j ≠ .dummy:=fun j z => by
  unfold SetTable.slot at z
  dsimp only at z
  rw [hd] at z
  split at z
  ·cases z
  ·have e:SetTable.has #[] j=false:=rfl
   rw [e] at z
   cases z
 intro fuel
 induction fuel with
 | zero => intro p _ j d e; unfold SetTable.probe.go at e; cases e
 | succ fuel ih =>
  intro p hp j d e
  unfold SetTable.probe.go at e
  cases hs:t.slot p.j with
  | empty => rw [hs] at e; cases e; exact ⟨hs,hp⟩
  | dummy => exact absurd hs (nd _)
  | live i =>
   rw [hs] at e
   dsimp only at e
   split at e
   ·cases e
   ·refine ih _ ?_ e
    unfold SetTable.advance
    split <;> exact hp
theorem free_empty {t:SetTable} (hd:t.dummies = #[]) {h:Int} {slot:Nat} {wd:Bool} (e:t.freeSlot h=some (slot,wd)):t.slot slot = .empty:=by
 unfold SetTable.freeSlot at e
 cases hp:t.probe (fun _ => h + 1) h (t.probeStart h) with
 | none => rw [hp] at e; cases e
 | some m =>
  cases m with
  | empty j d =>
   rw [hp] at e
   obtain ⟨h1,h2⟩:=probe_go hd _ _ rfl hp
   subst h2
   cases e
   exact h1
  | candidate a b c => rw [hp] at e; cases e
theorem standIn_tb {t:SetTable} {led:Bool} (h:t.led=led) (n:Nat):TB (t.standIn n) led:=by
 refine ⟨h,rfl,?_⟩
 show (Array.range n).toList.Pairwise (· < ·)
 rw [Array.toList_range]
 exact List.pairwise_lt_range
theorem layNew_tb {t:SetTable} {led:Bool} (h:TB t led) (es:Array (Int × Value)) (hh:Int) (x:Value):TB (layNew t es hh x).2.1 led:=by
 unfold layNew
 split
 ·rename_i slot wd e
  have p:=put_tb h (free_empty h.dum e)
  dsimp only
  unfold SetTable.orStandIn
  split
  ·exact p
  ·exact standIn_tb p.led _
 ·exact standIn_tb h.led _
theorem filter_fst {α β:Type} (f:α→Option β):∀ l:List α,((l.filterMap fun j => (f j).map (j,·)).map (·.1))=l.filter fun j => (f j).isSome
 | [] => rfl
 | a :: l => by
  cases h:f a with
  | none => simp [h,filter_fst f l]
  | some b => simp [h,filter_fst f l]
theorem relayAll_tb {t:SetTable} {led:Bool} (h:TB t led) (es:Array (Int × Value)) (wanted:Nat):TB (relayAll t es wanted).2.1 led:=by
 unfold relayAll
 split
 ·rename_i t' order e
  dsimp only
  split
  ·unfold SetTable.relaid SetTable.laid at e
   simp only [Option.bind_eq_bind,Option.bind_eq_some_iff,Option.pure_def,Option.some.injEq,Prod.mk.injEq] at e
   obtain ⟨owner,_,e1,_⟩:=e
   subst e1
   refine ⟨h.led,rfl,?_⟩
   show ((((List.range _).filterMap fun j => (owner.getD j none).map (j,·)).map (·.1)).toArray).toList.Pairwise (· < ·)
   rw [filter_fst (fun j => owner.getD j none)]
   exact List.pairwise_lt_range.sublist List.filter_sublist
  ·exact standIn_tb h.led _
 ·exact standIn_tb h.led _
end L2
set_option maxHeartbeats 2000000
namespace L2
open PySem PySem.Spec PyProof.Rows
def SetJ (prog:Program) (w:World) (h:Heap) (a:Addr) (ns:List Int):Prop :=
 ∃ o es ep t,h.get? a=some o∧o.ExactSet∧o.data = .set es ep t∧ElemsOf (intKind prog w) es.toList∧(∃ ms,IntsAre (es.toList.map (·.2)) ms∧ms.Perm ns)∧es.size < scanBound∧t.fits es.size=true∧TB t (!w.params.followText "set-order")
theorem SetJ.size {prog:Program} {w:World} {o:Obj} {es:Array (Int × Value)} {ns:List Int} (h:∃ ms,IntsAre (es.toList.map (·.2)) ms∧ms.Perm ns):es.size=ns.length:=by
 obtain ⟨ms,h1,h2⟩:=h
 have:=h1.length
 rw [List.length_map,Array.length_toList] at this
 rw [this,h2.length_eq]
theorem intsAre_mem:∀ {us:List Value} {ms:List Int},IntsAre us ms→∀ k:Int,k ∈ ms ↔ ∃ u ∈ us,u.isInt k=true
 | _,_,.nil,k => by simp
 | _,_,.cons n t h,k => by
  have ih:=intsAre_mem h k
  constructor
  ·intro hk
   rcases List.mem_cons.mp hk with rfl | hk
   ·exact ⟨_,List.mem_cons_self,by simp [Value.isInt]⟩
   ·obtain ⟨u,hu,e⟩:=ih.mp hk
    exact ⟨u,List.mem_cons_of_mem _ hu,e⟩
  ·rintro ⟨u,hu,e⟩
   rcases List.mem_cons.mp hu with rfl | hu
   ·simp [Value.isInt] at e
    rw [e]; exact List.mem_cons_self
   ·exact List.mem_cons_of_mem _ (ih.mpr ⟨u,hu,e⟩)
theorem intsAre_perm:∀ {us vs:List Value},us.Perm vs→∀ {ms:List Int},IntsAre vs ms→∃ ms',IntsAre us ms'∧ms'.Perm ms:=by
 intro us vs p
 induction p with
 | nil => intro ms h; exact ⟨ms,h,.refl _⟩
 | cons x _ ih =>
  intro ms h
  cases h with
  | cons n t h => obtain ⟨m,h1,h2⟩:=ih h; exact ⟨_,.cons n t h1,h2.cons n⟩
 | swap x y l =>
  intro ms h
  cases h with
  | cons n t h => cases h with | cons n' t' h => exact ⟨_,.cons n' t' (.cons n t h),.swap ..⟩
 | trans _ _ ih1 ih2 =>
  intro ms h
  obtain ⟨m2,h3,h4⟩:=ih2 h
  obtain ⟨m1,h1,h2⟩:=ih1 h3
  exact ⟨m1,h1,h2.trans h4⟩
theorem intsAre_append:∀ {us vs:List Value} {ms ns:List Int},IntsAre us ms→IntsAre vs ns→IntsAre (us ++ vs) (ms ++ ns)
 | _,_,_,_,.nil,h => h
 | _,_,_,_,.cons n t h,k => .cons n t (intsAre_append h k)
section
variable {prog:Program} {w:World} {A:Around} {E:Value→Shared→Prop} {s:Shared}
theorem stored_at {h:Heap} {a:Addr} {o:Obj} {es:Array (Int × Value)} {ep:Nat} {t:SetTable} (ho:h.get? a=some o) (hd:o.data = .set es ep t) (es' : Array (Int × Value)) (t' : SetTable) :
  (h.update a (Obj.putSet es' t')).get? a=some { o with data:=.set es' (ep + 1) t' }:=by
 have z:=Heap.get?_update_self (Obj.putSet es' t') ho (by rw [putSet_of es' t' hd]; rfl)
 rw [putSet_of es' t' hd] at z
 exact z
theorem add_end {g:Bool→Sem Unit} (hg:∀ (b:Bool) (s1:Shared) (R:Unit→Shared→Prop),R () s1→wpAny (model prog w) A (g b) R E s1) {a:Addr} {o:Obj} {es:Array (Int × Value)} {ep:Nat} {t:SetTable}
  (ho:s.heap.get? a=some o) (hx:o.ExactSet) (hd:o.data = .set es ep t) {es1:Array (Int × Value)} {t2:SetTable} {ns:List Int} (he:ElemsOf (intKind prog w) es1.toList) (hi:∃ ms,IntsAre (es1.toList.map (·.2)) ms∧ms.Perm ns)
  (hb:es1.size < scanBound) (hf:t2.fits es1.size=true) (tb:TB t2 (!w.params.followText "set-order")) {wd:Bool} {R:Option Bool→Shared→Prop} (h:∀ h',Heap.SameBut a s.heap h'→SetJ prog w h' a ns→R (some true) { s with heap:=h' }) :
  wpAny (model prog w) A (do
    storeSet a es1 t2
    if (!wd && t2.tooFull)=true then do
      g (relayAll t2 es1 (SetTable.grown es1.size)).2.2
      storeSet a (relayAll t2 es1 (SetTable.grown es1.size)).1 (relayAll t2 es1 (SetTable.grown es1.size)).2.1
      pure (some true)
     else pure (some true)) R E s:=by
 refine wpAny_bind (wpAny_storeSet_of ho hd ?_ (fits_of_scanBound hb))
 have o1:=stored_at ho hd es1 t2
 have b1:=Heap.SameBut.update s.heap a (Obj.putSet es1 t2)
 split
 ·have q1:=relayAll_perm t2 es1 (SetTable.grown es1.size)
  have q2:=relayAll_fits t2 es1 (SetTable.grown es1.size)
  have q3:=relayAll_tb tb es1 (SetTable.grown es1.size)
  generalize relayAll t2 es1 (SetTable.grown es1.size)=Z at q1 q2 q3 ⊢
  obtain ⟨es2,t3,gv⟩:=Z
  dsimp only at q1 q2 q3 ⊢
  have sz:es2.size=es1.size:=by rw [← Array.length_toList,q1.length_eq,Array.length_toList]
  refine wpAny_bind (hg _ _ _ (wpAny_bind (wpAny_storeSet_of o1 rfl (wpAny_pure (h _ (b1.trans (Heap.SameBut.update _ a _)) ?_)) (fits_of_scanBound (by rw [sz]; exact hb)))))
  obtain ⟨ms,i1,i2⟩:=hi
  obtain ⟨ms',i3,i4⟩:=intsAre_perm (q1.map (·.2)) i1
  exact ⟨_,es2,_,t3,stored_at o1 rfl es2 t3,hx,rfl,he.perm q1,⟨ms',i3,i4.trans i2⟩,by rw [sz]; exact hb,q2,q3⟩
 ·exact wpAny_pure (h _ b1 ⟨_,es1,_,t2,o1,hx,rfl,he,hi,hb,hf,tb⟩)
theorem tb_plain {t:SetTable} {led:Bool} (h:TB t led):TB { t with plain:=false } led:=⟨h.led,h.dum,h.up⟩
theorem setAdd_j {a:Addr} {ns:List Int} {k:Int} {tk:Tok} {Q:Bool→Shared→Prop} (hS:SetJ prog w s.heap a ns) (hroom:ns.length + 1 < scanBound)
  (h:∀ h',Heap.SameBut a s.heap h'→SetJ prog w h' a (if k ∈ ns then ns else ns ++ [k])→Q (!decide (k ∈ ns)) { s with heap:=h' }):wpAny (model prog w) A (setAddHashed a (.int k tk) ((intKind prog w).hash k)) Q E s:=by
 have hkey:=intKind_is prog w k tk
 have hsc:(Value.int k tk).scannable=true:=rfl
 obtain ⟨o,es,ep,t,ho,hx,hd,he,hi,hb,hf,tb⟩:=id hS
 have hn:=SetJ.size (prog:=prog) (w:=w) (o:=o) hi
 have hmem:k ∈ ns ↔ ∃ e ∈ es.toList,(intKind prog w).is k e.2=true:=by
  obtain ⟨ms,i1,i2⟩:=hi
  rw [← i2.mem_iff,intsAre_mem i1 k]
  constructor
  ·rintro ⟨u,hu,e⟩
   obtain ⟨z,hz,rfl⟩:=List.mem_map.mp hu
   exact ⟨z,hz,e⟩
  ·rintro ⟨z,hz,e⟩
   exact ⟨z.2,List.mem_map.mpr ⟨z,hz,rfl⟩,e⟩
 unfold setAddHashed setAddHashedIn
 refine wpAny_holding (wpAny_bind (wpAny_setState_of ho hd hf ?_))
 dsimp only
 rw [byScan_of hsc hb he]
 simp only [↓reduceIte]
 unfold setAddByScan
 refine wpAny_bind (wpAny_bind (wpAny_rule (wpAny_bind (wpAny_setScan_of hkey ho hd hf he ?_))))
 cases hr:List.findIdx? (fun e => (intKind prog w).is k e.2) es.toList with
 | some j =>
  dsimp only
  obtain ⟨hj,hpj,_⟩:=List.findIdx?_eq_some_iff_getElem.mp hr
  have hk:k ∈ ns:=hmem.mpr ⟨es.toList[j],List.getElem_mem hj,hpj⟩
  refine wpAny_pure (wpAny_pure ?_)
  have z:=h s.heap (Heap.SameBut.refl a s.heap) (by rw [if_pos hk]; exact hS)
  rw [decide_eq_true hk] at z
  exact z
 | none =>
  dsimp only
  have hk : ¬ k ∈ ns:=fun hk => by
   obtain ⟨e,hee,hp⟩:=hmem.mp hk
   have z:=List.findIdx?_eq_none_iff.mp hr e hee
   rw [hp] at z
   exact Bool.noConfusion z
  have hgw:∀ (b:Bool) {s1:Shared} {R:Unit→Shared→Prop},R () s1→wpAny (model prog w) A (match b with | true => rule "set.scan.the-table-gave-way" | false => pure ()) R E s1 :=
   fun b s1 R hq => by cases b <;> first | exact wpAny_pure hq | exact wpAny_rule hq
  have q1:=layNew_perm t es ((intKind prog w).hash k) (.int k tk)
  have q2:=layNew_fits t es ((intKind prog w).hash k) (.int k tk)
  have q3:=layNew_tb tb es ((intKind prog w).hash k) (.int k tk)
  generalize layNew t es ((intKind prog w).hash k) (.int k tk)=Z at q1 q2 q3 ⊢
  obtain ⟨es1,t1,wd,gv⟩:=Z
  dsimp only at q1 q2 q3 ⊢
  rw [Array.toList_push] at q1
  have he1:ElemsOf (intKind prog w) es1.toList:=(he.push hkey hsc).perm q1
  have sz:es1.size=es.size + 1:=by rw [← Array.length_toList,q1.length_eq,List.length_append,Array.length_toList]; rfl
  have hb1:es1.size < scanBound:=by rw [sz,hn]; exact hroom
  have hi1:∃ ms,IntsAre (es1.toList.map (·.2)) ms∧ms.Perm (ns ++ [k]):=by
   obtain ⟨ms,i1,i2⟩:=hi
   have i5:IntsAre ((es.toList ++ [((intKind prog w).hash k,Value.int k tk)]).map (·.2)) (ms ++ [k]):=by
    rw [List.map_append]
    exact intsAre_append i1 (.cons k tk .nil)
   obtain ⟨ms',i3,i4⟩:=intsAre_perm (q1.map (·.2)) i5
   exact ⟨ms',i3,i4.trans (i2.append_right _)⟩
  refine wpAny_bind (hgw _ ?_)
  have fin:∀ h',Heap.SameBut a s.heap h'→SetJ prog w h' a (ns ++ [k])→Q true { s with heap:=h' }:=fun h' sb j => by
   have z:=h h' sb (by rw [if_neg hk]; exact j)
   rw [decide_eq_false hk] at z
   exact z
  split
  ·refine wpAny_bind ?_
   rw [hashByValue_scannable 8 hsc]
   refine wpAny_pure (add_end ?_ ho hx hd he1 hi1 hb1 ?_ ?_ ?_)
   ·intro b s1 R hq; cases b <;> first | exact wpAny_pure hq | exact wpAny_rule hq
   ·split
    ·exact q2
    ·exact SetTable.fits_plain_off q2
   ·split
    ·exact q3
    ·exact tb_plain q3
   ·intro h' sb j; dsimp only; exact wpAny_pure (fin h' sb j)
  ·refine wpAny_bind (wpAny_pure ?_)
   simp only [↓reduceIte]
   refine add_end ?_ ho hx hd he1 hi1 hb1 q2 q3 ?_
   ·intro b s1 R hq; cases b <;> first | exact wpAny_pure hq | exact wpAny_rule hq
   ·intro h' sb j; dsimp only; exact wpAny_pure (fin h' sb j)
end
end L2
set_option maxHeartbeats 4000000
namespace L2
open PySem PySem.Spec PyProof.Rows
def ddStep (acc:List Int) (k:Int):List Int:=if k ∈ acc then acc else acc ++ [k]
def dd (ns:List Int):List Int:=ns.foldl ddStep []
theorem dd_snoc (ns:List Int) (k:Int):dd (ns ++ [k])=ddStep (dd ns) k:=by unfold dd; rw [List.foldl_append]; rfl
theorem dd_len:∀ ns:List Int,(dd ns).length ≤ ns.length:=by
 have:∀ (ns acc:List Int),(ns.foldl ddStep acc).length ≤ acc.length + ns.length:=by
  intro ns
  induction ns with
  | nil => intro acc; exact Nat.le_refl _
  | cons k ns ih =>
   intro acc
   have h:=ih (ddStep acc k)
   have h2:(ddStep acc k).length ≤ acc.length + 1:=by unfold ddStep; split <;> simp
   show (ns.foldl ddStep (ddStep acc k)).length ≤ acc.length + (ns.length + 1)
   omega
 intro ns
 have:=this ns []
 unfold dd
 simpa using this
theorem dd_mem (ns:List Int) (k:Int):k ∈ dd ns ↔ k ∈ ns:=by
 have:∀ (ns acc:List Int),k ∈ ns.foldl ddStep acc ↔ k ∈ acc ∨ k ∈ ns:=by
  intro ns
  induction ns with
  | nil => intro acc; simp
  | cons j ns ih =>
   intro acc
   show k ∈ ns.foldl ddStep (ddStep acc j) ↔ _
   rw [ih]
   unfold ddStep
   split
   ·rename_i h
    constructor
    ·rintro (z | z)
     ·exact .inl z
     ·exact .inr (List.mem_cons_of_mem _ z)
    ·rintro (z | z)
     ·exact .inl z
     ·rcases List.mem_cons.mp z with rfl | z
      ·exact .inl h
      ·exact .inr z
   ·simp [or_assoc]
 have:=this ns []
 unfold dd
 simpa using this
theorem dd_nodup (ns:List Int):(dd ns).Nodup:=by
 have:∀ (ns acc:List Int),acc.Nodup→(ns.foldl ddStep acc).Nodup:=by
  intro ns
  induction ns with
  | nil => intro acc h; exact h
  | cons j ns ih =>
   intro acc h
   refine ih _ ?_
   unfold ddStep
   split
   ·exact h
   ·rename_i hj
    rw [List.nodup_append]
    exact ⟨h,by simp,fun a ha b hb z => hj (by rw [← List.mem_singleton.mp hb,← z]; exact ha)⟩
 exact this ns [] List.nodup_nil
theorem SetJ.keep {prog:Program} {w:World} {h h' : Heap} {a:Addr} {ns:List Int} (x:SetJ prog w h a ns) (k:∀ o,h.get? a=some o→h'.get? a=some o):SetJ prog w h' a ns:=by
 obtain ⟨o,es,ep,t,ho,r⟩:=x
 exact ⟨o,es,ep,t,k o ho,r⟩
section
variable {prog:Program} {w:World} {A:Around} {R:Result→Shared→Prop} {J:Addr} {fp wr:List Addr} {G:Array GenState→Array GenState→Prop} {n:Nat} {P:Nat→Value→Prop} {St:Nat→Shared→Prop}
theorem update_j (Wk:WalksS prog w A.in1 J fp wr G n P St) (S:Addr) (hS:S ∉ fp) (ns:List Int) (hns:ns.length=n) (hv:∀ i v,P i v→∃ t,v = .int (ns.getD i 0) t) (hb:n + 1 < scanBound) :
  ∀ (c i:Nat) (s:Shared),n - i=c→i ≤ n→St i s→SetJ prog w s.heap S (dd (ns.take i))→(∀ s',Moved (S :: wr) G s s'→SetJ prog w s'.heap S (dd ns)→R (.ok (.ret .none)) s') →
   codeAny (model prog w) A (.builtin "set.update.loop" ⟨[.ref S,.ref J],[]⟩) R s:=by
 have nw:S ∉ wr:=fun h => hS (Wk.sub _ h)
 have sub:∀ b ∈ wr,b ∈ S :: wr:=fun b hb => List.mem_cons_of_mem _ hb
 intro c
 induction c with
 | zero =>
  intro i s hc hi st hj hR
  have e:i=n:=by omega
  subst e
  refine codeAny_builtin PyProof.Rows.F.entry_set_update_loop ?_
  rw [Around.under_plainId PyProof.Rows.F.plain_set_update_loop _]
  show wpAny _ A.in1 (pyNext (.ref J) >>= _) _ _ s
  refine wpAny_bind (Wk.done s _ _ st fun s' hm => ?_)
  show wpAny _ A.in1 (ret Value.none) _ _ s'
  rw [← hns,List.take_length] at hj
  exact wpAny_pure (hR s' (hm.mono sub) (hj.keep fun o ho => hm.heap S _ nw ho))
 | succ c ih =>
  intro i s hc hi st hj hR
  have lt:i < n:=by omega
  refine codeAny_builtin PyProof.Rows.F.entry_set_update_loop ?_
  rw [Around.under_plainId PyProof.Rows.F.plain_set_update_loop _]
  show wpAny _ A.in1 (pyNext (.ref J) >>= _) _ _ s
  refine wpAny_bind (Wk.item i s _ _ lt st fun v s' hP st' hm => ?_)
  obtain ⟨t,rfl⟩:=hv i v hP
  have hj' : SetJ prog w s'.heap S (dd (ns.take i)):=hj.keep fun o ho => hm.heap S _ nw ho
  have hlen:(dd (ns.take i)).length ≤ i:=Nat.le_trans (dd_len _) (by rw [List.length_take]; omega)
  have gi:ns[i]? = some (ns.getD i 0):=by rw [List.getD_eq_getElem?_getD,List.getElem?_eq_getElem (by omega)]; rfl
  show wpAny _ A.in1 (holding [Value.int (ns.getD i 0) t] (setAdd S (.int (ns.getD i 0) t)) >>= _) _ _ s'
  refine wpAny_bind (wpAny_holding ?_)
  unfold setAdd
  refine wpAny_holding (wpAny_bind ((intKind prog w).pyHash (k:=ns.getD i 0) (intKind_is _ _ _ _) ?_))
  refine setAdd_j (s:={ s' with toks:=s'.toks + 1 }) hj' (by omega) fun h2 sb j2 => ?_
  have j3:SetJ prog w h2 S (dd (ns.take (i + 1))):=by
   rw [take_succ' gi,dd_snoc]
   exact j2
  refine wpAny_pure ⟨plainId_quiet PyProof.Rows.F.plain_set_update_loop _,ih (i + 1) _ (by omega) lt (Wk.frame _ s' _ _ st' (Nat.le_succ _) fun b hb o e => ?_) j3 fun s3 hm3 hj3 => ?_⟩
  ·rw [sb.2 b (fun z:b=S => hS (by rw [← z]; exact hb))]; exact e
  ·refine hR s3 (Moved.trans Wk.gtrans ((hm.mono sub).then_heap (Nat.le_succ _) fun b o hb e => ?_) hm3) hj3
   rw [sb.2 b (fun z:b=S => hb (by rw [z]; exact List.mem_cons_self))]; exact e
end
section
variable {prog:Program} {w:World} {A:Around} {E:Value→Shared→Prop} {s:Shared}
theorem set_new_j (a:Value) {Q1:Value→Shared→Prop} (h:Q1 (.ref s.heap.objs.size) { s with heap:=s.heap.push { cls:=.type "set",dict:=none,data:=.set #[] 0 (.fresh 0 0 (!w.params.followText "set-order")) } }) :
  codeAny (model prog w) A (.call (.builtin "set.__new__") ⟨[.type "set",a],[]⟩) (wants Q1 E) s:=by
 refine codeAny_of_tree ?_
 show wpAny _ A.in1 (do checkBuiltinCall "set.__new__" ⟨[.type "set",a],[]⟩; again (.builtin "set.__new__" ⟨[.type "set",a],[]⟩)) _ _ s
 refine wpAny_bind (wpAny_of_eq (PySem.F.newCall_set_1 a) (wpAny_pure ⟨plainId_quiet PySem.F.plain_set_new _,codeAny_builtin PySem.F.entry_set_new ?_⟩))
 rw [Around.under_plainId PySem.F.plain_set_new _]
 unfold Builtin.«set.__new__» Builtin.Frozenset.newClass
 have hsub:=sub_set_self
 obtain ⟨hp,g,d,tk,os⟩:=s
 dsimp only
 wp_walk
 refine wpAny_askSetting (wpAny_pure ?_)
 dsimp only
 simp only [newObj]
 exact wpAny_bind (wpAny_alloc (wpAny_pure (wpAny_pure h)))
theorem fresh_j {h:Heap} {a:Addr} (ho:h.get? a=some { cls:=.type "set",dict:=none,data:=.set #[] 0 (.fresh 0 0 (!w.params.followText "set-order")) }):SetJ prog w h a [] :=
 ⟨_,#[],0,_,ho,⟨rfl,rfl,rfl⟩,rfl,fun e he => by simp at he,⟨[],.nil,.refl _⟩,by decide,by rfl,⟨rfl,rfl,List.Pairwise.nil⟩⟩
set_option maxHeartbeats 8000000 in
theorem set_of_list {l:Addr} {its:Array Value} {ns:List Int} {Q:Value→Shared→Prop} (hh:A.handled=none) (hl:s.heap.IsList l its) (hi:IntsAre its.toList ns) (hb:its.size + 1 < scanBound)
  (h:∀ (h' : Heap) (tk:Nat),SetJ prog w h' s.heap.objs.size (dd ns)→(∀ b o,b < s.heap.objs.size→s.heap.get? b=some o→h'.get? b=some o)→Q (.ref s.heap.objs.size) { s with heap:=h',toks:=tk }) :
  wpAny (model prog w) A (call (.type "set") [.ref l]) Q E s:=by
 obtain ⟨c,tl,hmro⟩:=PySem.F.called_set.mro
 have hmade:=PySem.F.called_set.made
 have hsub:=PySem.F.called_set.sub
 refine wpAny_call (codeAny_of_tree ?_)
 show wpAny _ _ (callAny (.type "set") _) _ _ _
 refine wpAny_pure ⟨Code.quiet_builtin _ (by decide +kernel),codeAny_builtin PySem.F.entry_type_call ?_⟩
 rw [Around.under_plain (weight_type_call_type "set" [.ref l] []) rfl]
 have x1:=PySem.F.called_set.notType
 have x2:=PySem.F.called_set.canCreate
 have x3:=PySem.F.typeCall_set_1 (.ref l)
 repeat (any_goals (first | assumption | wp_step))
 refine codeAny_mono (set_new_j (.ref l) (E:=E) (Q1:=fun ob s1 => ob = .ref s.heap.objs.size∧s1 = { s with heap:=s.heap.push { cls:=.type "set",dict:=none,data:=.set #[] 0 (.fresh 0 0 (!w.params.followText "set-order")) } }) ⟨rfl,rfl⟩) fun r s1 hr => ?_
 cases r with
 | error e => exact hr
 | ok fl =>
  cases fl with
  | ret ob =>
   obtain ⟨rfl,rfl⟩:=hr
   generalize hled:(!w.params.followText "set-order")=led
   have hS:(s.heap.push { cls:=.type "set",dict:=none,data:=.set #[] 0 (.fresh 0 0 led) }).get? s.heap.objs.size=some { cls:=.type "set",dict:=none,data:=.set #[] 0 (.fresh 0 0 led) }:=Heap.get?_push_size _ rfl
   have hT:Shared.TypeIs { s with heap:=s.heap.push { cls:=.type "set",dict:=none,data:=.set #[] 0 (.fresh 0 0 led) } } (.ref s.heap.objs.size) "set" := ⟨_,hS,rfl⟩
   have y1:=PySem.F.called_set.init.lookup
   have y2:=PySem.F.called_set.init.bind (.ref s.heap.objs.size)
   repeat (any_goals (first | assumption | wp_step))
   refine codeAny_mono (codeAny_call_builtin (R:=wants (fun r s2 => r = .none∧∃ h' tk,s2 = { s with heap:=h',toks:=tk }∧SetJ prog w h' s.heap.objs.size (dd ns)∧(∀ b o,b < s.heap.objs.size→s.heap.get? b=some o→h'.get? b=some o)) E)
    PySem.F.called_set.init.plain PySem.F.entry_set_init (check_set_init_1 hT ?_)) fun r2 s2 hr2 => ?_
   ·obtain ⟨ol,hol,hcl,nl,hdl⟩:=hl
    obtain ⟨ocls,odict,odata,oslots⟩:=ol
    simp only at hcl hdl
    subst hcl; subst hdl
    have hol' : (s.heap.push { cls:=.type "set",dict:=none,data:=.set #[] 0 (.fresh 0 0 led) }).get? l=some { cls:=.type "list",dict:=odict,data:=.seq its nl,slots:=oslots }:=Heap.get?_push_of_some _ hol
    have v1:=PySem.F.sub_list_set
    have v2:=PySem.F.sub_list_frozenset
    have v3:(Value.type "list" == Value.type "dict")=false:=by decide
    have hl1:(s.heap.push { cls:=.type "set",dict:=none,data:=.set #[] 0 (.fresh 0 0 led) }).IsList l its:=⟨_,hol',rfl,nl,rfl⟩
    unfold Builtin.«set.__init__» noKeywords Builtin.Frozenset.updateFrom
    generalize hPI:pyIter=PI
    wp_walk
    subst hPI
    refine wpAny_pyIter_list (l:=l) hl1 ?_
    refine wpAny_bind (m:=runValue _) (wpAny_runValue ?_)
    have ll:l < s.heap.objs.size:=Heap.lt_size hol
    have h3:A.in1.in1.in1.handled=none:=by simp [hh]
    have n1:l ≠ (s.heap.push { cls:=.type "set",dict:=none,data:=.set #[] 0 (.fresh 0 0 led) }).objs.size:=by rw [Heap.size_push]; exact Nat.ne_of_lt (Nat.lt_succ_of_lt ll)
    have n2:s.heap.objs.size ∉ [(s.heap.push { cls:=.type "set",dict:=none,data:=.set #[] 0 (.fresh 0 0 led) }).objs.size,l]:=by
     rw [Heap.size_push]
     simp only [List.mem_cons,List.mem_singleton,List.not_mem_nil,or_false,not_or]
     exact ⟨Nat.ne_of_lt (Nat.lt_succ_self _),Nat.ne_of_gt ll⟩
    have hln:ns.length=its.size:=by rw [← hi.length,Array.length_toList]
    refine update_j ((Walks.list h3 _ l n1 its).toS) s.heap.objs.size n2 ns hln (fun i v hv => IntsAre.int_at hi i v (by rw [Array.getElem?_toList]; exact hv)) hb (its.size - 0) 0 _ (by omega) (Nat.zero_le _) ⟨⟨_,Heap.get?_push_size _ rfl,rfl,rfl⟩,(hl1.push _)⟩ ?_ ?_
    ·exact fresh_j (by rw [hled]; exact Heap.get?_push_of_some _ hS)
    ·intro s' hm hj
     obtain ⟨h',g',d',tk',os'⟩:=s'
     have eg:g' = s.gens:=hm.gens
     have ed:d' = s.drawn:=hm.drawn
     have eo:os' = s.os:=hm.os
     subst eg; subst ed; subst eo
     show wpAny _ _ _ _ _ _
     refine wpAny_pure ?_
     show wpAny _ _ (ret Value.none) _ _ _
     refine wpAny_pure ⟨rfl,h',tk',rfl,hj,fun b o hb e => ?_⟩
     have b1:b ≠ s.heap.objs.size:=Nat.ne_of_lt hb
     have b2:b ≠ (s.heap.push { cls:=.type "set",dict:=none,data:=.set #[] 0 (.fresh 0 0 led) }).objs.size:=by rw [Heap.size_push]; exact Nat.ne_of_lt (Nat.lt_succ_of_lt hb)
     exact hm.heap b o (by simp only [List.mem_cons,List.mem_singleton,List.not_mem_nil,or_false,not_or]; exact ⟨b1,b2⟩) (Heap.get?_push_of_some _ (Heap.get?_push_of_some _ e))
   ·cases r2 with
    | error e => exact hr2
    | ok f2 =>
     cases f2 with
     | ret r =>
      obtain ⟨rfl,h',tk,rfl,hj,hk⟩:=hr2
      repeat (any_goals (first | assumption | wp_step))
      exact h _ _ hj hk
     | _ => exact hr2.elim
  | _ => exact hr.elim
end
end L2
namespace L2
open PySem PySem.Spec PyProof.Rows
theorem sti_owner:Manifest.owners.lookup (String.ofList ['r','o','t','a','r','e','t','i','_','t','e','s'].reverse)=some Manifest.sig_set_iterator:=by kernel_rfl
theorem sti_next:Slot "set_iterator" "__next__" "set_iterator.__next__" := .of (owner := "set_iterator") (n := "__next__") (by rw [typeLookup_type,builtinLookup_eq_fast]; kernel_rfl) (by decide +kernel) (by decide +kernel) (by decide +kernel) (by first | exact .inl (by decide +kernel) | exact .inr (by decide +kernel)) (by rw [isSubtype_type]; kernel_rfl)
theorem sti_entry:entryFor table "set_iterator.__next__" = some Builtin.«set_iterator.__next__»:=entryFor_of_tree (by kernel_rfl)
theorem sti_args (a:Value):argsOk "set_iterator.__next__" ⟨[a],[]⟩:=by
 unfold argsOk
 rw [signature?_of (id := "set_iterator.__next__") (n:=['_','_','t','x','e','n','_','_']) (o:=['r','o','t','a','r','e','t','i','_','t','e','s']) (by kernel_rfl) sti_owner]
 kernel_rfl
theorem sti_iter:Slot "set_iterator" "__iter__" "set_iterator.__iter__" := .of (owner := "set_iterator") (n := "__iter__") (by rw [typeLookup_type,builtinLookup_eq_fast]; kernel_rfl) (by decide +kernel) (by decide +kernel) (by decide +kernel) (by first | exact .inl (by decide +kernel) | exact .inr (by decide +kernel)) (by rw [isSubtype_type]; kernel_rfl)
theorem sti_iargs (a:Value):argsOk "set_iterator.__iter__" ⟨[a],[]⟩:=by
 unfold argsOk
 rw [signature?_of (id := "set_iterator.__iter__") (n:=['_','_','r','e','t','i','_','_']) (o:=['r','o','t','a','r','e','t','i','_','t','e','s']) (by kernel_rfl) sti_owner]
 kernel_rfl
theorem sti_ientry:entryFor table "set_iterator.__iter__" = some Builtin.«dict_keyiterator.__iter__» :=
 entryFor_alias (id' := "dict_keyiterator.__iter__") (by kernel_rfl) (by first | rfl | decide +kernel | (unfold String.splitOn; simp +decide [String.splitOnAux])) (by decide +kernel) (by kernel_rfl)
theorem st_ientry:entryFor table "set.__iter__" = some Builtin.«frozenset.__iter__»:=entryFor_alias (id' := "frozenset.__iter__") (by kernel_rfl) rfl (by decide +kernel) (by kernel_rfl)
theorem erase_perm {α:Type} : ∀ {l:List α} {i:Nat} (hi:i < l.length),(l[i] :: l.eraseIdx i).Perm l
 | [],i,hi => by simp at hi
 | a :: l,0,hi => .refl _
 | a :: l,i + 1,hi => by
  have hi' : i < l.length:=by simpa using hi
  have:=erase_perm hi'
  show (l[i] :: a :: l.eraseIdx i).Perm (a :: l)
  exact (List.Perm.swap ..).trans (this.cons a)
section
variable {prog:Program} {w:World} {A:Around} {E:Value→Shared→Prop} {s:Shared}
theorem choose_any {src:Source} {n:Nat} {Q:Nat→Shared→Prop} (hn:n ≠ 0) (h:∀ i d',i < n→Q i { s with drawn:=d' }):wpAny (model prog w) A (choose src n) Q E s:=fun Γ p _ => by
 show Sem.wp _ _ (.choose src n .pure) _ _ _ _
 rw [Sem.wp]
 refine ⟨hn,?_⟩
 rw [Sem.wp]
 exact h _ _ (Nat.mod_lt _ (by omega))
theorem drawOrder_perm {α:Type} : ∀ (n:Nat) (xs:List α) (s:Shared) {Q:List α→Shared→Prop},xs.length=n→(∀ ys d',ys.Perm xs→Q ys { s with drawn:=d' })→wpAny (model prog w) A (drawOrder n xs) Q E s
 | 0,xs,s,Q,hl,h => by
  have:xs=[]:=List.eq_nil_of_length_eq_zero hl
  subst this
  unfold drawOrder
  exact wpAny_pure (h [] s.drawn (.refl _))
 | n + 1,[],s,Q,hl,h => by simp at hl
 | n + 1,x :: xs,s,Q,hl,h => by
  unfold drawOrder
  refine wpAny_bind (choose_any (by simp) fun i d' hi => ?_)
  have e:(x :: xs)[i]? = some (x :: xs)[i]:=List.getElem?_eq_getElem hi
  rw [e]
  dsimp only
  refine wpAny_bind (drawOrder_perm n _ _ (by rw [List.length_eraseIdx_of_lt hi]; omega) fun ys d2 hp => wpAny_pure (h _ d2 ?_))
  have hq:((x :: xs)[i] :: (x :: xs).eraseIdx i).Perm (x :: xs):=(erase_perm hi)
  exact (hp.cons _).trans hq
end
theorem pick_go {α:Type} (next:Nat→Nat):∀ (fuel k:Nat) (left:List α) (out:Array α),left.length=fuel→(pickOrder.go next fuel k left out).toList.Perm (out.toList ++ left)
 | 0,k,left,out,h => by
  have:left=[]:=List.eq_nil_of_length_eq_zero h
  subst this
  unfold pickOrder.go
  simp
 | fuel + 1,k,left,out,h => by
  unfold pickOrder.go
  have hi:next k % left.length < left.length:=Nat.mod_lt _ (by omega)
  rw [List.getElem?_eq_getElem hi]
  dsimp only
  refine (pick_go next fuel (k + 1) _ _ (by rw [List.length_eraseIdx_of_lt hi]; omega)).trans ?_
  rw [Array.toList_push,List.append_assoc]
  exact (erase_perm hi).append_left _
theorem pick_perm {α:Type} (next:Nat→Nat) (xs:Array α):(pickOrder next xs).toList.Perm xs.toList:=by
 unfold pickOrder
 have:=pick_go next xs.size 0 xs.toList #[] (by simp)
 simpa using this
end L2
namespace L2
open PySem PySem.Spec PyProof.Rows
def setIt (S:Addr) (first:Value) (i n ep:Nat):Obj:={ cls:=.type "set_iterator",data:=.fields #[first,rawInt i,.ref S,rawInt n,rawInt ep] }
structure Order (w:World) (S:Addr) (es:Array (Int × Value)) (ep:Nat) (t:SetTable) (T:Addr) where
 ord:List Value
 first:Nat→Value
 tup:Option (Array Value)
 perm:ord.Perm (es.toList.map (·.2))
 how:(w.params.followText "set-order" = true∧tup=none∧(∀ i,first i=rawInt 0)∧ord=(pickOrder (w.params.setOrder S ep) es).toList.map (·.2)) ∨
  (w.params.followText "set-order" = false∧(!t.plain && decide (es.size > 1))=false∧tup=none∧(∀ i,first i=rawInt ((if i=0 then 0 else t.place.getD (i - 1) 0 + 1:Nat):Int))∧ord=es.toList.map (·.2)) ∨
  (w.params.followText "set-order" = false∧∃ ps:List Nat,tup=some (ps.map fun (i:Nat) => rawInt i).toArray∧ps.Perm (List.range es.size)∧(∀ i,first i = .ref T)∧ord=ps.filterMap fun i => (es[i]?).map (·.2))
def StI (S I T:Addr) (o:Obj) (n ep:Nat) (first:Nat→Value) (tup:Option (Array Value)) (i:Nat) (h:Heap):Prop :=
 h.get? S=some o∧h.get? I=some (setIt S (first i) i n ep)∧∀ ps,tup=some ps→h.get? T=some { cls:=.type "tuple",data:=.seq ps }
section
variable {prog:Program} {w:World} {A:Around} {E:Value→Shared→Prop} {s:Shared} {S I T:Addr} {o:Obj} {es:Array (Int × Value)} {ep:Nat} {t:SetTable}
theorem setNext_j {slot given:Nat} {Q:Option (Value × Nat)→Shared→Prop} (O:Order w S es ep t T) (hnt:O.tup=none) (ho:s.heap.get? S=some o) (hd:o.data = .set es ep t) (hf:t.fits es.size=true) (tb:TB t (!w.params.followText "set-order"))
  (hsl:O.first given=rawInt slot) (hg:given ≤ es.size)
  (h:∀ x,O.ord[given]? = some x→∀ nx:Nat,O.first (given + 1)=rawInt nx→Q (some (x,nx)) s) (h2:O.ord[given]? = none→Q none s):wpAny (model prog w) A (setNext S slot given ep) Q E s:=by
 unfold setNext
 refine wpAny_bind (wpAny_setState_of ho hd hf ?_)
 dsimp only
 unfold setsByText
 refine wpAny_bind (wpAny_bind (wpAny_askSetting (wpAny_pure ?_)))
 show wpAny _ _ (if w.params.followText "set-order" = true then _ else _) _ _ _
 rcases O.how with ⟨bt,_,hfi,hor⟩ | ⟨bt,dr,_,hfi,hor⟩ | ⟨bt,ps,ht,_⟩
 ·rw [if_pos bt,if_neg (by simp)]
  have e0:slot=0:=by
   have:=hfi given
   rw [hsl] at this
   simp [rawInt] at this
   omega
  subst e0
  refine wpAny_bind ?_
  unfold setWalk
  refine wpAny_bind (wpAny_setState_of ho hd hf ?_)
  dsimp only
  unfold setsByText
  refine wpAny_bind (wpAny_bind (wpAny_askSetting (wpAny_pure ?_)))
  show wpAny _ _ (if w.params.followText "set-order" = true then _ else _) _ _ _
  rw [if_pos bt]
  refine wpAny_bind (wpAny_askSetting (wpAny_pure (wpAny_pure ?_)))
  show Q (Option.map (fun e => (e.snd,0)) (pickOrder (w.params.setOrder S ep) es)[given]?) s
  have eo:O.ord[given]? = Option.map (·.2) (pickOrder (w.params.setOrder S ep) es)[given]?:=by rw [hor,List.getElem?_map,Array.getElem?_toList]
  cases hp:(pickOrder (w.params.setOrder S ep) es)[given]? with
  | none => rw [hp] at eo; exact h2 eo
  | some x => rw [hp] at eo; exact h _ eo 0 (hfi _)
 ·rw [if_neg (by rw [bt]; decide)]
  show wpAny _ _ (if (!t.plain && decide (es.size > 1))=true then _ else _) _ _ _
  rw [if_neg (by rw [dr]; decide)]
  have hled:t.led=true:=by rw [tb.led,bt]; rfl
  refine wpAny_bind ?_
  show wpAny _ _ (if (!t.led && !es.isEmpty)=true then _ else _) _ _ _
  rw [if_neg (by rw [hled]; simp)]
  refine wpAny_pure (wpAny_pure ?_)
  have psz:t.place.size=es.size:=by
   unfold SetTable.fits at hf
   simp at hf
   exact hf.1
  have hs2:slot=if given=0 then 0 else t.place.getD (given - 1) 0 + 1:=by
   have z:=hfi given
   rw [hsl] at z
   exact Int.ofNat.inj (Value.int.inj z).1
  have hbl:SetTable.below t.place slot=given:=below_next tb.up (by omega) hs2
  rw [hbl]
  have eo:O.ord[given]? = Option.map (·.2) es[given]?:=by rw [hor,List.getElem?_map,Array.getElem?_toList]
  by_cases hlt:given < es.size
  ·rw [Array.getElem?_eq_getElem hlt] at eo ⊢
   rw [Array.getElem?_eq_getElem (by omega:given < t.place.size)]
   refine h _ eo _ ?_
   rw [hfi]
   simp only [Nat.add_one_sub_one,Nat.add_eq_zero_iff,Nat.one_ne_zero,and_false,if_false]
   rw [Array.getD_eq_getD_getElem?,Array.getElem?_eq_getElem (by omega:given < t.place.size)]
   rfl
  ·rw [Array.getElem?_eq_none (by omega)] at eo ⊢
   exact h2 eo
 ·rw [hnt] at ht; cases ht
theorem stop_j {α:Type} {R:α→Shared→Prop} {Ex:Value→Shared→Prop} (hh:A.handled=none) (h:∀ e h',(∀ b ob,s.heap.get? b=some ob→h'.get? b=some ob)→(∃ ob,h'.get? e=some ob∧ob.cls = .type "StopIteration")→Ex (.ref e) { s with heap:=h' }) :
  wpAny (model prog w) A (newExc (.type "StopIteration") [] >>= fun e => (raiseNew e:Sem α)) R Ex s:=by
 refine wpAny_bind ?_
 simp only [newExc,newTuple]
 refine wpAny_bind (wpAny_newObj_type ?_ (by size_fits))
 refine wpAny_bind (m:=firstArgMember _ _) (wpAny_of_eq (a:=Value.none) (by first | rfl | (simp only [firstArgMember]; rfl)) ?_)
 refine wpAny_newObj_type ?_ (by size_fits)
 simp only [raiseNew]
 refine wpAny_bind (wpAny_handled ?_)
 rw [hh]
 exact wpAny_bind (wpAny_pure (wpAny_throw (h _ _ (fun b ob z => Heap.get?_push_of_some _ (Heap.get?_push_of_some _ z)) ⟨_,Heap.get?_push_size _ rfl,rfl⟩)))
theorem next_j (O:Order w S es ep t T) (hIS:I ≠ S) (hIT:I ≠ T) (hh:A.handled=none) (hd:o.data = .set es ep t) (hf:t.fits es.size=true) (tb:TB t (!w.params.followText "set-order")) {i:Nat} (hi:i ≤ es.size)
  (st:StI S I T o es.size ep O.first O.tup i s.heap) {Q:Option Value→Shared→Prop}
  (h:∀ x h',O.ord[i]? = some x→StI S I T o es.size ep O.first O.tup (i + 1) h'→(∀ b ob,b ≠ I→s.heap.get? b=some ob→h'.get? b=some ob)→Q (some x) { s with heap:=h' })
  (h2:∀ h',O.ord[i]? = none→(∀ b ob,b ≠ I→s.heap.get? b=some ob→h'.get? b=some ob)→Q none { s with heap:=h' }):wpAny (model prog w) A (pyNext (.ref I)) Q E s:=by
 obtain ⟨ho,hit,htp⟩:=st
 have hT:s.TypeIs (.ref I) "set_iterator" := ⟨_,hit,rfl⟩
 unfold pyNext
 refine wpAny_bind (wpAny_attempt (wpAny_callSpecial?_slot (name:=Str.ofString "__next__") hT sti_next (wpAny_call_entry sti_next hT sti_entry ?_ (sti_args _))))
 unfold Builtin.«set_iterator.__next__»
 refine wpAny_bind (wpAny_of_eq (a:=(Value.ref I,[])) rfl ?_)
 try dsimp only
 refine wpAny_bind (wpAny_fieldsOf hit rfl ?_)
 show wpAny _ _ (setEntries S >>= _) _ _ _
 refine wpAny_bind (wpAny_setEntries_of ho hd hf ?_)
 show wpAny _ _ (if (((es.size:Nat):Int) != ((es.size:Nat):Int))=true then _ else _) _ _ _
 rw [if_neg (by simp)]
 cases hfst:O.tup with
 | none =>
  have hcase:∃ slot:Nat,O.first i=rawInt slot:=by
   rcases O.how with ⟨_,_,hfi,_⟩ | ⟨_,_,_,hfi,_⟩ | ⟨_,ps,ht,_⟩
   ·exact ⟨0,hfi i⟩
   ·exact ⟨_,hfi i⟩
   ·rw [hfst] at ht; cases ht
  obtain ⟨slot,hsl⟩:=hcase
  rw [hsl] at hit ⊢
  show wpAny _ _ (setNext S slot i ep >>= _) _ _ _
  refine wpAny_bind (setNext_j O hfst ho hd hf tb hsl hi (fun x hx nx hnx => ?_) (fun hx => ?_))
  ·show wpAny _ _ (setField (Value.ref I) 0 (rawInt nx) >>= fun _ => setField (Value.ref I) 1 (rawInt ((i:Int) + 1)) >>= fun _ => ret x) _ _ _
   refine wpAny_bind (wpAny_setField_rec hit (by simp) fun h1 e1 b1 => wpAny_bind (wpAny_setField_rec (s:={ s with heap:=h1 }) e1 (by simp) fun h3 e3 b3 => wpAny_pure ⟨_,rfl,wpAny_pure ?_⟩))
   have kp:∀ b ob,b ≠ I→s.heap.get? b=some ob→h3.get? b=some ob:=fun b ob hb z => b3.extBut b ob hb (b1.extBut b ob hb z)
   refine h x h3 hx ⟨kp S _ (Ne.symm hIS) ho,?_,fun ps hp => by rw [hfst] at hp; cases hp⟩ kp
   rw [e3,hnx]
   simp [setIt]
  ·show wpAny _ _ (setField (Value.ref I) 2 Value.none >>= fun _ => newExc (Value.type "StopIteration") [] >>= fun e => raiseNew e) _ _ _
   refine wpAny_bind (wpAny_setField_rec hit (by simp) fun h1 e1 b1 => stop_j (s:={ s with heap:=h1 }) hh fun e h3 kp ⟨ob,hob,hc⟩ => ?_)
   refine wpAny_bind (wpAny_isInstance (T := "StopIteration") (b:=true) ⟨ob,hob,hc⟩ isSubtype_stop (wpAny_pure ?_))
   exact h2 h3 hx fun b ob hb z => kp b ob (b1.extBut b ob hb z)
 | some ps =>
  have hcase:O.first i = .ref T:=by
   rcases O.how with ⟨_,ht,_⟩ | ⟨_,_,ht,_⟩ | ⟨_,qs,ht,_,hfi,_⟩
   ·rw [hfst] at ht; cases ht
   ·rw [hfst] at ht; cases ht
   ·exact hfi i
  rw [hcase] at hit ⊢
  have hTo:=htp ps hfst
  obtain ⟨qs,eps,hqp,hfi,hor⟩:∃ qs:List Nat,ps=(qs.map fun (i:Nat) => rawInt i).toArray∧qs.Perm (List.range es.size)∧(∀ i,O.first i = .ref T)∧O.ord=qs.filterMap fun i => (es[i]?).map (·.2):=by
   rcases O.how with ⟨_,ht,_⟩ | ⟨_,_,ht,_⟩ | ⟨_,qs,ht,h3,h4,h5⟩
   ·rw [hfst] at ht; cases ht
   ·rw [hfst] at ht; cases ht
   ·rw [hfst] at ht; cases ht; exact ⟨qs,rfl,h3,h4,h5⟩
  have qin:∀ q ∈ qs,q < es.size:=fun q hq => List.mem_range.mp (hqp.mem_iff.mp hq)
  have ogt:∀ n:Nat,O.ord[n]? = (qs[n]?).bind fun q => (es[q]?).map (·.2):=by
   rw [hor]
   clear hor eps hqp hTo hfst
   induction qs with
   | nil => intro n; simp
   | cons q qs ih =>
    intro n
    have hq:=qin q List.mem_cons_self
    rw [List.filterMap_cons_some (b:=es[q].2) (by rw [Array.getElem?_eq_getElem hq]; rfl)]
    cases n with
    | zero => simp [Array.getElem?_eq_getElem hq]
    | succ n => simpa using ih (fun z hz => qin z (List.mem_cons_of_mem _ hz)) n
  show wpAny _ _ (seqItems? (Value.ref T) >>= _) _ _ _
  refine wpAny_bind (wpAny_seqItems hTo rfl ?_)
  have epi:ps[((i:Nat):Int).toNat]? = (qs[i]?).map fun (q:Nat) => rawInt q:=by rw [eps]; simp
  show wpAny _ _ (match ps[((i:Nat):Int).toNat]? with | some (Value.int place tok) => _ | some val => _ | none => _) _ _ _
  rw [epi]
  cases hqi:qs[i]? with
  | some q =>
   have hql:=qin q (List.mem_of_getElem? hqi)
   show wpAny _ _ (setNextDrawn S q ep >>= fun x => setField (Value.ref I) 1 (rawInt ((i:Int) + 1)) >>= fun _ => ret x) _ _ _
   refine wpAny_bind ?_
   unfold setNextDrawn
   refine wpAny_bind (wpAny_setState_of ho hd hf ?_)
   dsimp only
   rw [if_neg (by simp)]
   refine wpAny_bind (wpAny_pure ?_)
   rw [Array.getElem?_eq_getElem hql]
   refine wpAny_pure ?_
   show wpAny _ _ (setField (Value.ref I) 1 (rawInt ((i:Int) + 1)) >>= fun _ => ret es[q].2) _ _ _
   refine wpAny_bind (wpAny_setField_rec hit (by simp) fun h3 e3 b3 => wpAny_pure ⟨_,rfl,wpAny_pure ?_⟩)
   refine h _ h3 (by rw [ogt,hqi]; simp [Array.getElem?_eq_getElem hql]) ⟨b3.extBut S _ (Ne.symm hIS) ho,?_,fun qs' hp => b3.extBut T _ (Ne.symm hIT) (htp qs' hp)⟩ fun b ob hb z => b3.extBut b ob hb z
   rw [e3,hfi]
   simp [setIt]
  | none =>
   show wpAny _ _ (setField (Value.ref I) 0 (rawInt 0) >>= fun _ => setField (Value.ref I) 2 Value.none >>= fun _ => newExc (Value.type "StopIteration") [] >>= fun e => raiseNew e) _ _ _
   refine wpAny_bind (wpAny_setField_rec hit (by simp) fun h0 e0 b0 => wpAny_bind (wpAny_setField_rec (s:={ s with heap:=h0 }) e0 (by simp) fun h1 e1 b1 => stop_j (s:={ s with heap:=h1 }) hh fun e h3 kp ⟨ob,hob,hc⟩ => ?_))
   refine wpAny_bind (wpAny_isInstance (T := "StopIteration") (b:=true) ⟨ob,hob,hc⟩ isSubtype_stop (wpAny_pure ?_))
   exact h2 h3 (by rw [ogt,hqi]; rfl) fun b ob hb z => kp b ob (b1.extBut b ob hb (b0.extBut b ob hb z))
theorem order_len (O:Order w S es ep t T):O.ord.length=es.size:=by rw [O.perm.length_eq]; simp
theorem walks_j (O:Order w S es ep t T) (hIS:I ≠ S) (hIT:I ≠ T) (hh:A.handled=none) (hd:o.data = .set es ep t) (hf:t.fits es.size=true) (tb:TB t (!w.params.followText "set-order")) :
  Walks prog w A I [I,S,T] [I] es.size (fun i v => O.ord[i]? = some v) (fun i h => i ≤ es.size∧StI S I T o es.size ep O.first O.tup i h) where
 sub:=fun b hb => by rw [List.mem_singleton.mp hb]; simp
 frame:=fun i h h' x k => ⟨x.1,k S (by simp) _ x.2.1,k I (by simp) _ x.2.2.1,fun ps hp => k T (by simp) _ (x.2.2.2 ps hp)⟩
 item:=fun i s Q E hi x hQ => next_j O hIS hIT hh hd hf tb x.1 x.2 (fun v h' hv st kp => hQ v h' s.toks hv ⟨hi,st⟩ fun b ob hb z => kp b ob (by simpa using hb) z) (fun h' hn _ => by
  rw [List.getElem?_eq_none_iff,order_len O] at hn
  omega)
 done:=fun s Q E x hQ => next_j O hIS hIT hh hd hf tb x.1 x.2 (fun v h' hv _ _ => by
  have:=(List.getElem?_eq_some_iff.mp hv).1
  rw [order_len O] at this
  omega) (fun h' _ kp => hQ h' s.toks fun b ob hb z => kp b ob (by simpa using hb) z)
 self:=fun i s Q E x hQ => by
  have hT:s.TypeIs (.ref I) "set_iterator" := ⟨_,x.2.2.1,rfl⟩
  refine wpAny_pyIter_slot hT sti_iter (wpAny_call_entry sti_iter hT sti_ientry ?_ (sti_iargs _))
  show wpAny _ _ (ret (.ref I)) _ _ s
  exact wpAny_pure ⟨_,rfl, "set_iterator",_,hT,sti_next.lookup,hQ⟩
end
end L2
namespace L2
open PySem PySem.Spec PyProof.Rows
section
variable {prog:Program} {w:World} {A:Around} {E:Value→Shared→Prop} {s:Shared} {S I T:Addr} {o:Obj} {es:Array (Int × Value)} {ep:Nat} {t:SetTable}
theorem iter_j {Q:Value→Shared→Prop} (ho:s.heap.get? S=some o) (hx:o.ExactSet) (hd:o.data = .set es ep t) (hf:t.fits es.size=true) (hb:es.size < scanBound)
  (h:∀ (T I:Addr) (O:Order w S es ep t T) h' d',I ≠ S→I ≠ T→s.heap.objs.size ≤ I→(T=S ∨ s.heap.objs.size ≤ T)→StI S I T o es.size ep O.first O.tup 0 h'→(∀ b ob,s.heap.get? b=some ob→h'.get? b=some ob)→Q (.ref I) { s with heap:=h',drawn:=d' }) :
  wpAny (model prog w) A (pyIter (.ref S)) Q E s:=by
 have hT:s.TypeIs (.ref S) "set" := ⟨o,ho,hx.1⟩
 have hSl:S < s.heap.objs.size:=Heap.lt_size ho
 refine wpAny_pyIter_slot hT PySem.F.slot_set_iter (wpAny_call_entry PySem.F.slot_set_iter hT st_ientry ?_ (PySem.F.args_set_iter_1 _))
 unfold Builtin.«frozenset.__iter__» Builtin.Frozenset.slot0 slotArgs
 simp only [List.isEmpty_nil,Bool.not_true,Bool.false_eq_true,↓reduceIte,bind_assoc,List.length_nil,bne_self_eq_false]
 unfold Builtin.Frozenset.addrOf Builtin.Frozenset.sizeOf
 refine wpAny_bind (wpAny_pure ?_)
 try dsimp only
 refine wpAny_bind (wpAny_pure ?_)
 refine wpAny_bind (wpAny_bind (wpAny_setEntries_of ho hd hf (wpAny_pure ?_)))
 unfold setDrawn
 refine wpAny_bind (wpAny_bind (wpAny_setState_of ho hd hf ?_))
 dsimp only
 unfold setsByText
 refine wpAny_bind (wpAny_bind (wpAny_askSetting (wpAny_pure (wpAny_pure ?_))))
 show wpAny _ _ (if (!w.params.followText "set-order" && (!t.plain && decide (es.size > 1)))=true then _ else _) _ _ _
 have easy:∀ (O:Order w S es ep t S),O.tup=none→O.first 0=rawInt 0→wpAny (model prog w) A.in1 (do
   let first ← pure (rawInt 0)
   let e ← setEpoch S
   let z ← newFields "set_iterator" [first,rawInt 0,Value.ref S,rawInt es.size,rawInt e]
   ret z) (fun fin s' => ∃ v,fin=Fin.done (Flow.ret v)∧∃ T' r,s'.TypeIs v T'∧typeLookup (Value.type T') (Str.ofString "__next__")=pure (some r)∧Q v s') E s:=fun O ht hf0 => by
  refine wpAny_bind (wpAny_pure (wpAny_bind (wpAny_setEpoch_of ho hd hf ?_)))
  unfold newFields
  refine wpAny_bind (wpAny_newObj_type (wpAny_pure ⟨_,rfl, "set_iterator",_,⟨_,Heap.get?_push_size _ rfl,rfl⟩,sti_next.lookup,?_⟩))
  refine h S _ O _ s.drawn (Nat.ne_of_gt hSl) (Nat.ne_of_gt hSl) (Nat.le_refl _) (.inl rfl) ⟨Heap.get?_push_of_some _ ho,?_,fun ps hp => by rw [ht] at hp; cases hp⟩ (fun b ob z => Heap.get?_push_of_some _ z)
  rw [hf0]
  exact Heap.get?_push_size _ rfl
 cases bt:w.params.followText "set-order" with
 | true =>
  rw [if_neg (by simp)]
  exact easy ⟨_,fun _ => rawInt 0,none,(pick_perm _ es).map _,.inl ⟨bt,rfl,fun _ => rfl,rfl⟩⟩ rfl rfl
 | false =>
  cases dr:(!t.plain && decide (es.size > 1)) with
  | false =>
   rw [if_neg (by simp)]
   exact easy ⟨_,fun i => rawInt ((if i=0 then 0 else t.place.getD (i - 1) 0 + 1:Nat):Int),none,.refl _,.inr (.inl ⟨bt,dr,rfl,fun _ => rfl,rfl⟩)⟩ rfl rfl
  | true =>
   rw [if_pos (by simp)]
   refine wpAny_bind (drawOrder_perm es.size _ s (by simp) fun ps d' hp => ?_)
   refine wpAny_bind (wpAny_newTuple (wpAny_bind (wpAny_setEpoch_of (Heap.get?_push_of_some _ ho) hd hf ?_)) (hsz:=by rw [List.length_map,hp.length_eq,List.length_range]; exact fits_of_scanBound hb))
   unfold newFields
   refine wpAny_bind (wpAny_newObj_type (wpAny_pure ⟨_,rfl, "set_iterator",_,⟨_,Heap.get?_push_size _ rfl,rfl⟩,sti_next.lookup,?_⟩))
   have hpm:(ps.filterMap fun i => (es[i]?).map (·.2)).Perm (es.toList.map (·.2)):=by
    have e1:=hp.filterMap fun i => (es[i]?).map (·.2)
    have e2:(List.range es.size).filterMap (fun i => (es[i]?).map (·.2))=es.toList.map (·.2):=by
     rw [← List.map_filterMap,filterMap_getElem?_range]
    rw [e2] at e1
    exact e1
   refine h s.heap.objs.size _ ⟨_,fun _ => .ref s.heap.objs.size,some (ps.map fun (i:Nat) => rawInt i).toArray,hpm,.inr (.inr ⟨bt,ps,rfl,hp,fun _ => rfl,rfl⟩)⟩ _ d' ?_ ?_ ?_ (.inr (Nat.le_refl _)) ⟨Heap.get?_push_of_some _ (Heap.get?_push_of_some _ ho),Heap.get?_push_size _ rfl,fun qs hq => ?_⟩ (fun b ob z => Heap.get?_push_of_some _ (Heap.get?_push_of_some _ z))
   ·rw [Heap.size_push]; exact Nat.ne_of_gt (Nat.lt_succ_of_lt hSl)
   ·rw [Heap.size_push]; exact Nat.ne_of_gt (Nat.lt_succ_self _)
   ·rw [Heap.size_push]; exact Nat.le_succ _
   ·cases hq; exact Heap.get?_push_of_some _ (Heap.get?_push_size _ rfl)
theorem collect_set {R:List Value→Shared→Prop} (hh:A.handled=none) (ho:s.heap.get? S=some o) (hx:o.ExactSet) (hd:o.data = .set es ep t) (hf:t.fits es.size=true) (hb:es.size < scanBound) (tb:TB t (!w.params.followText "set-order"))
  (hR:∀ (vs:List Value) (h' : Heap) (tk:Nat) (d' : Drawn),vs.Perm (es.toList.map (·.2))→(∀ b ob,s.heap.get? b=some ob→h'.get? b=some ob)→R vs { s with heap:=h',toks:=tk,drawn:=d' }):wpAny (model prog w) A (collect (.ref S)) R E s:=by
 have hSl:S < s.heap.objs.size:=Heap.lt_size ho
 unfold collect
 refine wpAny_bind (wpAny_runValue (codeAny_builtin PySem.F.entry_proto_collect ?_))
 rw [Around.under_plainId PySem.F.plain_proto_collect _]
 show wpAny _ A.in1 (newList [] >>= fun q => again (.builtin "list.__iadd__" ⟨[q,.ref S],[]⟩)) _ _ s
 refine wpAny_bind (wpAny_newObj_type (wpAny_pure ⟨plainId_quiet PySem.F.plain_list_iadd _,codeAny_builtin PySem.F.entry_list_iadd ?_⟩))
 rw [Around.under_plainId PySem.F.plain_list_iadd _]
 have g2:(s.heap.push { cls:=.type "list",data:=.seq ([]:List Value).toArray }).get? s.heap.objs.size=some { cls:=.type "list",data:=.seq ([]:List Value).toArray }:=Heap.get?_push_size _ rfl
 have ho1:(s.heap.push { cls:=.type "list",data:=.seq ([]:List Value).toArray }).get? S=some o:=Heap.get?_push_of_some _ ho
 have g3:Builtin.List.listSameRef (.ref s.heap.objs.size) (.ref S)=false:=by simp [Builtin.List.listSameRef,Nat.ne_of_gt hSl]
 show wpAny _ A.in1 (Builtin.List.listExtendWith (.ref s.heap.objs.size) (.ref S) (.ref s.heap.objs.size)) _ _ _
 unfold Builtin.List.listExtendWith
 refine wpAny_bind (wpAny_typeOf (T := "set") ⟨o,ho1,hx.1⟩ ?_)
 rw [if_neg (by rw [g3]; decide)]
 refine wpAny_bind (iter_j ho1 hx hd hf hb fun T I O h1 d1 hIS hIT hIs hTs st kp => ?_)
 refine wpAny_bind (wpAny_holding ?_)
 unfold Builtin.List.listLengthHint
 refine wpAny_bind (wpAny_specialOf (T := "set") ⟨o,kp _ _ ho1,hx.1⟩ PySem.F.slot_set_len.lookup ?_)
 generalize hid:("set.__len__" : String)=id0
 wp_delta
 rw [show splitId id0=some ("set", "__len__") from by subst hid; decide +kernel]
 subst hid
 refine wpAny_bind (wpAny_isInstance (T := "set") (b:=true) ⟨o,kp _ _ ho1,hx.1⟩ (by rw [isSubtype_type]; kernel_rfl) ?_)
 refine wpAny_ite_split (fun z => absurd z (by decide)) (fun _ => ?_)
 refine wpAny_ite_split (fun _ => ?_) (fun z => absurd (by decide +kernel) z)
 refine wpAny_bind (wpAny_typeOf (T := "set") ⟨o,kp _ _ ho1,hx.1⟩ (wpAny_pure ?_))
 refine wpAny_ite_split (fun _ => ?_) (fun z => absurd (by decide +kernel) z)
 refine wpAny_bind (wpAny_rule (wpAny_bind ?_))
 have hIs' : s.heap.objs.size < I:=by rw [Heap.size_push] at hIs; exact hIs
 have hI0:I ≠ s.heap.objs.size:=Nat.ne_of_gt hIs'
 have hT0:T ≠ s.heap.objs.size:=by
  rcases hTs with z | z
  ·rw [z]; exact Nat.ne_of_lt hSl
  ·rw [Heap.size_push] at z; exact Nat.ne_of_gt z
 have hS0:S ≠ s.heap.objs.size:=Nat.ne_of_lt hSl
 have gl:=kp _ _ g2
 show wpAny _ _ (updateSeq s.heap.objs.size (·.push .none) >>= fun _ => updateSeq s.heap.objs.size (·.pop)) _ _ _
 refine wpAny_bind (wpAny_updateSeq gl rfl ?_)
 have gl2:=Heap.get?_update_self (Obj.mapSeq (·.push Value.none)) gl rfl
 refine wpAny_updateSeq (hz:=by seq_fits) gl2 rfl ?_
 have gl3:=Heap.get?_update_self (Obj.mapSeq (·.pop)) gl2 rfl
 have oth:∀ b ob,b ≠ s.heap.objs.size→h1.get? b=some ob→((h1.update s.heap.objs.size (Obj.mapSeq (·.push Value.none))).update s.heap.objs.size (Obj.mapSeq (·.pop))).get? b=some ob:=fun b ob hb z =>
  (Heap.get?_update_other _ _ (Ne.symm hb)).trans ((Heap.get?_update_other _ _ (Ne.symm hb)).trans z)
 have Wk:=(walks_j (prog:=prog) (A:=A.in1) O hIS hIT hh hd hf tb).toS
 refine wpAny_pure ⟨plainId_quiet PySem.F.plain_extend_loop _,codeAny_extend_loopS Wk (fits_of_scanBound hb) s.heap.objs.size (by simp [Ne.symm hI0,Ne.symm hT0,Ne.symm hS0]) _ es.size 0 _ #[] _ rfl (Nat.zero_le _)
  ⟨Nat.zero_le _,oth _ _ hS0 st.1,oth _ _ hI0 st.2.1,fun ps hp => oth _ _ hT0 (st.2.2 ps hp)⟩ gl3 (ItemsOf.nil _) fun s' acc' c' hm hS' hacc => ?_⟩
 show wpAny _ A (load s.heap.objs.size >>= _) _ _ s'
 refine wpAny_bind (wpAny_load hS' (wpAny_pure ?_))
 have ea:acc'.toList=O.ord:=by
  apply List.ext_getElem?
  intro i
  by_cases hi:i < es.size
  ·have hl:i < acc'.size:=by rw [hacc.1]; exact hi
   rw [Array.getElem?_toList,Array.getElem?_eq_getElem hl]
   exact (hacc.2 i _ (Array.getElem?_eq_getElem hl)).symm
  ·rw [List.getElem?_eq_none (by rw [Array.length_toList,hacc.1]; omega),List.getElem?_eq_none (by rw [order_len O]; omega)]
 rw [ea]
 have:=hR O.ord s'.heap s'.toks s'.drawn O.perm fun b ob z => ?_
 ·obtain ⟨h9,g9,d9,t9,o9⟩:=s'
  have eg:g9=s.gens:=hm.gens
  have eo:o9=s.os:=hm.os
  subst eg eo
  exact this
 ·have hb0:b < s.heap.objs.size:=Heap.lt_size z
  refine hm.heap b ob ?_ (oth b ob (Nat.ne_of_lt hb0) (kp b ob (Heap.get?_push_of_some _ z)))
  simp only [List.mem_cons,List.not_mem_nil,or_false,not_or]
  exact ⟨Nat.ne_of_lt hb0,Nat.ne_of_lt (Nat.lt_trans hb0 hIs')⟩
theorem sorted_set {ns:List Int} {Q:Value→Shared→Prop} (hh:A.handled=none) (hj:SetJ prog w s.heap S ns) (h64:ns.length < 64)
  (h:∀ (out:Array Value) (ms:List Int) (h1 h' : Heap) (tk:Nat) (d' : Drawn) (e:Nat),(∀ b ob,s.heap.get? b=some ob→h1.get? b=some ob)→(∀ b ob,h1.get? b=some ob→h'.get? b=some ob)→IntsAre out.toList ms→ms.Perm ns→ms.Pairwise (· ≤ ·)→h'.get? h1.objs.size=some (seqObj "list" out e)→Q (.ref h1.objs.size) { s with heap:=h',toks:=tk,drawn:=d' }) :
  wpAny (model prog w) A (call (.builtin "sorted") [.ref S]) Q E s:=by
 obtain ⟨o,es,ep,t,ho,hx,hd,_,⟨ms0,hi,hp⟩,hb,hf,tb⟩:=hj
 refine Calls.call_function_entry kind_sorted plain_sorted entry_sorted (args_sorted1 _) ?_
 unfold Builtin.«sorted»
 refine wpAny_bind (m:=checkCount "sorted" 1 1 _) (wpAny_pure (wpAny_bind (collect_set hh ho hx hd hf hb tb fun vs h1 tk d' hpv kp => ?_)))
 obtain ⟨ms,hI,hpm⟩:=intsAre_perm hpv hi
 have hl:vs.length < 64:=by rw [hI.length,hpm.length_eq,hp.length_eq]; exact h64
 refine wpAny_bind (wpAny_newList ?_)
 have hoL:(h1.push { cls:=.type "list",data:=.seq vs.toArray }).get? h1.objs.size=some (seqObj "list" vs.toArray 0):=Heap.get?_push_size _ rfl
 refine wpAny_bind (wpAny_holding (wpAny_call_entry slot_list_sort ⟨_,hoL,rfl⟩ entry_list_sort (list_sort_tree (s:={ s with heap:=h1.push { cls:=.type "list",data:=.seq vs.toArray },toks:=tk,drawn:=d' }) hoL hI hl fun out ms' a1 a2 a3 => ⟨_,rfl,?_⟩) (args_list_sort _)))
 obtain ⟨e,he⟩:=sortedHeap_at (out:=out) hoL
 refine wpAny_pure ⟨_,rfl,h out ms' h1 _ tk d' e kp (fun b ob z => ?_) a1 ((a2.trans hpm).trans hp) a3 he⟩
 have hlt:b < h1.objs.size:=Heap.lt_size z
 rw [sortedHeap_old (Nat.ne_of_lt hlt) (by rw [Heap.size_push]; exact Nat.lt_succ_of_lt hlt)]
 exact Heap.get?_push_of_some _ z
end
theorem Inv.keptD {X:Cx} {pins:List (Addr × Obj)} {σ:St} {H:Hp} {s:Shared} {h' : Heap} {t' : Nat} {d' : Drawn} (I:Inv X pins σ H s) (k:∀ b u,s.heap.get? b=some u→h'.get? b=some u):Inv X pins σ H { s with heap:=h',toks:=t',drawn:=d' } :=
 I.step (g':=s.gens) (d':=d') (ch:=[]) (fun _ z => nomatch z) (fun b o _ _ _ e _ => k b o e) (fun b o _ _ _ e _ => ⟨o.slots,k b o e⟩) (fun _ _ _ _ n => n) (fun b o _ e => ⟨o,k b o e⟩) (fun _ _ e => e) (fun _ _ _ e => e) (fun b ps e => ⟨#[],by rw [e]; simp⟩)
  (fun m hm => by obtain ⟨o,es,ep,ho,r⟩:=hm; exact ⟨o,es,ep,k _ o ho,r⟩) (I.hok.kept k) I.bare
theorem boot_set:bootBuiltins "set" = some (.type "set"):=by decide +kernel
theorem boot_sortedX:bootBuiltins "sorted" = some (.builtin "sorted"):=by decide +kernel
section
variable {X:Cx}
theorem pe_sortedSet {a:Expr} {ta:TE} {p p2 pos pos2:PySem.Pos} (hc:X.calm=true) (ha:PE X a ta) (hg:Gl X "sorted") (hm:X.mg "sorted" = none) (hg2:Gl X "set") (hm2:X.mg "set" = none) (hsa:starEach [a] X.env=[(false,eval a X.env)]:=by rfl) :
  PE X (.Call (.Name "sorted" p) [.Call (.Name "set" p2) [a] [] pos2] [] pos) (fun σ H Q => ta σ H fun x H1 => ∃ (l:Addr) (ns:List Int),x = .ref l∧SqL X.K H1 l (ns.map V.int)∧ns.length < 64 ∧
   ∀ (q:Addr) (ms:List Int),H1 q=none→ms.Perm (dd ns)→ms.Pairwise (· ≤ ·)→Q (.ref q) (upd H1 q (.lst (ms.map V.int)))):=by
 intro pins s σ H Q I h
 refine wpAny_Call_Name_kw (ld_blt I hg hm boot_sortedX ?_)
 refine PyProof.Rows.callWith_builtin1 (rest:=[]) ?_ rfl rfl
 show wpAny _ _ (spliced ((false,eval (.Call (.Name "set" p2) [a] [] pos2) X.env) :: [])) _ _ s
 refine Calls.spliced_cons (wpAny_Call_Name_kw (ld_blt I hg2 hm2 boot_set ?_))
 refine PyProof.Rows.callWith_type1 (rest:=[]) ?_ hsa rfl
 rw [hsa]
 show wpAny _ _ (spliced ((false,eval a X.env) :: [])) _ _ s
 refine Calls.spliced_cons (thn (ha pins s σ H _ I h) fun u s1 ⟨y,H1,I1,r1,l,ns,ey,hq,h64,q⟩ => Calls.spliced_nil ?_)
 subst ey
 cases r1
 obtain ⟨its,r,pl,hz⟩:=I1.list hq
 have hi:=intsAre_of r
 have hln:its.length=ns.length:=hi.length
 refine set_of_list (I1.ok.hd hc) pl.isList (by simpa using hi) (by simp [hln,scanBound]; omega) fun h2 tk hj hk => Calls.spliced_nil ?_
 have I2:Inv X pins σ H1 { s1 with heap:=h2,toks:=tk }:=I1.kept fun b ob z => hk b ob (Heap.lt_size z) z
 refine sorted_set (s:={ s1 with heap:=h2,toks:=tk }) (I1.ok.hd hc) hj (Nat.lt_of_le_of_lt (dd_len ns) h64) fun out ms h3 h4 tk4 d4 e kp3 kp4 hI hp hs he => ?_
 have I3:Inv X pins σ H1 { s1 with heap:=h3,toks:=tk,drawn:=d4 }:=I2.keptD kp3
 have hml:ms.length ≤ 63:=by rw [hp.length_eq]; have:=dd_len ns; omega
 refine ⟨.ref h3.objs.size,_,I3.laid (t':=tk4) (o:=.lst (ms.map V.int)) kp4 (Nat.le_refl _) ⟨?_,out.toList,e,vals_ints hI,?_⟩,rfl,q _ ms (I3.hok.fresh (Nat.le_refl _)) hp hs⟩
 ·rw [List.length_map]
  exact Nat.le_of_lt (small1000 (by omega))
 ·rw [he]
end
end L2
set_option maxHeartbeats 1000000
namespace Toy
open PySem L2 PyProof.Rows
abbrev Wl:=List (Int × List Int)
def Adj:List (List Int)→Prop
 | a :: b :: r => a ≠ b∧Adj (b :: r)
 | _ => True
theorem adj_snoc:∀ {A:List (List Int)} {e:List Int},Adj A→(∀ l,A.getLast? = some l→l ≠ e)→Adj (A ++ [e])
 | [],e,_,_ => trivial
 | [a],e,_,h => ⟨h a rfl,trivial⟩
 | a :: b :: r,e,⟨h1,h2⟩,h => ⟨h1,adj_snoc (A:=b :: r) h2 fun l hl => h l (by rw [List.getLast?_cons_cons]; exact hl)⟩
structure Nrm (wd:Nat) (L:Wl):Prop where
 pos:∀ e ∈ L,1 ≤ e.1
 wid:∀ e ∈ L,e.2.length=wd
 adj:Adj (L.map (·.2))
theorem shStep_nrm {wd:Nat} {L:Wl} {e:Int × List Int} (h:Nrm wd L) (he:e.2.length=wd):Nrm wd (shStep L e):=by
 have snoc:0 < e.1→(∀ l,L.getLast? = some l→l.2 ≠ e.2)→Nrm wd (L ++ [e]):=fun hp hn => by
  refine ⟨fun d hd => ?_,fun d hd => ?_,?_⟩
  ·rcases List.mem_append.mp hd with z | z
   ·exact h.pos d z
   ·rw [List.mem_singleton.mp z]; omega
  ·rcases List.mem_append.mp hd with z | z
   ·exact h.wid d z
   ·rw [List.mem_singleton.mp z]; exact he
  ·rw [List.map_append]
   refine adj_snoc h.adj fun l hl => ?_
   rw [List.getLast?_map] at hl
   cases z:L.getLast? with
   | none => rw [z] at hl; cases hl
   | some l' => rw [z] at hl; cases hl; exact hn l' z
 unfold shStep
 split
 ·rename_i hp
  split
  ·rename_i l hl
   split
   ·rename_i hw
    have e0:=drop_get hl
    have hlm:l ∈ L:=List.mem_of_getLast? hl
    refine ⟨fun d hd => ?_,fun d hd => ?_,?_⟩
    ·rcases List.mem_append.mp hd with z | z
     ·exact h.pos d (List.dropLast_subset _ z)
     ·rw [List.mem_singleton.mp z]
      have:=h.pos l hlm
      show 1 ≤ e.1 + l.1
      omega
    ·rcases List.mem_append.mp hd with z | z
     ·exact h.wid d (List.dropLast_subset _ z)
     ·rw [List.mem_singleton.mp z]; exact he
    ·have ha:=h.adj
     rw [e0,List.map_append] at ha
     rw [List.map_append]
     show Adj (_ ++ [e.2])
     rw [← hw]
     exact ha
   ·rename_i hw
    exact snoc hp fun l' hl' => by rw [hl] at hl'; cases hl'; exact hw
  ·rename_i hl
   exact snoc hp fun l' hl' => by rw [hl] at hl'; cases hl'
 ·exact h
theorem shape_nrm {wd:Nat} {L:Wl} (h:∀ e ∈ L,e.2.length=wd):Nrm wd (shape L):=by
 have key:∀ (L acc:Wl),(∀ e ∈ L,e.2.length=wd)→Nrm wd acc→Nrm wd (L.foldl shStep acc):=by
  intro L
  induction L with
  | nil => intro acc _ h; exact h
  | cons x L ih => intro acc hL ha; exact ih _ (fun e he => hL e (List.mem_cons_of_mem _ he)) (shStep_nrm ha (hL x List.mem_cons_self))
 exact key L [] h ⟨fun e he => (by cases he),fun e he => (by cases he),trivial⟩
theorem shStep_tot {L:Wl} {e:Int × List Int} (he:0 ≤ e.1):tot (shStep L e)=tot L + e.1:=by
 unfold shStep
 split
 ·split
  ·rename_i l hl
   split
   ·have e0:=drop_get hl
    have:tot L=tot L.dropLast + l.1:=by
     rw [congrArg tot e0,tot_append,tot_cons,tot_nil]; omega
    rw [this,tot_append,tot_cons,tot_nil]
    show _ + (e.1 + l.1 + 0)=_
    omega
   ·rw [tot_append,tot_cons,tot_nil]; omega
  ·rw [tot_append,tot_cons,tot_nil]; omega
 ·omega
theorem shape_tot {L:Wl} (h:∀ e ∈ L,0 ≤ e.1):tot (shape L)=tot L:=by
 have key:∀ (L acc:Wl),(∀ e ∈ L,0 ≤ e.1)→tot (L.foldl shStep acc)=tot acc + tot L:=by
  intro L
  induction L with
  | nil => intro acc _; rw [List.foldl_nil,tot_nil]; omega
  | cons x L ih =>
   intro acc hL
   rw [List.foldl_cons,ih _ (fun e he => hL e (List.mem_cons_of_mem _ he)),shStep_tot (hL x List.mem_cons_self),tot_cons]
   omega
 have:=key L [] h
 rw [tot_nil] at this
 unfold shape
 omega
end Toy
namespace L2
open PySem PySem.Spec PyProof.Rows
section
variable {prog:Program} {w:World} {A:Around} {E:Value→Shared→Prop} {s:Shared}
theorem nxT {it t:Addr} {i:Nat} {its:Array Value} {x:Value} {Q:Value→Shared→Prop} (st:s.heap.IsTupleIter it t i) (ht:s.heap.IsTuple t its) (hx:its[i]? = some x)
  (k:∀ h',h'.IsTupleIter it t (i + 1)→Heap.SameBut it s.heap h'→Q x { s with heap:=h' }):wpAny (model prog w) A (Builtin.SmallTypes.nextOf (.ref it)) Q E s:=by
 obtain ⟨o,e,c,d⟩:=id st
 obtain ⟨ot,et,_,m,dt⟩:=ht
 unfold Builtin.SmallTypes.nextOf
 refine wpAny_bind (wpAny_callSpecial?_slot (name:=Str.ofString "__next__") st.typeIs F.slot_tuple_iterator_next (wpAny_call_entry F.slot_tuple_iterator_next st.typeIs F.entry_tuple_iterator_next (show wpAny _ _ (field (.ref it) 0 >>= _) _ _ s from wpAny_bind (wpAny_field e d (x:=.ref t) rfl ?_)) (F.args_tuple_iterator_next_1 _)))
 show wpAny _ _ (if (Value.ref t == Value.none)=true then _ else _) _ _ s
 rw [if_neg (show ¬ (Value.ref t == Value.none)=true by intro z; exact Bool.false_ne_true z)]
 refine (show wpAny _ _ (field (.ref it) 1 >>= _) _ _ s from wpAny_bind (wpAny_field e d (x:=.int i 0) rfl (show wpAny _ _ (seqItems? (.ref t) >>= _) _ _ s from wpAny_bind (wpAny_seqItems et dt ?_))))
 simp only [Int.toNat_natCast,hx]
 refine wpAny_bind (wpAny_setField e d (by simp) (wpAny_pure ⟨x,rfl,wpAny_pure (k _ ⟨_,Heap.get?_update_self _ e (Obj.isFreed_of_fields (Obj.data_mapFields d _)),(Obj.cls_mapFields ..).trans c,?_⟩ (Heap.SameBut.update ..))⟩))
 rw [Obj.data_mapFields d]
 simp [rawInt]
theorem nxTe {it t:Addr} {i:Nat} {its:Array Value} {Q:Value→Shared→Prop} (hh:A.handled=none) (st:s.heap.IsTupleIter it t i) (ht:s.heap.IsTuple t its) (hx:its[i]? = none)
  (k:∀ h' e,Heap.ExtBut it s.heap h'→(∃ o,h'.get? e=some o∧o.cls = .type "StopIteration")→E (.ref e) { s with heap:=h' }):wpAny (model prog w) A (Builtin.SmallTypes.nextOf (.ref it)) Q E s:=by
 obtain ⟨o,e,c,d⟩:=id st
 obtain ⟨ot,et,_,m,dt⟩:=ht
 unfold Builtin.SmallTypes.nextOf
 refine wpAny_bind (wpAny_callSpecial?_slot (name:=Str.ofString "__next__") st.typeIs F.slot_tuple_iterator_next (wpAny_call_entry F.slot_tuple_iterator_next st.typeIs F.entry_tuple_iterator_next (show wpAny _ _ (field (.ref it) 0 >>= _) _ _ s from wpAny_bind (wpAny_field e d (x:=.ref t) rfl ?_)) (F.args_tuple_iterator_next_1 _)))
 show wpAny _ _ (if (Value.ref t == Value.none)=true then _ else _) _ _ s
 rw [if_neg (show ¬ (Value.ref t == Value.none)=true by intro z; exact Bool.false_ne_true z)]
 refine (show wpAny _ _ (field (.ref it) 1 >>= _) _ _ s from wpAny_bind (wpAny_field e d (x:=.int i 0) rfl (show wpAny _ _ (seqItems? (.ref t) >>= _) _ _ s from wpAny_bind (wpAny_seqItems et dt ?_))))
 simp only [Int.toNat_natCast,hx]
 refine wpAny_bind (wpAny_rule (wpAny_bind (wpAny_setField e d (by simp) (show wpAny _ _ (newExc (.type "StopIteration") [] >>= _) _ _ _ from wpAny_bind ?_))))
 simp only [newExc,newTuple]
 refine wpAny_bind (wpAny_newObj_type (wpAny_bind (m:=firstArgMember _ _) (wpAny_of_eq (a:=Value.none) (by first | rfl | (simp only [firstArgMember]; rfl)) (wpAny_newObj_type ?_ (by size_fits)))) (by size_fits))
 simp only [raiseNew]
 refine wpAny_bind (wpAny_handled ?_)
 first | rw [show A.in1.handled=none from hh] | rw [hh]
 exact wpAny_bind (wpAny_pure (wpAny_throw (k _ _ (((Heap.SameBut.update ..).extBut.push _).push _) ⟨_,Heap.get?_push_size _ rfl,rfl⟩)))
theorem zT_item {z TI TO i1 i2 l1 l2:Addr} {n1 n2:Nat} {xs ys:Array Value} {x y u v:Value} {Q:Value→Shared→Prop} (D:ZipApart z TI TO i1 i2 l1 l2) (hz:IsZip s.heap z TI TO .none) (hI:IsPair s.heap TI (.ref i1) (.ref i2)) (hO:IsPair s.heap TO u v)
  (s1:s.heap.IsTupleIter i1 l1 n1) (s2:s.heap.IsTupleIter i2 l2 n2) (t1:s.heap.IsTuple l1 xs) (t2:s.heap.IsTuple l2 ys) (ex:xs[n1]? = some x) (ey:ys[n2]? = some y)
  (k:∀ h',IsZip h' z TI TO (rawInt s.heap.objs.size)→IsPair h' TO x y→h'.IsTupleIter i1 l1 (n1 + 1)→h'.IsTupleIter i2 l2 (n2 + 1)→IsPair h' s.heap.objs.size x y→h'.objs.size=s.heap.objs.size + 1→(∀ c o,c ≠ z→c ≠ TO→c ≠ i1→c ≠ i2→s.heap.get? c=some o→h'.get? c=some o)→Q (.ref s.heap.objs.size) { s with heap:=h' }) :
  wpAny (model prog w) A (Builtin.«zip.__next__» ⟨[.ref z],[]⟩) (fun fin s' => ∃ r,fin = .done (.ret r)∧Q r s') E s:=by
 refine (show wpAny _ _ (field (.ref z) 2 >>= _) _ _ _ from wpAny_bind (wpAny_field hz rfl (x:=.bool false) rfl (show wpAny _ _ (field (.ref z) 3 >>= _) _ _ _ from wpAny_bind (wpAny_field hz rfl (x:=.ref TI) rfl (wpAny_bind (wpAny_seqItems hI rfl ?_))))))
 refine (show wpAny _ _ (Builtin.SmallTypes.ownedTupleIsFree (.ref z) >>= _) _ _ _ from wpAny_bind ?_)
 unfold Builtin.SmallTypes.ownedTupleIsFree
 refine wpAny_bind (wpAny_field hz rfl (x:=.none) rfl (wpAny_pure ?_))
 simp only [if_true]
 refine wpAny_bind (wpAny_rule (wpAny_bind (wpAny_field hz rfl (x:=.ref TO) rfl (wpAny_bind (wpAny_setField_rec hz (by simp) fun ha (za:IsZip ha z TI TO .ellipsis) ba => wpAny_bind ?_)))))
 simp only [List.zipIdx_cons,List.zipIdx_nil,List.forIn_cons,List.forIn_nil]
 refine wpAny_bind (wpAny_bind (wpAny_onRaise (show wpAny _ _ (Builtin.SmallTypes.nextOf (.ref i1) >>= _) _ _ _ from wpAny_bind (nxT (s1.extBut ba.extBut D.i1z) (t1.extBut ba.extBut D.l1z) ex fun hb sb bb => wpAny_pure ?_))))
 have Ob:IsPair hb TO u v:=bb.extBut _ _ D.TOi1 (ba.extBut _ _ D.TOz hO)
 refine wpAny_bind (wpAny_seqItems Ob rfl (wpAny_bind (wpAny_updateSeq_pair Ob fun hc (Oc:IsPair hc TO x v) bc => wpAny_bind (wpAny_letGo (wpAny_pure ?_)))))
 refine wpAny_bind (wpAny_bind (wpAny_onRaise (show wpAny _ _ (Builtin.SmallTypes.nextOf (.ref i2) >>= _) _ _ _ from wpAny_bind (nxT (((s2.extBut ba.extBut D.i2z).extBut bb.extBut D.i12.symm).extBut bc.extBut D.TOi2.symm) (((t2.extBut ba.extBut D.l2z).extBut bb.extBut D.l2i1).extBut bc.extBut D.l2TO) ey fun hd sd bd => wpAny_pure ?_))))
 have Od:IsPair hd TO x v:=bd.extBut _ _ D.TOi2 Oc
 refine wpAny_bind (wpAny_seqItems Od rfl (wpAny_bind (wpAny_updateSeq_pair Od fun he (Oe:IsPair he TO x y) be => wpAny_bind (wpAny_letGo (wpAny_pure (wpAny_pure (wpAny_bind (wpAny_seqItems Oe rfl (wpAny_bind (wpAny_newTuple ?_))))))))))
 have size:he.objs.size=s.heap.objs.size:=be.1.trans (bd.1.trans (bc.1.trans (bb.1.trans ba.1)))
 have ze:IsZip he z TI TO .ellipsis:=be.extBut _ _ D.TOz.symm (bd.extBut _ _ D.i2z.symm (bc.extBut _ _ D.TOz.symm (bb.extBut _ _ D.i1z.symm za)))
 have keep:∀ c o,c ≠ z→c ≠ TO→c ≠ i1→c ≠ i2→s.heap.get? c=some o→he.get? c=some o:=fun c o q1 q2 q3 q4 e => be.extBut _ _ q2 (bd.extBut _ _ q4 (bc.extBut _ _ q2 (bb.extBut _ _ q3 (ba.extBut _ _ q1 e))))
 have r1:he.IsTupleIter i1 l1 (n1 + 1):=((sb.extBut bc.extBut D.TOi1.symm).extBut bd.extBut D.i12).extBut be.extBut D.TOi1.symm
 have r2:he.IsTupleIter i2 l2 (n2 + 1):=sd.extBut be.extBut D.TOi2.symm
 have zlt:z < he.objs.size:=Heap.lt_size ze
 refine (show wpAny _ _ (Builtin.SmallTypes.ownedTupleHandOut (.ref z) (.ref he.objs.size) >>= _) _ _ _ from wpAny_bind ?_)
 unfold Builtin.SmallTypes.ownedTupleHandOut
 have zf:IsZip (he.push { cls:=.type "tuple",data:=.seq #[x,y] }) z TI TO .ellipsis:=Heap.get?_push_of_some _ ze
 refine wpAny_bind (wpAny_setField_rec zf (by simp) fun hg (zg:IsZip hg z TI TO (rawInt he.objs.size)) bg => wpAny_setField_rec zg (by simp) fun hk (zk:IsZip hk z TI TO (rawInt he.objs.size)) bk => ?_)
 have up:∀ c o,c ≠ z→he.get? c=some o→hk.get? c=some o:=fun c o q e => bk.extBut _ _ q (bg.extBut _ _ q (Heap.get?_push_of_some _ e))
 have Tk:IsPair hk he.objs.size x y:=bk.extBut _ _ (Nat.ne_of_gt zlt) (bg.extBut _ _ (Nat.ne_of_gt zlt) (Heap.get?_push_size _ rfl))
 have sk:hk.objs.size=he.objs.size + 1:=by rw [bk.1,bg.1,Heap.size_push]
 rw [size] at zk Tk sk
 refine wpAny_pure ⟨_,rfl,(show Q (.ref he.objs.size) _ from ?_)⟩
 rw [size]
 exact k hk zk (up _ _ D.TOz Oe) (r1.at fun o e => up _ o D.i1z e) (r2.at fun o e => up _ o D.i2z e) Tk sk fun c o q1 q2 q3 q4 e => up c o q1 (keep c o q1 q2 q3 q4 e)
theorem zT_end {z TI TO i1 i2 l1 l2:Addr} {n1 n2:Nat} {xs ys:Array Value} {u v:Value} {Q:Fin→Shared→Prop} (hh:A.handled=none) (D:ZipApart z TI TO i1 i2 l1 l2) (hz:IsZip s.heap z TI TO .none) (hI:IsPair s.heap TI (.ref i1) (.ref i2)) (hO:IsPair s.heap TO u v)
  (s1:s.heap.IsTupleIter i1 l1 n1) (s2:s.heap.IsTupleIter i2 l2 n2) (t1:s.heap.IsTuple l1 xs) (t2:s.heap.IsTuple l2 ys) (fin:xs[n1]? = none ∨ ys[n2]? = none)
  (k:∀ h' e,(∀ c o,c ≠ z→c ≠ TO→c ≠ i1→c ≠ i2→s.heap.get? c=some o→h'.get? c=some o)→(∃ o,h'.get? e=some o∧o.cls = .type "StopIteration")→E (.ref e) { s with heap:=h' }) :
  wpAny (model prog w) A (Builtin.«zip.__next__» ⟨[.ref z],[]⟩) Q E s:=by
 refine (show wpAny _ _ (field (.ref z) 2 >>= _) _ _ _ from wpAny_bind (wpAny_field hz rfl (x:=.bool false) rfl (show wpAny _ _ (field (.ref z) 3 >>= _) _ _ _ from wpAny_bind (wpAny_field hz rfl (x:=.ref TI) rfl (wpAny_bind (wpAny_seqItems hI rfl ?_))))))
 refine (show wpAny _ _ (Builtin.SmallTypes.ownedTupleIsFree (.ref z) >>= _) _ _ _ from wpAny_bind ?_)
 unfold Builtin.SmallTypes.ownedTupleIsFree
 refine wpAny_bind (wpAny_field hz rfl (x:=.none) rfl (wpAny_pure ?_))
 simp only [if_true]
 refine wpAny_bind (wpAny_rule (wpAny_bind (wpAny_field hz rfl (x:=.ref TO) rfl (wpAny_bind (wpAny_setField_rec hz (by simp) fun ha (za:IsZip ha z TI TO .ellipsis) ba => wpAny_bind ?_)))))
 simp only [List.zipIdx_cons,List.zipIdx_nil,List.forIn_cons,List.forIn_nil]
 refine wpAny_bind (wpAny_bind (wpAny_onRaise (show wpAny _ _ (Builtin.SmallTypes.nextOf (.ref i1) >>= _) _ _ _ from ?_)))
 cases ex:xs[n1]? with
 | none =>
  refine wpAny_bind (nxTe hh (s1.extBut ba.extBut D.i1z) (t1.extBut ba.extBut D.l1z) ex fun hb e bb ⟨oe,ge,ce⟩ => ?_)
  have zb:IsZip hb z TI TO .ellipsis:=bb _ _ D.i1z.symm za
  have ne:e ≠ z:=fun q => by subst q; rw [zb] at ge; cases ge; simp at ce
  exact wpAny_setField_rec zb (by simp) fun hc _ bc => k hc e (fun c o q1 _ q3 _ g => bc.extBut _ _ q1 (bb _ _ q3 (ba.extBut _ _ q1 g))) ⟨oe,bc.extBut _ _ ne ge,ce⟩
 | some x =>
  have ey:ys[n2]? = none:=fin.resolve_left (by rw [ex]; exact fun q => by cases q)
  refine wpAny_bind (nxT (s1.extBut ba.extBut D.i1z) (t1.extBut ba.extBut D.l1z) ex fun hb sb bb => wpAny_pure ?_)
  have Ob:IsPair hb TO u v:=bb.extBut _ _ D.TOi1 (ba.extBut _ _ D.TOz hO)
  refine wpAny_bind (wpAny_seqItems Ob rfl (wpAny_bind (wpAny_updateSeq_pair Ob fun hc Oc bc => wpAny_bind (wpAny_letGo (wpAny_pure (wpAny_bind (wpAny_bind (wpAny_onRaise (show wpAny _ _ (Builtin.SmallTypes.nextOf (.ref i2) >>= _) _ _ _ from wpAny_bind ?_)))))))))
  refine nxTe hh (((s2.extBut ba.extBut D.i2z).extBut bb.extBut D.i12.symm).extBut bc.extBut D.TOi2.symm) (((t2.extBut ba.extBut D.l2z).extBut bb.extBut D.l2i1).extBut bc.extBut D.l2TO) ey fun hd e bd ⟨oe,ge,ce⟩ => ?_
  have zd:IsZip hd z TI TO .ellipsis:=bd _ _ D.i2z.symm (bc.extBut _ _ D.TOz.symm (bb.extBut _ _ D.i1z.symm za))
  have ne:e ≠ z:=fun q => by subst q; rw [zd] at ge; cases ge; simp at ce
  exact wpAny_setField_rec zd (by simp) fun hf _ bf => k hf e (fun c o q1 q2 q3 q4 g => bf.extBut _ _ q1 (bd _ _ q4 (bc.extBut _ _ q2 (bb.extBut _ _ q3 (ba.extBut _ _ q1 g))))) ⟨oe,bf.extBut _ _ ne ge,ce⟩
theorem nextZT {z TI TO i1 i2 l1 l2:Addr} {n1 n2:Nat} {xs ys:Array Value} {x y u v:Value} {Q:Option Value→Shared→Prop} (D:ZipApart z TI TO i1 i2 l1 l2) (hz:IsZip s.heap z TI TO .none) (hI:IsPair s.heap TI (.ref i1) (.ref i2)) (hO:IsPair s.heap TO u v)
  (s1:s.heap.IsTupleIter i1 l1 n1) (s2:s.heap.IsTupleIter i2 l2 n2) (t1:s.heap.IsTuple l1 xs) (t2:s.heap.IsTuple l2 ys) (ex:xs[n1]? = some x) (ey:ys[n2]? = some y)
  (k:∀ h',IsZip h' z TI TO (rawInt s.heap.objs.size)→IsPair h' TO x y→h'.IsTupleIter i1 l1 (n1 + 1)→h'.IsTupleIter i2 l2 (n2 + 1)→IsPair h' s.heap.objs.size x y→h'.objs.size=s.heap.objs.size + 1→(∀ c o,c ≠ z→c ≠ TO→c ≠ i1→c ≠ i2→s.heap.get? c=some o→h'.get? c=some o)→Q (some (.ref s.heap.objs.size)) { s with heap:=h' }) :
  wpAny (model prog w) A (pyNext (.ref z)) Q E s:=by
 have ty:s.TypeIs (.ref z) "zip" := ⟨_,hz,rfl⟩
 unfold pyNext
 exact wpAny_bind (wpAny_attempt (wpAny_callSpecial?_slot (name:=Str.ofString "__next__") ty F.slot_zip_next (wpAny_call_entry F.slot_zip_next ty F.entry_zip_next (zT_item D hz hI hO s1 s2 t1 t2 ex ey fun h' b1 b2 b3 b4 b5 b6 b7 => wpAny_pure (k h' b1 b2 b3 b4 b5 b6 b7)) (F.args_zip_next_1 _))))
theorem nextZTe {z TI TO i1 i2 l1 l2:Addr} {n1 n2:Nat} {xs ys:Array Value} {u v:Value} {Q:Option Value→Shared→Prop} (hh:A.handled=none) (D:ZipApart z TI TO i1 i2 l1 l2) (hz:IsZip s.heap z TI TO .none) (hI:IsPair s.heap TI (.ref i1) (.ref i2)) (hO:IsPair s.heap TO u v)
  (s1:s.heap.IsTupleIter i1 l1 n1) (s2:s.heap.IsTupleIter i2 l2 n2) (t1:s.heap.IsTuple l1 xs) (t2:s.heap.IsTuple l2 ys) (fin:xs[n1]? = none ∨ ys[n2]? = none)
  (k:∀ h',(∀ c o,c ≠ z→c ≠ TO→c ≠ i1→c ≠ i2→s.heap.get? c=some o→h'.get? c=some o)→Q none { s with heap:=h' }):wpAny (model prog w) A (pyNext (.ref z)) Q E s:=by
 have ty:s.TypeIs (.ref z) "zip" := ⟨_,hz,rfl⟩
 unfold pyNext
 refine wpAny_bind (wpAny_attempt (wpAny_callSpecial?_slot (name:=Str.ofString "__next__") ty F.slot_zip_next (wpAny_call_entry F.slot_zip_next ty F.entry_zip_next (zT_end hh D hz hI hO s1 s2 t1 t2 fin fun h' e kp ⟨o,g,c⟩ => ?_) (F.args_zip_next_1 _))))
 exact wpAny_bind (wpAny_isInstance (T := "StopIteration") (b:=true) ⟨o,g,c⟩ isSubtype_stop (wpAny_pure (k _ kp)))
end
def zh (h:Heap) (l1 l2:Addr):Heap:=(((((h.push { cls:=.type "tuple_iterator",data:=.fields #[.ref l1,.int 0 0] }).push { cls:=.type "tuple_iterator",data:=.fields #[.ref l2,.int 0 0] }).push { cls:=.type "tuple",data:=.seq #[.ref h.objs.size,.ref (h.objs.size + 1)] }).push { cls:=.type "tuple",data:=.seq #[.none,.none] }).push { cls:=.type "zip",data:=.fields #[.none,.bool false,.bool false,.ref (h.objs.size + 2),.ref (h.objs.size + 3)] })
theorem newZT (l1 l2:Addr) (xs ys:Array Value) :
  Meets (Builtin.«zip.__new__» ⟨[.type "zip",.ref l1,.ref l2],[]⟩) (fun _ R s => s.heap.IsTuple l1 xs∧s.heap.IsTuple l2 ys∧R (.ok (.ret (.ref (s.heap.objs.size + 4)))) { s with heap:=zh s.heap l1 l2 }) :=
 .of_wp fun prog w A R s h => by
  obtain ⟨hp,g,d,tk,os⟩:=s
  obtain ⟨t1,t2,h⟩:=h
  have hsub:=sub_zip
  have T1:Heap.IsTuple (Shared.heap ⟨hp,g,d,tk,os⟩) l1 xs:=t1
  have T2:Heap.IsTuple (Shared.heap ⟨hp.push { cls:=.type "tuple_iterator",data:=.fields #[.ref l1,.int 0 0] },g,d,tk,os⟩) l2 ys:=Heap.IsTuple.push t2 _
  wp_walk using wpAny_pyIter_tuple T1,wpAny_pyIter_tuple T2
  refine ⟨_,rfl,?_⟩
  simp only [Heap.size_push]
  exact h
section
variable {prog:Program} {w:World} {A:Around} {E:Value→Shared→Prop} {s:Shared}
theorem callZT {l1 l2:Addr} {xs ys:Array Value} {Q:Value→Shared→Prop} (t1:s.heap.IsTuple l1 xs) (t2:s.heap.IsTuple l2 ys)
  (k:∀ h',IsZip h' (s.heap.objs.size + 4) (s.heap.objs.size + 2) (s.heap.objs.size + 3) .none→IsPair h' (s.heap.objs.size + 2) (.ref s.heap.objs.size) (.ref (s.heap.objs.size + 1))→IsPair h' (s.heap.objs.size + 3) .none .none→h'.IsTupleIter s.heap.objs.size l1 0→h'.IsTupleIter (s.heap.objs.size + 1) l2 0→(∀ c o,s.heap.get? c=some o→h'.get? c=some o)→Q (.ref (s.heap.objs.size + 4)) { s with heap:=h' }) :
  wpAny (model prog w) A (call (.type "zip") [.ref l1,.ref l2]) Q E s:=by
 refine callType_new F.called_zip (by decide) (F.typeCall_zip_2 _ _) (F.newCall_zip_2 _ _) (fun obj => F.args_object_init_3 obj _ _) F.entry_zip_new (newZT l1 l2 xs ys) ⟨t1,t2,?_⟩
 have ps:∀ {c:Addr} {o p:Obj} {h:Heap},h.get? c=some o→(h.push p).get? c=some o:=fun e => Heap.get?_push_of_some _ e
 have sz1:∀ (h:Heap) (p:Obj),(h.push p).objs.size=h.objs.size + 1:=fun h p => Heap.size_push ..
 have at0:∀ (h:Heap) (p:Obj) (n:Nat),h.objs.size=n→p.isFreed=false→(h.push p).get? n=some p:=fun h p n e f => by subst e; exact Heap.get?_push_size _ f
 have z5:(zh s.heap l1 l2).get? (s.heap.objs.size + 4)=some _:=at0 _ _ _ (by simp only [sz1]) rfl
 have z4:(zh s.heap l1 l2).get? (s.heap.objs.size + 3)=some _:=ps (at0 _ _ _ (by simp only [sz1]) rfl)
 have z3:(zh s.heap l1 l2).get? (s.heap.objs.size + 2)=some _:=ps (ps (at0 _ _ _ (by simp only [sz1]) rfl))
 have z2:(zh s.heap l1 l2).get? (s.heap.objs.size + 1)=some _:=ps (ps (ps (at0 _ _ _ (by simp only [sz1]) rfl)))
 have z1:(zh s.heap l1 l2).get? s.heap.objs.size=some _:=ps (ps (ps (ps (at0 _ _ _ rfl rfl))))
 exact ⟨⟨_,z5,rfl⟩,k _ z5 z3 z4 ⟨_,z1,rfl,rfl⟩ ⟨_,z2,rfl,rfl⟩ fun c o e => ps (ps (ps (ps (ps e))))⟩
end
def Itzt (K:PySem.W.Frag) (a b:Addr):It :=
 ⟨fun i H => ∃ xs ys x y,SqT K H a xs∧SqT K H b ys∧xs[i]? = some x∧ys[i]? = some y,
  fun i H v H' => ∃ p x y,v = .ref p∧H p=none∧H' = upd H p (.tup [x,y])∧(∀ xs,SqT K H a xs→xs[i]? = some x)∧(∀ ys,SqT K H b ys→ys[i]? = some y),
  fun i H => ∃ xs ys,SqT K H a xs∧SqT K H b ys∧(xs[i]? = none ∨ ys[i]? = none)⟩
def ZipAtT (z TI TO i1 i2 a b:Addr) (i:Nat) (h:Heap):Prop:=IsZip h z TI TO .none∧IsPair h TI (.ref i1) (.ref i2)∧(∃ u v,IsPair h TO u v)∧h.IsTupleIter i1 a i∧h.IsTupleIter i2 b i
theorem turn_zipT {P:Program} {w:World} {K:PySem.W.Frag} {es:List Expr} {k:Nat} {pos:PySem.Pos} (a b z TI TO i1 i2:Addr) (D:ZipApart z TI TO i1 i2 a b):Turn P w K (.Tuple es k pos) (Itzt K a b) [z,TI,TO,i1,i2] z (ZipAtT z TI TO i1 i2 a b) where
 mem:=by simp
 obj:=fun i h st c hc => by
  obtain ⟨hz,hTI,⟨u,v,hTO⟩,⟨o1,e1,c1,d1⟩,⟨o2,e2,c2,d2⟩⟩:=st
  simp only [List.mem_cons,List.not_mem_nil,or_false] at hc
  rcases hc with rfl | rfl | rfl | rfl | rfl
  ·exact ⟨_,hz,fun v q => by cases q⟩
  ·exact ⟨_,hTI,fun v q => by cases q⟩
  ·exact ⟨_,hTO,fun v q => by cases q⟩
  ·exact ⟨o1,e1,fun v q => by rw [d1] at q; cases q⟩
  ·exact ⟨o2,e2,fun v q => by rw [d2] at q; cases q⟩
 keep:=fun i h h' st q => by
  obtain ⟨hz,hTI,⟨u,v,hTO⟩,l1,l2⟩:=st
  exact ⟨q _ (by simp) _ hz,q _ (by simp) _ hTI,⟨u,v,q _ (by simp) _ hTO⟩,l1.at fun o e => q _ (by simp) o e,l2.at fun o e => q _ (by simp) o e⟩
 item:=by
  intro X hP hw hK hc i pins s σ H E I hf st hg
  subst hP hw hK
  obtain ⟨xs,ys,x,y,hq1,hq2,hx,hy⟩:=hg
  obtain ⟨hz,hTI,⟨u,v,hTO⟩,l1,l2⟩:=st
  obtain ⟨its1,rv1,p1,_⟩:=I.tuple hq1
  obtain ⟨its2,rv2,p2,_⟩:=I.tuple hq2
  obtain ⟨ux,hux,rux⟩:=rv1.get hx
  obtain ⟨uy,huy,ruy⟩:=rv2.get hy
  refine nextZT D hz hTI hTO l1 l2 p1 p2 (x:=ux) (y:=uy) (by simpa using hux) (by simpa using huy) fun h' z1 TO1 j1 j2 T1 sz kp => ?_
  refine ⟨_,rfl,wpAny_letOwnedTupleGo_zip z1 fun h2 z2 sb => ?_⟩
  have hzlt:z < s.heap.objs.size:=Heap.lt_size hz
  have hpz:s.heap.objs.size ≠ z:=Nat.ne_of_gt hzlt
  have T2:IsPair h2 s.heap.objs.size ux uy:=sb.extBut _ _ hpz T1
  have kp2:∀ c o,c ∉ [z,TI,TO,i1,i2]→s.heap.get? c=some o→h2.get? c=some o:=fun c o hc e => by
   simp only [List.mem_cons,List.not_mem_nil,or_false,not_or] at hc
   exact sb.extBut _ _ hc.1 (kp c o hc.1 hc.2.2.1 hc.2.2.2.1 hc.2.2.2.2 e)
  have I2:Inv X pins σ (upd H s.heap.objs.size (.tup [x,y])) { s with heap:=h2,toks:=s.toks }:=I.turnedNew kp2 hf (Nat.le_refl _) ⟨by show 2 ≤ sizeLine; decide,[ux,uy],.cons rux (.cons ruy .nil),⟨_,T2,rfl,_,rfl⟩⟩
  refine ⟨.ref s.heap.objs.size,_,I2,rfl,⟨_,x,y,rfl,I.hok.fresh (Nat.le_refl _),rfl,fun xs' h => ?_,fun ys' h => ?_⟩,⟨z2,?_,⟨ux,uy,?_⟩,?_,?_⟩,fun c hc => ?_⟩
  ·rw [I.tuple_inj h hq1]; exact hx
  ·rw [I.tuple_inj h hq2]; exact hy
  ·exact sb.extBut _ _ D.TIz (kp _ _ D.TIz D.TITO D.TIi1 D.TIi2 hTI)
  ·exact sb.extBut _ _ D.TOz TO1
  ·exact j1.at fun o e => sb.extBut _ _ D.i1z e
  ·exact j2.at fun o e => sb.extBut _ _ D.i2z e
  ·have hlt:c < s.heap.objs.size:=by
    simp only [List.mem_cons,List.not_mem_nil,or_false] at hc
    rcases hc with rfl | rfl | rfl | rfl | rfl
    ·exact hzlt
    ·exact Heap.lt_size hTI
    ·exact Heap.lt_size hTO
    ·obtain ⟨_,e,_⟩:=l1; exact Heap.lt_size e
    ·obtain ⟨_,e,_⟩:=l2; exact Heap.lt_size e
   rw [upd_ne (Nat.ne_of_lt hlt)]
   exact (hf c hc).1
 done:=by
  intro X hP hw hK hc i pins s σ H E I hf st hg
  subst hP hw hK
  obtain ⟨xs,ys,hq1,hq2,hend⟩:=hg
  obtain ⟨hz,hTI,⟨u,v,hTO⟩,l1,l2⟩:=st
  obtain ⟨its1,rv1,p1,_⟩:=I.tuple hq1
  obtain ⟨its2,rv2,p2,_⟩:=I.tuple hq2
  have e1:=rv1.length
  have e2:=rv2.length
  refine nextZTe (I.ok.hd hc) D hz hTI hTO l1 l2 p1 p2 (hend.imp (fun q => ?_) (fun q => ?_)) fun h' kp => ⟨rfl,I.turnedL (t':=s.toks) (ch:=[z,TI,TO,i1,i2]) (fun c o hc e => ?_) hf⟩
  ·rw [List.getElem?_eq_none_iff] at q
   simp
   omega
  ·rw [List.getElem?_eq_none_iff] at q
   simp
   omega
  ·simp only [List.mem_cons,List.not_mem_nil,or_false,not_or] at hc
   exact kp c o hc.1 hc.2.2.1 hc.2.2.2.1 hc.2.2.2.2 e
 self:=fun _ _ _ _ _ st h => wpAny_pyIter_zip st.1 h
section
variable {X:Cx}
def iZipT (K:PySem.W.Frag) (ta:TA):TI:=fun σ H R => ta σ H fun vs H1 => ∃ a b,vs=[.ref a,.ref b]∧(∃ xs,SqT K H1 a xs)∧(∃ ys,SqT K H1 b ys)∧R (Itzt K a b) H1
theorem pi_zipT {tes:List Expr} {tk:Nat} {tpos p pos:PySem.Pos} {a b:Expr} {ta:TA} (hg:Gl X "zip") (hm:X.mg "zip" = none) (ha:PA X [a,b] ta)
  (hs:starEach [a,b] X.env=[(false,eval a X.env),(false,eval b X.env)]:=by rfl) (hs2:starEach [b] X.env=[(false,eval b X.env)]:=by rfl):PI X (.Tuple tes tk tpos) (.Call (.Name "zip" p) [a,b] [] pos) (iZipT X.K ta):=by
 intro pins s σ H R I h
 refine wpAny_Call_Name_kw (ld_blt I hg hm boot_zip ?_)
 refine PyProof.Rows.callWith_type1 (thn (ha pos pins s σ H _ I h) fun us s1 ⟨vs,H1,I1,r1,l1,l2,e,⟨xs,hx⟩,⟨ys,hy⟩,q⟩ => ?_) (by rw [hs,hs2]) (by rw [hs2]; rfl)
 subst e
 obtain ⟨u1,u2,rfl,rfl,rfl⟩:=vals2 r1
 obtain ⟨its1,rv1,p1,_⟩:=I1.tuple hx
 obtain ⟨its2,rv2,p2,_⟩:=I1.tuple hy
 have a1:l1 < s1.heap.objs.size:=by obtain ⟨_,e,_⟩:=p1; exact Heap.lt_size e
 have a2:l2 < s1.heap.objs.size:=by obtain ⟨_,e,_⟩:=p2; exact Heap.lt_size e
 refine callZT p1 p2 fun h' hz hTI hTO hi1 hi2 kp => ?_
 refine wpAny_pyIter_zip hz ?_
 refine ⟨_,[_,_,_,_,_],_,_,H1,rfl,I1.kept (t':=s1.toks) kp,turn_zipT l1 l2 _ _ _ _ _ (zipApart_new a1 a2),⟨hz,hTI,⟨_,_,hTO⟩,hi1,hi2⟩,fun c hc => ?_,q⟩
 have hge:s1.heap.objs.size ≤ c:=by
  simp only [List.mem_cons,List.not_mem_nil,or_false] at hc
  rcases hc with rfl | rfl | rfl | rfl | rfl
  ·exact Nat.le_add_right _ _
  ·exact Nat.le_add_right _ _
  ·exact Nat.le_add_right _ _
  ·exact Nat.le_refl _
  ·exact Nat.le_add_right _ _
 exact I1.fpOk hge (I1.hok.fresh hge)
theorem compZT {K:PySem.W.Frag} {k n:Nat} {a b:Addr} {xs ys:List V} {g:TG} {tt:TT} {te:TE} {Q:VK} {σ:St} {H:Hp} (Pv:Nat→List V→Hp→Prop) (h0:Pv 0 [] H) (hn:n=min xs.length ys.length) (hb:n ≤ 1000) (hz:∀ i zs H,Pv i zs H→zs.length ≤ i) (hl:∀ i zs H,i ≤ n→Pv i zs H→SqT K H a xs∧SqT K H b ys)
  (hs:∀ i x y zs H (pre:St) (p:Addr),pre.length=k→xs[i]? = some x→ys[i]? = some y→Pv i zs H→H p=none→g (.ref p) (pre ++ σ) (upd H p (.tup [x,y])) fun σ' H2 => (∃ pre' : St,σ' = pre' ++ σ∧pre'.length=k)∧tt σ' H2 fun ok H3 => if ok=true then te σ' H3 fun y H4 => Pv (i + 1) (zs ++ [y]) H4 else Pv (i + 1) zs H3) (hd:∀ zs H,Pv n zs H→∀ D,H D=none→Q (.ref D) (upd H D (.lst zs))):CGo k (Itzt K a b) g tt te Q σ H:=by
 refine ⟨fun i m zs H => m=n - i∧i ≤ n∧Pv i zs H,⟨n,by simp,Nat.zero_le _,h0⟩,?_⟩
 rintro i m zs H ⟨rfl,hi,p⟩
 obtain ⟨q1,q2⟩:=hl i zs H hi p
 by_cases hlt:i < n
 ·have h1:i < xs.length:=by omega
  have h2:i < ys.length:=by omega
  refine .inr ⟨⟨xs,ys,xs[i],ys[i],q1,q2,by simp [h1],by simp [h2]⟩,Nat.lt_of_le_of_lt (hz i zs H p) (small1000 (by omega)),Pv (i + 1),fun zs H' p' => ⟨n - (i + 1),by omega,rfl,hlt,p'⟩,fun x H' pre hp y => ?_⟩
  obtain ⟨q,x1,y1,rfl,hq,rfl,e1,e2⟩:=y
  exact hs i x1 y1 zs _ pre q hp (e1 xs q1) (e2 ys q2) p hq
 ·have e:i=n:=by omega
  subst e
  refine .inl ⟨⟨xs,ys,q1,q2,?_⟩,hd zs H p⟩
  by_cases hx:xs.length ≤ ys.length
  ·exact .inl (List.getElem?_eq_none (by omega))
  ·exact .inr (List.getElem?_eq_none (by omega))
end
end L2
set_option maxHeartbeats 4000000
namespace L2
open PySem PySem.Spec PyProof.Rows
section
variable {X:Cx}
section
variable {prog:Program} {w:World} {A:Around} {R:Result→Shared→Prop} {s:Shared}
abbrev e2 (elt tg iter:Expr) (ifs:List Expr) (tg2 iter2:Expr) (ifs2:List Expr) (scope:Scope) (pos:PySem.Pos):Expr:=.ListComp elt [⟨tg,iter,ifs,0⟩,⟨tg2,iter2,ifs2,0⟩] scope pos
theorem turn_two0 (elt tg iter:Expr) (ifs:List Expr) (tg2 iter2:Expr) (ifs2:List Expr) (scope:Scope) (pos:PySem.Pos) (it acc:Value) (env:Env):compTurn (e2 elt tg iter ifs tg2 iter2 ifs2 scope pos) 0 it acc env=(do
  standAt iter.pos
  match ← pyNext it with
  | none => pure (.done .next)
  | some v =>
   letOwnedTupleGo tg it v
   assign tg env v
   let mut ok:=true
   for c in ifs do
    if ok then ok ← isTrue c env (eval c env)
   if ok then
    let x ← eval iter2 env
    standAt iter2.pos
    let x ← foldedSetIterable iter2 env x
    let _ ← runOwn (.compStart (e2 elt tg iter ifs tg2 iter2 ifs2 scope pos) 1 (← holding [x] (pyIter x)) acc env) env
   again (.compLoop (e2 elt tg iter ifs tg2 iter2 ifs2 scope pos) 0 it acc env)):=rfl
theorem turn_two1 (elt tg iter:Expr) (ifs:List Expr) (tg2 iter2:Expr) (ifs2:List Expr) (scope:Scope) (pos:PySem.Pos) (it acc:Value) (env:Env):compTurn (e2 elt tg iter ifs tg2 iter2 ifs2 scope pos) 1 it acc env=(do
  standAt iter2.pos
  match ← pyNext it with
  | none => pure (.done .next)
  | some v =>
   letOwnedTupleGo tg2 it v
   assign tg2 env v
   let mut ok:=true
   for c in ifs2 do
    if ok then ok ← isTrue c env (eval c env)
   if ok then (eval elt env >>= fun x => call (.builtin "list.append") [acc,x] >>= fun _ => pure ():Sem Unit)
   again (.compLoop (e2 elt tg iter ifs tg2 iter2 ifs2 scope pos) 1 it acc env)):=rfl
theorem loop_two1 {elt tg iter tg2 iter2:Expr} {ifs ifs2:List Expr} {scope:Scope} {pos:PySem.Pos} {it acc:Value} {env:Env} {EE:Value→Shared→Prop} (hE:EE=notedBy (model prog w) A env fun e s' => R (.error e) s') (I:Nat→Shared→Prop)
  (turn:∀ n s,I n s→wpAny (model prog w) A (pyNext it) (fun r z1 => match r with
   | none => R (.ok .next) z1
   | some v => wpAny (model prog w) A (letOwnedTupleGo tg2 it v) (fun _ y1 => wpAny (model prog w) A (assign tg2 env v) (fun _ z2 =>
     wpAny (model prog w) A (forIn ifs2 true fun c r => if r=true then do let ok ← isTrue c env (eval c env); pure (ForInStep.yield ok) else pure (ForInStep.yield r)) (fun ok z3 =>
      if ok=true then wpAny (model prog w) A (eval elt env) (fun x z4 => wpAny (model prog w) A (call (.builtin "list.append") [acc,x]) (fun _ z5 => ∃ m,m < n∧I m z5) EE z4) EE z3 else ∃ m,m < n∧I m z3) EE z2) EE y1) EE z1) EE s)
  (n:Nat) (h:I n s):codeAny (model prog w) A (.compLoop (e2 elt tg iter ifs tg2 iter2 ifs2 scope pos) 1 it acc env) R s:=by
 subst hE
 refine codeAny_loop rfl I (fun n s hI => ?_) n h
 show wpAny _ A ((compTurn (e2 elt tg iter ifs tg2 iter2 ifs2 scope pos) 1 it acc env).onRaise (fun x => do noteFrame x env; theTreesLotGoes x)) _ _ s
 refine wpAny_noted ?_
 rw [turn_two1]
 refine wpAny_bind (wpAny_standAt (wpAny_bind (wpAny_mono (turn n s hI) (fun r z1 q1 => ?_) fun _ _ z => z)))
 cases r with
 | none => exact wpAny_pure q1
 | some v =>
  refine wpAny_bind (wpAny_mono q1 (fun _ y1 q1 => ?_) fun _ _ z => z)
  refine wpAny_bind (wpAny_mono q1 (fun _ z2 q2 => wpAny_bind (wpAny_mono q2 (fun ok z3 q3 => ?_) fun _ _ z => z)) fun _ _ z => z)
  cases ok with
  | false => exact wpAny_pure ⟨rfl,q3⟩
  | true => exact wpAny_bind (wpAny_bind (wpAny_mono q3 (fun x z4 q4 => wpAny_bind (wpAny_mono q4 (fun _ z5 q5 => wpAny_pure (wpAny_pure ⟨rfl,q5⟩)) fun _ _ z => z)) fun _ _ z => z))
theorem loop_two0 {elt tg iter tg2 iter2:Expr} {ifs ifs2:List Expr} {scope:Scope} {pos:PySem.Pos} {it acc:Value} {env:Env} (hs2:∀ x,foldedSetIterable iter2 env x=pure x) (I:Nat→Shared→Prop)
  (turn:∀ n s,I n s→wpAny (model prog w) A (pyNext it) (fun r z1 => match r with
   | none => R (.ok .next) z1
   | some v => wpAny (model prog w) A (letOwnedTupleGo tg it v) (fun _ y1 => wpAny (model prog w) A (assign tg env v) (fun _ z2 =>
     wpAny (model prog w) A (forIn ifs true fun c r => if r=true then do let ok ← isTrue c env (eval c env); pure (ForInStep.yield ok) else pure (ForInStep.yield r)) (fun ok z3 =>
      if ok=true then wpAny (model prog w) A (eval iter2 env) (fun x z4 => wpAny (model prog w) A (pyIter x) (fun i2 z5 => codeAny (model prog w) A (.compStart (e2 elt tg iter ifs tg2 iter2 ifs2 scope pos) 1 i2 acc env) (fun r s' => match r with | .ok _ => ∃ m,m < n∧I m s' | .error _ => False) z5) (fun _ _ => False) z4) (fun _ _ => False) z3 else ∃ m,m < n∧I m z3) (fun _ _ => False) z2) (fun _ _ => False) y1) (fun _ _ => False) z1) (fun _ _ => False) s)
  (n:Nat) (h:I n s):codeAny (model prog w) A (.compLoop (e2 elt tg iter ifs tg2 iter2 ifs2 scope pos) 0 it acc env) R s:=by
 refine codeAny_loop rfl I (fun n s hI => ?_) n h
 show wpAny _ A ((compTurn (e2 elt tg iter ifs tg2 iter2 ifs2 scope pos) 0 it acc env).onRaise (fun x => do noteFrame x env; theTreesLotGoes x)) _ _ s
 refine wpAny_noted ?_
 rw [turn_two0]
 refine wpAny_bind (wpAny_standAt (wpAny_bind (wpAny_mono (turn n s hI) (fun r z1 q1 => ?_) fun _ _ z => z.elim)))
 cases r with
 | none => exact wpAny_pure q1
 | some v =>
  refine wpAny_bind (wpAny_mono q1 (fun _ y1 q1 => ?_) fun _ _ z => z.elim)
  refine wpAny_bind (wpAny_mono q1 (fun _ z2 q2 => wpAny_bind (wpAny_mono q2 (fun ok z3 q3 => ?_) fun _ _ z => z.elim)) fun _ _ z => z.elim)
  cases ok with
  | false => exact wpAny_pure ⟨rfl,q3⟩
  | true =>
   refine wpAny_bind (wpAny_mono q3 (fun x z4 q4 => wpAny_bind (wpAny_standAt (wpAny_bind (wpAny_of_eq (hs2 x) (wpAny_bind (wpAny_holding (wpAny_mono q4 (fun i2 z5 q5 => ?_) fun _ _ z => z.elim))))))) fun _ _ z => z.elim)
   refine wpAny_bind (wpAny_runOwn (codeAny_mono q5 fun r s' q => ?_))
   cases r with
   | ok f => exact wpAny_pure ⟨rfl,q⟩
   | error e => exact q.elim
theorem start_two1 {elt tg iter tg2 iter2:Expr} {ifs ifs2:List Expr} {scope:Scope} {pos:PySem.Pos} {it acc:Value} {env:Env}
  (h0:codeAny (model prog w) A (.compLoop (e2 elt tg iter ifs tg2 iter2 ifs2 scope pos) 1 it acc env) R s)
  (h:wpAny (model prog w) A (pyIter it) (fun it' s' => codeAny (model prog w) A (.compLoop (e2 elt tg iter ifs tg2 iter2 ifs2 scope pos) 1 it' acc env) R s') (fun _ _ => False) s) :
  codeAny (model prog w) A (.compStart (e2 elt tg iter ifs tg2 iter2 ifs2 scope pos) 1 it acc env) R s:=by
 refine codeAny_of_tree ?_
 show wpAny _ _ ((compStart (e2 elt tg iter ifs tg2 iter2 ifs2 scope pos) 1 it acc env).onRaise (fun x => do noteFrame x env; standAt theWindowsPlace)) _ _ s
 refine wpAny_notedAt ?_
 unfold compStart
 show wpAny _ _ (ask >>= _) _ _ s
 refine wpAny_bind (wpAny_askSetting (wpAny_ite ?_))
 split
 ·exact wpAny_pure ⟨rfl,h0⟩
 ·refine wpAny_bind (wpAny_rule ?_)
  show wpAny _ _ (standAt iter2.pos >>= _) _ _ s
  exact wpAny_bind (wpAny_standAt (wpAny_bind (wpAny_mono h (fun it' s' q => wpAny_pure ⟨rfl,q⟩) fun _ _ z => z.elim)))
end
def CGi (k:Nat) (J:It) (g:TG) (tt:TT) (te:TE) (N:List V→Hp→Prop) (σ:St) (ys:List V) (σ1:St) (H1:Hp):Prop:=∃ W:Nat→Nat→List V→St→Hp→Prop,(∃ m,W 0 m ys σ1 H1)∧∀ j m zs σ' H,W j m zs σ' H →
 (J.stop j H∧N zs H) ∨ (J.go j H∧zs.length < sizeLine∧∃ N2:List V→St→Hp→Prop,(∀ ws σ2 H',N2 ws σ2 H'→∃ m',m' < m∧W (j + 1) m' ws σ2 H')∧∀ v H',J.yld j H v H'→g v σ' H' fun σ2 H2 => (∃ pre' : St,σ2=pre' ++ σ∧pre'.length=k)∧tt σ2 H2 fun ok H3 => if ok=true then te σ2 H3 fun y H4 => N2 (zs ++ [y]) σ2 H4 else N2 zs σ2 H3)
def CGo2 (k:Nat) (J:It) (g:TG) (tt:TT) (wi2:TI) (g2:TG) (tt2:TT) (te:TE) (Q:VK) (σ:St) (H1:Hp):Prop:=∃ W:Nat→Nat→List V→Hp→Prop,(∃ m,W 0 m [] H1)∧∀ i m ys H,W i m ys H →
 (J.stop i H∧∀ D,H D=none→Q (.ref D) (upd H D (.lst ys))) ∨ (J.go i H∧∃ N:List V→Hp→Prop,(∀ zs H',N zs H'→∃ m',m' < m∧W (i + 1) m' zs H')∧∀ v H' (pre:St),pre.length=k→J.yld i H v H'→g v (pre ++ σ) H' fun σ' H2 => (∃ pre' : St,σ' = pre' ++ σ∧pre'.length=k)∧tt σ' H2 fun ok H3 => if ok=true then wi2 σ' H3 fun J2 H4 => CGi k J2 g2 tt2 te N σ ys σ' H4 else N ys H3)
def tComp2 (k:Nat) (wi:TI) (g:TG) (tt:TT) (wi2:TI) (g2:TG) (tt2:TT) (te:TE):TE:=fun σ H Q => wi σ H fun J H1 => CGo2 k J g tt wi2 g2 tt2 te Q σ H1
theorem comp_core2 {elt iter tg iter2 tg2:Expr} {xs Nb:List Str} {ifs ifs2:List Expr} {scope:Scope} {pos:PySem.Pos} {wi wi2:TI} {g g2:TG} {tt tt2:TT} {te:TE}
  (hc:X.calm=true) (hi:PI X tg iter wi) (hlen:Nb.length=X.N.length) (hNb:∀ p ∈ Nb.zip X.N,p.1=p.2 ∨ scope.names.lookup p.1=none) (hxN:∀ y ∈ Nb,scope.names.lookup y ≠ some .local)
  (hg:InB X xs Nb scope fun Y => PG Y tg g) (ht:InB X xs Nb scope fun Y => PIf Y ifs tt) (hi2:InB X xs Nb scope fun Y => PI Y tg2 iter2 wi2) (hg2:InB X xs Nb scope fun Y => PG Y tg2 g2) (ht2:InB X xs Nb scope fun Y => PIf Y ifs2 tt2) (hs2:∀ env x,foldedSetIterable iter2 env x=pure x) (he:InB X xs Nb scope fun Y => PE Y elt te)
  (hcell:∀ y ∈ scope.names,y.2 ≠ .cell) (hkind:scope.kind = .function) (hnames:∀ y ∈ scope.names,y.2 = .local→scope.names.lookup y.1=some .local)
  (hfree:∀ y ∈ scope.names,y.2 = .free→X.env.kindOf y.1=some .cell)
  (hs:∀ x,foldedSetIterable iter X.env x=pure x) {pos2:PySem.Pos} {use:Option (Value→Sem Unit)} {QQ:Value→Shared→Prop} {pins:List (Addr × Obj)} {s:Shared} {σ:St} {H:Hp} {Q:VK} (I:Inv X pins σ H s) (h:tComp2 xs.length wi g tt wi2 g2 tt2 te σ H Q)
  (post:∀ (s2 s4:Shared) (H2 H4:Hp) (C D:Addr) (m4:Str→Option Value),Inv X pins σ H2 s2→s2.heap.objs.size ≤ C→s4.heap.Ns C m4→H4 C=none→(∀ h',Heap.SameBut C s4.heap h'→Inv X pins σ H4 { s4 with heap:=h' })→Q (.ref D) H4→compPost (model X.prog X.w) X.A X.xe use QQ (.ref D) C (.ok .next) s4) :
  wpAny (model X.prog X.w) X.A (comprehension (.ListComp elt [⟨tg,iter,ifs,0⟩,⟨tg2,iter2,ifs2,0⟩] scope pos) scope X.env pos2 (newList []) false (eval iter X.env) use) QQ X.xe s:=by
 obtain ⟨cl,hcl,cl1,cl2⟩:=clos_ok (scope:=scope) (env:=X.env) (fun y hy hf => I.ok.has y.1 (.inl (hfree y hy hf)))
 refine wpAny_comprehension_free rfl hs hcl hkind hnames (thn (hi pins s σ H _ I h) fun v s1 h1 => thn h1 fun itv s2 h2 => ?_)
 obtain ⟨it,fp,tn,J,H2,e,I2,T,st2,f2,W,⟨m0,w0⟩,turn⟩:=h2
 subst e
 refine wpAny_newObj_type (wpAny_newFunctionEnv hcell (by intro y hy; simp at hy) (fun h₁ hns₁ hsb₁ => ?_) hkind)
 dsimp only at hns₁ hsb₁ ⊢
 generalize hHp:s2.heap.push { cls:=.type "list",dict:=none,data:=.seq ([]:List Value).toArray } = Hp2 at hns₁ hsb₁ ⊢
 have hC:Hp2.objs.size=s2.heap.objs.size + 1:=by rw [← hHp,Heap.size_push]
 have hDC:s2.heap.objs.size ≠ Hp2.objs.size:=by rw [hC]; exact Nat.ne_of_lt (Nat.lt_succ_self _)
 have below:∀ b,b < s2.heap.objs.size→b ≠ Hp2.objs.size∧b ≠ s2.heap.objs.size:=fun b hb => ⟨by rw [hC]; exact Nat.ne_of_lt (Nat.lt_succ_of_lt hb),Nat.ne_of_lt hb⟩
 have old:∀ b o,s2.heap.get? b=some o→h₁.get? b=some o:=fun b o e => hsb₁.extBut b o (below b (Heap.lt_size e)).1 (Heap.get?_push_of_some _ (hHp ▸ Heap.get?_push_of_some _ e))
 have hacc:h₁.PlainList s2.heap.objs.size #[]:=⟨_,hsb₁.extBut _ _ hDC (Heap.get?_push_of_some _ (hHp ▸ Heap.get?_push_size _ rfl))⟩
 generalize hY:cxC X xs Nb scope cl Hp2.objs.size s2 H2 fp=Y
 have Yprog:Y.prog=X.prog:=by rw [← hY]; rfl
 have fpLt:∀ b ∈ fp,b < s2.heap.objs.size:=fun b hb => by
  obtain ⟨o,e,_⟩:=T.obj _ _ st2 b hb
  exact Heap.lt_size e
 have cellLt:∀ y c,cl.lookup y=some c→c < s2.heap.objs.size:=fun y c hc => by
  obtain ⟨v,q⟩:=I2.cell y c (cl1 y c hc)
  exact q.lt
 have frSub:∀ b ∈ frs X.stack,b < s2.heap.objs.size:=fun b hb => by
  rcases List.mem_cons.mp (I2.stkSub b hb) with z | z
  ·rw [z]; exact I2.lt
  ·by_cases hlt:b < s2.heap.objs.size
   ·exact hlt
   ·exact absurd z (I2.nofs (Nat.le_of_not_lt hlt))
 have ok:(cxC X xs Nb scope cl Hp2.objs.size s2 H2 fp).Ok:=by
  refine ⟨I2.ok.mod,hkind,I2.ok.glob,I2.ok.blt,(by show s2.heap.objs.size ≤ Hp2.objs.size; omega),fun y z c h1 h2 => I2.ok.inj y z c (cl1 y c h1) (cl1 z c h2),fun y hy => ?_,fun y c hf _ => absurd hf (by intro z; cases z),I2.ok.hd,I2.ok.frames,.inl rfl,fun b hb => ⟨?_,fun y c h1 h2 => ?_⟩,I2.bs,Nat.le_trans I2.ok.bsz I2.sz,fun b o e hb => ?_,fun b hb hm => ?_,I2.stack,I2.stkFree⟩
  ·have hy:(scope.names.map fun (n,k) => if (k == NameKind.free && X.env.scope.kind == .function && X.env.kindOf n == some .cell) then (n,NameKind.cell) else (n,k)).lookup y=some .cell ∨ (scope.names.map fun (n,k) => if (k == NameKind.free && X.env.scope.kind == .function && X.env.kindOf n == some .cell) then (n,NameKind.cell) else (n,k)).lookup y=some .free:=hy
   have q:scope.names.lookup y=some .free:=by
    rcases hy with z | z
    ·exact (relabel_kind hcell z (.inl rfl)).1
    ·exact (relabel_kind hcell z (.inr rfl)).1
   exact Option.isSome_iff_exists.mp (cl2 y (PySem.mem_of_lookup q))
  ·exact (below b (fpLt b hb)).1
  ·exact (f2 b hb).2.2.2.2.1 y c (cl1 y c h1) h2
  ·rcases (f2 b hb).2.2.2.1 with z | z
   ·exact I2.ok.noex b o e z
   ·exact absurd (Nat.lt_of_lt_of_le (Heap.lt_size e) (Nat.le_trans I2.ok.bsz z)) (Nat.lt_irrefl _)
  ·rcases List.mem_cons.mp (I2.stkSub b hm) with z | z
   ·exact (f2 b hb).2.1 z
   ·exact (f2 b hb).2.2.1 z
 have fpY:∀ {H' : Hp} {pl:List (Addr × Obj)},(∀ b ∈ fp,H' b=none)→(∀ p ∈ pl,p.1=s2.heap.objs.size)→∀ b ∈ fp,FpOk Y pl H' b:=fun {H' pl} hn hp b hb => by
  rw [← hY]
  refine ⟨hn b hb,(below b (fpLt b hb)).1,fun hm => ?_,.inl hb,fun y c h1 h2 => (f2 b hb).2.2.2.2.1 y c (cl1 y c h1) h2,fun p hm z => ?_⟩
  ·rcases List.mem_cons.mp (I2.stkSub b hm) with z | z
   ·exact (f2 b hb).2.1 z
   ·exact (f2 b hb).2.2.1 z
  ·have hm:p ∈ pl:=hm
   rw [hp p hm] at z
   exact (below b (fpLt b hb)).2 z.symm
 have HD:H2 s2.heap.objs.size=none:=I2.hok.fresh (Nat.le_refl _)
 have HC:H2 Hp2.objs.size=none:=I2.hok.fresh (by omega)
 obtain ⟨m2,hns2,hloc2⟩:=I2.loc
 have IY:∀ tk,Inv (cxC X xs Nb scope cl Hp2.objs.size s2 H2 fp) [] (List.replicate xs.length none ++ σ) H2 { s2 with heap:=h₁,toks:=tk }:=fun tk => by
  refine ⟨ok,rfl,I2.bare,Un.kept old,⟨_,hns₁,fun i y v h1 h2 h3 => ?_⟩,fun y c h1 => ?_,HC,fun y c h1 => I2.freeC y c (cl1 y c h1),fun p hp => absurd (show p ∈ ([]:List (Addr × Obj)) from hp) (by simp),I2.hok.kept old,(by show (List.replicate xs.length (none:Option V) ++ σ).length=(xs ++ Nb).length; rw [List.length_append,List.length_append,List.length_replicate,hlen,I2.len])⟩
  ·have h1:(xs ++ Nb)[i]? = some y:=h1
   by_cases hik:i < xs.length
   ·rw [List.getElem?_append_left (by rw [List.length_replicate]; exact hik),List.getElem?_replicate,if_pos hik] at h2
    cases h2
   ·rw [List.getElem?_append_right (by omega)] at h1
    rw [List.getElem?_append_right (by rw [List.length_replicate]; omega),List.length_replicate] at h2
    generalize i - xs.length=i at h1 h2
    have h3:Vis (relabel scope X.env) y:=h3
    have key:∀ k,(k=NameKind.cell ∨ k=NameKind.free)→(relabel scope X.env).names.lookup y=some k→∃ u,RelV v u∧Look (compEnvC scope cl Hp2.objs.size X.env) h₁ (fun x => ([]:List (Str × Value)).reverse.lookup x) y u:=fun k hk hl => by
     obtain ⟨q1,_⟩:=relabel_kind hcell hl hk
     have q2:=hfree (y,.free) (PySem.mem_of_lookup q1) rfl
     have h1' : X.N[i]? = some y:=by
      have hi' : i < X.N.length:=by rw [← hlen]; exact (List.getElem?_eq_some_iff.mp h1).1
      have hz:(Nb.zip X.N)[i]? = some (y,X.N[i]):=by rw [List.getElem?_zip_eq_some]; exact ⟨h1,List.getElem?_eq_getElem hi'⟩
      rcases hNb _ (List.mem_of_getElem? hz) with z | z
      ·have z:y=X.N[i]:=z
       rw [z]; exact List.getElem?_eq_getElem hi'
      ·have z:scope.names.lookup y=none:=z
       rw [q1] at z; cases z
     obtain ⟨u,r,l⟩:=hloc2 i y v h1' h2 (.inr (.inl q2))
     refine ⟨u,r,.inr ⟨?_,?_⟩⟩
     ·rcases hk with rfl | rfl
      ·exact .inl hl
      ·exact .inr hl
     ·rcases l with ⟨k1,_⟩ | ⟨_,c,e1,z⟩
      ·rw [q2] at k1; cases k1
      ·obtain ⟨c',e2⟩:=Option.isSome_iff_exists.mp (cl2 y (PySem.mem_of_lookup q1))
       have e3:=cl1 y c' e2
       rw [e1] at e3
       cases e3
       obtain ⟨o,ho,hd⟩:=z
       exact ⟨c,e2,o,old c o ho,hd⟩
    rcases h3 with h3 | h3 | h3
    ·
     exfalso
     exact hxN y (List.mem_of_getElem? h1) (relabel_local h3)
    ·exact key _ (.inl rfl) h3
    ·exact key _ (.inr rfl) h3
  ·obtain ⟨v,o,ho,hd⟩:=I2.cell y c (cl1 y c h1)
   exact ⟨v,o,old c o ho,hd⟩
 have noErr:∀ {α:Type} {m:Sem α} {G:α→Shared→Prop} {E' : Value→Shared→Prop} {s' : Shared},wpAny (model X.prog X.w) X.A m G (fun _ _ => False) s'→wpAny (model X.prog X.w) X.A m G E' s':=fun h => wpAny_mono h (fun _ _ q => q) fun _ _ q => q.elim
 have loop:∀ (tk:Nat) (R:Result→Shared→Prop),R=compPost (model X.prog X.w) X.A X.xe use QQ (.ref s2.heap.objs.size) Hp2.objs.size →
   codeAny (model X.prog X.w) X.A (.compLoop (.ListComp elt [⟨tg,iter,ifs,0⟩,⟨tg2,iter2,ifs2,0⟩] scope pos) 0 (.ref it) (.ref s2.heap.objs.size) (compEnvC scope cl Hp2.objs.size X.env)) R { s2 with heap:=h₁,toks:=tk }:=by
  rintro tk R rfl
  refine loop_two0 (fun x => hs2 _ x) (fun n s' => ∃ i σv H' ys its,σv.length=xs.length∧Inv Y [] (σv ++ σ) H' s'∧tn i s'.heap∧(∀ b ∈ fp,H' b=none)∧Vals ys its∧ys.length ≤ sizeLine∧s'.heap.PlainList s2.heap.objs.size its.toArray∧H' s2.heap.objs.size=none∧W i n ys H') ?_ m0
   ⟨0,List.replicate xs.length none,H2,[],[],List.length_replicate,hY ▸ IY tk,T.keep _ _ _ st2 fun b _ o e => old b o e,fun b hb => (f2 b hb).1,.nil,Nat.zero_le _,hacc,HD,w0⟩
  rintro n s3 ⟨i,σv,H3,ys,its,lv,I3,st3,fr3,rv,hz,⟨nn,pl3⟩,HD3,w3⟩
  have I3p:Inv Y [(s2.heap.objs.size,{ cls:=.type "list",data:=.seq its.toArray nn })] (σv ++ σ) H3 s3:=I3.pins_of fun p hp => by
   rw [List.mem_singleton] at hp
   subst hp
   refine ⟨pl3,HD3,?_,fun hm => ?_,fun v z => by cases z⟩
   ·rw [← hY]; exact hDC
   ·rw [← hY] at hm
    exact absurd (frSub _ hm) (Nat.lt_irrefl _)
  have pinD:∀ p ∈ [((s2.heap.objs.size:Addr),({ cls:=.type "list",data:=.seq its.toArray nn } : Obj))],p.1=s2.heap.objs.size:=fun p hp => by
   rw [List.mem_singleton] at hp
   rw [hp]
  subst hY
  rcases turn i n ys H3 w3 with ⟨stop,qn⟩ | ⟨go,NN,hNN,step⟩
  ·refine noErr (thn (T.done (cxC X xs Nb scope cl Hp2.objs.size s2 H2 fp) rfl rfl rfl hc i _ s3 _ H3 (fun _ _ => False) I3p (fpY fr3 pinD) st3 stop) fun r s4 ⟨hr,I4⟩ => ?_)
   subst hr
   obtain ⟨m4,hns4,_⟩:=I4.loc
   refine post s2 s4 H2 (upd H3 s2.heap.objs.size (.lst ys)) Hp2.objs.size s2.heap.objs.size m4 I2 (by omega) hns4 (by rw [upd_ne (Ne.symm hDC)]; exact I4.free) (fun h' sb => ?_) (qn _ HD3)
   have pl4:=(I4.pin _ (List.mem_append_right _ List.mem_cons_self)).1
   have up:∀ b o,b ≠ Hp2.objs.size→s4.heap.get? b=some o→h'.get? b=some o:=fun b o hb e => sb.extBut b o hb e
   have base:=I4.base
   have HC4:H3 Hp2.objs.size=none:=I4.free
   have neC:∀ b o,s2.heap.get? b=some o→b ≠ Hp2.objs.size:=fun b o e => (below b (Heap.lt_size e)).1
   have neD:∀ b o,s2.heap.get? b=some o→b ≠ s2.heap.objs.size:=fun b o e => (below b (Heap.lt_size e)).2
   have hokN:HOk X.prog X.w (upd H3 s2.heap.objs.size (.lst ys)) h':=fun b u e => by
    by_cases hb:b=s2.heap.objs.size
    ·subst hb
     rw [upd_same] at e
     cases e
     exact ⟨hz,its,nn,rv,up _ _ hDC pl4⟩
    ·rw [upd_ne hb] at e
     refine (I4.hok b u e).stay (fun c v hc q => up c v ?_ q) (fun c q => by rw [upd_ne (ne_of_none q HD3)]; exact q) fun c xs q => by rw [upd_ne (ne_of_none q HD3)]; exact q
     rcases hc with z | z
     ·rw [z]; exact ne_of_none e HC4
     ·exact ne_of_none z HC4
   refine I2.call' (s':={ s4 with heap:=h' }) (ch:=fp) I4.os ⟨fun b o e n hb hx' => up b o (neC b o e) (base.keep b o e n hb hx'),fun b o e n hb hx' => ?_,fun b o e n hx' => ?_,fun b o e hx' => ?_,fun b xs e => ?_,fun b o u e => ?_,fun b ps e => ?_⟩ hokN I4.bare (fun b hb => ?_)
   ·obtain ⟨sl,q⟩:=base.slot b o e n hb hx'
    exact ⟨sl,up b _ (neC b o e) q⟩
   ·rw [upd_ne (neD b o e)]
    exact base.free b o e n hx'
   ·obtain ⟨o',q⟩:=base.there b o e hx'
    exact ⟨o',up b o' (neC b o e) q⟩
   ·have q:=base.tups b xs e
    rw [upd_ne (ne_of_none q HD3)]; exact q
   ·have q:=base.frzs b o u e
    rw [upd_ne (ne_of_none q HD3)]; exact q
   ·obtain ⟨more,q⟩:=base.tbls b ps e
    exact ⟨more,by rw [upd_ne (ne_of_none q HD3)]; exact q⟩
   ·obtain ⟨_,g1,_,g3,g4,g5⟩:=f2 b hb
    exact ⟨g3,g1,g4,g5⟩
  ·refine noErr (thn (T.item (cxC X xs Nb scope cl Hp2.objs.size s2 H2 fp) rfl rfl rfl hc i _ s3 _ H3 (fun _ _ => False) I3p (fpY fr3 pinD) st3 go) fun r s4 ⟨u,hr,h4⟩ => ?_)
   subst hr
   refine noErr (thn h4 fun _ s5 ⟨v,H5,I5,r5,y5,st5,fr5⟩ => ?_)
   have I5':=I5.pinned (fpY fr5 pinD) (T.obj _ _ st5)
   have stp:=step v H5 σv lv y5
   refine noErr (thn (hg cl Hp2.objs.size s2 H2 fp _ s5 _ H5 v u _ I5' r5 stp) fun _ s6 ⟨σ6,H6,I6,⟨pre',e6,l6⟩,stp⟩ => ?_)
   subst e6
   generalize hpo:pinsAt fp s5.heap=po at I5' I6
   have poA:∀ p ∈ po,p.1 ∈ fp:=fun p hp => by rw [← hpo] at hp; exact (of_pinsAt hp).1
   have poD:∀ p ∈ po,p.1 ≠ s2.heap.objs.size:=fun p hp => (below _ (fpLt _ (poA p hp))).2
   have again:∀ {s7:Shared} {H7:Hp} {pre7:St} {zs:List V} {ws:List Value} {m' : Nat},pre7.length=xs.length→Inv (cxC X xs Nb scope cl Hp2.objs.size s2 H2 fp) po (pre7 ++ σ) H7 s7→s7.heap.PlainList s2.heap.objs.size ws.toArray→H7 s2.heap.objs.size=none→Vals zs ws→zs.length ≤ sizeLine→m' < n→W (i + 1) m' zs H7 →
     ∃ m,m < n∧∃ i σv H' ys its,σv.length=xs.length∧Inv (cxC X xs Nb scope cl Hp2.objs.size s2 H2 fp) [] (σv ++ σ) H' s7∧tn i s7.heap∧(∀ b ∈ fp,H' b=none)∧Vals ys its∧ys.length ≤ sizeLine∧s7.heap.PlainList s2.heap.objs.size its.toArray∧H' s2.heap.objs.size=none∧W i m ys H':=by
    intro s7 H7 pre7 zs ws m' l7 I7 plw HD7 rz hzz hm w7
    have fr7:∀ b ∈ fp,H7 b=none:=fun b hb => by
     obtain ⟨o,e,d⟩:=T.obj _ _ st5 b hb
     exact (I7.pin (b,o) (List.mem_append_right _ (by rw [← hpo]; exact mem_pinsAt hb e))).2.1
    refine ⟨m',hm,i + 1,pre7,H7,zs,ws,l7,I7.pins_of fun p hp => absurd hp (by simp),?_,fr7,rz,hzz,plw,HD7,w7⟩
    refine T.keep _ _ _ st5 fun b hb o e => ?_
    exact (I7.pin (b,o) (List.mem_append_right _ (by rw [← hpo]; exact mem_pinsAt hb e))).1
   refine noErr (thn (ht cl Hp2.objs.size s2 H2 fp _ s6 _ H6 _ I6 stp) fun okb s7 ⟨H7,I7,q7⟩ => ?_)
   have pl7:=(I7.pin _ (List.mem_append_right _ (List.mem_append_left _ List.mem_cons_self)))
   have I7o:Inv (cxC X xs Nb scope cl Hp2.objs.size s2 H2 fp) po (pre' ++ σ) H7 s7:=I7.pins_of fun p hp => I7.pin p (List.mem_append_right _ (List.mem_append_right _ hp))
   cases okb with
   | false =>
    rw [if_neg Bool.false_ne_true] at q7 ⊢
    obtain ⟨m',hm,w7⟩:=hNN _ _ q7
    exact again l6 I7o ⟨nn,pl7.1⟩ pl7.2.1 rv hz hm w7
   | true =>
    rw [if_pos rfl] at q7 ⊢
    refine noErr (thn (hi2 cl Hp2.objs.size s2 H2 fp _ s7 _ H7 _ I7 q7) fun x s8 h8 => noErr (thn h8 fun itv s9 h9 => ?_))
    obtain ⟨it2,fp2,tn2,J2,H9,e9,I9,T2,st9,f9,W2,⟨m2,w2⟩,turn2⟩:=h9
    subst e9
    have pl9:=(I9.pin _ (List.mem_append_right _ (List.mem_append_left _ List.mem_cons_self)))
    have I9o:Inv (cxC X xs Nb scope cl Hp2.objs.size s2 H2 fp) po (pre' ++ σ) H9 s9:=I9.pins_of fun p hp => I9.pin p (List.mem_append_right _ (List.mem_append_right _ hp))
    have fp2D:∀ b ∈ fp2,b ≠ s2.heap.objs.size:=fun b hb z => (f9 b hb).2.2.2.2.2 _ (List.mem_append_right _ (List.mem_append_left _ List.mem_cons_self)) z.symm
    have inner:codeAny (model X.prog X.w) X.A (.compLoop (e2 elt tg iter ifs tg2 iter2 ifs2 scope pos) 1 (.ref it2) (.ref s2.heap.objs.size) (compEnvC scope cl Hp2.objs.size X.env)) (fun r s' => match r with | .ok _ => ∃ m,m < n∧∃ i σv H' ys its,σv.length=xs.length∧Inv (cxC X xs Nb scope cl Hp2.objs.size s2 H2 fp) [] (σv ++ σ) H' s'∧tn i s'.heap∧(∀ b ∈ fp,H' b=none)∧Vals ys its∧ys.length ≤ sizeLine∧s'.heap.PlainList s2.heap.objs.size its.toArray∧H' s2.heap.objs.size=none∧W i m ys H' | .error _ => False) s9:=by
     refine loop_two1 rfl (fun n' s' => ∃ (j:Nat) (pv:St) (H' : Hp) (zs:List V) (ws:List Value),pv.length=xs.length∧Inv (cxC X xs Nb scope cl Hp2.objs.size s2 H2 fp) po (pv ++ σ) H' s'∧tn2 j s'.heap∧(∀ b ∈ fp2,H' b=none)∧Vals zs ws∧zs.length ≤ sizeLine∧s'.heap.PlainList s2.heap.objs.size ws.toArray∧H' s2.heap.objs.size=none∧W2 j n' zs (pv ++ σ) H') ?_ m2 ⟨0,pre',H9,ys,its,l6,I9o,st9,fun b hb => (f9 b hb).1,rv,hz,⟨nn,pl9.1⟩,pl9.2.1,w2⟩
     rintro n' t0 ⟨j,pv,K0,zs,ws,lpv,J0,tst,tfr,rz,hzz,⟨nz,plz⟩,KD,ww⟩
     have J0p:Inv (cxC X xs Nb scope cl Hp2.objs.size s2 H2 fp) ([((s2.heap.objs.size:Addr),({ cls:=.type "list",data:=.seq ws.toArray nz } : Obj))] ++ po) (pv ++ σ) K0 t0:=J0.pins_of fun p hp => by
      rcases List.mem_append.mp hp with hp | hp
      ·rw [List.mem_singleton] at hp
       subst hp
       exact ⟨plz,KD,hDC,fun hm => absurd (frSub _ hm) (Nat.lt_irrefl _),fun v z => by cases z⟩
      ·exact J0.pin p (List.mem_append_right _ hp)
     have fpI:∀ {K' : Hp},(∀ b ∈ fp2,K' b=none)→∀ b ∈ fp2,FpOk (cxC X xs Nb scope cl Hp2.objs.size s2 H2 fp) ([((s2.heap.objs.size:Addr),({ cls:=.type "list",data:=.seq ws.toArray nz } : Obj))] ++ po) K' b:=fun {K'} hn b hb => by
      obtain ⟨_,a1,a2,a3,a4,a5⟩:=f9 b hb
      refine ⟨hn b hb,a1,a2,a3,a4,fun p hp => ?_⟩
      have hp:p ∈ [((s2.heap.objs.size:Addr),({ cls:=.type "list",data:=.seq ws.toArray nz } : Obj))] ++ po:=hp
      rcases List.mem_append.mp hp with hp | hp
      ·rw [List.mem_singleton] at hp
       subst hp
       exact fun z => fp2D b hb z.symm
      ·exact a5 p (List.mem_append_right _ (List.mem_append_right _ hp))
     rcases turn2 j n' zs _ K0 ww with ⟨stop2,qn2⟩ | ⟨go2,hlt2,N2,hN2,step2⟩
     ·refine noErr (thn (T2.done (cxC X xs Nb scope cl Hp2.objs.size s2 H2 fp) rfl rfl rfl hc j _ t0 _ K0 (fun _ _ => False) J0p (fpI tfr) tst stop2) fun r t1 ⟨hr,J1⟩ => ?_)
      subst hr
      obtain ⟨m',hm,w7⟩:=hNN _ _ qn2
      have p1:=J1.pin _ (List.mem_append_right _ (List.mem_append_left _ List.mem_cons_self))
      exact again lpv (J1.pins_of fun p hp => J1.pin p (List.mem_append_right _ (List.mem_append_right _ hp))) ⟨nz,p1.1⟩ p1.2.1 rz hzz hm w7
     ·refine noErr (thn (T2.item (cxC X xs Nb scope cl Hp2.objs.size s2 H2 fp) rfl rfl rfl hc j _ t0 _ K0 (fun _ _ => False) J0p (fpI tfr) tst go2) fun r t1 ⟨u2,hr,h4⟩ => ?_)
      subst hr
      refine noErr (thn h4 fun _ t2 ⟨v2,K2,J2',r2,y2,ts2,tf2⟩ => ?_)
      have J2p:=J2'.pinned (fpI tf2) (T2.obj _ _ ts2)
      have stp2:=step2 v2 K2 y2
      refine noErr (thn (hg2 cl Hp2.objs.size s2 H2 fp _ t2 _ K2 v2 u2 _ J2p r2 stp2) fun _ t3 ⟨σ7,K3,J3,⟨pv',e7,l7⟩,stp2⟩ => ?_)
      subst e7
      have again2:∀ {t7 t8:Shared} {K7:Hp} {zs' : List V} {ws' : List Value} {m' : Nat},Inv (cxC X xs Nb scope cl Hp2.objs.size s2 H2 fp) (([((s2.heap.objs.size:Addr),({ cls:=.type "list",data:=.seq ws.toArray nz } : Obj))] ++ po) ++ pinsAt fp2 t2.heap) (pv' ++ σ) K7 t7 →
        (∃ h',t8 = { t7 with heap:=h' }∧(∀ b o,b ≠ s2.heap.objs.size→t7.heap.get? b=some o→h'.get? b=some o)∧h'.PlainList s2.heap.objs.size ws'.toArray)→Vals zs' ws'→zs'.length ≤ sizeLine→m' < n'→W2 (j + 1) m' zs' (pv' ++ σ) K7 →
        ∃ m,m < n'∧∃ (j:Nat) (pv:St) (H' : Hp) (zs:List V) (ws:List Value),pv.length=xs.length∧Inv (cxC X xs Nb scope cl Hp2.objs.size s2 H2 fp) po (pv ++ σ) H' t8∧tn2 j t8.heap∧(∀ b ∈ fp2,H' b=none)∧Vals zs ws∧zs.length ≤ sizeLine∧t8.heap.PlainList s2.heap.objs.size ws.toArray∧H' s2.heap.objs.size=none∧W2 j m zs (pv ++ σ) H':=by
       rintro t7 t8 K7 zs' ws' m' J7 ⟨h',rfl,up,plw⟩ rz' hzz' hm w7
       have KD7:K7 s2.heap.objs.size=none:=(J7.pin _ (List.mem_append_right _ (List.mem_append_left _ (List.mem_append_left _ List.mem_cons_self)))).2.1
       have p2:∀ b ∈ fp2,∃ o,t2.heap.get? b=some o∧t7.heap.get? b=some o∧K7 b=none:=fun b hb => by
        obtain ⟨o,e,d⟩:=T2.obj _ _ ts2 b hb
        have:=J7.pin (b,o) (List.mem_append_right _ (List.mem_append_right _ (mem_pinsAt hb e)))
        exact ⟨o,e,this.1,this.2.1⟩
       have J7' : Inv (cxC X xs Nb scope cl Hp2.objs.size s2 H2 fp) po (pv' ++ σ) K7 t7:=J7.pins_of fun p hp => J7.pin p (List.mem_append_right _ (List.mem_append_left _ (List.mem_append_right _ hp)))
       refine ⟨m',hm,j + 1,pv',K7,zs',ws',l7,?_,?_,fun b hb => (p2 b hb).choose_spec.2.2,rz',hzz',plw,KD7,w7⟩
       ·have:=J7'.turned (it:=s2.heap.objs.size) (h':=h') (t':=t7.toks) up KD7 hDC (.inr (Nat.le_refl _)) (fun y c h1 h2 => absurd (cellLt y c h1) (by rw [h2]; exact Nat.lt_irrefl _)) (fun p hp => poD p hp)
        exact this
       ·refine T2.keep _ _ _ ts2 fun b hb o e => up b o (fp2D b hb) ?_
        obtain ⟨o',e1,e2,_⟩:=p2 b hb
        rw [e] at e1
        cases e1
        exact e2
      refine noErr (thn (ht2 cl Hp2.objs.size s2 H2 fp _ t3 _ K3 _ J3 stp2) fun okb t7 ⟨K7,J7,q7⟩ => ?_)
      have pl7:=(J7.pin _ (List.mem_append_right _ (List.mem_append_left _ (List.mem_append_left _ List.mem_cons_self)))).1
      cases okb with
      | false =>
       rw [if_neg Bool.false_ne_true] at q7 ⊢
       obtain ⟨m',hm,w7⟩:=hN2 _ _ _ q7
       exact again2 J7 ⟨t7.heap,rfl,fun _ _ _ e => e,nz,pl7⟩ rz hzz hm w7
      | true =>
       rw [if_pos rfl] at q7 ⊢
       refine noErr (thn (he cl Hp2.objs.size s2 H2 fp _ t7 _ K7 _ J7 q7) fun w' t8 ⟨y,K8,J8,r8,q8⟩ => ?_)
       obtain ⟨m',hm,w8⟩:=hN2 _ _ _ q8
       have pl8:=(J8.pin _ (List.mem_append_right _ (List.mem_append_left _ (List.mem_append_left _ List.mem_cons_self)))).1
       refine wpAny_list_append_plain (hsz:=by have:=rz.length; simp only [List.size_toArray]; omega) ⟨nz,pl8⟩ fun h9 pl9 sb9 => ?_
       refine again2 J8 ⟨h9,rfl,fun b o hb e => sb9.extBut b o hb e,?_⟩ (rz.append (.cons r8 .nil)) (by rw [List.length_append,List.length_singleton]; omega) hm w8
       have e9:ws.toArray.push w' = (ws ++ [w']).toArray:=by simp
       rw [← e9]
       exact pl9
    exact start_two1 inner (T2.self _ 0 _ _ _ st9 inner)
 refine codeAny_compStart_list (loop _ _ rfl) (noErr (T.self _ 0 _ _ _ (T.keep _ _ _ st2 fun b _ o e => old b o e) (loop _ _ rfl)))
theorem pe_comp2 {elt iter tg iter2 tg2:Expr} {xs Nb:List Str} {ifs ifs2:List Expr} {scope:Scope} {pos:PySem.Pos} {wi wi2:TI} {g g2:TG} {tt tt2:TT} {te:TE}
  (hc:X.calm=true) (hi:PI X tg iter wi) (hlen:Nb.length=X.N.length) (hNb:∀ p ∈ Nb.zip X.N,p.1=p.2 ∨ scope.names.lookup p.1=none) (hxN:∀ y ∈ Nb,scope.names.lookup y ≠ some .local)
  (hg:InB X xs Nb scope fun Y => PG Y tg g) (ht:InB X xs Nb scope fun Y => PIf Y ifs tt) (hi2:InB X xs Nb scope fun Y => PI Y tg2 iter2 wi2) (hg2:InB X xs Nb scope fun Y => PG Y tg2 g2) (ht2:InB X xs Nb scope fun Y => PIf Y ifs2 tt2) (he:InB X xs Nb scope fun Y => PE Y elt te)
  (hcell:∀ y ∈ scope.names,y.2 ≠ .cell) (hkind:scope.kind = .function) (hnames:∀ y ∈ scope.names,y.2 = .local→scope.names.lookup y.1=some .local)
  (hfree:∀ y ∈ scope.names,y.2 = .free→X.env.kindOf y.1=some .cell)
  (hs:∀ x,foldedSetIterable iter X.env x=pure x:=by intro _; rfl) (hs2:∀ env x,foldedSetIterable iter2 env x=pure x:=by intro _ _; rfl) :
  PE X (.ListComp elt [⟨tg,iter,ifs,0⟩,⟨tg2,iter2,ifs2,0⟩] scope pos) (tComp2 xs.length wi g tt wi2 g2 tt2 te):=by
 intro pins s σ H Q I h
 rw [eval_ListComp]
 exact comp_core2 (use:=none) (QQ:=EP X pins σ Q) hc hi hlen hNb hxN hg ht hi2 hg2 ht2 hs2 he hcell hkind hnames hfree hs I h fun s2 s4 H2 H4 C D m4 _ _ hn _ IX q => ⟨m4,hn,fun h' sb => ⟨.ref D,H4,IX h' sb,rfl,q⟩⟩
theorem comp2LT {K:PySem.W.Frag} {k:Nat} {a:Addr} {xs:List V} {g:TG} {tt:TT} {wi2:TI} {g2:TG} {tt2:TT} {te:TE} {Q:VK} {σ:St} {H:Hp} (Pv:Nat→List V→Hp→Prop) (h0:Pv 0 [] H) (hl:∀ i ys H,i ≤ xs.length→Pv i ys H→SqL K H a xs)
  (hs:∀ i x ys H (pre:St),pre.length=k→xs[i]? = some x→Pv i ys H→g x (pre ++ σ) H fun σ' H2 => (∃ pre' : St,σ' = pre' ++ σ∧pre'.length=k)∧tt σ' H2 fun ok H3 => if ok=true then wi2 σ' H3 fun J2 H4 => CGi k J2 g2 tt2 te (Pv (i + 1)) σ ys σ' H4 else Pv (i + 1) ys H3)
  (hd:∀ ys H,Pv xs.length ys H→∀ D,H D=none→Q (.ref D) (upd H D (.lst ys))):CGo2 k (Itl K a) g tt wi2 g2 tt2 te Q σ H:=by
 refine ⟨fun i m ys H => m=xs.length - i∧i ≤ xs.length∧Pv i ys H,⟨xs.length,by simp,Nat.zero_le _,h0⟩,?_⟩
 rintro i m ys H ⟨rfl,hi,p⟩
 have q:=hl i ys H hi p
 by_cases hlt:i < xs.length
 ·refine .inr ⟨⟨xs,xs[i],q,by simp [hlt]⟩,Pv (i + 1),fun zs H' p' => ⟨xs.length - (i + 1),by omega,rfl,hlt,p'⟩,fun x H' pre hp y => ?_⟩
  obtain ⟨e,y⟩:=y
  subst e
  exact hs i x ys _ pre hp (y xs q) p
 ·have e:i=xs.length:=by omega
  subst e
  exact .inl ⟨⟨xs,q,Nat.le_refl _⟩,hd ys H p⟩
end
end L2
namespace L2
open PySem PySem.Spec PyProof.Rows
section
variable {κ:Type} [DecidableEq κ]
def valV (kvs:List (κ × V)) (k:κ):Option V:=(kvs.find? fun kv => decide (kv.1=k)).map (·.2)
def putK (kvs:List (κ × V)) (k:κ) (v:V):List (κ × V) :=
 if (kvs.any fun kv => decide (kv.1=k))=true then kvs.map (fun kv => if kv.1=k then (kv.1,v) else kv) else kvs ++ [(k,v)]
theorem valV_pos {p:κ × V} {r:List (κ × V)} {k:κ} (e:p.1=k):valV (p :: r) k=some p.2:=by simp [valV,List.find?_cons,e]
theorem valV_neg {p:κ × V} {r:List (κ × V)} {k:κ} (e : ¬ p.1=k):valV (p :: r) k=valV r k:=by simp [valV,List.find?_cons,e]
theorem valV_any (k:κ):∀ kvs:List (κ × V),(kvs.any fun kv => decide (kv.1=k))=(valV kvs k).isSome
 | [] => rfl
 | p :: r => by
  rw [List.any_cons]
  by_cases e:p.1=k
  ·simp only [valV_pos e,decide_eq_true e,Bool.true_or,Option.isSome_some]
  ·rw [valV_neg e,decide_eq_false e,Bool.false_or]; exact valV_any k r
theorem length_putK (kvs:List (κ × V)) (k:κ) (v:V):(putK kvs k v).length ≤ kvs.length + 1:=by
 unfold putK
 split
 ·rw [List.length_map]; omega
 ·rw [List.length_append,List.length_cons,List.length_nil]; omega
theorem RelO.isSome_eq {o:Option V} {u:Option Value} (r:RelO o u):o.isSome=u.isSome:=by
 cases o with
 | none => cases u with
  | none => rfl
  | some _ => exact (show False from r).elim
 | some _ => cases u with
  | none => exact (show False from r).elim
  | some _ => rfl
theorem RelO.getD {o:Option V} {u:Option Value} {d:V} {d' : Value} (r:RelO o u) (rd:RelV d d'):RelV (o.getD d) (u.getD d'):=by
 cases o with
 | none => cases u with
  | none => exact rd
  | some _ => exact (show False from r).elim
 | some _ => cases u with
  | none => exact (show False from r).elim
  | some _ => exact r
theorem KV.val {kvs:List (κ × V)} {vs:List (κ × Value)} (r:KV kvs vs) (k:κ):RelO (valV kvs k) (valueAt vs k):=by
 unfold KV at r
 induction r with
 | nil => exact True.intro
 | @cons p q ps qs h t ih =>
  obtain ⟨h1,h2⟩:=h
  by_cases e:p.1=k
  ·have e' : q.1=k:=h1.symm.trans e
   have b:valueAt (q :: qs) k=some q.2:=by simp [valueAt,List.find?_cons,e']
   rw [valV_pos e,b]; exact h2
  ·have e' : ¬ q.1=k:=fun z => e (h1.trans z)
   have b:valueAt (q :: qs) k=valueAt qs k:=by simp [valueAt,List.find?_cons,e']
   rw [valV_neg e,b]; exact ih
theorem KV.any {kvs:List (κ × V)} {vs:List (κ × Value)} (r:KV kvs vs) (k:κ):(kvs.any fun kv => decide (kv.1=k))=vs.any fun kv => decide (kv.1=k):=by
 unfold KV at r
 induction r with
 | nil => rfl
 | cons h t ih => rw [List.any_cons,List.any_cons,ih,h.1]
theorem KV.repl {kvs:List (κ × V)} {vs:List (κ × Value)} (r:KV kvs vs) (k:κ) {y:V} {u:Value} (ry:RelV y u) :
  KV (kvs.map fun kv => if kv.1=k then (kv.1,y) else kv) (vs.map fun kv => if kv.1=k then (kv.1,u) else kv):=by
 unfold KV at r ⊢
 induction r with
 | nil => exact .nil
 | @cons p q ps qs h t ih =>
  rw [List.map_cons,List.map_cons]
  refine .cons ?_ ih
  obtain ⟨h1,h2⟩:=h
  by_cases e:p.1=k
  ·rw [if_pos e,if_pos (h1.symm.trans e)]; exact ⟨h1,ry⟩
  ·rw [if_neg e,if_neg (fun z => e (h1.trans z))]; exact ⟨h1,h2⟩
theorem KV.put {kvs:List (κ × V)} {vs:List (κ × Value)} (r:KV kvs vs) (k:κ) {y:V} {u:Value} (ry:RelV y u):KV (putK kvs k y) (stored vs k u):=by
 unfold putK stored
 rw [r.any k]
 by_cases e:(vs.any fun kv => decide (kv.1=k))=true
 ·rw [if_pos e,if_pos e]; exact r.repl k ry
 ·rw [if_neg e,if_neg e]; exact Paired.snoc r ⟨rfl,ry⟩
theorem KV.length {kvs:List (κ × V)} {vs:List (κ × Value)} (r:KV kvs vs):kvs.length=vs.length:=Paired.length r
end
theorem kV_is {P:Program} {w:World} {k:Key} {u:Value} (r:RelV (kV k) u):(mixKind P w).is k u=true:=by
 cases k with
 | inl i => obtain ⟨t,e⟩:=(show ∃ t,u=Value.int i t from r); subst e; exact mixKind_int P w i t
 | inr x => obtain ⟨t,e⟩:=(show ∃ t,u=Value.str x t from r); subst e; exact mixKind_str P w x t
theorem items_are {P:Program} {w:World} : ∀ {ks:List Key} {us:List Value},Vals (ks.map kV) us→ItemsAre (mixKind P w) ks us
 | [],_,r => by rw [List.map_nil] at r; cases r; exact .nil
 | k :: ks,_,r => by
  rw [List.map_cons] at r
  cases r with
  | cons h t => exact .cons (kV_is h) (items_are t)
abbrev KT (H:Hp):List (List Key × V)→List (List Key × Addr × Value)→Prop:=Paired fun p q => p.1=q.1∧H q.2.1=some (.tup (p.1.map kV))∧RelV p.2 q.2.2
theorem KT.val {H:Hp} {kvs:List (List Key × V)} {xs:List (List Key × Addr × Value)} (r:KT H kvs xs) (k:List Key):RelO (valV kvs k) ((atKey xs k).map (·.2)):=by
 induction r with
 | nil => exact True.intro
 | @cons p q ps qs h t ih =>
  obtain ⟨h1,_,h2⟩:=h
  by_cases e:p.1=k
  ·have e' : q.1=k:=h1.symm.trans e
   have b:atKey (q :: qs) k=some q.2:=by simp [atKey,List.find?_cons,e']
   rw [valV_pos e,b]; exact h2
  ·have e' : ¬ q.1=k:=fun z => e (h1.trans z)
   have b:atKey (q :: qs) k=atKey qs k:=by simp [atKey,List.find?_cons,e']
   rw [valV_neg e,b]; exact ih
theorem KT.repl {H:Hp} {kvs:List (List Key × V)} {xs:List (List Key × Addr × Value)} (r:KT H kvs xs) (k:List Key) {y:V} {u:Value} (ry:RelV y u) :
  KT H (kvs.map fun kv => if kv.1=k then (kv.1,y) else kv) (xs.map (putAt k u)):=by
 induction r with
 | nil => exact .nil
 | @cons p q ps qs h t ih =>
  rw [List.map_cons,List.map_cons]
  refine .cons ?_ ih
  obtain ⟨h1,h2,h3⟩:=h
  unfold putAt
  by_cases e:p.1=k
  ·rw [if_pos e,if_pos (h1.symm.trans e)]; exact ⟨h1,h2,ry⟩
  ·rw [if_neg e,if_neg (fun z => e (h1.trans z))]; exact ⟨h1,h2,h3⟩
theorem KT.put {H:Hp} {kvs:List (List Key × V)} {xs:List (List Key × Addr × Value)} (r:KT H kvs xs) (k:List Key) {b:Addr} {y:V} {u:Value} (hb:H b=some (.tup (k.map kV))) (ry:RelV y u) :
  KT H (putK kvs k y) (storedH xs k b u):=by
 have e:(kvs.any fun kv => decide (kv.1=k))=(atKey xs k).isSome:=by
  rw [valV_any,(r.val k).isSome_eq,Option.isSome_map]
 unfold putK storedH
 rw [e]
 by_cases q:(atKey xs k).isSome=true
 ·rw [if_pos q,if_pos q]; exact r.repl k ry
 ·rw [if_neg q,if_neg q]; exact Paired.snoc r ⟨rfl,hb,ry⟩
theorem KT.keeps {H H' : Hp} {kvs:List (List Key × V)} {xs:List (List Key × Addr × Value)} (r:KT H kvs xs) (ht:∀ b ys,H b=some (.tup ys)→H' b=some (.tup ys)):KT H' kvs xs :=
 Paired.mapP r fun _ _ z => ⟨z.1,ht _ _ z.2.1,z.2.2⟩
section
variable {P:Program} {w:World} {H:Hp} {h:Heap} {a:Addr}
theorem rd_of {u:HO} (ok:HOk P w H h) (e:Rd H a u):ObjOk P w H h a u:=e.ok ok
theorem dk_rd {kvs:List (Key × V)} (ok:HOk P w H h) (e:Rd H a (.dK kvs)):kvs.length ≤ sizeLine∧(a == sysModules)=false∧∃ vs,KV kvs vs∧h.DictOf (mixKind P w) a vs :=
 show ObjOk P w H h a (.dK kvs) from rd_of ok e
theorem dk_of {kvs:List (Key × V)} (ok:HOk P w H h) (e:H a=some (.dK kvs)):kvs.length ≤ sizeLine∧(a == sysModules)=false∧∃ vs,KV kvs vs∧h.DictOf (mixKind P w) a vs:=dk_rd ok (.inl e)
theorem key_of {ks:List Key} (ok:HOk P w H h) (e:H a=some (.tup (ks.map kV))):(tupleKind (mixKind P w)).is h ks a:=by
 obtain ⟨_,its,r,o,h1,h2,n,h3⟩:=(show ObjOk P w H h a (.tup (ks.map kV)) from ok a _ e)
 exact ⟨o,its.toArray,n,h1,h2,h3,by simpa using items_are r⟩
theorem dt_rd {kvs:List (List Key × V)} (ok:HOk P w H h) (e:Rd H a (.dT kvs)):kvs.length ≤ sizeLine∧(a == sysModules)=false ∧
  ∃ xs,KT H kvs xs∧h.DictOfH (tupleKind (mixKind P w)) a xs:=by
 obtain ⟨z,y,xs,r,o,es,ep,h1,h2,h3,h4,h5⟩:=(show ObjOk P w H h a (.dT kvs) from rd_of ok e)
 refine ⟨z,y,xs,r,o,es,ep,h1,h2,h3,h4,fun x hx => ?_,h5⟩
 have all:∀ {l:List (List Key × V)} {m:List (List Key × Addr × Value)},KT H l m→∀ x ∈ m,(tupleKind (mixKind P w)).is h x.1 x.2.1:=by
  intro l m q
  induction q with
  | nil => intro x hx; exact nomatch hx
  | @cons p q ps qs hq t ih =>
   intro x hx
   rcases List.mem_cons.mp hx with e | hx
   ·subst e
    exact key_of ok (by rw [← hq.1]; exact hq.2.1)
   ·exact ih x hx
 exact all r x hx
theorem dt_of {kvs:List (List Key × V)} (ok:HOk P w H h) (e:H a=some (.dT kvs)):kvs.length ≤ sizeLine∧(a == sysModules)=false ∧
  ∃ xs,KT H kvs xs∧h.DictOfH (tupleKind (mixKind P w)) a xs:=dt_rd ok (.inl e)
end
def DGet (H:Hp) (a:Addr) (y:V) (r:Option V):Prop :=
 (∃ kvs k,Rd H a (.dK kvs)∧y=kV k∧r=valV kvs k) ∨ ∃ kvs k b,Rd H a (.dT kvs)∧y = .ref b∧H b=some (.tup (k.map kV))∧r=valV kvs k
def DPut (H:Hp) (a:Addr) (y v:V) (H' : Hp):Prop :=
 (∃ kvs k,H a=some (.dK kvs)∧y=kV k∧kvs.length < sizeLine∧H' = upd H a (.dK (putK kvs k v))) ∨
 ∃ kvs k b,H a=some (.dT kvs)∧y = .ref b∧H b=some (.tup (k.map kV))∧kvs.length < sizeLine∧H' = upd H a (.dT (putK kvs k v))
theorem DGet.t {H:Hp} {a b:Addr} {kvs:List (List Key × V)} {k:List Key} (e:H a=some (.dT kvs)) (eb:H b=some (.tup (k.map kV))):DGet H a (.ref b) (valV kvs k):=.inr ⟨kvs,k,b,.inl e,rfl,eb,rfl⟩
theorem DPut.t {H:Hp} {a b:Addr} {kvs:List (List Key × V)} {k:List Key} {v:V} (e:H a=some (.dT kvs)) (eb:H b=some (.tup (k.map kV))) (hl:kvs.length < sizeLine) :
  DPut H a (.ref b) v (upd H a (.dT (putK kvs k v))):=.inr ⟨kvs,k,b,e,rfl,eb,hl,rfl⟩
section
variable {X:Cx} {pins:List (Addr × Obj)} {σ:St} {H:Hp} {s:Shared} {a:Addr} {y v:V} {u r:Value} {o:Option V} {A:Around} {E:Value→Shared→Prop}
theorem Inv.big (I:Inv X pins σ H s):sysModules < s.heap.objs.size:=by
 have h:mainGlobals < s.heap.objs.size:=(I.mod.glob.keeps I.bk).lt
 exact Nat.lt_trans (by decide) h
theorem d_getItem {Q:Value→Shared→Prop} (hu:A.units + 1 < cLine) (I:Inv X pins σ H s) (g:DGet H a y (some v)) (ry:RelV y u) (h:∀ w' s',Inv X pins σ H s'→RelV v w'→Q w' s') :
  wpAny (model X.prog X.w) A (getItem (.ref a) u) Q E s:=by
 rcases g with ⟨kvs,k,e,ey,l⟩ | ⟨kvs,k,b,e,ey,eb,l⟩
 ·subst ey
  obtain ⟨z,hd,vs,rel,dd⟩:=dk_rd I.hok e
  obtain ⟨w',hw,rw'⟩:=RelO.some_of (v:=v) (o:=valueAt vs k) (by rw [l]; exact rel.val k)
  exact wpAny_getItem_of (kV_is ry) dd.mapOf hw (h w' _ (I.tok _) rw')
 ·subst ey
  cases (show u=Value.ref b from ry)
  obtain ⟨z,hd,xs,rel,dd⟩:=dt_rd I.hok e
  obtain ⟨w',hw,rw'⟩:=RelO.some_of (v:=v) (o:=(atKey xs k).map (·.2)) (by rw [l]; exact rel.val k)
  obtain ⟨p,hp,hp2⟩:=Option.map_eq_some_iff.mp hw
  refine wpAny_getItem_heap (tupleKind_room_in1 hu) (key_of I.hok eb) dd hp ?_
  rw [hp2]
  exact h w' _ (I.tok _) rw'
theorem d_write {h' : Heap} {t' : Nat} {ob:HO} (I:Inv X pins σ H s) (mu:Mut (H a)) (hs:Heap.SameBut a s.heap h') (he:∃ q,h'.get? a=some q) (new:ObjOk X.prog X.w (upd H a ob) h' a ob) :
  Inv X pins σ (upd H a ob) { s with heap:=h',toks:=t' } :=
 I.write (x:=a) (e:=a) mu (.inl rfl) (fun b q hb z => (hs.2 b hb).trans z) he new
theorem dk_new {P:Program} {w:World} {H' : Hp} {h' : Heap} {kvs:List (Key × V)} {vs:List (Key × Value)} (z:kvs.length ≤ sizeLine) (hd:(a == sysModules)=false) (rel:KV kvs vs) (dd:h'.DictOf (mixKind P w) a vs) :
  ObjOk P w H' h' a (.dK kvs):=⟨z,hd,vs,rel,dd⟩
theorem d_setItem {H' : Hp} {Q:Unit→Shared→Prop} (hu:A.units + 1 < cLine) (I:Inv X pins σ H s) (g:DPut H a y v H') (ry:RelV y u) (rv:RelV v r) (h:∀ s',Inv X pins σ H' s'→Q () s') :
  wpAny (model X.prog X.w) A (setItem (.ref a) u r) Q E s:=by
 rcases g with ⟨kvs,k,e,ey,l,eH⟩ | ⟨kvs,k,b,e,ey,eb,l,eH⟩
 ·subst ey eH
  obtain ⟨z,hd,vs,rel,dd⟩:=dk_of I.hok e
  have hz:vs.length ≤ sizeLine:=by rw [← rel.length]; exact z
  have hl:(putK kvs k v).length ≤ sizeLine:=by have:=length_putK kvs k v; omega
  refine wpAny_setItem_pairs (hsz:=hz) (kV_is ry) dd fun h' dd' hs => h _ ?_
  have he:∃ q,h'.get? a=some q:=let ⟨q,_,_,hq,_⟩:=dd'; ⟨q,hq⟩
  exact d_write I (by rw [e]; exact True.intro) hs he (dk_new hl hd (rel.put k rv) dd')
 ·subst ey eH
  cases (show u=Value.ref b from ry)
  obtain ⟨z,hd,xs,rel,dd⟩:=dt_of I.hok e
  have hz:xs.length ≤ sizeLine:=by rw [← Paired.length rel]; exact z
  have hl:(putK kvs k v).length ≤ sizeLine:=by have:=length_putK kvs k v; omega
  refine wpAny_setItem_heap (hsz:=hz) (tupleKind_room_in1 hu) (key_of I.hok eb) dd fun h' dd' hs => h _ ?_
  obtain ⟨q,es,ep,hq,h2,h3,h4,_,h5⟩:=dd'
  refine d_write I (by rw [e]; exact True.intro) hs ⟨q,hq⟩ ⟨hl,hd,_,(rel.put k eb rv).keeps fun c ys ec => ?_,q,es,ep,hq,h2,h3,h4,h5⟩
  rw [upd_ne (ne_of ec e (fun z => nomatch z))]
  exact ec
end
def NoSl (i:Expr):Prop:=∀ ov iv,subscripted i false ov iv=operate [ov,iv] (getItem ov iv)
theorem subD_of {prog:Program} {w:World} {A:Around} {E:Value→Shared→Prop} {s:Shared} {env:Env} {value slice:Expr} {pos:PySem.Pos} {T id:String} {Q:Value→Shared→Prop}
  (hl:typeLookup (.type T) "__getitem__" = pure (some (.builtin id))) (hs:NoSl slice)
  (h:wpAny (model prog w) A (eval value env) (fun o s₁ => wpAny (model prog w) A (eval slice env) (fun i s₂ => s₂.TypeIs o T∧wpAny (model prog w) A (getItem o i) Q E s₂) E s₁) E s) :
  wpAny (model prog w) A (eval (.Subscript value slice pos) env) Q E s:=by
 refine Subscript_ (wpAny_mono h (fun o s₁ h₁ => wpAny_mono h₁ (fun i s₂ h₂ => ?_) fun _ _ x => x) fun _ _ x => x)
 obtain ⟨hT,h₂⟩:=h₂
 unfold subscriptTail
 refine wpAny_bind ?_
 rw [getitemInPython_of_ne hT.not_modules]
 refine wpAny_bind (wpAny_specialOf hT hl ?_)
 have fin:wpAny (model prog w) A (subscripted slice false o i) (fun r s₃ => wpAny (model prog w) A (letTemporaryGo value o r >>= fun _ => pure r) Q E s₃) E s₂:=by
  rw [hs o i]
  exact wpAny_operating (wpAny_mono h₂ (fun r s₃ h₃ => wpAny_bind (wpAny_letTemporaryGo (wpAny_pure h₃))) fun _ _ x => x)
 first
  | exact wpAny_pure (wpAny_bind fin)
  | exact wpAny_bind (wpAny_pure (wpAny_bind fin))
  | exact wpAny_bind fin
theorem dict_typeIs {X:Cx} {pins:List (Addr × Obj)} {σ:St} {H:Hp} {s:Shared} {a:Addr} {y:V} {o:Option V} (I:Inv X pins σ H s) (g:DGet H a y o):s.TypeIs (.ref a) "dict" := by
 rcases g with ⟨kvs,k,e,_,_⟩ | ⟨kvs,k,b,e,_,_,_⟩
 ·obtain ⟨_,_,vs,_,dd⟩:=dk_rd I.hok e
  exact dd.typeIs
 ·obtain ⟨_,_,xs,_,dd⟩:=dt_rd I.hok e
  exact dd.typeIs
def tDGet (td ty:TE):TE:=fun σ H Q => td σ H fun x H1 => ty σ H1 fun y H2 => ∃ a v,x = .ref a∧DGet H2 a y (some v)∧Q v H2
def sDPut (td ty tv:TE):TS:=fun D σ H => tv σ H fun v H1 => td σ H1 fun x H2 => ty σ H2 fun y H3 => ∃ a H4,x = .ref a∧DPut H3 a y v H4∧D.nx σ H4
section
variable {X:Cx} {o i e value:Expr} {pos pos' tpos:PySem.Pos} {td ty tv:TE}
theorem pe_dget (hu:X.A.units + 1 < cLine) (ho:PE X o td) (hi:PE X i ty) (hs:NoSl i):PE X (.Subscript o i pos) (tDGet td ty):=by
 intro pins s σ H Q I h
 refine subD_of PySem.F.slot_dict_getitem.lookup hs (thn (ho pins s σ H _ I h) fun u s1 ⟨x,H1,I1,rx,q1⟩ => thn (hi pins s1 σ H1 _ I1 q1) fun iv s2 ⟨y,H2,I2,ry,a,v,ex,g,q2⟩ => ?_)
 subst ex
 obtain rfl:u=Value.ref a:=rx
 exact ⟨dict_typeIs I2 g,d_getItem hu I2 g ry fun w' s3 I3 rw' => ⟨v,H2,I3,rw',q2⟩⟩
theorem ps_dput (hu:X.A.units + 1 < cLine) (ho:PE X o td) (hi:PE X i ty) (hv:PE X value tv) (hs:swapsWith value (some (.Subscript o i pos')) pos.line X.env=pure false) :
  PS X (.Assign [.Subscript o i pos'] value pos) (sDPut td ty tv):=by
 intro pins s σ H D I h
 refine wpAny_Assign_Subscript (thn (hv pins s σ H _ I h) fun r s1 ⟨v,H1,I1,rv,q1⟩ => thn (ho pins s1 σ H1 _ I1 q1) fun u s2 ⟨x,H2,I2,rx,q2⟩ => thn (hi pins s2 σ H2 _ I2 q2) fun iv s3 ⟨y,H3,I3,ry,a,H4,ex,g,q3⟩ => ?_) hs
 subst ex
 obtain rfl:u=Value.ref a:=rx
 exact d_setItem hu I3 g ry rv fun s4 I4 => ⟨σ,H4,I4,q3⟩
end
theorem dt_empty {P:Program} {w:World} {H:Hp} (h:Heap) (hb:sysModules < h.objs.size):ObjOk P w H (h.push { cls:=.type "dict",data:=.dict #[] }) h.objs.size (.dT []) :=
 ⟨Nat.zero_le _,beq_eq_false_iff_ne.mpr (Ne.symm (Nat.ne_of_lt hb)),[],.nil,_,#[],0,Heap.get?_push_size _ rfl,⟨rfl,rfl,rfl⟩,rfl,rfl,List.nodup_nil⟩
def tDNewT:TE:=fun _ H Q => ∀ p,H p=none→Q (.ref p) (upd H p (.dT []))
section
variable {X:Cx} {pos:PySem.Pos}
theorem pe_dnewT:PE X (.Dict [] [] pos) tDNewT:=fun pins s σ H Q I h =>
 wpAny_Dict_empty ⟨.ref s.heap.objs.size,_,I.laid (a:=s.heap.objs.size) (o:=.dT []) (t':=s.toks) (fun _ _ q => Heap.get?_push_of_some _ q) (Nat.le_refl _) (dt_empty s.heap I.big),rfl,h _ (I.hok.fresh (Nat.le_refl _))⟩
end
structure M2 (X:Cx) (o:Expr) (m:Str) (apos:PySem.Pos) (e f:Expr) (cpos:PySem.Pos):Prop where
 base:attributeBase o m X.env (eval o X.env)=eval o X.env
 few:((backTo cpos (starEach [e,f] X.env)).all (fun x => !x.1) && (backToKw cpos (keywordEach [] X.env)).all (fun x => x.1.isSome)
  && decide (([e,f]:List Expr).length + ([]:List Keyword).length + (if ([]:List Keyword).isEmpty then 0 else 1) < 30))=true
 line:(apos.endLine == cpos.line)=true
 trees:backTo cpos (starEach [e,f] X.env)=[(false,eval e X.env),(false,eval f X.env)]
def IsD (H:Hp) (a:Addr):Prop:=(∃ kvs,Rd H a (.dK kvs)) ∨ ∃ kvs,Rd H a (.dT kvs)
theorem isD_at {X:Cx} {pins:List (Addr × Obj)} {σ:St} {H:Hp} {s:Shared} {a:Addr} (I:Inv X pins σ H s) (d:IsD H a) :
  s.TypeIs (.ref a) "dict" ∧ (∀ b,Value.ref a = .ref b→∃ ob,s.heap.get? b=some ob∧ob.dict=none)∧(a == sysModules)=false:=by
 rcases d with ⟨kvs,e⟩ | ⟨kvs,e⟩
 ·obtain ⟨_,hd,vs,_,dd⟩:=dk_rd I.hok e
  refine ⟨dd.typeIs,fun b q => ?_,hd⟩
  cases q
  obtain ⟨ob,_,_,h1,h2,_⟩:=dd
  exact ⟨ob,h1,h2.2.1⟩
 ·obtain ⟨_,hd,xs,_,dd⟩:=dt_rd I.hok e
  refine ⟨dd.typeIs,fun b q => ?_,hd⟩
  cases q
  obtain ⟨ob,_,_,h1,h2,_⟩:=dd
  exact ⟨ob,h1,h2.2.1⟩
section
variable {X:Cx} {pins:List (Addr × Obj)} {σ:St} {H:Hp} {s:Shared} {a:Addr} {y d:V} {u r:Value} {o:Option V} {A:Around} {E:Value→Shared→Prop}
theorem d_get2 {Q:Value→Shared→Prop} (hu:A.units + 1 < cLine) (I:Inv X pins σ H s) (g:DGet H a y o) (ry:RelV y u) (rd:RelV d r) (h:∀ w' s',Inv X pins σ H s'→RelV (o.getD d) w'→Q w' s') :
  wpAny (model X.prog X.w) A (call (.builtin "dict.get") [.ref a,u,r]) Q E s:=by
 rcases g with ⟨kvs,k,e,ey,l⟩ | ⟨kvs,k,b,e,ey,eb,l⟩
 ·subst ey
  obtain ⟨z,hd,vs,rel,dd⟩:=dk_rd I.hok e
  refine call_meetsIn PySem.F.slot_dict_get dd.typeIs PySem.F.entry_dict_get (PySem.F.args_dict_get_3 _ _ _) (meets_dict_get_default (mixKind X.prog X.w) a (kV_is ry) hd r) ⟨_,dd.mapOf,h _ _ (I.tok _) ?_⟩
  rw [l]
  exact (rel.val k).getD rd
 ·subst ey
  cases (show u=Value.ref b from ry)
  obtain ⟨z,hd,xs,rel,dd⟩:=dt_rd I.hok e
  refine call_meetsIn PySem.F.slot_dict_get dd.typeIs PySem.F.entry_dict_get (PySem.F.args_dict_get_3 _ _ _) (meetsH_dict_get_default (tupleKind (mixKind X.prog X.w)) a b hd r) ⟨tupleKind_room_in1 hu,k,xs,key_of I.hok eb,dd,h _ _ (I.tok _) ?_⟩
  rw [l]
  exact (rel.val k).getD rd
end
def tDGet2 (td ty tx:TE):TE:=fun σ H Q => td σ H fun x H1 => ∃ a,x = .ref a∧IsD H1 a∧ty σ H1 fun y H2 => tx σ H2 fun z H3 => ∃ o,DGet H3 a y o∧Q (o.getD z) H3
section
variable {X:Cx} {o e f:Expr} {apos cpos:PySem.Pos} {td ty tx:TE}
theorem pe_dget2 (hu:X.A.units + 1 < cLine) (ho:PE X o td) (he:PE X e ty) (hf:PE X f tx) (m:M2 X o "get" apos e f cpos):PE X (.Call (.Attribute o "get" apos) [e,f] [] cpos) (tDGet2 td ty tx):=by
 intro pins s σ H Q I h
 refine wpAny_Call_method m.base m.few m.line PySem.F.plainAttrs_dict PySem.F.slot_dict_get PySem.F.type_dict_get (thn (ho pins s σ H _ I h) fun u s1 ⟨x,H1,I1,rx,a,ex,d,q1⟩ => ?_)
 subst ex
 obtain rfl:u=Value.ref a:=rx
 obtain ⟨t1,t2,_⟩:=isD_at I1 d
 refine ⟨t1,t2,?_⟩
 rw [m.trees]
 refine Calls.callWith_builtin rfl (Calls.evalArgs_plain (Calls.spliced_cons (thn (he pins s1 σ H1 _ I1 q1) fun iv s2 ⟨y,H2,I2,ry,q2⟩ =>
  Calls.spliced_cons (thn (hf pins s2 σ H2 _ I2 q2) fun fv s3 ⟨z,H3,I3,rz,ov,g,q3⟩ => Calls.spliced_nil ?_))))
 exact d_get2 hu I3 g ry rz fun w' s4 I4 rw' => ⟨_,H3,I4,rw',q3⟩
end
end L2
set_option maxHeartbeats 1000000
namespace L2
open PySem PySem.Spec PyProof.Rows
def RK (rk:Value→Int) (xs:Array Keyed) (i:Nat):Int:=match xs[i]? with
 | some p => rk p.1
 | none => 0
theorem RK_of {rk:Value→Int} {xs ys:Array Keyed} {i j:Nat} (h:xs[i]? = ys[j]?):RK rk xs i=RK rk ys j:=by unfold RK; rw [h]
theorem RK_bub {rk:Value→Int} {xs:Array Keyed} {a d:Nat} (ha:a < xs.size) (hd:d ≤ a) (k:Nat):RK rk (bubble xs a d) k=if k=a - d then RK rk xs a else if a - d < k∧k ≤ a then RK rk xs (k - 1) else RK rk xs k:=by
 have z:=getElem?_bubble ha d hd k
 split
 ·rename_i h; rw [if_pos h] at z; exact RK_of z
 ·rename_i h
  rw [if_neg h] at z
  split
  ·rename_i g; rw [if_pos g] at z; exact RK_of z
  ·rename_i g; rw [if_neg g] at z; exact RK_of z
theorem RK_mir {rk:Value→Int} {xs:Array Keyed} {a b:Nat} (hb:b ≤ xs.size) (k:Nat):RK rk (mirror xs a b ((b - a) / 2)) k=if a ≤ k∧k < b then RK rk xs (a + b - 1 - k) else RK rk xs k:=by
 have z:=getElem?_mirror_all (i:=a) hb k
 split
 ·rename_i h; rw [if_pos h] at z; exact RK_of z
 ·rename_i h; rw [if_neg h] at z; exact RK_of z
structure SB (k0:SortKind) (a0:Array Keyed) (st:SortSt):Prop where
 pm:(arrOf st).Perm a0
 kd:kindOf st=k0
 fl:failedOf st=none
 pn:pendingOf st = #[]
def LtOk (prog:Program) (w:World) (A:Around) (s:Shared) (k0:SortKind) (a0:Array Keyed) (rk:Value→Int):Prop :=
 ∀ (E:Value→Shared→Prop) (x y:Keyed) (Q:Bool→Shared→Prop),x ∈ a0.toList→y ∈ a0.toList→Q (decide (rk x.1 < rk y.1)) s→wpAny (model prog w) A (keyLt' k0 x.1 y.1) Q E s
section
variable {prog:Program} {w:World} {A:Around} {E:Value→Shared→Prop} {s:Shared} {k0:SortKind} {a0:Array Keyed} {rk:Value→Int}
theorem mir_same {xs:Array Keyed} {a b:Nat} (hb:b ≤ xs.size) (e:∀ i,a ≤ i→i < b→RK rk xs i=RK rk xs (b - 1)) (k:Nat):RK rk (mirror xs a b ((b - a) / 2)) k=RK rk xs k:=by
 rw [RK_mir hb]
 split
 ·rename_i h
  rw [e k h.1 h.2]
  exact e _ (by omega) (by omega)
 ·rfl
end
end L2
namespace L2
open PySem PySem.Spec PyProof.Rows
def lexB:List Int→List Int→Bool
 | [],[] => false
 | [],_ :: _ => true
 | _ :: _,[] => false
 | a :: x,b :: y => if a=b then lexB x y else decide (a < b)
theorem lexB_irr:∀ x:List Int,lexB x x=false
 | [] => rfl
 | a :: x => by unfold lexB; rw [if_pos rfl]; exact lexB_irr x
theorem lexB_trans:∀ {x y z:List Int},lexB x y=true→lexB y z=true→lexB x z=true
 | [],[],_,h,_ => by cases h
 | [],_ :: _,[],_,h => by cases h
 | [],_ :: _,_ :: _,_,_ => rfl
 | _ :: _,[],_,h,_ => by cases h
 | _ :: _,_ :: _,[],_,h => by cases h
 | a :: x,b :: y,c :: z,h1,h2 => by
  unfold lexB at h1 h2 ⊢
  by_cases e1:a=b
  ·subst e1
   rw [if_pos rfl] at h1
   by_cases e2:a=c
   ·rw [if_pos e2] at h2 ⊢; exact lexB_trans h1 h2
   ·rw [if_neg e2] at h2 ⊢; exact h2
  ·rw [if_neg e1] at h1
   have l1:=of_decide_eq_true h1
   by_cases e2:b=c
   ·subst e2; rw [if_neg e1]; exact h1
   ·rw [if_neg e2] at h2
    have l2:=of_decide_eq_true h2
    rw [if_neg (by omega)]
    exact decide_eq_true (by omega)
theorem lexB_tot:∀ {x y:List Int},lexB x y=false→lexB y x=false→x=y
 | [],[],_,_ => rfl
 | [],_ :: _,h,_ => by cases h
 | _ :: _,[],_,h => by cases h
 | a :: x,b :: y,h1,h2 => by
  unfold lexB at h1 h2
  by_cases e:a=b
  ·subst e
   rw [if_pos rfl] at h1 h2
   rw [lexB_tot h1 h2]
  ·rw [if_neg e] at h1
   rw [if_neg (Ne.symm e)] at h2
   have l1:=of_decide_eq_false h1
   have l2:=of_decide_eq_false h2
   omega
theorem filter_fewer {α:Type} {p q:α→Bool} : ∀ {l:List α},(∀ z ∈ l,p z=true→q z=true)→(l.filter p).length ≤ (l.filter q).length
 | [],_ => Nat.le_refl _
 | a :: l,h => by
  have ih:=filter_fewer (l:=l) fun z hz => h z (List.mem_cons_of_mem _ hz)
  have ha:=h a List.mem_cons_self
  cases hp:p a with
  | true => rw [List.filter_cons_of_pos hp,List.filter_cons_of_pos (ha hp)]; simp only [List.length_cons]; omega
  | false =>
   rw [List.filter_cons_of_neg (by simp [hp])]
   cases hq:q a with
   | true => rw [List.filter_cons_of_pos hq]; simp only [List.length_cons]; omega
   | false => rw [List.filter_cons_of_neg (by simp [hq])]; exact ih
theorem filter_less {α:Type} {p q:α→Bool} : ∀ {l:List α} {x:α},(∀ z ∈ l,p z=true→q z=true)→x ∈ l→q x=true→p x=false→(l.filter p).length < (l.filter q).length
 | [],x,_,hx,_,_ => by cases hx
 | a :: l,x,h,hx,q1,p1 => by
  have hl:∀ z ∈ l,p z=true→q z=true:=fun z hz => h z (List.mem_cons_of_mem _ hz)
  rcases List.mem_cons.mp hx with rfl | hx
  ·rw [List.filter_cons_of_neg (by simp [p1]),List.filter_cons_of_pos q1]
   have:=filter_fewer hl
   simp only [List.length_cons]; omega
  ·have ih:=filter_less hl hx q1 p1
   have ha:=h a List.mem_cons_self
   cases hp:p a with
   | true => rw [List.filter_cons_of_pos hp,List.filter_cons_of_pos (ha hp)]; simp only [List.length_cons]; omega
   | false =>
    rw [List.filter_cons_of_neg (by simp [hp])]
    cases hq:q a with
    | true => rw [List.filter_cons_of_pos hq]; simp only [List.length_cons]; omega
    | false => rw [List.filter_cons_of_neg (by simp [hq])]; exact ih
def rnk (ks:List (List Int)) (u:List Int):Int:=((ks.filter fun z => lexB z u).length:Nat)
theorem rnk_lt {ks:List (List Int)} {x y:List Int} (hx:x ∈ ks) (h:lexB x y=true):rnk ks x < rnk ks y:=by
 have:=filter_less (p:=fun z => lexB z x) (q:=fun z => lexB z y) (fun z _ hz => lexB_trans hz h) hx h (lexB_irr x)
 unfold rnk
 omega
theorem rnk_ok {ks:List (List Int)} {x y:List Int} (hx:x ∈ ks) (hy:y ∈ ks):decide (rnk ks x < rnk ks y)=lexB x y:=by
 cases h:lexB x y with
 | true => exact decide_eq_true (rnk_lt hx h)
 | false =>
  refine decide_eq_false fun z => ?_
  cases g:lexB y x with
  | true => have:=rnk_lt hy g; omega
  | false => rw [lexB_tot h g] at z; omega
def vInt:Value→Int
 | .int n _ => n
 | _ => 0
theorem ints_map:∀ {vs:List Value} {u:List Int},IntsAre vs u→vs.map vInt=u
 | _,_,.nil => rfl
 | _,_,.cons n t h => by rw [List.map_cons,ints_map h]; rfl
def kfI (h:Heap) (v:Value):List Int:=match v with
 | .ref a => match h.get? a with
  | some o => match o.data with
   | .seq its _ => its.toList.map vInt
   | _ => []
  | none => []
 | _ => []
def TupI (h:Heap) (v:Value) (u:List Int):Prop:=∃ a o its n,v = .ref a∧h.get? a=some o∧o.cls = .type "tuple" ∧ o.data = .seq its n∧IntsAre its.toList u
theorem TupI.kf {h:Heap} {v:Value} {u:List Int} (t:TupI h v u):kfI h v=u:=by
 obtain ⟨a,o,its,n,rfl,e,c,d,i⟩:=t
 unfold kfI
 dsimp only
 rw [e]
 dsimp only
 rw [d]
 exact ints_map i
theorem TupI.keep' {h h' : Heap} {v:Value} {u:List Int} (t:TupI h v u) (k:∀ (b:Addr) (o:Obj),o.cls = .type "tuple" → h.get? b=some o→h'.get? b=some o):TupI h' v u:=by
 obtain ⟨a,o,its,n,rfl,e,c,r⟩:=t
 exact ⟨a,o,its,n,rfl,k a o c e,c,r⟩
end L2
namespace L2
open PySem PySem.Spec PyProof.Rows
abbrev Pb:=SetTable.Probe
def lp (m:Nat) (p:Pb):Pb:={ p with j:=(p.i * 5 + 1 + p.perturb / 32) % (m + 1),more:=SetTable.runEnd m ((p.i * 5 + 1 + p.perturb / 32) % (m + 1)) - (p.i * 5 + 1 + p.perturb / 32) % (m + 1),i:=(p.i * 5 + 1 + p.perturb / 32) % (m + 1),perturb:=p.perturb / 32 }
end L2
namespace L2
open PySem PySem.Spec PyProof.Rows
theorem nodup_leN:∀ {l m:List Nat},l.Nodup→(∀ x ∈ l,x ∈ m)→l.length ≤ m.length
 | [],m,_,_ => Nat.zero_le _
 | a :: l,m,h,hm => by
  rw [List.nodup_cons] at h
  have ha:=hm a List.mem_cons_self
  have q:=nodup_leN (m:=m.erase a) h.2 fun x hx => (List.mem_erase_of_ne (fun z:x=a => h.1 (by rw [← z]; exact hx))).mpr (hm x (List.mem_cons_of_mem _ hx))
  rw [List.length_erase_of_mem ha] at q
  have:=List.length_pos_of_mem ha
  simp only [List.length_cons]
  omega
end L2
namespace L2
open PySem PySem.Spec PyProof.Rows
def hsh (prog:Program) (w:World) (u:List Int):Int:=tupleKeyHash (intKind prog w) u
end L2
set_option maxHeartbeats 4000000
namespace L2
open PySem PySem.Spec PyProof.Rows
theorem tup_keep {h h' : Heap} {a:Addr} {o:Obj} (ho:h.get? a=some o) (hc:o.cls = .type "list") (k:∀ b ob,b ≠ a→h.get? b=some ob→h'.get? b=some ob) (b:Addr) (ob:Obj) (c:ob.cls = .type "tuple") (e:h.get? b=some ob):h'.get? b=some ob:=by
 refine k b ob (fun z => ?_) e
 rw [z,ho] at e
 cases e
 rw [hc] at c
 exact absurd c (by decide)
end L2
set_option maxHeartbeats 1000000
namespace L2
open PySem PySem.Spec PyProof.Rows
def TuL (H:Hp) (xs:List V) (us:List (List Int)):Prop:=xs.length=us.length∧∀ (i:Nat) (x:V) (u:List Int),xs[i]? = some x→us[i]? = some u→∃ a:Addr,x = .ref a∧H a=some (.tup (u.map V.int))
theorem TuL.nil (H:Hp):TuL H [] []:=⟨rfl,fun i x u h => by cases h⟩
theorem TuL.up {H H' : Hp} {xs:List V} {us:List (List Int)} (h:TuL H xs us) (t:Tups H H'):TuL H' xs us:=⟨h.1,fun i x u h1 h2 => by
 obtain ⟨a,b,c⟩:=h.2 i x u h1 h2
 exact ⟨a,b,t _ _ c⟩⟩
theorem TuL.snoc {H:Hp} {xs:List V} {us:List (List Int)} {a:Addr} {u:List Int} (h:TuL H xs us) (ha:H a=some (.tup (u.map V.int))):TuL H (xs ++ [.ref a]) (us ++ [u]):=by
 refine ⟨by rw [List.length_append,List.length_append,h.1]; rfl,fun i y r h1 h2 => ?_⟩
 by_cases z:i < xs.length
 ·rw [List.getElem?_append_left z] at h1
  rw [List.getElem?_append_left (h.1 ▸ z)] at h2
  exact h.2 i y r h1 h2
 ·rw [List.getElem?_append_right (by omega)] at h1
  rw [List.getElem?_append_right (by have:=h.1; omega),← h.1] at h2
  cases w:i - xs.length with
  | zero => rw [w] at h1 h2; cases h1; cases h2; exact ⟨a,rfl,ha⟩
  | succ m => rw [w] at h1; cases h1
section
variable {X:Cx} {pins:List (Addr × Obj)} {σ:St} {H:Hp} {s:Shared}
theorem tup_of (I:Inv X pins σ H s) {a:Addr} {u:List Int} (h:H a=some (.tup (u.map V.int))):TupI s.heap (.ref a) u:=by
 obtain ⟨its,r,⟨o,e,c,n,hd⟩,_⟩:=I.tuple (SqT.of (K:=X.K) h)
 exact ⟨a,o,_,n,rfl,e,c,hd,by simpa using intsAre_of r⟩
end
end L2
namespace L2
open PySem PySem.Spec PyProof.Rows
def RawD (h:Heap) (d:Addr) (es:Array DictEntry) (ep:Nat):Prop:=∃ o,h.get? d=some o∧o.ExactDict∧o.data = .dict es ep
theorem RawD.keep {h h' : Heap} {d:Addr} {es:Array DictEntry} {ep:Nat} (r:RawD h d es ep) (k:∀ o,h.get? d=some o→h'.get? d=some o):RawD h' d es ep :=
 let ⟨o,e,x⟩:=r; ⟨o,k o e,x⟩
def ItF (h:Heap) (it d:Addr) (f0 f1:Value) (i n ep:Nat) (ok ov:Value):Prop :=
 h.get? it=some { cls:=.type "dict_itemiterator",data:=.fields #[f0,f1,.ref d,.int i 0,.int n 0,.int ep 0,ok,ov] }
section
variable {prog:Program} {w:World} {A:Around} {E:Value→Shared→Prop} {s:Shared} {it d:Addr} {f0 f1 ok ov:Value} {i ep:Nat} {es:Array DictEntry}
theorem itf_type (g:ItF s.heap it d f0 f1 i es.size ep ok ov):s.TypeIs (.ref it) "dict_itemiterator" := ⟨_,g,rfl⟩
theorem owns_it:Builtin.Dict_items.ownsTuple "dict_itemiterator" = true:=by decide
theorem nx_pre {Q:Option Value→Shared→Prop} (g:ItF s.heap it d f0 f1 i es.size ep ok ov) (hd:RawD s.heap d es ep) (hi:i < es.size)
  (k:∀ (A' : Around) (E' : Value→Shared→Prop) (h1:Heap),ItF h1 it d f0 f1 (i + 1) es.size ep ok ov→Heap.SameBut it s.heap h1→wpAny (model prog w) A' (Builtin.Dict_items.pairFromOwner (.ref it) 6 es[i].key es[i].val) (fun v s' => Q (some v) s') E' { s with heap:=h1 }) :
  wpAny (model prog w) A (pyNext (.ref it)) Q E s:=by
 obtain ⟨o,e1,e2,e3⟩:=hd
 have ty:=itf_type g
 unfold pyNext
 refine wpAny_bind (wpAny_attempt (wpAny_callSpecial?_slot ty PySem.F.slot_dict_itemiterator_next (wpAny_call_entry PySem.F.slot_dict_itemiterator_next ty PySem.F.entry_dict_itemiterator_next ?_ (PySem.F.args_dict_itemiterator_next_1 _))))
 refine wpAny_bind (wpAny_pure (wpAny_bind (wpAny_bind (wpAny_bind (wpAny_typeNameOfWhole_itemiter ty (wpAny_pure (wpAny_bind (wpAny_fieldsOf g rfl ?_))))))))
 simp only [owns_it,if_true]
 show wpAny _ _ (if (Value.ref d == Value.none)=true then _ else _) _ _ _
 rw [if_neg (by intro z; cases z)]
 refine wpAny_bind (wpAny_pure (wpAny_bind (wpAny_dictEntries e1 e3 ?_)))
 rw [if_neg (by simp)]
 refine wpAny_bind (wpAny_pure (wpAny_bind (wpAny_dictEpoch e1 e3 ?_)))
 rw [if_neg (by simp)]
 refine wpAny_pure ?_
 have n0 : ¬ ((i:Int) < 0):=by omega
 simp only [n0,if_false,Int.toNat_natCast,Array.getElem?_eq_getElem hi]
 refine wpAny_bind (wpAny_bind (wpAny_typeNameOfWhole_itemiter ty (wpAny_pure (wpAny_bind (wpAny_isOneOf_itemiter ty ?_)))))
 show wpAny _ _ (setField (.ref it) 3 (rawInt ((i:Int) + 1)) >>= _) _ _ _
 refine wpAny_bind (wpAny_setField_rec g (by simp) fun h1 g1 sb => ?_)
 have g2:ItF h1 it d f0 f1 (i + 1) es.size ep ok ov:=g1
 have ty1:Shared.TypeIs { s with heap:=h1 } (.ref it) "dict_itemiterator" := ⟨_,g2,rfl⟩
 refine wpAny_bind (wpAny_holding (wpAny_bind (wpAny_isOneOf_itemiter ty1 (wpAny_bind (wpAny_isOneOf_itemiter ty1 ?_)))))
 show wpAny _ _ (Builtin.Dict_items.pairFromOwner (.ref it) 6 es[i].key es[i].val) _ _ _
 exact wpAny_mono (k _ _ h1 g2 sb) (fun v s' q => wpAny_pure ⟨v,rfl,wpAny_pure q⟩) fun _ _ z => z
theorem pair_first {key val:Value} {Q:Value→Shared→Prop} (g:ItF s.heap it d .none f1 i es.size ep ok ov)
  (k:∀ h',ItF h' it d (rawInt s.heap.objs.size) (.bool false) i es.size ep key val→h'.get? s.heap.objs.size=some { cls:=.type "tuple",data:=.seq #[key,val] }→h'.objs.size=s.heap.objs.size + 1→(∀ b o,b ≠ it→s.heap.get? b=some o→h'.get? b=some o)→Q (.ref s.heap.objs.size) { s with heap:=h' }) :
  wpAny (model prog w) A (Builtin.Dict_items.pairFromOwner (.ref it) 6 key val) Q E s:=by
 have hil:it < s.heap.objs.size:=Heap.lt_size g
 unfold Builtin.Dict_items.pairFromOwner
 refine wpAny_bind (wpAny_newTuple ?_)
 have g1:ItF (s.heap.push { cls:=.type "tuple",data:=.seq #[key,val] }) it d .none f1 i es.size ep ok ov:=Heap.get?_push_of_some _ g
 have t1:(s.heap.push { cls:=.type "tuple",data:=.seq #[key,val] }).get? s.heap.objs.size=some { cls:=.type "tuple",data:=.seq #[key,val] }:=Heap.get?_push_size _ rfl
 have z1:(s.heap.push { cls:=.type "tuple",data:=.seq #[key,val] }).objs.size=s.heap.objs.size + 1:=Heap.size_push ..
 have k1:∀ b o,b ≠ it→s.heap.get? b=some o→(s.heap.push { cls:=.type "tuple",data:=.seq #[key,val] }).get? b=some o:=fun b o _ e => Heap.get?_push_of_some _ e
 show wpAny _ _ (Builtin.Dict_items.ownedTupleIsFree (.ref it) >>= _) _ _ { s with heap:=s.heap.push { cls:=.type "tuple",data:=.seq #[key,val] } }
 generalize s.heap.push { cls:=.type "tuple",data:=.seq #[key,val] } = h1 at g1 t1 z1 k1
 unfold Builtin.Dict_items.ownedTupleIsFree
 refine wpAny_bind (wpAny_bind (wpAny_field g1 rfl (x:=.none) rfl (wpAny_pure ?_)))
 simp only [if_true]
 refine wpAny_bind (wpAny_field g1 rfl (x:=ok) rfl (wpAny_bind (wpAny_field g1 rfl (x:=ov) rfl ?_)))
 refine wpAny_bind (wpAny_setField_rec g1 (by simp) fun h2 g2 b2 => ?_)
 refine wpAny_bind (wpAny_setField_rec g2 (by simp) fun h3 g3 b3 => ?_)
 refine wpAny_bind (wpAny_setField_rec g3 (by simp) fun h4 g4 b4 => ?_)
 refine wpAny_bind (wpAny_setField_rec g4 (by simp) fun h5 g5 b5 => ?_)
 have all:∀ b o,b ≠ it→h1.get? b=some o→h5.get? b=some o:=fun b o n e => Heap.SameBut.extBut b5 b o n (Heap.SameBut.extBut b4 b o n (Heap.SameBut.extBut b3 b o n (Heap.SameBut.extBut b2 b o n e)))
 have sz:h5.objs.size=s.heap.objs.size + 1:=by
  have q2:h2.objs.size=h1.objs.size:=b2.1
  have q3:h3.objs.size=h2.objs.size:=b3.1
  have q4:h4.objs.size=h3.objs.size:=b4.1
  have q5:h5.objs.size=h4.objs.size:=b5.1
  omega
 exact wpAny_bind (wpAny_letGo (wpAny_pure (k h5 g5 (all _ _ (Nat.ne_of_gt hil) t1) sz fun b o n e => all b o n (k1 b o n e))))
theorem pair_more {key val:Value} {a:Addr} {oa:Obj} {f:Bool} {Q:Value→Shared→Prop} (g:ItF s.heap it d (rawInt a) (.bool f) i es.size ep ok ov) (ha:s.heap.get? a=some oa)
  (k:∀ h',ItF h' it d (rawInt a) (.bool true) i es.size ep ok ov→h'.get? s.heap.objs.size=some { cls:=.type "tuple",data:=.seq #[key,val] }→h'.objs.size=s.heap.objs.size + 1→(∀ b o,b ≠ it→s.heap.get? b=some o→h'.get? b=some o)→Q (.ref s.heap.objs.size) { s with heap:=h' }) :
  wpAny (model prog w) A (Builtin.Dict_items.pairFromOwner (.ref it) 6 key val) Q E s:=by
 have hil:it < s.heap.objs.size:=Heap.lt_size g
 unfold Builtin.Dict_items.pairFromOwner
 refine wpAny_bind (wpAny_newTuple ?_)
 have g1:ItF (s.heap.push { cls:=.type "tuple",data:=.seq #[key,val] }) it d (rawInt a) (.bool f) i es.size ep ok ov:=Heap.get?_push_of_some _ g
 have t1:(s.heap.push { cls:=.type "tuple",data:=.seq #[key,val] }).get? s.heap.objs.size=some { cls:=.type "tuple",data:=.seq #[key,val] }:=Heap.get?_push_size _ rfl
 have a1:=Heap.get?_push_of_some { cls:=.type "tuple",data:=.seq #[key,val] } ha
 have z1:(s.heap.push { cls:=.type "tuple",data:=.seq #[key,val] }).objs.size=s.heap.objs.size + 1:=Heap.size_push ..
 have k1:∀ b o,b ≠ it→s.heap.get? b=some o→(s.heap.push { cls:=.type "tuple",data:=.seq #[key,val] }).get? b=some o:=fun b o _ e => Heap.get?_push_of_some _ e
 show wpAny _ _ (Builtin.Dict_items.ownedTupleIsFree (.ref it) >>= _) _ _ { s with heap:=s.heap.push { cls:=.type "tuple",data:=.seq #[key,val] } }
 generalize s.heap.push { cls:=.type "tuple",data:=.seq #[key,val] } = h1 at g1 t1 z1 k1 a1
 unfold Builtin.Dict_items.ownedTupleIsFree
 refine wpAny_bind (wpAny_bind (wpAny_field g1 rfl (x:=rawInt a) rfl ?_))
 show wpAny _ _ (loadIfAlive ((a:Int).toNat) >>= _) _ _ _
 rw [Int.toNat_natCast]
 refine wpAny_bind (PySem.W.kdx_alive a1 ?_)
 simp only [Option.isNone_some,Bool.false_eq_true,if_false]
 refine wpAny_bind (wpAny_field g1 rfl (x:=.bool f) rfl ?_)
 cases f with
 | true =>
  rw [if_neg (by decide)]
  refine wpAny_pure ?_
  simp only [Bool.false_eq_true,if_false]
  exact wpAny_pure (k h1 g1 t1 z1 k1)
 | false =>
  rw [if_pos (by decide)]
  refine wpAny_bind (wpAny_setField_rec g1 (by simp) fun h2 g2 b2 => wpAny_pure ?_)
  simp only [Bool.false_eq_true,if_false]
  exact wpAny_pure (k h2 g2 (Heap.SameBut.extBut b2 _ _ (Nat.ne_of_gt hil) t1) (by have q2:h2.objs.size=h1.objs.size:=b2.1; omega) fun b o n e => Heap.SameBut.extBut b2 b o n (k1 b o n e))
theorem nx_end {Q:Option Value→Shared→Prop} (hh:A.handled=none) (g:ItF s.heap it d f0 f1 es.size es.size ep ok ov) (hd:RawD s.heap d es ep)
  (k:∀ h',Heap.ExtBut it s.heap h'→Q none { s with heap:=h' }):wpAny (model prog w) A (pyNext (.ref it)) Q E s:=by
 obtain ⟨o,e1,e2,e3⟩:=hd
 have ty:s.TypeIs (.ref it) "dict_itemiterator" := ⟨_,g,rfl⟩
 unfold pyNext
 refine wpAny_bind (wpAny_attempt (wpAny_callSpecial?_slot ty PySem.F.slot_dict_itemiterator_next (wpAny_call_entry PySem.F.slot_dict_itemiterator_next ty PySem.F.entry_dict_itemiterator_next ?_ (PySem.F.args_dict_itemiterator_next_1 _))))
 refine wpAny_bind (wpAny_pure (wpAny_bind (wpAny_bind (wpAny_bind (wpAny_typeNameOfWhole_itemiter ty (wpAny_pure (wpAny_bind (wpAny_fieldsOf g rfl ?_))))))))
 simp only [owns_it,if_true]
 show wpAny _ _ (if (Value.ref d == Value.none)=true then _ else _) _ _ _
 rw [if_neg (by intro z; cases z)]
 refine wpAny_bind (wpAny_pure (wpAny_bind (wpAny_dictEntries e1 e3 ?_)))
 rw [if_neg (by simp)]
 refine wpAny_bind (wpAny_pure (wpAny_bind (wpAny_dictEpoch e1 e3 ?_)))
 rw [if_neg (by simp)]
 refine wpAny_pure ?_
 have n0 : ¬ ((es.size:Int) < 0):=by omega
 simp only [n0,if_false,Int.toNat_natCast,Array.getElem?_eq_none (Nat.le_refl _)]
 refine wpAny_bind (wpAny_bind (wpAny_typeNameOfWhole_itemiter ty (wpAny_pure ?_)))
 show wpAny _ _ (setField (.ref it) 2 .none >>= _) _ _ s
 refine wpAny_bind (wpAny_setField g rfl (by simp) ?_)
 show wpAny _ _ (newExc (Value.type "StopIteration") [] >>= fun e => raiseNew e) _ _ _
 refine stop_j hh fun e h' kp ⟨ob,ge,gc⟩ => ?_
 refine wpAny_bind (wpAny_isInstance (T := "StopIteration") (b:=true) ⟨ob,ge,gc⟩ isSubtype_stop ?_)
 exact wpAny_pure (k _ fun b o n e => kp b o (Heap.SameBut.extBut (Heap.SameBut.update ..) b o n e))
def ItS (h:Heap) (it d S:Addr) (i n ep:Nat):Prop:=(i=0∧∃ ok ov,ItF h it d .none (.bool false) 0 n ep ok ov) ∨ ∃ (a:Addr) (f:Bool) (ok ov:Value) (oa:Obj),ItF h it d (rawInt a) (.bool f) i n ep ok ov∧h.get? a=some oa∧a ≠ it∧a ≠ S
theorem ItS.keep {h h' : Heap} {S:Addr} {n:Nat} (x:ItS h it d S i n ep) (nS:it ≠ S) (k:∀ b o,b ≠ S→h.get? b=some o→h'.get? b=some o):ItS h' it d S i n ep:=by
 rcases x with ⟨e,ok,ov,g⟩ | ⟨a,f,ok,ov,oa,g,ga,n1,n2⟩
 ·exact .inl ⟨e,ok,ov,k _ _ nS g⟩
 ·exact .inr ⟨a,f,ok,ov,oa,k _ _ nS g,k _ _ n2 ga,n1,n2⟩
theorem its_next {S:Addr} {Q:Option Value→Shared→Prop} (x:ItS s.heap it d S i es.size ep) (hS:S < s.heap.objs.size) (hd:RawD s.heap d es ep) (hi:i < es.size)
  (k:∀ h',ItS h' it d S (i + 1) es.size ep→h'.get? s.heap.objs.size=some { cls:=.type "tuple",data:=.seq #[es[i].key,es[i].val] }→h'.objs.size=s.heap.objs.size + 1→(∀ b o,b ≠ it→s.heap.get? b=some o→h'.get? b=some o)→Q (some (.ref s.heap.objs.size)) { s with heap:=h' }) :
  wpAny (model prog w) A (pyNext (.ref it)) Q E s:=by
 rcases x with ⟨rfl,ok,ov,g⟩ | ⟨a,f,ok,ov,oa,g,ga,n1,n2⟩
 ·refine nx_pre g hd hi fun A' E' h1 g1 sb => ?_
  have z1:h1.objs.size=s.heap.objs.size:=sb.1
  have hil:it < s.heap.objs.size:=Heap.lt_size g
  refine pair_first (s:={ s with heap:=h1 }) g1 fun h' g2 t2 z2 k2 => ?_
  dsimp only at g2 t2 z2 k2 ⊢
  rw [z1] at g2 t2 z2 ⊢
  exact k h' (.inr ⟨_,_,_,_,_,g2,t2,Nat.ne_of_gt hil,Nat.ne_of_gt hS⟩) t2 z2 fun b o n e => k2 b o n (Heap.SameBut.extBut sb b o n e)
 ·refine nx_pre g hd hi fun A' E' h1 g1 sb => ?_
  have z1:h1.objs.size=s.heap.objs.size:=sb.1
  refine pair_more (s:={ s with heap:=h1 }) g1 (Heap.SameBut.extBut sb _ _ n1 ga) fun h' g2 t2 z2 k2 => ?_
  dsimp only at g2 t2 z2 k2 ⊢
  rw [z1] at t2 z2 ⊢
  have k3:∀ b o,b ≠ it→s.heap.get? b=some o→h'.get? b=some o:=fun b o n e => k2 b o n (Heap.SameBut.extBut sb b o n e)
  exact k h' (.inr ⟨a,true,ok,ov,oa,g2,k3 _ _ n1 ga,n1,n2⟩) t2 z2 k3
theorem its_end {S:Addr} {Q:Option Value→Shared→Prop} (hh:A.handled=none) (x:ItS s.heap it d S es.size es.size ep) (hd:RawD s.heap d es ep)
  (k:∀ h',Heap.ExtBut it s.heap h'→Q none { s with heap:=h' }):wpAny (model prog w) A (pyNext (.ref it)) Q E s:=by
 rcases x with ⟨e,ok,ov,g⟩ | ⟨a,f,ok,ov,oa,g,_⟩
 ·have g' : ∀ m,m=0→ItF s.heap it d .none (.bool false) m es.size ep ok ov:=fun m z => by subst z; exact g
  exact nx_end hh (g' _ e) hd k
 ·exact nx_end hh g hd k
def PairsAt (h:Heap) (es:Array DictEntry) (as:List Addr):Prop:=∀ (j:Nat) (a:Addr),as[j]? = some a→∃ e,es[j]? = some e∧h.get? a=some { cls:=.type "tuple",data:=.seq #[e.key,e.val] }
theorem pairs_keep {h h' : Heap} {as:List Addr} (p:PairsAt h es as) (k:∀ a ∈ as,∀ o,h.get? a=some o→h'.get? a=some o):PairsAt h' es as:=fun j a e => by
 obtain ⟨x,e1,e2⟩:=p j a e
 exact ⟨x,e1,k a (List.mem_of_getElem? e) _ e2⟩
theorem loop_its {R:Result→Shared→Prop} {S I:Addr} (hh:A.handled=none) (hSI:S ≠ I) (hSd:S ≠ d) (hId:I ≠ d) (hn:es.size ≤ sizeLine) (res:Value) {h0:Heap}
  (hR:∀ (h' : Heap) (c:Nat) (acc:Array Value) (as:List Addr),(∀ b o,b ≠ S→b ≠ I→h0.get? b=some o→h'.get? b=some o)→h'.get? S=some { cls:=.type "list",data:=.seq acc c }→as.length=es.size→PairsAt h' es as→(∀ a ∈ as,h0.objs.size ≤ a)→acc.toList=as.map Value.ref→R (.ok (.ret res)) { s with heap:=h' }) :
  ∀ (k i:Nat) (h:Heap) (c:Nat) (acc:Array Value) (as:List Addr),es.size - i=k→i ≤ es.size→ItS h I d S i es.size ep→RawD h d es ep→(∀ b o,b ≠ S→b ≠ I→h0.get? b=some o→h.get? b=some o)→h0.objs.size ≤ h.objs.size→h.get? S=some { cls:=.type "list",data:=.seq acc c }→acc.toList=as.map Value.ref→as.length=i→PairsAt h es as→(∀ a ∈ as,h0.objs.size ≤ a∧a ≠ S∧a ≠ I) →
   codeAny (model prog w) A (.builtin "list.extend.loop" ⟨[.ref S,.ref I,res],[]⟩) R { s with heap:=h }:=by
 intro k
 induction k with
 | zero =>
  intro i h c acc as hk hi st rd kp sz gS ha hl pa na
  have ei:i=es.size:=by omega
  subst ei
  refine codeAny_builtin PySem.F.entry_extend_loop ?_
  rw [Around.under_plainId PySem.F.plain_extend_loop _]
  show wpAny _ A.in1 (pyNext (.ref I) >>= _) _ _ _
  refine wpAny_bind (its_end (s:={ s with heap:=h }) hh st rd fun h' x => wpAny_pure (hR h' c acc as (fun b o n1 n2 e => x b o n2 (kp b o n1 n2 e)) (x _ _ hSI gS) hl (pairs_keep pa fun a m o e => x a o (na a m).2.2 e) (fun a m => (na a m).1) ha))
 | succ k ih =>
  intro i h c acc as hk hi st rd kp sz gS ha hl pa na
  have il:i < es.size:=by omega
  refine codeAny_builtin PySem.F.entry_extend_loop ?_
  rw [Around.under_plainId PySem.F.plain_extend_loop _]
  show wpAny _ A.in1 (pyNext (.ref I) >>= _) _ _ _
  refine wpAny_bind (its_next (s:={ s with heap:=h }) st (Heap.lt_size gS) rd il fun h' st' t' z' x => ?_)
  dsimp only at t' z' x ⊢
  have gS':=x _ _ hSI gS
  have asz:acc.size=i:=by rw [← Array.length_toList,ha,List.length_map,hl]
  show wpAny _ A.in1 (updateSeq S (·.push (.ref h.objs.size)) >>= _) _ _ _
  have oth:∀ b o,b ≠ S→h'.get? b=some o→(h'.update S (Obj.mapSeq (·.push (.ref h.objs.size)))).get? b=some o:=fun b o n e => (Heap.get?_update_other _ _ (Ne.symm n)).trans e
  have Il:I < h.objs.size:=by
   rcases st with ⟨_,_,_,g⟩ | ⟨_,_,_,_,_,g,_⟩ <;> exact Heap.lt_size g
  have sn:h.objs.size ≠ S:=Nat.ne_of_gt (Heap.lt_size gS)
  refine wpAny_bind (wpAny_updateSeq gS' rfl (wpAny_pure ⟨plainId_quiet PySem.F.plain_extend_loop _,ih (i + 1) _ _ (acc.push (.ref h.objs.size)) (as ++ [h.objs.size]) (by omega) il (st'.keep (Ne.symm hSI) oth) (rd.keep fun o e => oth d o (Ne.symm hSd) (x d o (Ne.symm hId) e)) (fun b o n1 n2 e => oth b o n1 (x b o n2 (kp b o n1 n2 e))) ?_ (Heap.get?_update_self _ gS' rfl) ?_ ?_ ?_ ?_⟩) (by rw [asz]; omega) (by show (acc.push _).size ≤ sizeLine + 1; rw [Array.size_push,asz]; omega))
  ·rw [Heap.size_update]
   show h0.objs.size ≤ h'.objs.size
   omega
  ·rw [Array.toList_push,ha,List.map_append]; rfl
  ·rw [List.length_append,hl]; rfl
  ·intro j a e
   by_cases jl:j < as.length
   ·rw [List.getElem?_append_left jl] at e
    obtain ⟨y,e1,e2⟩:=pa j a e
    have na':=na a (List.mem_of_getElem? e)
    exact ⟨y,e1,oth a _ na'.2.1 (x a _ na'.2.2 e2)⟩
   ·rw [List.getElem?_append_right (by omega)] at e
    have j0:j=i:=by
     have:=(List.getElem?_eq_some_iff.mp e).1
     simp only [List.length_cons,List.length_nil] at this
     omega
    subst j0
    rw [hl,Nat.sub_self] at e
    cases e
    exact ⟨es[j],Array.getElem?_eq_getElem il,oth _ _ sn t'⟩
  ·intro a m
   rcases List.mem_append.mp m with m | m
   ·exact na a m
   ·rw [List.mem_singleton.mp m]
    exact ⟨sz,sn,Nat.ne_of_gt Il⟩
theorem iter_its {v:Addr} {Q:Value→Shared→Prop} (hv:s.heap.IsItemsView v d) (hd:RawD s.heap d es ep)
  (k:Q (.ref s.heap.objs.size) { s with heap:=s.heap.push { cls:=.type "dict_itemiterator",data:=.fields #[.none,.bool false,.ref d,.int 0 0,.int es.size 0,.int ep 0,.none,.none] } }):wpAny (model prog w) A (pyIter (.ref v)) Q E s:=by
 obtain ⟨o,e1,e2,e3⟩:=hd
 have ty:=hv.typeIs
 obtain ⟨ov,g1,g2,g3⟩:=hv
 refine wpAny_pyIter_slot ty PySem.F.slot_dict_items_iter (wpAny_call_entry PySem.F.slot_dict_items_iter ty PySem.F.entry_dict_items_iter ?_ (PySem.F.args_dict_items_iter_1 _))
 unfold Builtin.«dict_items.__iter__» Builtin.Dict_items.dictOf Builtin.Dict_items.newIterator
 refine wpAny_bind (wpAny_pure (wpAny_bind (wpAny_bind (wpAny_field g1 g3 (x:=.ref d) rfl (wpAny_pure (wpAny_bind (wpAny_bind (wpAny_dictEntries e1 e3 (wpAny_bind (wpAny_dictEpoch e1 e3 ?_))))))))))
 simp only [owns_it,if_true]
 refine wpAny_newObj_type (wpAny_pure ⟨_,rfl, "dict_itemiterator",_,⟨_,Heap.get?_push_size _ rfl,rfl⟩,PySem.F.slot_dict_itemiterator_next.lookup,?_⟩) ?_
 ·simpa [rawInt,Builtin.Dict_items.ownedTupleFields] using k
 ·simp only [sizeOk,Builtin.Dict_items.ownedTupleFields,List.size_toArray,List.length_append,List.length_cons,List.length_nil]
  decide
theorem collect_its {v:Addr} {Q:List Value→Shared→Prop} (hh:A.handled=none) (hv:s.heap.IsItemsView v d) (hd:RawD s.heap d es ep) (hn:es.size ≤ sizeLine)
  (k:∀ (h' : Heap) (as:List Addr),(∀ b o,s.heap.get? b=some o→h'.get? b=some o)→as.length=es.size→PairsAt h' es as→(∀ a ∈ as,s.heap.objs.size ≤ a)→Q (as.map Value.ref) { s with heap:=h' }):wpAny (model prog w) A (collect (.ref v)) Q E s:=by
 have vl:v < s.heap.objs.size:=let ⟨_,e,_⟩:=hv; Heap.lt_size e
 have dl:d < s.heap.objs.size:=let ⟨_,e,_⟩:=hd; Heap.lt_size e
 have ext:∀ (s:Shared) (R:Result→Shared→Prop) (S:Addr) (n0:Nat),s.heap.IsItemsView v d→RawD s.heap d es ep→s.heap.get? S=some { cls:=.type "list",data:=.seq #[] n0 }→S ≠ v→S ≠ d →
   (∀ (h' : Heap) (c:Nat) (acc:Array Value) (as:List Addr),(∀ b o,b ≠ S→s.heap.get? b=some o→h'.get? b=some o)→h'.get? S=some { cls:=.type "list",data:=.seq acc c }→as.length=es.size→PairsAt h' es as→(∀ a ∈ as,s.heap.objs.size ≤ a)→acc.toList=as.map Value.ref→R (.ok (.ret (.ref S))) { s with heap:=h' }) →
   wpAny (model prog w) A.in1 (Builtin.List.listExtendWith (.ref S) (.ref v) (.ref S)) (fun fin s' => match fin with | .done f => R (.ok f) s' | .again c' => c'.quiet=true∧codeAny (model prog w) A c' R s') (fun e s' => R (.error e) s') s:=by
  intro s R S n0 hv hd gS nv nd hR
  have dl:d < s.heap.objs.size:=let ⟨_,e,_⟩:=hd; Heap.lt_size e
  have Sl:S < s.heap.objs.size:=Heap.lt_size gS
  unfold Builtin.List.listExtendWith
  refine wpAny_bind (wpAny_typeOf (T := "dict_items") hv.typeIs ?_)
  have e1:Builtin.List.listSameRef (.ref S) (.ref v)=false:=by simp [Builtin.List.listSameRef,nv]
  have e2:(Value.type "dict_items" == Value.type "list")=false:=by decide
  have e3:(Value.type "dict_items" == Value.type "tuple")=false:=by decide
  simp only [e1,e2,e3,Bool.or_false,Bool.false_eq_true,if_false]
  refine wpAny_bind (iter_its hv hd ?_)
  have g1:=Heap.get?_push_of_some { cls:=.type "dict_itemiterator",data:=.fields #[.none,.bool false,.ref d,.int 0 0,.int es.size 0,.int ep 0,.none,.none] } gS
  have it1:ItF (s.heap.push { cls:=.type "dict_itemiterator",data:=.fields #[.none,.bool false,.ref d,.int 0 0,.int es.size 0,.int ep 0,.none,.none] }) s.heap.objs.size d .none (.bool false) 0 es.size ep .none .none:=Heap.get?_push_size _ rfl
  have k1:∀ b o,s.heap.get? b=some o→(s.heap.push { cls:=.type "dict_itemiterator",data:=.fields #[.none,.bool false,.ref d,.int 0 0,.int es.size 0,.int ep 0,.none,.none] }).get? b=some o:=fun b o e => Heap.get?_push_of_some _ e
  have z1:s.heap.objs.size ≤ (s.heap.push { cls:=.type "dict_itemiterator",data:=.fields #[.none,.bool false,.ref d,.int 0 0,.int es.size 0,.int ep 0,.none,.none] }).objs.size:=by rw [Heap.size_push]; omega
  have hv1:(s.heap.push { cls:=.type "dict_itemiterator",data:=.fields #[.none,.bool false,.ref d,.int 0 0,.int es.size 0,.int ep 0,.none,.none] }).IsItemsView v d:=let ⟨o,e,x⟩:=hv; ⟨o,k1 _ _ e,x⟩
  generalize s.heap.push { cls:=.type "dict_itemiterator",data:=.fields #[.none,.bool false,.ref d,.int 0 0,.int es.size 0,.int ep 0,.none,.none] } = h1 at g1 it1 k1 z1 hv1
  have go:∀ (h2:Heap) (c:Nat),(∀ b o,b ≠ S→h1.get? b=some o→h2.get? b=some o)→h1.objs.size ≤ h2.objs.size→h2.get? S=some { cls:=.type "list",data:=.seq #[] c }→codeAny (model prog w) A (.builtin "list.extend.loop" ⟨[.ref S,.ref s.heap.objs.size,.ref S],[]⟩) R { s with heap:=h2 }:=fun h2 c k2 z2 g2 => by
   refine loop_its (h0:=s.heap) hh (Nat.ne_of_lt Sl) nd (Nat.ne_of_gt dl) hn (.ref S) (fun h' c acc as q1 q2 q3 q4 q5 q6 => ?_) es.size 0 h2 c #[] [] rfl (Nat.zero_le _) (.inl ⟨rfl,_,_,k2 _ _ (Nat.ne_of_gt Sl) it1⟩) (hd.keep fun o e => k2 _ _ (Ne.symm nd) (k1 _ _ e)) (fun b o n1 _ e => k2 b o n1 (k1 b o e)) (Nat.le_trans z1 z2) g2 rfl rfl (fun j a e => by cases e) (fun a m => by cases m)
   exact hR h' c acc as (fun b o n e => q1 b o n (Nat.ne_of_lt (Heap.lt_size e)) e) q2 q3 q4 q5 q6
  refine wpAny_bind (wpAny_holding (PySem.W.kdx_hint (hv1.typeIs (s:={ s with heap:=h1 })) ?_))
  refine wpAny_ite_split (fun _ => ?_) (fun _ => wpAny_pure ⟨plainId_quiet PySem.F.plain_extend_loop _,go h1 n0 (fun b o _ e => e) (Nat.le_refl _) g1⟩)
  refine wpAny_bind (wpAny_rule (wpAny_bind ?_))
  show wpAny _ _ (updateSeq S (·.push .none) >>= fun _ => updateSeq S (·.pop)) _ _ _
  refine wpAny_bind (wpAny_updateSeq g1 rfl ?_)
  have g2:=Heap.get?_update_self (Obj.mapSeq (·.push Value.none)) g1 rfl
  refine wpAny_updateSeq (hz:=by seq_fits) g2 rfl ?_
  have g3:=Heap.get?_update_self (Obj.mapSeq (·.pop)) g2 rfl
  refine wpAny_pure ⟨plainId_quiet PySem.F.plain_extend_loop _,go _ _ (fun b o n e => ?_) ?_ g3⟩
  ·exact (Heap.get?_update_other _ _ (Ne.symm n)).trans ((Heap.get?_update_other _ _ (Ne.symm n)).trans e)
  ·rw [Heap.size_update,Heap.size_update]; exact Nat.le_refl _
 have key:∀ R:Result→Shared→Prop,(∀ (h' : Heap) (c:Nat) (acc:Array Value) (as:List Addr),(∀ b o,s.heap.get? b=some o→h'.get? b=some o)→h'.get? s.heap.objs.size=some { cls:=.type "list",data:=.seq acc c }→as.length=es.size→PairsAt h' es as→(∀ a ∈ as,s.heap.objs.size ≤ a)→acc.toList=as.map Value.ref→R (.ok (.ret (.ref s.heap.objs.size))) { s with heap:=h' }) →
   codeAny (model prog w) A (.builtin "proto.collect" ⟨[.ref v],[]⟩) R s:=by
  intro R hR
  refine codeAny_builtin PySem.F.entry_proto_collect ?_
  rw [Around.under_plainId PySem.F.plain_proto_collect _]
  show wpAny _ A.in1 (newList [] >>= fun q => again (.builtin "list.__iadd__" ⟨[q,.ref v],[]⟩)) _ _ s
  refine wpAny_bind (wpAny_newObj_type (wpAny_pure ⟨plainId_quiet PySem.F.plain_list_iadd _,codeAny_builtin PySem.F.entry_list_iadd ?_⟩))
  rw [Around.under_plainId PySem.F.plain_list_iadd _]
  show wpAny _ A.in1 (Builtin.List.listExtendWith (.ref s.heap.objs.size) (.ref v) (.ref s.heap.objs.size)) _ _ _
  refine ext { s with heap:=s.heap.push { cls:=.type "list",data:=.seq ([]:List Value).toArray } } R s.heap.objs.size 0 (let ⟨o,e,x⟩:=hv; ⟨o,Heap.get?_push_of_some _ e,x⟩) (hd.keep fun o e => Heap.get?_push_of_some _ e) (Heap.get?_push_size _ rfl) (Nat.ne_of_gt vl) (Nat.ne_of_gt dl) fun h' c acc as q1 q2 q3 q4 q5 q6 => ?_
  refine hR h' c acc as (fun b o e => q1 b o (Nat.ne_of_lt (Heap.lt_size e)) (Heap.get?_push_of_some _ e)) q2 q3 q4 (fun a m => ?_) q6
  have:=q5 a m
  rw [Heap.size_push] at this
  omega
 unfold collect
 refine wpAny_bind (wpAny_runValue (key _ fun h' c acc as q1 q2 q3 q4 q5 q6 => ?_))
 show wpAny _ A (load s.heap.objs.size >>= _) _ _ _
 refine wpAny_bind (wpAny_load q2 (wpAny_pure ?_))
 have:=k h' as q1 q3 q4 q5
 rw [← q6] at this
 exact this
end
end L2
namespace L2
open PySem PySem.Spec PyProof.Rows
def PrI (h:Heap) (v:Value) (u:List Int) (m:Int):Prop:=∃ (a:Addr) (o:Obj) (ka:Value) (t:Tok) (n:Nat),v = .ref a∧h.get? a=some o∧o.cls = .type "tuple" ∧ o.data = .seq #[ka,.int m t] n∧TupI h ka u
def kfP (h:Heap) (v:Value):List Int:=match v with
 | .ref a => match h.get? a with
  | some o => match o.data with
   | .seq its _ => kfI h (its.getD 0 .none)
   | _ => []
  | none => []
 | _ => []
def kfM (h:Heap) (v:Value):Int:=match v with
 | .ref a => match h.get? a with
  | some o => match o.data with
   | .seq its _ => vInt (its.getD 1 .none)
   | _ => 0
  | none => 0
 | _ => 0
theorem PrI.kf {h:Heap} {v:Value} {u:List Int} {m:Int} (p:PrI h v u m):kfP h v=u∧kfM h v=m:=by
 obtain ⟨a,o,ka,t,n,rfl,e,c,d,x⟩:=p
 unfold kfP kfM
 dsimp only
 rw [e]
 dsimp only
 rw [d]
 exact ⟨x.kf,rfl⟩
theorem PrI.keep {h h' : Heap} {v:Value} {u:List Int} {m:Int} (p:PrI h v u m) (k:∀ (b:Addr) (o:Obj),o.cls = .type "tuple" → h.get? b=some o→h'.get? b=some o):PrI h' v u m:=by
 obtain ⟨a,o,ka,t,n,rfl,e,c,d,x⟩:=p
 exact ⟨a,o,ka,t,n,rfl,k a o c e,c,d,x.keep' k⟩
theorem ints_items {P:Program} {w:World} : ∀ {vs:List Value} {u:List Int},IntsAre vs u→ItemsAre (intKind P w) u vs
 | _,_,.nil => .nil
 | _,_,.cons n t h => .cons (intKind_is _ _ _ _) (ints_items h)
theorem lexB_lt:∀ (u v:List Int),HT.lexLt u v=lexB u v
 | [],[] => rfl
 | [],_ :: _ => rfl
 | _ :: _,[] => rfl
 | a :: u,b :: v => by rw [HT.lexLt_cons,lexB_lt u v]; rfl
section
variable {prog:Program} {w:World} {A:Around} {E:Value→Shared→Prop} {s:Shared}
theorem lt_pairs {x y:Value} {u v:List Int} {m n:Int} {Q:Bool→Shared→Prop} (hu:A.units < cLine) (hx:PrI s.heap x u m) (hy:PrI s.heap y v n) (hm:u=v→m=n) (h:Q (lexB u v) s):wpAny (model prog w) A (keyLt' (tuples' false) x y) Q E s:=by
 obtain ⟨a,o,ka,t,z,rfl,e,c,d,tx⟩:=hx
 obtain ⟨a',o',ka',t',z',rfl,e',c',d',ty⟩:=hy
 obtain ⟨p,op,ip,np,rfl,g1,g2,g3,g4⟩:=tx
 obtain ⟨q,oq,iq,nq,rfl,k1,k2,k3,k4⟩:=ty
 refine PySem.W.kat_lt e d e' d' (PySem.W.kat_cons ?_)
 refine wpAny_eqBool_tuple (knd:=intKind prog w) hu ⟨op,ip,np,g1,g2,g3,ints_items g4⟩ ⟨oq,iq,nq,k1,k2,k3,ints_items k4⟩ ?_
 by_cases z:u=v
 ·rw [decide_eq_true z]
  refine PySem.W.kat_yes (PySem.W.kat_cons ((intKind prog w).eqBool (a:=m) (b:=n) (intKind_is _ _ _ _) (intKind_is _ _ _ _) ?_))
  rw [decide_eq_true (hm z)]
  refine PySem.W.kat_yes (PySem.W.kat_nil ?_)
  rw [z,lexB_irr] at h
  exact h
 ·rw [decide_eq_false z]
  refine PySem.W.kat_no (PySem.W.kat_one _ _ ?_)
  refine HT.lt_tupInts (items:=ip) (items2:=iq) ⟨op,g1,g2,np,g3⟩ ⟨oq,k1,k2,nq,k3⟩ g4 k4 hu ?_
  rw [lexB_lt]
  exact h
theorem kind_pairs {vs:List Value} (hv:∀ v ∈ vs,∃ u m,PrI s.heap v u m) (h1:vs ≠ []) {Q:SortKind→Shared→Prop} (h:Q (tuples' false) s):wpAny (model prog w) A (keyKind' vs.toArray) Q E s:=by
 have key:∀ vs:List Value,(∀ v ∈ vs,∃ u m,PrI s.heap v u m)→∃ fs:List Value,PySem.W.KatTups s.heap vs fs∧fs.length=vs.length∧∀ f ∈ fs,∃ u,TupI s.heap f u:=by
  intro vs
  induction vs with
  | nil => exact fun _ => ⟨[],trivial,rfl,fun f m => by cases m⟩
  | cons v vs ih =>
   intro hv
   obtain ⟨fs,f1,f2,f3⟩:=ih fun z m => hv z (List.mem_cons_of_mem _ m)
   obtain ⟨u,m,a,o,ka,t,n,rfl,e,c,d,x⟩:=hv v List.mem_cons_self
   refine ⟨ka :: fs,⟨⟨a,o,_,n,rfl,e,c,d,rfl⟩,f1⟩,by simp [f2],fun f q => ?_⟩
   rcases List.mem_cons.mp q with rfl | q
   ·exact ⟨u,x⟩
   ·exact f3 f q
 obtain ⟨fs,f1,f2,f3⟩:=key vs hv
 refine PySem.W.kat_kind (T:=.type "tuple") f1 ?_ (fun v m => ?_) (by decide) h
 ·cases vs with
  | nil => exact absurd rfl h1
  | cons _ _ => rw [f2]; simp
 ·obtain ⟨u,a,o,its,n,rfl,e,c,_⟩:=f3 v m
  exact fun A Q E s k q => wpAny_typeOf (T := "tuple") ⟨o,k _ _ e,c⟩ q
end
end L2
namespace L2
open PySem PySem.Spec PyProof.Rows
def IView (v d:Addr):Heap→Prop:=fun h => h.IsItemsView v d
def PrL (H:Hp) (xs:List V) (us:List (List Int × Int)):Prop:=xs.length=us.length∧∀ (i:Nat) (x:V) (u:List Int × Int),xs[i]? = some x→us[i]? = some u→∃ a b:Addr,x = .ref a∧H a=some (.tup [.ref b,.int u.2])∧H b=some (.tup (u.1.map V.int))
theorem meets_its (prog:Program) (w:World) (d:Addr) (hd:(d == sysModules)=false):MeetsIn prog w (Builtin.«dict.items» ⟨[.ref d],[]⟩) (fun _ R s => s.TypeIs (.ref d) "dict" ∧ R (.ok (.ret (.ref s.heap.objs.size))) { s with heap:=s.heap.push { cls:=.type "dict_items",data:=.fields #[.ref d] } }) :=
 .of_wp fun A R s ⟨ty,h⟩ => by
  unfold Builtin.«dict.items» Builtin.Dict.noArgs
  refine wpAny_bind (wpAny_bind (wpAny_notOrdered_dict ty ?_))
  show wpAny _ _ (pure d) _ _ s
  refine wpAny_pure ?_
  show wpAny _ _ (Builtin.Dict.showsAll d >>= _) _ _ s
  unfold Builtin.Dict.showsAll
  rw [if_neg (by rw [hd]; decide)]
  exact wpAny_bind (wpAny_pure (wpAny_bind (wpAny_newObj_type (wpAny_pure ⟨_,rfl,h⟩))))
theorem paired_at {α β:Type} {F:α→β→Prop} {l1:List α} {l2:List β} (p:Paired F l1 l2):l1.length=l2.length∧∀ (j:Nat) (a:α) (b:β),l1[j]? = some a→l2[j]? = some b→F a b:=by
 induction p with
 | nil => exact ⟨rfl,fun j a b e => by cases e⟩
 | cons h t ih =>
  refine ⟨by simp [ih.1],fun j a b e1 e2 => ?_⟩
  cases j with
  | zero => cases e1; cases e2; exact h
  | succ j => exact ih.2 j a b (by simpa using e1) (by simpa using e2)
def cont (h:Heap) (b:Addr):Option HO:=match h.get? b with
 | some o => match o.data with
  | .seq its _ => match its.toList with
   | [.ref ka,.int m _] => some (.tup [.ref ka,.int m])
   | _ => none
  | _ => none
 | none => none
def adr:Value→Addr
 | .ref a => a
 | _ => 0
def withPairs (H:Hp) (h:Heap) (l:Addr) (al:List Addr):Hp:=fun b => match H b with
 | some o => some o
 | none => if b=l then some (.lst (al.map V.ref)) else if b ∈ al then cont h b else none
theorem Inv.more {X:Cx} {pins:List (Addr × Obj)} {σ:List (Option V)} {H H' : Hp} {s:Shared} {h' : Heap} {t' : Nat} (I:Inv X pins σ H s) (k:∀ b u,s.heap.get? b=some u→h'.get? b=some u) (old:∀ b o,H b=some o→H' b=some o) (new:∀ b o,H b=none→H' b=some o→s.heap.get? b=none∧ObjOk X.prog X.w H' h' b o):Inv X pins σ H' { s with heap:=h',toks:=t' }:=by
 refine I.un ⟨fun b u q _ _ _ => k b u q,fun b u q _ _ _ => ⟨u.slots,k b u q⟩,fun b u q n _ => ?_,fun b u q _ => ⟨u,k b u q⟩,fun b xs q => old b _ q,fun b u xs q => old b _ q,fun b ps q => ⟨#[],by rw [old b _ q]; simp⟩⟩ fun b o e => ?_
 ·cases z:H' b with
  | none => rfl
  | some o => rw [(new b o n z).1] at q; cases q
 ·cases z:H b with
  | none => exact (new b o z e).2
  | some o' =>
   have:=old b o' z
   rw [e] at this
   cases this
   exact (I.hok b o z).stay (fun c v _ q => k c v q) (fun c q => old c _ q) fun c xs q => old c _ q
section
variable {X:Cx}
def tDItems (td:TE):TE:=fun σ H Q => td σ H fun x H1 => ∃ d kvs,x = .ref d∧H1 d=some (.dT kvs)∧∀ v,H1 v=none→Q (.ref v) (upd H1 v (.ext (IView v d)))
theorem pe_ditems {o:Expr} {td:TE} {apos cpos:PySem.Pos} (ho:PE X o td) (hbase:attributeBase o "items" X.env (eval o X.env)=eval o X.env:=by rfl) (hline:(apos.endLine == cpos.line)=true:=by rfl):PE X (.Call (.Attribute o "items" apos) [] [] cpos) (tDItems td):=by
 intro pins s σ H Q I h
 refine wpAny_Call_method0_late hbase hline (thn (ho pins s σ H _ I h) fun u s1 ⟨x,H1,I1,rx,d,kvs,ex,hd,q⟩ => ?_)
 subst ex
 cases rx
 obtain ⟨t1,t2,t3⟩:=isD_at I1 (.inr ⟨kvs,.inl hd⟩)
 refine ⟨"dict", "dict.items",PySem.F.plainAttrs_dict,PySem.F.slot_dict_items,PySem.F.type_dict_items,t1,t2,Calls.callWith_builtin rfl (PySem.evalArgs_none ?_)⟩
 refine call_meetsIn PySem.F.slot_dict_items t1 PySem.F.entry_dict_items (PySem.F.args_dict_items_1 _) (meets_its X.prog X.w d t3) ⟨t1,?_⟩
 have g:(s1.heap.push { cls:=.type "dict_items",data:=.fields #[.ref d] }).get? s1.heap.objs.size=some { cls:=.type "dict_items",data:=.fields #[.ref d] }:=Heap.get?_push_size _ rfl
 exact ⟨.ref s1.heap.objs.size,_,I1.laid (t':=s1.toks) (o:=.ext (IView s1.heap.objs.size d)) (fun b o e => Heap.get?_push_of_some _ e) (Nat.le_refl _) ⟨⟨_,g,rfl,rfl⟩,⟨_,g⟩,fun h1 h2 ⟨ob,e,c⟩ k => ⟨ob,k ob e,c⟩⟩,rfl,q _ (I1.hok.fresh (Nat.le_refl _))⟩
end
end L2
namespace L2
open PySem PySem.Spec PyProof.Rows
def putI (ks:List (List Int × Int)) (u:List Int) (z:Int):List (List Int × Int):=if (ks.any fun k => decide (k.1=u))=true then ks.map fun k => if k.1=u then (k.1,z) else k else ks ++ [(u,z)]
def getI (ks:List (List Int × Int)) (u:List Int):Int:=((ks.find? fun k => decide (k.1=u)).map (·.2)).getD 0
def emb (k:List Int × Int):List Key × V:=(k.1.map Sum.inl,V.int k.2)
theorem inlM:∀ {u v:List Int},u.map (Sum.inl:Int→Key)=v.map Sum.inl→u=v
 | [],[],_ => rfl
 | [],_ :: _,h => by cases h
 | _ :: _,[],h => by cases h
 | a :: u,b :: v,h => by
  rw [List.map_cons,List.map_cons] at h
  obtain ⟨h1,h2⟩:=List.cons.inj h
  rw [inlM h2,Sum.inl.inj h1]
theorem emb_key (k:List Int × Int) (u:List Int):decide ((emb k).1=u.map Sum.inl)=decide (k.1=u):=by
 by_cases h:k.1=u
 ·rw [decide_eq_true h]; exact decide_eq_true (by unfold emb; rw [h])
 ·rw [decide_eq_false h]; exact decide_eq_false fun q => h (inlM q)
theorem any_emb (ks:List (List Int × Int)) (u:List Int):((ks.map emb).any fun k => decide (k.1=u.map Sum.inl))=ks.any fun k => decide (k.1=u):=by
 induction ks with
 | nil => rfl
 | cons k ks ih => rw [List.map_cons,List.any_cons,List.any_cons,ih,emb_key]
theorem put_emb (ks:List (List Int × Int)) (u:List Int) (z:Int):putK (ks.map emb) (u.map Sum.inl) (V.int z)=(putI ks u z).map emb:=by
 unfold putK putI
 rw [any_emb]
 by_cases h:(ks.any fun k => decide (k.1=u))=true
 ·rw [if_pos h,if_pos h,List.map_map,List.map_map]
  refine List.map_congr_left fun k _ => ?_
  show (if (emb k).1=u.map Sum.inl then ((emb k).1,V.int z) else emb k)=emb (if k.1=u then (k.1,z) else k)
  have e:=emb_key k u
  by_cases q:k.1=u
  ·rw [if_pos q,if_pos (of_decide_eq_true (by rw [e]; exact decide_eq_true q))]; rfl
  ·rw [if_neg q,if_neg (of_decide_eq_false (by rw [e]; exact decide_eq_false q))]
 ·rw [if_neg h,if_neg h,List.map_append]; rfl
theorem val_emb (ks:List (List Int × Int)) (u:List Int):(valV (ks.map emb) (u.map Sum.inl)).getD (.int 0)=V.int (getI ks u):=by
 induction ks with
 | nil => rfl
 | cons k ks ih =>
  rw [List.map_cons]
  have e:=emb_key k u
  unfold getI
  rw [List.find?_cons]
  by_cases q:k.1=u
  ·rw [decide_eq_true q]
   rw [valV_pos (of_decide_eq_true (by rw [e]; exact decide_eq_true q))]
   rfl
  ·rw [decide_eq_false q]
   rw [valV_neg (of_decide_eq_false (by rw [e]; exact decide_eq_false q))]
   exact ih
theorem putI_len (ks:List (List Int × Int)) (u:List Int) (z:Int):(putI ks u z).length ≤ ks.length + 1:=by
 unfold putI
 split
 ·rw [List.length_map]; omega
 ·rw [List.length_append]; exact Nat.le_refl _
def totU (W:List (Int × List Int)) (u:List Int):Int:=((W.filter fun e => decide (e.2=u)).map (·.1)).sum
theorem totU_snoc (W:List (Int × List Int)) (e:Int × List Int) (u:List Int):totU (W ++ [e]) u=totU W u + if e.2=u then e.1 else 0:=by
 unfold totU
 rw [List.filter_append,List.map_append,List.sum_append]
 by_cases h:e.2=u
 ·rw [if_pos h]; simp [h]
 ·rw [if_neg h]; simp [h]
theorem totU_none {W:List (Int × List Int)} {u:List Int} (h:u ∉ W.map (·.2)):totU W u=0:=by
 unfold totU
 have:W.filter (fun e => decide (e.2=u))=[]:=List.filter_eq_nil_iff.mpr fun e he => by
  intro q
  exact h (List.mem_map.mpr ⟨e,he,of_decide_eq_true q⟩)
 rw [this]
 rfl
structure DIs (W:List (Int × List Int)) (ks:List (List Int × Int)):Prop where
 nd:(ks.map (·.1)).Nodup
 mem:∀ u,u ∈ ks.map (·.1) ↔ u ∈ W.map (·.2)
 val:∀ k ∈ ks,k.2=totU W k.1
 len:ks.length ≤ W.length
theorem DIs.nil:DIs [] []:=⟨List.Pairwise.nil,fun u => Iff.rfl,fun k h => (by cases h),Nat.le_refl _⟩
theorem DIs.get {W:List (Int × List Int)} {ks:List (List Int × Int)} (d:DIs W ks) (u:List Int):getI ks u=totU W u:=by
 unfold getI
 cases h:ks.find? fun k => decide (k.1=u) with
 | none =>
  rw [totU_none]
  ·rfl
  ·intro q
   obtain ⟨k,hk,e⟩:=List.mem_map.mp ((d.mem u).mpr q)
   have:=List.find?_eq_none.mp h k hk
   exact this (decide_eq_true e)
 | some k =>
  have e:=List.find?_some h
  have m:=List.mem_of_find?_eq_some h
  have e:k.1=u:=of_decide_eq_true e
  show k.2=_
  rw [d.val k m,e]
theorem DIs.put {W:List (Int × List Int)} {ks:List (List Int × Int)} (d:DIs W ks) (e:Int × List Int):DIs (W ++ [e]) (putI ks e.2 (getI ks e.2 + e.1)):=by
 have gt:=d.get e.2
 have mk:(ks.any fun k => decide (k.1=e.2))=true ↔ e.2 ∈ ks.map (·.1):=by
  rw [List.any_eq_true,List.mem_map]
  constructor
  ·rintro ⟨k,hk,q⟩; exact ⟨k,hk,of_decide_eq_true q⟩
  ·rintro ⟨k,hk,q⟩; exact ⟨k,hk,decide_eq_true q⟩
 refine ⟨?_,fun u => ?_,fun k hk => ?_,?_⟩
 ·unfold putI
  by_cases h:(ks.any fun k => decide (k.1=e.2))=true
  ·rw [if_pos h,List.map_map]
   have:(fun k:List Int × Int => k.1) ∘ (fun k => if k.1=e.2 then (k.1,getI ks e.2 + e.1) else k)=fun k => k.1:=by
    funext k
    show (if k.1=e.2 then (k.1,getI ks e.2 + e.1) else k).1=k.1
    split <;> rfl
   rw [this]
   exact d.nd
  ·rw [if_neg h,List.map_append]
   refine List.nodup_append.mpr ⟨d.nd,by simp,fun a ha b hb => ?_⟩
   have hb:b=e.2:=by simpa using hb
   rintro rfl
   exact h (mk.mpr (hb ▸ ha))
 ·rw [List.map_append,List.mem_append]
  have:u ∈ (putI ks e.2 (getI ks e.2 + e.1)).map (·.1) ↔ u ∈ ks.map (·.1) ∨ u=e.2:=by
   unfold putI
   by_cases h:(ks.any fun k => decide (k.1=e.2))=true
   ·rw [if_pos h,List.map_map]
    have q:(fun k:List Int × Int => k.1) ∘ (fun k => if k.1=e.2 then (k.1,getI ks e.2 + e.1) else k)=fun k => k.1:=by
     funext k
     show (if k.1=e.2 then (k.1,getI ks e.2 + e.1) else k).1=k.1
     split <;> rfl
    rw [q]
    constructor
    ·exact .inl
    ·rintro (z | z)
     ·exact z
     ·rw [z]; exact mk.mp h
   ·rw [if_neg h,List.map_append,List.mem_append]
    simp
  rw [this,d.mem u]
  simp
 ·rw [totU_snoc]
  unfold putI at hk
  by_cases h:(ks.any fun k => decide (k.1=e.2))=true
  ·rw [if_pos h] at hk
   obtain ⟨k',hk',rfl⟩:=List.mem_map.mp hk
   by_cases q:k'.1=e.2
   ·rw [if_pos q]
    show getI ks e.2 + e.1=totU W k'.1 + if e.2=k'.1 then e.1 else 0
    rw [if_pos q.symm,gt,q]
   ·rw [if_neg q,if_neg (fun z => q z.symm),Int.add_zero]
    exact d.val k' hk'
  ·rw [if_neg h] at hk
   rcases List.mem_append.mp hk with hk | hk
   ·rw [if_neg,Int.add_zero]
    ·exact d.val k hk
    ·intro z
     exact h (mk.mpr (List.mem_map.mpr ⟨k,hk,z.symm⟩))
   ·rw [List.mem_singleton.mp hk]
    show getI ks e.2 + e.1=_
    rw [if_pos rfl,gt]
 ·have:=putI_len ks e.2 (getI ks e.2 + e.1)
  have:=d.len
  rw [List.length_append]
  simp only [List.length_cons,List.length_nil]
  omega
end L2
namespace L2
open PySem PySem.Spec PyProof.Rows
section
variable {X:Cx}
theorem pi_listK {K:PySem.W.Frag} {tg l:Expr} {tl:TE} (hl:PE X l tl) (hK:X.K=K:=by rfl):PI X tg l (iList K tl):=by subst hK; exact pi_list hl
end
end L2
namespace L2
inductive Conn {α:Type} (R:α→α→Prop):α→α→Prop where
 | refl (a:α):Conn R a a
 | step {a b c:α} : Conn R a b→R b c→Conn R a c
section
variable {α β:Type} {R:α→α→Prop}
theorem Conn.trans {a b c:α} (h:Conn R a b) (k:Conn R b c):Conn R a c:=by
 induction k with
 | refl => exact h
 | step _ r ih => exact .step ih r
theorem Conn.one {a b:α} (h:R a b):Conn R a b:=.step (.refl a) h
theorem Conn.symm (hs:∀ a b,R a b→R b a) {a b:α} (h:Conn R a b):Conn R b a:=by
 induction h with
 | refl => exact .refl _
 | step _ r ih => exact (Conn.one (hs _ _ r)).trans ih
theorem Conn.closed {P:α→Prop} (hp:∀ a b,P a→R a b→P b) {a b:α} (h:Conn R a b) (ha:P a):P b:=by
 induction h with
 | refl => exact ha
 | step _ r ih => exact hp _ _ ih r
structure Parts (R:α→α→Prop) (ts:List α) (hs:List (List α)):Prop where
 perm:hs.flatten.Perm ts
 ne:∀ h ∈ hs,h ≠ []
 conn:∀ h ∈ hs,∀ x ∈ h,∀ y ∈ h,Conn R x y
 closed:∀ h ∈ hs,∀ x ∈ h,∀ y,R x y→y ∈ h
theorem Parts.nil:Parts R [] []:=⟨.refl _,fun _ h => (by cases h),fun _ h => (by cases h),fun _ h => (by cases h)⟩
theorem Parts.mem {ts:List α} {hs:List (List α)} (p:Parts R ts hs) {x:α} (hx:x ∈ ts):∃ h ∈ hs,x ∈ h:=by
 have:=p.perm.symm.subset hx
 obtain ⟨h,h1,h2⟩:=List.mem_flatten.mp this
 exact ⟨h,h1,h2⟩
theorem Parts.class {ts:List α} {hs:List (List α)} (p:Parts R ts hs) {h:List α} (hh:h ∈ hs) {x:α} (hx:x ∈ h) (y:α):y ∈ h ↔ Conn R x y :=
 ⟨fun hy => p.conn h hh x hx y hy,fun c => c.closed (P:=fun z => z ∈ h) (fun a b ha r => p.closed h hh a ha b r) hx⟩
theorem Parts.ts {ts us:List α} {hs:List (List α)} (p:Parts R ts hs) (q:ts.Perm us):Parts R us hs:=⟨p.perm.trans q,p.ne,p.conn,p.closed⟩
theorem perm_of_mem {a b:List α} [DecidableEq α] (ha:a.Nodup) (hb:b.Nodup) (h:∀ x,x ∈ a ↔ x ∈ b):a.Perm b:=by
 rw [List.perm_iff_count]
 intro x
 by_cases hx:x ∈ a
 ·rw [ha.count,if_pos hx,hb.count,if_pos ((h x).mp hx)]
 ·rw [List.count_eq_zero.mpr hx,List.count_eq_zero.mpr fun z => hx ((h x).mpr z)]
theorem flat_nodup:∀ {hs:List (List α)},hs.flatten.Nodup→∀ {h:List α},h ∈ hs→h.Nodup
 | [],_,_,hh => by cases hh
 | a :: hs,n,h,hh => by
  rw [List.flatten_cons,List.nodup_append] at n
  rcases List.mem_cons.mp hh with e | e
  ·rw [e]; exact n.1
  ·exact flat_nodup n.2.1 e
theorem Parts.same [DecidableEq α] {ts:List α} {hs gs:List (List α)} (p:Parts R ts hs) (q:Parts R ts gs) (n:ts.Nodup) {h:List α} (hh:h ∈ hs):∃ g ∈ gs,h.Perm g:=by
 cases e:h with
 | nil => exact absurd e (p.ne h hh)
 | cons x t =>
  have hx:x ∈ h:=by rw [e]; exact List.mem_cons_self
  obtain ⟨g,hg,xg⟩:=q.mem (p.perm.subset (List.mem_flatten.mpr ⟨h,hh,hx⟩))
  refine ⟨g,hg,?_⟩
  rw [← e]
  exact perm_of_mem (flat_nodup (p.perm.nodup_iff.mpr n) hh) (flat_nodup (q.perm.nodup_iff.mpr n) hg) fun y => by rw [p.class hh hx,q.class hg xg]
theorem nodup_of_flat:∀ {hs:List (List α)},hs.flatten.Nodup→(∀ h ∈ hs,h ≠ [])→hs.Nodup
 | [],_,_ => List.nodup_nil
 | h :: hs,n,ne => by
  rw [List.flatten_cons,List.nodup_append] at n
  refine List.nodup_cons.mpr ⟨fun z => ?_,nodup_of_flat n.2.1 fun g hg => ne g (List.mem_cons_of_mem _ hg)⟩
  cases e:h with
  | nil => exact ne h List.mem_cons_self e
  | cons x t =>
   have hx:x ∈ h:=by rw [e]; exact List.mem_cons_self
   exact n.2.2 x hx x (List.mem_flatten.mpr ⟨h,z,hx⟩) rfl
theorem Parts.uni [DecidableEq α] {lt:α→α→Prop} {ll:List α→List α→Prop} (uni:∀ a b:List α,a.Perm b→a.Pairwise lt→b.Pairwise lt→a=b) (unl:∀ a b:List (List α),a.Perm b→a.Pairwise ll→b.Pairwise ll→a=b)
  {ts:List α} {hs gs:List (List α)} (p:Parts R ts hs) (q:Parts R ts gs) (n:ts.Nodup) (h1:∀ h ∈ hs,h.Pairwise lt) (g1:∀ g ∈ gs,g.Pairwise lt) (h2:hs.Pairwise ll) (g2:gs.Pairwise ll):hs=gs:=by
 refine unl hs gs (perm_of_mem (nodup_of_flat (p.perm.nodup_iff.mpr n) p.ne) (nodup_of_flat (q.perm.nodup_iff.mpr n) q.ne) fun x => ⟨fun hx => ?_,fun hx => ?_⟩) h2 g2
 ·obtain ⟨g,hg,z⟩:=p.same q n hx
  rw [uni x g z (h1 x hx) (g1 g hg)]
  exact hg
 ·obtain ⟨g,hg,z⟩:=q.same p n hx
  rw [uni x g z (g1 x hx) (h1 g hg)]
  exact hg
end
end L2
namespace L2
open PySem PySem.Spec PyProof.Rows
inductive Itm (H:Hp):Bool→V→List Int→Prop where
 | int (i:Int):Itm H false (.int i) [i]
 | tup {a:Addr} {u:List Int} : H a=some (.tup (u.map V.int))→Itm H true (.ref a) u
def ItL (H:Hp) (tp:Bool) (xs:List V) (us:List (List Int)):Prop:=xs.length=us.length∧∀ (i:Nat) (x:V) (u:List Int),xs[i]? = some x→us[i]? = some u→Itm H tp x u
theorem Itm.up {H H' : Hp} {tp:Bool} {x:V} {u:List Int} (h:Itm H tp x u) (t:Tups H H'):Itm H' tp x u:=by
 cases h with
 | int i => exact .int i
 | tup e => exact .tup (t _ _ e)
theorem ItL.up {H H' : Hp} {tp:Bool} {xs:List V} {us:List (List Int)} (h:ItL H tp xs us) (t:Tups H H'):ItL H' tp xs us:=⟨h.1,fun i x u h1 h2 => (h.2 i x u h1 h2).up t⟩
theorem ItL.nil (H:Hp) (tp:Bool):ItL H tp [] []:=⟨rfl,fun i x u h => by cases h⟩
theorem ItL.cons {H:Hp} {tp:Bool} {x:V} {u:List Int} {xs:List V} {us:List (List Int)} (a:Itm H tp x u) (h:ItL H tp xs us):ItL H tp (x :: xs) (u :: us):=by
 refine ⟨by simp [h.1],fun i y v h1 h2 => ?_⟩
 cases i with
 | zero => cases h1; cases h2; exact a
 | succ i => exact h.2 i y v (by simpa using h1) (by simpa using h2)
theorem ItL.head {H:Hp} {tp:Bool} {x:V} {u:List Int} {xs:List V} {us:List (List Int)} (h:ItL H tp (x :: xs) (u :: us)):Itm H tp x u:=h.2 0 x u rfl rfl
theorem ItL.tail {H:Hp} {tp:Bool} {x:V} {u:List Int} {xs:List V} {us:List (List Int)} (h:ItL H tp (x :: xs) (u :: us)):ItL H tp xs us :=
 ⟨by simpa using h.1,fun i y v h1 h2 => h.2 (i + 1) y v (by simpa using h1) (by simpa using h2)⟩
theorem ItL.append {H:Hp} {tp:Bool} {xs ys:List V} {us vs:List (List Int)} (h:ItL H tp xs us) (k:ItL H tp ys vs):ItL H tp (xs ++ ys) (us ++ vs):=by
 refine ⟨by simp [h.1,k.1],fun i x u h1 h2 => ?_⟩
 by_cases c:i < xs.length
 ·rw [List.getElem?_append_left c] at h1
  rw [List.getElem?_append_left (h.1 ▸ c)] at h2
  exact h.2 i x u h1 h2
 ·rw [List.getElem?_append_right (by omega)] at h1
  rw [List.getElem?_append_right (by rw [← h.1]; omega),← h.1] at h2
  exact k.2 _ x u h1 h2
theorem TuL.it {H:Hp} {xs:List V} {us:List (List Int)} (h:TuL H xs us):ItL H true xs us:=⟨h.1,fun i x u h1 h2 => by
 obtain ⟨a,rfl,e⟩:=h.2 i x u h1 h2
 exact .tup e⟩
theorem ItL.tu {H:Hp} {xs:List V} {us:List (List Int)} (h:ItL H true xs us):TuL H xs us:=⟨h.1,fun i x u h1 h2 => by
 cases h.2 i x u h1 h2 with
 | tup e => exact ⟨_,rfl,e⟩⟩
end L2
namespace L2
open PySem PySem.Spec PyProof.Rows
def LsL (H:Hp) (tp:Bool) (ys:List V) (uss:List (List (List Int))):Prop:=ys.length=uss.length∧∀ (i:Nat) (y:V) (us:List (List Int)),ys[i]? = some y→uss[i]? = some us→∃ (a:Addr) (xs:List V),y = .ref a∧H a=some (.lst xs)∧ItL H tp xs us
theorem LsL.up {H H' : Hp} {tp:Bool} {ys:List V} {uss:List (List (List Int))} (h:LsL H tp ys uss) (s:Same H H'):LsL H' tp ys uss:=⟨h.1,fun i y us h1 h2 => by
 obtain ⟨a,xs,rfl,e,k⟩:=h.2 i y us h1 h2
 exact ⟨a,xs,rfl,s _ _ e,k.up s.tups⟩⟩
theorem LsL.nil (H:Hp) (tp:Bool):LsL H tp [] []:=⟨rfl,fun i x u h => by cases h⟩
theorem LsL.snoc {H:Hp} {tp:Bool} {ys xs:List V} {uss:List (List (List Int))} {us:List (List Int)} {a:Addr} (h:LsL H tp ys uss) (ha:H a=some (.lst xs)) (k:ItL H tp xs us):LsL H tp (ys ++ [.ref a]) (uss ++ [us]):=by
 refine ⟨by simp [h.1],fun i y vs h1 h2 => ?_⟩
 by_cases il:i < ys.length
 ·rw [List.getElem?_append_left il] at h1
  rw [List.getElem?_append_left (h.1 ▸ il)] at h2
  exact h.2 i y vs h1 h2
 ·rw [List.getElem?_append_right (by omega)] at h1
  rw [List.getElem?_append_right (by rw [← h.1]; omega),← h.1] at h2
  cases e:i - ys.length with
  | zero =>
   rw [e] at h1 h2
   cases h1
   cases h2
   exact ⟨a,xs,rfl,ha,k⟩
  | succ j => rw [e] at h1; cases h1
end L2
namespace L2
open PySem PySem.Spec PyProof.Rows
section
variable {X:Cx}
theorem pss_dead {st:List Stmt} : PSs X st (fun _ _ _ => False):=fun _ _ _ _ _ _ h => h.elim
end
end L2
namespace L2
open PySem PySem.Spec PyProof.Rows
theorem Same.nw {p:Addr} {H H' : Hp} {o:HO} (a:Same H H') (h:H' p=none):Same H (upd H' p o):=fun c u e => by
 have:=a c u e
 rw [upd_ne (ne_of_none this h)]; exact this
theorem Same.ow {p:Addr} {H H' : Hp} {o:HO} (a:Same H H') (h:H p=none):Same H (upd H' p o):=fun c u e => by
 rw [upd_ne (ne_of_none e h)]; exact a c u e
def RL (L:List (List Int × List Int)) (u v:List Int):Prop:=(u,v) ∈ L ∨ (v,u) ∈ L
theorem LsL.set {H:Hp} {tp:Bool} {ys xs zs:List V} {uss:List (List (List Int))} {l:Addr} (h:LsL H tp ys uss) (hl:H l=some (.lst xs)) (av:∀ y ∈ ys,y ≠ .ref l):LsL (upd H l (.lst zs)) tp ys uss:=⟨h.1,fun i y us h1 h2 => by
 obtain ⟨a,xs',rfl,e,k⟩:=h.2 i y us h1 h2
 have na:a ≠ l:=fun z => av _ (List.mem_of_getElem? h1) (by rw [z])
 exact ⟨a,xs',rfl,by rw [upd_ne na]; exact e,k.up (Tups.lst (Tups.refl H) hl)⟩⟩
end L2
namespace L2
open PySem PySem.Spec PyProof.Rows
theorem TuL.take {H:Hp} {xs:List V} {us:List (List Int)} (h:TuL H xs us) {i:Nat} {x:V} (e:xs[i]? = some x):∃ u a,us[i]? = some u∧x = .ref a∧H a=some (.tup (u.map V.int)):=by
 have il:i < us.length:=by rw [← h.1]; exact (List.getElem?_eq_some_iff.mp e).1
 obtain ⟨a,ea,ha⟩:=h.2 i x _ e (List.getElem?_eq_getElem il)
 exact ⟨us[i],a,List.getElem?_eq_getElem il,ea,ha⟩
end L2
namespace L2
open PySem PySem.Spec PyProof.Rows
theorem LsL.put {H:Hp} {tp:Bool} {ys xs:List V} {uss:List (List (List Int))} {a:Addr} {k:Nat} {x:V} {u:List Int} {us:List (List Int)} (h:LsL H tp ys uss) (nd:ys.Nodup) (ek:ys[k]? = some (.ref a)) (eu:uss[k]? = some us) (ha:H a=some (.lst xs)) (i:Itm H tp x u):LsL (upd H a (.lst (xs ++ [x]))) tp ys (uss.set k (us ++ [u])):=by
 have t:Tups H (upd H a (.lst (xs ++ [x]))):=Tups.lst (Tups.refl H) ha
 have kl:k < uss.length:=(List.getElem?_eq_some_iff.mp eu).1
 refine ⟨by rw [List.length_set]; exact h.1,fun j y vs h1 h2 => ?_⟩
 rw [List.getElem?_set] at h2
 by_cases e:k=j
 ·subst e
  rw [if_pos rfl,if_pos kl] at h2
  cases h2
  rw [ek] at h1
  cases h1
  obtain ⟨a',xs',ea,ha',it⟩:=h.2 k _ us ek eu
  cases ea
  rw [ha] at ha'
  cases ha'
  exact ⟨a,xs ++ [x],rfl,upd_same,(it.append (ItL.cons i (ItL.nil _ _))).up t⟩
 ·rw [if_neg e] at h2
  obtain ⟨a',xs',ea,ha',it⟩:=h.2 j y vs h1 h2
  have na:a' ≠ a:=fun z => by
   rw [ea,z] at h1
   have l1:=(List.getElem?_eq_some_iff.mp ek)
   have l2:=(List.getElem?_eq_some_iff.mp h1)
   exact e ((List.getElem_inj nd).mp (l1.2.trans l2.2.symm))
  exact ⟨a',xs',ea,by rw [upd_ne na]; exact ha',it.up t⟩
end L2
namespace L2
open PySem PySem.Spec PyProof.Rows
def nc (m:Nat):List Int:=[(m:Int)]
def RD (D:List (Nat × Nat)) (u v:Nat):Prop:=(u,v) ∈ D
def dirL (L:List (Nat × Nat)):List (Nat × Nat):=(L.map fun p => [p,(p.2,p.1)]).flatten
theorem dirL_snoc (L:List (Nat × Nat)) (p:Nat × Nat):dirL (L ++ [p])=dirL L ++ [p] ++ [(p.2,p.1)]:=by simp [dirL]
theorem dirL_len (L:List (Nat × Nat)):(dirL L).length=2 * L.length:=by
 induction L with
 | nil => rfl
 | cons p L ih =>
  have:dirL (p :: L)=[p,(p.2,p.1)] ++ dirL L:=by simp [dirL]
  rw [this,List.length_append,ih,List.length_cons,List.length_cons,List.length_cons,List.length_nil]
  omega
theorem mem_dirL {L:List (Nat × Nat)} {u v:Nat} : (u,v) ∈ dirL L ↔ (u,v) ∈ L ∨ (v,u) ∈ L:=by
 unfold dirL
 simp only [List.mem_flatten,List.mem_map]
 constructor
 ·rintro ⟨l,⟨⟨a,b⟩,hp,rfl⟩,h⟩
  simp at h
  rcases h with ⟨rfl,rfl⟩ | ⟨rfl,rfl⟩
  ·exact .inl hp
  ·exact .inr hp
 ·rintro (h | h)
  ·exact ⟨_,⟨_,h,rfl⟩,by simp⟩
  ·exact ⟨_,⟨_,h,rfl⟩,by simp⟩
structure BsI (n:Nat) (D:List (Nat × Nat)) (gs:List (List (List Int))):Prop where
 len:gs.length=n
 at' : ∀ k,k < n→∃ ms:List Nat,gs[k]? = some (ms.map nc)∧ms.length ≤ D.length∧∀ j,j ∈ ms ↔ (k,j) ∈ D
theorem BsI.put {n:Nat} {D:List (Nat × Nat)} {gs:List (List (List Int))} (h:BsI n D gs) {a b:Nat} (ha:a < n) {us:List (List Int)} (e:gs[a]? = some us):BsI n (D ++ [(a,b)]) (gs.set a (us ++ [nc b])):=by
 refine ⟨by rw [List.length_set,h.len],fun k hk => ?_⟩
 obtain ⟨ms,e1,l1,m1⟩:=h.at' k hk
 rw [List.getElem?_set]
 by_cases c:a=k
 ·subst c
  rw [e] at e1
  cases e1
  refine ⟨ms ++ [b],?_,?_,fun j => ?_⟩
  ·rw [if_pos rfl,if_pos (by rw [h.len]; exact hk)]; simp
  ·rw [List.length_append,List.length_append]; exact Nat.add_le_add_right l1 _
  ·simp [m1]
 ·refine ⟨ms,by rw [if_neg c]; exact e1,by rw [List.length_append]; omega,fun j => ?_⟩
  rw [m1,List.mem_append]
  refine ⟨.inl,fun z => z.elim id fun z => ?_⟩
  simp at z
  exact absurd z.1.symm c
theorem set_seen {b:List Bool} {g k:Nat} (hg:g < b.length):(b.set g true)[k]? = some true ↔ k=g ∨ b[k]? = some true:=by
 rw [List.getElem?_set]
 by_cases c:g=k
 ·subst c
  rw [if_pos rfl,if_pos hg]
  simp
 ·rw [if_neg c]
  exact ⟨.inr,fun z => z.elim (fun e => absurd e.symm c) id⟩
structure RmI (n:Nat) (D:List (Nat × Nat)) (b0 b:List Bool) (s:Nat) (vs as:List Nat) (pl:Option Nat):Prop where
 len:b.length=n
 seen:∀ k,k < n→(b[k]? = some true ↔ b0[k]? = some true ∨ k ∈ vs)
 nd:vs.Nodup
 lt:∀ k ∈ vs,k < n
 new:∀ k ∈ vs,b0[k]? ≠ some true
 start:s ∈ vs
 conn:∀ k ∈ vs,Conn (RD D) s k
 sub:∀ k ∈ as,k ∈ vs
 done:∀ k ∈ vs,k ∉ as→pl ≠ some k→∀ j,(k,j) ∈ D→b[j]? = some true
section
variable {n:Nat} {D:List (Nat × Nat)} {b0 b:List Bool} {s p g:Nat} {vs as:List Nat} {pl:Option Nat}
theorem RmI.size (h:RmI n D b0 b s vs as pl):vs.length ≤ n:=by
 have:=nodup_leN (m:=List.range n) h.nd fun x hx => List.mem_range.mpr (h.lt x hx)
 rwa [List.length_range] at this
theorem RmI.init (hl:b0.length=n) (hs:s < n) (e:b0[s]? = some false):RmI n D b0 (b0.set s true) s [s] [s] none where
 len:=by rw [List.length_set,hl]
 seen:=fun k hk => by
  rw [set_seen (by omega)]
  simp
  exact ⟨fun z => z.elim .inr .inl,fun z => z.elim .inr .inl⟩
 nd:=by simp
 lt:=fun k hk => by rw [List.mem_singleton.mp hk]; exact hs
 new:=fun k hk => by rw [List.mem_singleton.mp hk,e]; simp
 start:=by simp
 conn:=fun k hk => by rw [List.mem_singleton.mp hk]; exact .refl _
 sub:=fun k hk => hk
 done:=fun k hk ha => absurd hk ha
theorem RmI.pop (h:RmI n D b0 b s vs (as ++ [p]) none):RmI n D b0 b s vs as (some p)∧p ∈ vs :=
 ⟨⟨h.len,h.seen,h.nd,h.lt,h.new,h.start,h.conn,fun k hk => h.sub k (List.mem_append_left _ hk),fun k hk ha hp => h.done k hk (fun z => by
  rcases List.mem_append.mp z with z | z
  ·exact ha z
  ·exact hp (by rw [List.mem_singleton.mp z])) (by simp)⟩,h.sub p (by simp)⟩
theorem RmI.add (h:RmI n D b0 b s vs as pl) (hp:p ∈ vs) (hg:(p,g) ∈ D) (gl:g < n) (e:b[g]? = some false):RmI n D b0 (b.set g true) s (vs ++ [g]) (as ++ [g]) pl:=by
 have hb:g < b.length:=by rw [h.len]; exact gl
 have ng:g ∉ vs:=fun z => by
  have:=(h.seen g gl).mpr (.inr z)
  rw [e] at this
  cases this
 refine ⟨by rw [List.length_set,h.len],fun k hk => ?_,?_,fun k hk => ?_,fun k hk => ?_,List.mem_append_left _ h.start,fun k hk => ?_,fun k hk => ?_,fun k hk ha hp' j hj => ?_⟩
 ·rw [set_seen hb,h.seen k hk,List.mem_append,List.mem_singleton]
  exact ⟨fun z => z.elim (fun z => .inr (.inr z)) fun z => z.elim .inl fun z => .inr (.inl z),fun z => z.elim (fun z => .inr (.inl z)) fun z => z.elim (fun z => .inr (.inr z)) .inl⟩
 ·rw [List.nodup_append]
  exact ⟨h.nd,by simp,fun x hx y hy e => ng (by rw [← List.mem_singleton.mp hy,← e]; exact hx)⟩
 ·rcases List.mem_append.mp hk with z | z
  ·exact h.lt k z
  ·rw [List.mem_singleton.mp z]; exact gl
 ·rcases List.mem_append.mp hk with z | z
  ·exact h.new k z
  ·rw [List.mem_singleton.mp z]
   intro q
   have:=(h.seen g gl).mpr (.inl q)
   rw [e] at this
   cases this
 ·rcases List.mem_append.mp hk with z | z
  ·exact h.conn k z
  ·rw [List.mem_singleton.mp z]; exact .step (h.conn p hp) hg
 ·rcases List.mem_append.mp hk with z | z
  ·exact List.mem_append_left _ (h.sub k z)
  ·exact List.mem_append_right _ z
 ·rw [set_seen hb]
  rcases List.mem_append.mp hk with z | z
  ·exact .inr (h.done k z (fun q => ha (List.mem_append_left _ q)) hp' j hj)
  ·exact absurd (List.mem_append_right _ z) ha
theorem RmI.fin (h:RmI n D b0 b s vs as (some p)) (hd:∀ j,(p,j) ∈ D→b[j]? = some true):RmI n D b0 b s vs as none :=
 ⟨h.len,h.seen,h.nd,h.lt,h.new,h.start,h.conn,h.sub,fun k hk ha _ j hj => by
  by_cases c:p=k
  ·subst c; exact hd j hj
  ·exact h.done k hk ha (fun e => c (Option.some.inj e)) j hj⟩
end
structure LkI (n:Nat) (D:List (Nat × Nat)) (i:Nat) (b:List Bool) (hs:List (List Nat)):Prop where
 len:b.length=n
 seen:∀ k,k < n→(b[k]? = some true ↔ k ∈ hs.flatten)
 lt:∀ k ∈ hs.flatten,k < n
 low:∀ k,k < i→k ∈ hs.flatten
 nd:hs.flatten.Nodup
 pt:Parts (RD D) hs.flatten hs
 up:∀ h ∈ hs,h.Pairwise (· < ·)
 hd:∀ h ∈ hs,∃ x t,h=x :: t∧x < i
 hds:hs.Pairwise (fun g h => ∃ x t y u,g=x :: t∧h=y :: u∧x < y)
section
variable {n:Nat} {D:List (Nat × Nat)} {b b' : List Bool} {i:Nat} {hs:List (List Nat)} {vs ws:List Nat}
theorem LkI.init (n:Nat) (D:List (Nat × Nat)):LkI n D 0 (List.replicate n false) [] where
 len:=by simp
 seen:=fun k hk => by simp [List.getElem?_replicate,hk]
 lt:=fun k hk => by simp at hk
 low:=fun k hk => absurd hk (Nat.not_lt_zero _)
 nd:=by simp
 pt:=.nil
 up:=fun h hh => by simp at hh
 hd:=fun h hh => by simp at hh
 hds:=.nil
theorem LkI.skip (h:LkI n D i b hs) (hi:i < n) (e:b[i]? = some true):LkI n D (i + 1) b hs :=
 ⟨h.len,h.seen,h.lt,fun k hk => by
  by_cases c:k=i
  ·rw [c]; exact (h.seen i hi).mp e
  ·exact h.low k (by omega),h.nd,h.pt,h.up,fun g hg => by
  obtain ⟨x,t,e1,e2⟩:=h.hd g hg
  exact ⟨x,t,e1,by omega⟩,h.hds⟩
theorem LkI.room (h:LkI n D i b hs) (hi:i < n) (r:RmI n D b b' i vs [] none) (pw:ws.Perm vs) (up:ws.Pairwise (· < ·)) (sy:∀ u v,(u,v) ∈ D→(v,u) ∈ D) (rg:∀ u v,(u,v) ∈ D→v < n):LkI n D (i + 1) b' (hs ++ [ws]):=by
 have fl:(hs ++ [ws]).flatten=hs.flatten ++ ws:=by simp
 have mw:∀ k,k ∈ ws ↔ k ∈ vs:=fun k => pw.mem_iff
 have nn:∀ k ∈ ws,k ∉ hs.flatten:=fun k hk z => r.new k ((mw k).mp hk) ((h.seen k (r.lt k ((mw k).mp hk))).mpr z)
 have iw:i ∈ ws:=(mw i).mpr r.start
 have hd:∃ t,ws=i :: t:=by
  cases e:ws with
  | nil => rw [e] at iw; cases iw
  | cons x t =>
   rw [e] at iw up
   rcases List.mem_cons.mp iw with rfl | z
   ·exact ⟨t,rfl⟩
   ·have h1:x < i:=(List.pairwise_cons.mp up).1 i z
    exact absurd (h.low x h1) (nn x (by rw [e]; exact List.mem_cons_self))
 obtain ⟨t,et⟩:=hd
 refine ⟨r.len,fun k hk => ?_,fun k hk => ?_,fun k hk => ?_,?_,?_,fun g hg => ?_,fun g hg => ?_,?_⟩
 ·rw [fl,List.mem_append,r.seen k hk,h.seen k hk,mw]
 ·rw [fl] at hk
  rcases List.mem_append.mp hk with z | z
  ·exact h.lt k z
  ·exact r.lt k ((mw k).mp z)
 ·rw [fl,List.mem_append]
  by_cases c:k=i
  ·rw [c]; exact .inr iw
  ·exact .inl (h.low k (by omega))
 ·rw [fl,List.nodup_append]
  exact ⟨h.nd,pw.nodup_iff.mpr r.nd,fun x hx y hy e => nn y hy (e ▸ hx)⟩
 ·refine ⟨.refl _,fun g hg => ?_,fun g hg x hx y hy => ?_,fun g hg x hx y hy => ?_⟩
  ·rcases List.mem_append.mp hg with z | z
   ·exact h.pt.ne g z
   ·rw [List.mem_singleton.mp z,et]; simp
  ·rcases List.mem_append.mp hg with z | z
   ·exact h.pt.conn g z x hx y hy
   ·rw [List.mem_singleton.mp z] at hx hy
    exact ((r.conn x ((mw x).mp hx)).symm fun a c q => sy a c q).trans (r.conn y ((mw y).mp hy))
  ·rcases List.mem_append.mp hg with z | z
   ·exact h.pt.closed g z x hx y hy
   ·rw [List.mem_singleton.mp z] at hx ⊢
    have yl:y < n:=rg x y hy
    have:=r.done x ((mw x).mp hx) (by simp) (by simp) y hy
    rcases (r.seen y yl).mp this with q | q
    ·obtain ⟨g',hg',yg⟩:=List.mem_flatten.mp ((h.seen y yl).mp q)
     exact absurd (List.mem_flatten.mpr ⟨g',hg',h.pt.closed g' hg' y yg x (sy x y hy)⟩) (nn x hx)
    ·exact (mw y).mpr q
 ·rcases List.mem_append.mp hg with z | z
  ·exact h.up g z
  ·rw [List.mem_singleton.mp z]; exact up
 ·rcases List.mem_append.mp hg with z | z
  ·obtain ⟨x,t,e1,e2⟩:=h.hd g z
   exact ⟨x,t,e1,by omega⟩
  ·rw [List.mem_singleton.mp z]; exact ⟨i,t,et,by omega⟩
 ·rw [List.pairwise_append]
  refine ⟨h.hds,List.pairwise_singleton _ _,fun g hg g' hg' => ?_⟩
  rw [List.mem_singleton.mp hg']
  obtain ⟨x,u,e1,e2⟩:=h.hd g hg
  exact ⟨x,u,i,t,e1,et,e2⟩
theorem LkI.parts (h:LkI n D n b hs):Parts (RD D) (List.range n) hs :=
 h.pt.ts (perm_of_mem h.nd List.nodup_range fun x => ⟨fun z => List.mem_range.mpr (h.lt x z),fun z => h.low x (List.mem_range.mp z)⟩)
end
end L2
namespace L2
open PySem PySem.Spec PyProof.Rows
def nv (m:Nat):V:=.int (m:Int)
def pc (p:Nat × Nat):List Int:=[(p.1:Int),(p.2:Int)]
theorem it_nv {H:Hp} : ∀ {ms:List Nat} {xs:List V},ItL H false xs (ms.map nc)→xs=ms.map nv
 | [],[],_ => rfl
 | [],x :: xs,h => absurd h.1 (by simp)
 | m :: ms,[],h => absurd h.1 (by simp)
 | m :: ms,x :: xs,h => by
  have h1:=h.head
  have h2:=it_nv h.tail
  have:x=nv m:=by
   have key:∀ {x:V} {u:List Int},Itm H false x u→∀ i:Int,u=[i]→x = .int i:=fun hx i e => by
    cases hx with
    | int j => cases e; rfl
   exact key h1 _ rfl
  rw [this,h2]
  rfl
theorem nv_it {H:Hp} : ∀ ms:List Nat,ItL H false (ms.map nv) (ms.map nc)
 | [] => ItL.nil _ _
 | m :: ms => ItL.cons (.int _) (nv_it ms)
def tBeside (K:PySem.W.Frag):TS:=tSeq (tAsg (tCompG 1 (iRng1 (tCons (tVar 0) tNil)) (gName 0) tYes (tLst tNil)) (gName 2)) (tSeq (tFor (iList K (tVar 1)) (gTup K 2 (gCons (gName 3) (gCons (gName 4) gNil))) (tSeq (tDrop (tBM K "list" rAppend (tOp (rIxL K) (tVar 2) (tVar 3)) (tCons (tVar 4) tNil))) (tDrop (tBM K "list" rAppend (tOp (rIxL K) (tVar 2) (tVar 4)) (tCons (tVar 3) tNil))))) (tRet (tVar 2)))
end L2
namespace L2
open PySem PySem.Spec PyProof.Rows
def Bt (d:Addr) (H H' : Hp):Prop:=∀ c o,c ≠ d→H c=some o→H' c=some o
theorem Bt.nw {d p:Addr} {H H' : Hp} {o:HO} (h:Bt d H H') (hp:H p=none):Bt d H (upd H' p o):=fun c u n e => by
 rw [upd_ne (ne_of_none e hp)]; exact h c u n e
theorem Bt.at {d:Addr} {H H' : Hp} {o:HO} (h:Bt d H H'):Bt d H (upd H' d o):=fun c u n e => by
 rw [upd_ne n]; exact h c u n e
theorem Bt.free {d p:Addr} {H H' : Hp} {o:HO} (h:Bt d H H') (hd:H' d=some o) (hp:H' p=none):H p=none:=by
 cases z:H p with
 | none => rfl
 | some u =>
  have n:p ≠ d:=fun e => by rw [e,hd] at hp; cases hp
  rw [h p u n z] at hp
  cases hp
structure Rst (H0 H:Hp) (sn r a:Addr) (b:List Bool) (vs as:List Nat):Prop where
 old:Bt sn H0 H
 hs:H sn=some (.lst (b.map V.bl))
 hr:H r=some (.lst (vs.map nv))
 ha:H a=some (.lst (as.map nv))
 rf:H0 r=none
 af:H0 a=none
 ra:r ≠ a
 rs:r ≠ sn
 as' : a ≠ sn
section
variable {H0 H:Hp} {sn r a:Addr} {b:List Bool} {vs as:List Nat}
theorem Rst.pop {p:Nat} (h:Rst H0 H sn r a b vs (as ++ [p])):Rst H0 (upd H a (.lst (as.map nv))) sn r a b vs as :=
 ⟨h.old.nw h.af,by rw [upd_ne (Ne.symm h.as')]; exact h.hs,by rw [upd_ne h.ra]; exact h.hr,upd_same,h.rf,h.af,h.ra,h.rs,h.as'⟩
theorem Rst.mark (h:Rst H0 H sn r a b vs as) (g:Nat):Rst H0 (upd H sn (.lst ((b.set g true).map V.bl))) sn r a (b.set g true) vs as :=
 ⟨h.old.at,upd_same,by rw [upd_ne h.rs]; exact h.hr,by rw [upd_ne h.as']; exact h.ha,h.rf,h.af,h.ra,h.rs,h.as'⟩
theorem Rst.put (h:Rst H0 H sn r a b vs as) (ws:List Nat):Rst H0 (upd H r (.lst (ws.map nv))) sn r a b ws as :=
 ⟨h.old.nw h.rf,by rw [upd_ne (Ne.symm h.rs)]; exact h.hs,upd_same,by rw [upd_ne (Ne.symm h.ra)]; exact h.ha,h.rf,h.af,h.ra,h.rs,h.as'⟩
theorem Rst.putA (h:Rst H0 H sn r a b vs as) (ws:List Nat):Rst H0 (upd H a (.lst (ws.map nv))) sn r a b vs ws :=
 ⟨h.old.nw h.af,by rw [upd_ne (Ne.symm h.as')]; exact h.hs,by rw [upd_ne h.ra]; exact h.hr,upd_same,h.rf,h.af,h.ra,h.rs,h.as'⟩
end
theorem ixN_nat {n j:Nat} (h:j < n):ixN n (j:Int)=some j:=by
 unfold ixN
 rw [if_pos (by omega)]
 first
  | (rw [if_pos (by omega)]; simp)
  | (simp; omega)
theorem map_set_bl (b:List Bool) (g:Nat):(b.map V.bl).set g (.bl true)=(b.set g true).map V.bl:=by rw [List.map_set]
theorem bl_at {b:List Bool} {g:Nat} {v:Bool} (h:b[g]? = some v):atI (b.map V.bl) (g:Int)=some (.bl v):=atI_nat (by rw [List.getElem?_map,h]; rfl)
theorem nat_sorted {vs:List Nat} {ms:List Int} (p:ms.Perm (vs.map fun m:Nat => (m:Int))) (u:ms.Pairwise (fun x y => x ≤ y)) (nd:vs.Nodup):∃ ws:List Nat,ms.map V.int=ws.map nv∧ws.Perm vs∧ws.Pairwise (· < ·):=by
 have e:ms=(ms.map Int.toNat).map fun m:Nat => (m:Int):=by
  rw [List.map_map]
  have key:∀ l:List Int,(∀ i ∈ l,0 ≤ i)→l=l.map ((fun m:Nat => (m:Int)) ∘ Int.toNat):=fun l => by
   induction l with
   | nil => intro _; rfl
   | cons i l ih =>
    intro h
    have h0:=h i List.mem_cons_self
    rw [List.map_cons,← ih fun j hj => h j (List.mem_cons_of_mem _ hj)]
    show i :: l=((i.toNat:Nat):Int) :: l
    rw [Int.toNat_of_nonneg h0]
  refine key ms fun i hi => ?_
  obtain ⟨m,_,rfl⟩:=List.mem_map.mp (p.subset hi)
  exact Int.natCast_nonneg m
 have pw:(ms.map Int.toNat).Perm vs:=by
  have:=p.map Int.toNat
  rw [List.map_map] at this
  have e2:vs.map (Int.toNat ∘ fun m:Nat => (m:Int))=vs:=by
   rw [show (Int.toNat ∘ fun m:Nat => (m:Int))=id from funext fun m => Int.toNat_natCast m,List.map_id]
  rwa [e2] at this
 refine ⟨ms.map Int.toNat,?_,pw,?_⟩
 ·rw [show (ms.map Int.toNat).map nv=((ms.map Int.toNat).map fun m:Nat => (m:Int)).map V.int from by rw [List.map_map (f:=fun m:Nat => (m:Int)) (g:=V.int)]; rfl,← e]
 ·have nw:(ms.map Int.toNat).Nodup:=pw.nodup_iff.mpr nd
  have u2:((ms.map Int.toNat).map fun m:Nat => (m:Int)).Pairwise (fun x y => x ≤ y):=by rw [← e]; exact u
  rw [List.pairwise_map] at u2
  exact (u2.and nw).imp fun {x y} q => by have:=q.1; have:=q.2; omega
end L2
namespace L2
open PySem PySem.Spec PyProof.Rows
theorem Bt.tups {d:Addr} {H H' : Hp} {xs:List V} (h:Bt d H H') (hd:H d=some (.lst xs)):Tups H H':=fun b ys e => h b _ (fun z => by rw [z,hd] at e; cases e) e
theorem LsL.bt {d:Addr} {H H' : Hp} {tp:Bool} {ys xs:List V} {uss:List (List (List Int))} (h:LsL H tp ys uss) (s:Bt d H H') (hd:H d=some (.lst xs)) (av:∀ y ∈ ys,y ≠ .ref d):LsL H' tp ys uss:=⟨h.1,fun i y us h1 h2 => by
 obtain ⟨a,zs,rfl,e,it⟩:=h.2 i y us h1 h2
 exact ⟨a,zs,rfl,s _ _ (fun z => av _ (List.mem_of_getElem? h1) (by rw [z])) e,it.up (s.tups hd)⟩⟩
theorem LsL.avoid {H:Hp} {tp:Bool} {ys:List V} {uss:List (List (List Int))} (h:LsL H tp ys uss) {p:Addr} (hp:H p=none):∀ y ∈ ys,y ≠ .ref p:=fun y hy e => by
 obtain ⟨j,hj⟩:=List.mem_iff_getElem?.mp hy
 have jl:=(List.getElem?_eq_some_iff.mp hj).1
 obtain ⟨a,xs',ea,ha,_⟩:=h.2 j y _ hj (List.getElem?_eq_getElem (by rw [← h.1]; exact jl))
 rw [ea] at e
 cases e
 rw [hp] at ha
 cases ha
theorem rep_one {α:Type} (x:α):∀ k:Nat,(List.replicate k [x]).flatten=List.replicate k x
 | 0 => rfl
 | k + 1 => by rw [List.replicate_succ,List.replicate_succ,List.flatten_cons,rep_one x k]; rfl
end L2
namespace TimG
open PySem PySem.Spec PyProof.Rows
class KO where
 rk:Value→Int
 ik:Keyed→Prop
 kd:SortKind
variable [KO]
def numK (p:Keyed):Int:=KO.rk p.1
def Ik (p:Keyed):Prop:=KO.ik p
def IkA (a:Array Keyed):Prop:=∀ p ∈ a.toList,Ik p
class KL (prog:Program) (w:World) (A:Around) (s:Shared):Prop where
 lt:∀ {E:Value→Shared→Prop} {x y:Keyed} {st:SortSt} {Q:Option Bool→SortSt→Prop},kindOf st=KO.kd→Ik x→Ik y→Q (some (decide (numK x < numK y))) st→wpS (model prog w) A E s (lt' x y) Q st
def K (a:Array Keyed) (i:Nat):Int:=L2.RK KO.rk a i
theorem K_mirror {xs:Array Keyed} {i j:Nat} (hj:j ≤ xs.size) (k:Nat):K (mirror xs i j ((j - i) / 2)) k=if i ≤ k∧k < j then K xs (i + j - 1 - k) else K xs k:=L2.RK_mir hj k
theorem K_mirror_equal {xs:Array Keyed} {i j:Nat} (hj:j ≤ xs.size) (heq:∀ k,i ≤ k→k < j→K xs k=K xs (j - 1)) (k:Nat):K (mirror xs i j ((j - i) / 2)) k=K xs k:=L2.mir_same hj heq k
theorem K_bubble {xs:Array Keyed} {src d:Nat} (hs:src < xs.size) (hd:d ≤ src) (k:Nat):K (bubble xs src d) k=if k=src - d then K xs src else if src - d < k∧k ≤ src then K xs (k - 1) else K xs k:=L2.RK_bub hs hd k
def gallopX:Bool→Keyed→Array Keyed→Nat→Nat→Nat→StateT SortSt Sem (Option Nat):=sortPriv% PySem.Builtin.gallop
def mergeLoX:Array Keyed→Array Keyed→StateT SortSt Sem (Array Keyed):=sortPriv% PySem.Builtin.mergeLo
def mergeHiX:Array Keyed→Array Keyed→StateT SortSt Sem (Array Keyed):=sortPriv% PySem.Builtin.mergeHi
def setMinGallopX:Nat→StateT SortSt Sem Unit:=sortPriv% PySem.Builtin.setMinGallop
abbrev setGal (st:SortSt) (g:Nat):SortSt:=SortSt.mk' (kindOf st) (arrOf st) (pendingOf st) g (failedOf st)
theorem setMinGallopX_eq (g:Nat):setMinGallopX g=modify fun s => setGal s g:=rfl
def beyondX (left:Bool) (key:Keyed) (arr:Array Keyed) (base i:Nat):StateT SortSt Sem (Option Bool):=do
 let x ← elem' arr (base + i)
 if left then lt' x key else return (← lt' key x).map (!·)
theorem gallopX_eq (left:Bool) (key:Keyed) (arr:Array Keyed) (base n hint:Nat):gallopX left key arr base n hint=(do
 let mut lastofs:=0
 let mut ofs:=1
 let mut lo:=0
 let mut hi:=0
 let some right ← beyondX left key arr base hint | return none
 if right then
  let maxofs:=n - hint
  for _ in [0:n] do
   if ofs ≥ maxofs then break
   let some more ← beyondX left key arr base (hint + ofs) | return none
   if !more then break
   lastofs:=ofs
   ofs:=2 * ofs + 1
  lo:=hint + lastofs + 1
  hi:=hint + min ofs maxofs
 else
  let maxofs:=hint + 1
  for _ in [0:n] do
   if ofs ≥ maxofs then break
   let some found ← beyondX left key arr base (hint - ofs) | return none
   if found then break
   lastofs:=ofs
   ofs:=2 * ofs + 1
  lo:=hint + 1 - min ofs maxofs
  hi:=hint - lastofs
 for _ in [0:n] do
  if lo ≥ hi then break
  let m:=lo + (hi - lo) / 2
  let some more ← beyondX left key arr base m | return none
  if more then lo:=m + 1 else hi:=m
 return some hi):=rfl
section
variable {prog:Program} {w:World} {A:Around} {E:Value→Shared→Prop} {s:Shared} [KL prog w A s]
theorem wpS_elem {arr:Array Keyed} {i:Nat} {p:Keyed} {st:SortSt} {Q:Keyed→SortSt→Prop} (e:arr[i]? = some p) (h:Q p st):wpS (model prog w) A E s (elem' arr i) Q st:=by
 rw [elem'_eq,e]
 exact wpS_pure h
theorem wpS_ltN {x y:Keyed} {st:SortSt} {Q:Option Bool→SortSt→Prop} (hk:kindOf st=KO.kd) (hx:Ik x) (hy:Ik y) (h:Q (some (decide (numK x < numK y))) st):wpS (model prog w) A E s (lt' x y) Q st:=KL.lt hk hx hy h
def ahead (left:Bool) (key x:Keyed):Bool:=if left=true then decide (numK x < numK key) else !decide (numK key < numK x)
theorem wpS_beyond {left:Bool} {key p:Keyed} {arr:Array Keyed} {base i:Nat} {st:SortSt} {Q:Option Bool→SortSt→Prop} (hk:kindOf st=KO.kd) (hkey:Ik key) (e:arr[base + i]? = some p) (hp:Ik p) (h:Q (some (ahead left key p)) st):wpS (model prog w) A E s (beyondX left key arr base i) Q st:=by
 unfold beyondX
 refine wpS_bind (wpS_elem e ?_)
 cases left with
 | true => exact wpS_ltN hk hp hkey h
 | false => exact wpS_bind (wpS_ltN hk hkey hp (wpS_pure h))
def binX (left:Bool) (key:Keyed) (arr:Array Keyed) (base n lo hi:Nat):StateT SortSt Sem (Option Nat):=do
 let mut lo:=lo
 let mut hi:=hi
 for _ in [0:n] do
  if lo ≥ hi then break
  let m:=lo + (hi - lo) / 2
  let some more ← beyondX left key arr base m | return none
  if more then lo:=m + 1 else hi:=m
 return some hi
theorem wpS_bin {left:Bool} {key:Keyed} {arr:Array Keyed} {base n lo hi:Nat} {st:SortSt} {Q:Option Nat→SortSt→Prop} {b:Nat→Bool}
  (bey:∀ {i:Nat} {Q:Option Bool→SortSt→Prop},i < n→Q (some (b i)) st→wpS (model prog w) A E s (beyondX left key arr base i) Q st) (anti:∀ i j,i ≤ j→j < n→b j=true→b i=true)
  (hl:lo ≤ hi) (hn:hi ≤ n) (h1:∀ i,i < lo→b i=true) (h2:∀ i,hi ≤ i→i < n→b i=false)
  (h:∀ k,k ≤ n→(∀ i,i < k→b i=true)→(∀ i,k ≤ i→i < n→b i=false)→Q (some k) st):wpS (model prog w) A E s (binX left key arr base n lo hi) Q st:=by
 unfold binX
 refine wpS_bind (wpS_mono (wpS_forRange (I:=fun x c st'' => st'' = st∧∃ l r,c=(none,l,r)∧l ≤ r∧r ≤ n∧r - l ≤ n - x∧(∀ i,i < l→b i=true)∧(∀ i,r ≤ i→i < n→b i=false))
  (Q:=fun c st'' => st'' = st∧∃ l,c=(none,l,l)∧l ≤ n∧(∀ i,i < l→b i=true)∧(∀ i,l ≤ i→i < n→b i=false)) ?step ?fin ⟨rfl,lo,hi,rfl,hl,hn,by omega,h1,h2⟩) ?post)
 case fin =>
  rintro c st'' ⟨rfl,l,r,rfl,a1,a2,a3,a4,a5⟩
  have:l=r:=by omega
  subst this
  exact ⟨rfl,l,rfl,a2,a4,a5⟩
 case step =>
  rintro x c st'' _ hx ⟨rfl,l,r,rfl,a1,a2,a3,a4,a5⟩
  dsimp only
  by_cases hge:l ≥ r
  ·rw [if_pos hge]
   have:l=r:=by omega
   subst this
   exact wpS_pure ⟨rfl,l,rfl,a2,a4,a5⟩
  ·rw [if_neg hge]
   refine wpS_bind (bey (by omega) ?_)
   dsimp only
   cases hm:b (l + (r - l) / 2) with
   | true =>
    refine wpS_pure ⟨rfl,l + (r - l) / 2 + 1,r,rfl,by omega,a2,by omega,fun i hi => ?_,a5⟩
    exact anti i (l + (r - l) / 2) (by omega) (by omega) hm
   | false =>
    refine wpS_pure ⟨rfl,l,l + (r - l) / 2,rfl,by omega,by omega,by omega,a4,fun i hi hin => ?_⟩
    cases z:b i with
    | false => rfl
    | true => rw [anti _ i hi hin z] at hm; cases hm
 case post =>
  rintro c st'' ⟨rfl,l,rfl,a2,a4,a5⟩
  exact wpS_pure (h l a2 a4 a5)
theorem wpS_gallop {left:Bool} {key:Keyed} {arr:Array Keyed} {base n hint:Nat} {st:SortSt} {Q:Option Nat→SortSt→Prop} {b:Nat→Bool} (hk:kindOf st=KO.kd) (hkey:Ik key) (hh:hint < n)
  (hb:∀ i,i < n→∃ p,arr[base + i]? = some p∧Ik p∧b i=ahead left key p) (anti:∀ i j,i ≤ j→j < n→b j=true→b i=true)
  (h:∀ k,k ≤ n→(∀ i,i < k→b i=true)→(∀ i,k ≤ i→i < n→b i=false)→Q (some k) st):wpS (model prog w) A E s (gallopX left key arr base n hint) Q st:=by
 have bey:∀ {i:Nat} {Q:Option Bool→SortSt→Prop},i < n→Q (some (b i)) st→wpS (model prog w) A E s (beyondX left key arr base i) Q st:=fun {i Q} hi q => by
  obtain ⟨p,e,ip,eb⟩:=hb i hi
  exact wpS_beyond hk hkey e ip (by rw [← eb]; exact q)
 rw [gallopX_eq]
 refine wpS_bind (bey hh ?_)
 dsimp only
 have low:∀ {i j:Nat},i ≤ j→j < n→b i=false→b j=false:=fun {i j} hij hj hf => by
  cases z:b j with
  | false => rfl
  | true => rw [anti i j hij hj z] at hf; cases hf
 cases hright:b hint with
 | true =>
  rw [if_pos rfl]
  refine wpS_bind (wpS_mono (wpS_forRange (I:=fun x c st'' => st'' = st∧∃ l o,c=(none,l,o)∧x + 1 ≤ o∧l < o∧hint + l < n∧b (hint + l)=true)
   (Q:=fun c st'' => st'' = st∧∃ l o,c=(none,l,o)∧l < o∧hint + l < n∧b (hint + l)=true∧(n - hint ≤ o ∨ (hint + o < n∧b (hint + o)=false))) ?_ ?_ ⟨rfl,0,1,rfl,by omega,by omega,by omega,hright⟩) ?_)
  ·rintro x c st'' _ hx ⟨rfl,l,o,rfl,a0,a1,a2,a3⟩
   dsimp only
   by_cases hge:o ≥ n - hint
   ·rw [if_pos hge]
    exact wpS_pure ⟨rfl,l,o,rfl,a1,a2,a3,.inl hge⟩
   ·rw [if_neg hge]
    refine wpS_bind (bey (by omega) ?_)
    dsimp only
    cases hm:b (hint + o) with
    | true => exact wpS_pure ⟨rfl,o,2 * o + 1,rfl,by omega,by omega,by omega,hm⟩
    | false => exact wpS_pure ⟨rfl,l,o,rfl,a1,a2,a3,.inr ⟨by omega,hm⟩⟩
  ·rintro c st'' ⟨rfl,l,o,rfl,a0,a1,a2,a3⟩
   exact ⟨rfl,l,o,rfl,a1,a2,a3,.inl (by omega)⟩
  ·rintro c st'' ⟨rfl,l,o,rfl,a1,a2,a3,a4⟩
   refine wpS_bin (lo:=hint + l + 1) (hi:=hint + min o (n - hint)) bey anti (by omega) (by omega) (fun i hi => anti i (hint + l) (by omega) a2 a3) (fun i hi hin => ?_) h
   rcases a4 with a4 | ⟨a4,a5⟩
   ·omega
   ·exact low (by omega) hin a5
 | false =>
  rw [if_neg (by decide)]
  refine wpS_bind (wpS_mono (wpS_forRange (I:=fun x c st'' => st'' = st∧∃ l o,c=(none,l,o)∧x + 1 ≤ o∧l < o∧l ≤ hint∧b (hint - l)=false)
   (Q:=fun c st'' => st'' = st∧∃ l o,c=(none,l,o)∧l < o∧l ≤ hint∧b (hint - l)=false∧(hint + 1 ≤ o ∨ (o ≤ hint∧b (hint - o)=true))) ?_ ?_ ⟨rfl,0,1,rfl,by omega,by omega,by omega,hright⟩) ?_)
  ·rintro x c st'' _ hx ⟨rfl,l,o,rfl,a0,a1,a2,a3⟩
   dsimp only
   by_cases hge:o ≥ hint + 1
   ·rw [if_pos hge]
    exact wpS_pure ⟨rfl,l,o,rfl,a1,a2,a3,.inl hge⟩
   ·rw [if_neg hge]
    refine wpS_bind (bey (by omega) ?_)
    dsimp only
    cases hm:b (hint - o) with
    | true => exact wpS_pure ⟨rfl,l,o,rfl,a1,a2,a3,.inr ⟨by omega,hm⟩⟩
    | false => exact wpS_pure ⟨rfl,o,2 * o + 1,rfl,by omega,by omega,by omega,hm⟩
  ·rintro c st'' ⟨rfl,l,o,rfl,a0,a1,a2,a3⟩
   exact ⟨rfl,l,o,rfl,a1,a2,a3,.inl (by omega)⟩
  ·rintro c st'' ⟨rfl,l,o,rfl,a1,a2,a3,a4⟩
   refine wpS_bin (lo:=hint + 1 - min o (hint + 1)) (hi:=hint - l) bey anti (by omega) (by omega) (fun i hi => ?_) (fun i hi hin => low hi hin a3) h
   rcases a4 with a4 | ⟨a4,a5⟩
   ·omega
   ·exact anti i (hint - o) (by omega) (by omega) a5
end
end TimG
namespace TimG
open PySem PySem.Spec PyProof.Rows
variable [KO]
def Srt (l:List Keyed):Prop:=l.Pairwise fun x y => numK x ≤ numK y
structure MI (L o X Y:List Keyed):Prop where
 perm:(o ++ (X ++ Y)).Perm L
 so:Srt o
 sx:Srt X
 sy:Srt Y
 le:∀ x ∈ o,∀ y ∈ X ++ Y,numK x ≤ numK y
theorem srt_app {a b:List Keyed} (h1:Srt a) (h2:Srt b) (h:∀ x ∈ a,∀ y ∈ b,numK x ≤ numK y):Srt (a ++ b):=List.pairwise_append.mpr ⟨h1,h2,h⟩
theorem srt_l {a b:List Keyed} (h:Srt (a ++ b)):Srt a:=(List.pairwise_append.mp h).1
theorem srt_r {a b:List Keyed} (h:Srt (a ++ b)):Srt b:=(List.pairwise_append.mp h).2.1
theorem srt_lr {a b:List Keyed} (h:Srt (a ++ b)):∀ x ∈ a,∀ y ∈ b,numK x ≤ numK y:=(List.pairwise_append.mp h).2.2
theorem MI.moveA {L o P X Y:List Keyed} (h:MI L o (P ++ X) Y) (hp:∀ p ∈ P,∀ y ∈ Y,numK p ≤ numK y):MI L (o ++ P) X Y:=by
 refine ⟨?_,srt_app h.so (srt_l h.sx) fun x hx y hy => h.le x hx y (List.mem_append_left _ (List.mem_append_left _ hy)),srt_r h.sx,h.sy,fun x hx y hy => ?_⟩
 ·have:=h.perm
  rw [List.append_assoc] at this
  rw [List.append_assoc]
  exact this
 ·rcases List.mem_append.mp hx with hx | hx
  ·refine h.le x hx y ?_
   rcases List.mem_append.mp hy with hy | hy
   ·exact List.mem_append_left _ (List.mem_append_right _ hy)
   ·exact List.mem_append_right _ hy
  ·rcases List.mem_append.mp hy with hy | hy
   ·exact srt_lr h.sx x hx y hy
   ·exact hp x hx y hy
theorem MI.moveB {L o P X Y:List Keyed} (h:MI L o X (P ++ Y)) (hp:∀ p ∈ P,∀ x ∈ X,numK p ≤ numK x):MI L (o ++ P) X Y:=by
 refine ⟨?_,srt_app h.so (srt_l h.sy) fun x hx y hy => h.le x hx y (List.mem_append_right _ (List.mem_append_left _ hy)),h.sx,srt_r h.sy,fun x hx y hy => ?_⟩
 ·refine List.Perm.trans ?_ h.perm
  rw [List.append_assoc]
  refine List.Perm.append_left o ?_
  rw [← List.append_assoc,← List.append_assoc]
  exact List.Perm.append_right Y List.perm_append_comm
 ·rcases List.mem_append.mp hx with hx | hx
  ·refine h.le x hx y ?_
   rcases List.mem_append.mp hy with hy | hy
   ·exact List.mem_append_left _ hy
   ·exact List.mem_append_right _ (List.mem_append_right _ hy)
  ·rcases List.mem_append.mp hy with hy | hy
   ·exact hp x hx y hy
   ·exact srt_lr h.sy x hx y hy
def Fin' (L R:List Keyed):Prop:=R.Perm L∧Srt R
theorem MI.endA {L o X:List Keyed} (h:MI L o X []):Fin' L (o ++ X):=by
 have:=h.perm
 rw [List.append_nil] at this
 exact ⟨this,srt_app h.so h.sx fun x hx y hy => h.le x hx y (List.mem_append_left _ hy)⟩
theorem MI.lastA {L o X Y:List Keyed} (h:MI L o X Y) (hp:∀ y ∈ Y,∀ x ∈ X,numK y ≤ numK x):Fin' L (o ++ Y ++ X):=by
 have h2:MI L o X (Y ++ []):=by rw [List.append_nil]; exact h
 exact (h2.moveB hp).endA
theorem mergeLoX_eq (a b:Array Keyed):mergeLoX a b=(do
 rule "list.sort.merge-lo"
 let total:=a.size + b.size
 let done (out:Array Keyed) (ia ib:Nat):=out ++ a.extract ia a.size ++ b.extract ib b.size
 let lastOfA (out:Array Keyed) (ia ib:Nat):=out ++ b.extract ib b.size ++ a.extract ia a.size
 let mut out:Array Keyed:=#[← elem' b 0]
 let mut ia:=0
 let mut ib:=1
 if ib == b.size then return done out ia ib
 if ia + 1 == a.size then return lastOfA out ia ib
 let mut minGallop:=gallopOf (← get)
 for _ in [0:total] do
  let mut acount:=0
  let mut bcount:=0
  for _ in [0:total] do
   let some bWins ← lt' (← elem' b ib) (← elem' a ia) | return done out ia ib
   if bWins then
    out:=out.push (← elem' b ib); ib:=ib + 1; bcount:=bcount + 1; acount:=0
    if ib == b.size then return done out ia ib
    if bcount ≥ minGallop then break
   else
    out:=out.push (← elem' a ia); ia:=ia + 1; acount:=acount + 1; bcount:=0
    if ia + 1 == a.size then return lastOfA out ia ib
    if acount ≥ minGallop then break
  rule "list.sort.gallop"
  minGallop:=minGallop + 1
  for _ in [0:total] do
   if minGallop > 1 then minGallop:=minGallop - 1
   setMinGallopX minGallop
   let some k ← gallopX false (← elem' b ib) a ia (a.size - ia) 0 | return done out ia ib
   acount:=k
   if k > 0 then
    out:=out ++ a.extract ia (ia + k); ia:=ia + k
    if ia + 1 == a.size then return lastOfA out ia ib
    if ia == a.size then return done out ia ib
   out:=out.push (← elem' b ib); ib:=ib + 1
   if ib == b.size then return done out ia ib
   let some k ← gallopX true (← elem' a ia) b ib (b.size - ib) 0 | return done out ia ib
   bcount:=k
   if k > 0 then
    out:=out ++ b.extract ib (ib + k); ib:=ib + k
    if ib == b.size then return done out ia ib
   out:=out.push (← elem' a ia); ia:=ia + 1
   if ia + 1 == a.size then return lastOfA out ia ib
   if acount < 7 && bcount < 7 then break
  minGallop:=minGallop + 1
  setMinGallopX minGallop
 unsupported "internal:list.sort.merge-bound"):=rfl
theorem ext_full (a:Array Keyed) (i:Nat):(a.extract i a.size).toList=a.toList.drop i:=by
 rw [Array.toList_extract,List.extract_eq_take_drop]
 exact List.take_of_length_le (by rw [List.length_drop,Array.length_toList]; exact Nat.le_refl _)
theorem ext_k (a:Array Keyed) (i k:Nat):(a.extract i (i + k)).toList=(a.toList.drop i).take k:=by
 rw [Array.toList_extract,List.extract_eq_take_drop,Nat.add_sub_cancel_left]
theorem drop_at {a:Array Keyed} {i:Nat} {p:Keyed} (e:a[i]? = some p):a.toList.drop i=p :: a.toList.drop (i + 1):=by
 have h:a.toList[i]? = some p:=by rw [Array.getElem?_toList]; exact e
 obtain ⟨hi,rfl⟩:=List.getElem?_eq_some_iff.mp h
 exact List.drop_eq_getElem_cons hi
theorem at_lt {a:Array Keyed} {i:Nat} (h:i < a.size):∃ p,a[i]? = some p∧p ∈ a.toList:=⟨a[i],Array.getElem?_eq_getElem h,by simp⟩
def Keep (st st' : SortSt):Prop:=kindOf st' = kindOf st∧arrOf st' = arrOf st∧pendingOf st' = pendingOf st∧failedOf st' = failedOf st
theorem Keep.refl (st:SortSt):Keep st st:=⟨rfl,rfl,rfl,rfl⟩
theorem Keep.gal {st st' : SortSt} (h:Keep st st') (g:Nat):Keep st (setGal st' g):=⟨h.1,h.2.1,h.2.2.1,h.2.2.2⟩
structure Two (a b:Array Keyed):Prop where
 ia:∀ p ∈ a.toList,Ik p
 ib:∀ p ∈ b.toList,Ik p
 sa:Srt a.toList
 sb:Srt b.toList
def LoI (a b out:Array Keyed) (i j:Nat):Prop:=MI (a.toList ++ b.toList) out.toList (a.toList.drop i) (b.toList.drop j)
theorem LoI.pushA {a b out:Array Keyed} {i j:Nat} {p:Keyed} (h:LoI a b out i j) (e:a[i]? = some p) (hp:∀ y ∈ b.toList.drop j,numK p ≤ numK y):LoI a b (out.push p) (i + 1) j:=by
 unfold LoI at h ⊢
 rw [drop_at e] at h
 rw [Array.toList_push]
 exact MI.moveA (P:=[p]) h fun q hq y hy => by rw [List.mem_singleton.mp hq]; exact hp y hy
theorem LoI.pushB {a b out:Array Keyed} {i j:Nat} {p:Keyed} (h:LoI a b out i j) (e:b[j]? = some p) (hp:∀ y ∈ a.toList.drop i,numK p ≤ numK y):LoI a b (out.push p) i (j + 1):=by
 unfold LoI at h ⊢
 rw [drop_at e] at h
 rw [Array.toList_push]
 exact MI.moveB (P:=[p]) h fun q hq y hy => by rw [List.mem_singleton.mp hq]; exact hp y hy
theorem LoI.blockA {a b out:Array Keyed} {i j k:Nat} (h:LoI a b out i j) (hp:∀ x ∈ (a.toList.drop i).take k,∀ y ∈ b.toList.drop j,numK x ≤ numK y):LoI a b (out ++ a.extract i (i + k)) (i + k) j:=by
 unfold LoI at h ⊢
 rw [Array.toList_append,ext_k,← List.drop_drop]
 rw [← List.take_append_drop k (a.toList.drop i)] at h
 exact h.moveA hp
theorem LoI.blockB {a b out:Array Keyed} {i j k:Nat} (h:LoI a b out i j) (hp:∀ x ∈ (b.toList.drop j).take k,∀ y ∈ a.toList.drop i,numK x ≤ numK y):LoI a b (out ++ b.extract j (j + k)) i (j + k):=by
 unfold LoI at h ⊢
 rw [Array.toList_append,ext_k,← List.drop_drop]
 rw [← List.take_append_drop k (b.toList.drop j)] at h
 exact h.moveB hp
theorem LoI.done {a b out:Array Keyed} {i j:Nat} (h:LoI a b out i j) (hj:j=b.size):Fin' (a.toList ++ b.toList) (out ++ a.extract i a.size ++ b.extract j b.size).toList:=by
 unfold LoI at h
 rw [Array.toList_append,Array.toList_append,ext_full,ext_full]
 rw [List.drop_of_length_le (l:=b.toList) (by rw [Array.length_toList]; omega)] at h ⊢
 rw [List.append_nil]
 exact h.endA
theorem LoI.last {a b out:Array Keyed} {i j:Nat} (h:LoI a b out i j) (hp:∀ y ∈ b.toList.drop j,∀ x ∈ a.toList.drop i,numK y ≤ numK x):Fin' (a.toList ++ b.toList) (out ++ b.extract j b.size ++ a.extract i a.size).toList:=by
 rw [Array.toList_append,Array.toList_append,ext_full,ext_full]
 exact MI.lastA h hp
theorem srt_head {l:List Keyed} {p:Keyed} (h:Srt (p :: l)):∀ y ∈ p :: l,numK p ≤ numK y:=fun y hy => by
 rcases List.mem_cons.mp hy with rfl | hy
 ·exact Int.le_refl _
 ·exact (List.pairwise_cons.mp h).1 y hy
theorem srt_drop {l:List Keyed} (h:Srt l) (i:Nat):Srt (l.drop i):=List.Pairwise.drop h
theorem srt_at {a:Array Keyed} (h:Srt a.toList) {i:Nat} {p:Keyed} (e:a[i]? = some p):∀ y ∈ a.toList.drop i,numK p ≤ numK y:=by
 have:=srt_drop h i
 rw [drop_at e] at this ⊢
 exact srt_head this
section
variable {prog:Program} {w:World} {A:Around} {E:Value→Shared→Prop} {s:Shared} [KL prog w A s]
theorem wpS_gal {left:Bool} {key:Keyed} {arr:Array Keyed} {base n hint:Nat} {st:SortSt} {Q:Option Nat→SortSt→Prop} (hk:kindOf st=KO.kd) (hkey:Ik key) (hh:hint < n) (hn:base + n ≤ arr.size) (hi:∀ p ∈ arr.toList,Ik p) (hs:∀ (i j:Nat) (p q:Keyed),i ≤ j→j < n→arr[base + i]? = some p→arr[base + j]? = some q→numK p ≤ numK q)
  (h:∀ k,k ≤ n→(∀ i p,i < k→arr[base + i]? = some p→ahead left key p=true)→(∀ i p,k ≤ i→i < n→arr[base + i]? = some p→ahead left key p=false)→Q (some k) st):wpS (model prog w) A E s (gallopX left key arr base n hint) Q st:=by
 refine wpS_gallop (b:=fun i => match arr[base + i]? with | some p => ahead left key p | none => false) hk hkey hh (fun i hi' => ?_) (fun i j hij hj hb => ?_) fun k hk1 hk2 hk3 => h k hk1 (fun i p hik e => ?_) (fun i p hki hin e => ?_)
 ·obtain ⟨p,e,hp⟩:=at_lt (a:=arr) (i:=base + i) (by omega)
  exact ⟨p,e,hi p hp,by rw [e]⟩
 ·obtain ⟨p,e,hp⟩:=at_lt (a:=arr) (i:=base + i) (by omega)
  obtain ⟨q,e',hq⟩:=at_lt (a:=arr) (i:=base + j) (by omega)
  rw [e'] at hb
  rw [e]
  have:=hs i j p q hij hj e e'
  show ahead left key p=true
  have hb:ahead left key q=true:=hb
  unfold ahead at hb ⊢
  cases left with
  | true => rw [if_pos rfl] at hb ⊢; exact decide_eq_true (by have:=of_decide_eq_true hb; omega)
  | false =>
   rw [if_neg (by decide)] at hb ⊢
   rw [decide_eq_false (by intro z; rw [decide_eq_true (show numK key < numK q by omega)] at hb; cases hb)]
   rfl
 ·have:=hk2 i hik
  rw [e] at this
  exact this
 ·have:=hk3 i hki hin
  rw [e] at this
  exact this
end
end TimG
set_option maxHeartbeats 4000000
namespace TimG
open PySem PySem.Spec PyProof.Rows
variable [KO]
abbrev LoS:=Option (Array Keyed) × Array Keyed × Nat × Nat × Nat × Nat × Nat
def loT4 (a b out:Array Keyed) (ia ib mg ac bc:Nat):StateT SortSt Sem (ForInStep LoS):=do
 let p ← elem' a ia
 if (ia + 1 + 1 == a.size)=true then pure (.done (some (out.push p ++ b.extract ib b.size ++ a.extract (ia + 1) a.size),out.push p,ia + 1,ib,mg,ac,bc))
 else if (decide (ac < 7) && decide (bc < 7))=true then pure (.done (none,out.push p,ia + 1,ib,mg,ac,bc)) else pure (.yield (none,out.push p,ia + 1,ib,mg,ac,bc))
def loT3 (a b out:Array Keyed) (ia ib mg ac bc:Nat):StateT SortSt Sem (ForInStep LoS) :=
 if (ib == b.size)=true then pure (.done (some (out ++ a.extract ia a.size ++ b.extract ib b.size),out,ia,ib,mg,ac,bc))
 else do
  let p ← elem' a ia
  let x ← gallopX true p b ib (b.size - ib) 0
  match x with
  | some k =>
   if k > 0 then
    if (ib + k == b.size)=true then pure (.done (some (out ++ b.extract ib (ib + k) ++ a.extract ia a.size ++ b.extract (ib + k) b.size),out ++ b.extract ib (ib + k),ia,ib + k,mg,ac,k))
    else loT4 a b (out ++ b.extract ib (ib + k)) ia (ib + k) mg ac k
   else loT4 a b out ia ib mg ac k
  | _ => pure (.done (some (out ++ a.extract ia a.size ++ b.extract ib b.size),out,ia,ib,mg,ac,bc))
def loT2 (a b out:Array Keyed) (ia ib mg ac bc:Nat):StateT SortSt Sem (ForInStep LoS):=do
 let p ← elem' b ib
 loT3 a b (out.push p) ia (ib + 1) mg ac bc
def loT1 (a b out:Array Keyed) (ia ib mg ac bc:Nat):StateT SortSt Sem (ForInStep LoS):=do
 setMinGallopX mg
 let p ← elem' b ib
 let x ← gallopX false p a ia (a.size - ia) 0
 match x with
 | some k =>
  if k > 0 then
   if (ia + k + 1 == a.size)=true then pure (.done (some (out ++ a.extract ia (ia + k) ++ b.extract ib b.size ++ a.extract (ia + k) a.size),out ++ a.extract ia (ia + k),ia + k,ib,mg,k,bc))
   else if (ia + k == a.size)=true then pure (.done (some (out ++ a.extract ia (ia + k) ++ a.extract (ia + k) a.size ++ b.extract ib b.size),out ++ a.extract ia (ia + k),ia + k,ib,mg,k,bc))
   else loT2 a b (out ++ a.extract ia (ia + k)) (ia + k) ib mg k bc
  else loT2 a b out ia ib mg k bc
 | _ => pure (.done (some (out ++ a.extract ia a.size ++ b.extract ib b.size),out,ia,ib,mg,ac,bc))
def loG (a b:Array Keyed) (s:LoS):StateT SortSt Sem (ForInStep LoS):=if s.2.2.2.2.1 > 1 then loT1 a b s.2.1 s.2.2.1 s.2.2.2.1 (s.2.2.2.2.1 - 1) s.2.2.2.2.2.1 s.2.2.2.2.2.2 else loT1 a b s.2.1 s.2.2.1 s.2.2.2.1 s.2.2.2.2.1 s.2.2.2.2.2.1 s.2.2.2.2.2.2
abbrev LoR:=Option (Array Keyed) × Array Keyed × Nat × Nat × Nat × Nat
def loP (a b:Array Keyed) (mg:Nat) (s:LoR):StateT SortSt Sem (ForInStep LoR):=do
 let p ← elem' b s.2.2.2.1
 let q ← elem' a s.2.2.1
 let x ← lt' p q
 match x with
 | some bWins =>
  if bWins=true then do
   let p ← elem' b s.2.2.2.1
   if (s.2.2.2.1 + 1 == b.size)=true then pure (.done (some (s.2.1.push p ++ a.extract s.2.2.1 a.size ++ b.extract (s.2.2.2.1 + 1) b.size),s.2.1.push p,s.2.2.1,s.2.2.2.1 + 1,0,s.2.2.2.2.2 + 1))
   else if s.2.2.2.2.2 + 1 ≥ mg then pure (.done (none,s.2.1.push p,s.2.2.1,s.2.2.2.1 + 1,0,s.2.2.2.2.2 + 1))
   else pure (.yield (none,s.2.1.push p,s.2.2.1,s.2.2.2.1 + 1,0,s.2.2.2.2.2 + 1))
  else do
   let p ← elem' a s.2.2.1
   if (s.2.2.1 + 1 + 1 == a.size)=true then pure (.done (some (s.2.1.push p ++ b.extract s.2.2.2.1 b.size ++ a.extract (s.2.2.1 + 1) a.size),s.2.1.push p,s.2.2.1 + 1,s.2.2.2.1,s.2.2.2.2.1 + 1,0))
   else if s.2.2.2.2.1 + 1 ≥ mg then pure (.done (none,s.2.1.push p,s.2.2.1 + 1,s.2.2.2.1,s.2.2.2.2.1 + 1,0))
   else pure (.yield (none,s.2.1.push p,s.2.2.1 + 1,s.2.2.2.1,s.2.2.2.2.1 + 1,0))
 | _ => pure (.done (some (s.2.1 ++ a.extract s.2.2.1 a.size ++ b.extract s.2.2.2.1 b.size),s.2.1,s.2.2.1,s.2.2.2.1,s.2.2.2.2.1,s.2.2.2.2.2))
abbrev LoO:=Option (Array Keyed) × Array Keyed × Nat × Nat × Nat
def loO (a b:Array Keyed) (s:LoO):StateT SortSt Sem (ForInStep LoO):=do
 let s1 ← forIn [0:a.size + b.size] ((none,s.2.1,s.2.2.1,s.2.2.2.1,0,0):LoR) fun _ s1 => loP a b s.2.2.2.2 s1
 match s1.1 with
 | some r => pure (.done (some r,s1.2.1,s1.2.2.1,s1.2.2.2.1,s.2.2.2.2))
 | none => do
  liftM (rule "list.sort.gallop")
  let s2 ← forIn [0:a.size + b.size] ((none,s1.2.1,s1.2.2.1,s1.2.2.2.1,s.2.2.2.2 + 1,s1.2.2.2.2.1,s1.2.2.2.2.2):LoS) fun _ s2 => loG a b s2
  match s2.1 with
  | some r => pure (.done (some r,s2.2.1,s2.2.2.1,s2.2.2.2.1,s2.2.2.2.2.1))
  | none => do
   setMinGallopX (s2.2.2.2.2.1 + 1)
   pure (.yield (none,s2.2.1,s2.2.2.1,s2.2.2.2.1,s2.2.2.2.2.1 + 1))
theorem ifc {α:Type} {c:Prop} [Decidable c] {x y z:α} (h:y=z):(if c then x else y)=(if c then x else z):=by rw [h]
theorem ifd {α:Type} {c:Prop} [Decidable c] {x x2 y z:α} (h1:x=x2) (h:y=z):(if c then x else y)=(if c then x2 else z):=by rw [h,h1]
theorem mergeLoX_eq2 (a b:Array Keyed):mergeLoX a b=(do
 liftM (rule "list.sort.merge-lo")
 let p ← elem' b 0
 if (1 == b.size)=true then pure (#[p] ++ a.extract 0 a.size ++ b.extract 1 b.size)
 else if (0 + 1 == a.size)=true then pure (#[p] ++ b.extract 1 b.size ++ a.extract 0 a.size)
 else do
  let g ← get
  let s1 ← forIn [0:a.size + b.size] ((none,#[p],0,1,gallopOf g):LoO) fun _ s1 => loO a b s1
  match s1.1 with
  | some r => pure r
  | none => unsupported "internal:list.sort.merge-bound"):=by
 rw [mergeLoX_eq]
 dsimp only
 refine congrArg _ (funext fun _ => congrArg _ (funext fun p => ?_))
 refine ifc (ifc ?_)
 refine congrArg _ (funext fun g => ?_)
 congr 1
 ·congr 1
  funext x s1
  unfold loO
  refine congrArg _ (funext fun s2 => ?_)
  obtain ⟨r,s2⟩:=s2
  cases r with
  | some r => rfl
  | none =>
   dsimp only
   refine congrArg _ (funext fun _ => congrArg _ (funext fun s3 => ?_))
   obtain ⟨r,s3⟩:=s3
   cases r with
   | some r => rfl
   | none => rfl
 ·funext s1
  obtain ⟨r,s1⟩:=s1
  cases r with
  | some r => rfl
  | none => rfl
end TimG
namespace TimG
open PySem PySem.Spec PyProof.Rows
variable [KO]
theorem idx_drop {a:Array Keyed} {j:Nat} {y:Keyed} (h:y ∈ a.toList.drop j):∃ i,j + i < a.size∧a[j + i]? = some y:=by
 obtain ⟨i,hi⟩:=List.mem_iff_getElem?.mp h
 rw [List.getElem?_drop,Array.getElem?_toList] at hi
 exact ⟨i,(Array.getElem?_eq_some_iff.mp hi).1,hi⟩
theorem idx_take {a:Array Keyed} {j k:Nat} {y:Keyed} (h:y ∈ (a.toList.drop j).take k):∃ i,i < k∧a[j + i]? = some y:=by
 obtain ⟨i,hi⟩:=List.mem_iff_getElem?.mp h
 rw [List.getElem?_take] at hi
 split at hi
 ·rw [List.getElem?_drop,Array.getElem?_toList] at hi
  exact ⟨i,by assumption,hi⟩
 ·cases hi
theorem srt_idx {a:Array Keyed} (h:Srt a.toList) {i j:Nat} {p q:Keyed} (hij:i ≤ j) (e1:a[i]? = some p) (e2:a[j]? = some q):numK p ≤ numK q:=by
 refine srt_at h e1 q ?_
 refine List.mem_iff_getElem?.mpr ⟨j - i,?_⟩
 rw [List.getElem?_drop,Array.getElem?_toList,show i + (j - i)=j by omega]
 exact e2
structure LoV (a b out:Array Keyed) (ia ib:Nat):Prop where
 mi:LoI a b out ia ib
 ha:ia + 1 < a.size
 hb:ib < b.size
section
variable {prog:Program} {w:World} {A:Around} {E:Value→Shared→Prop} {s:Shared} {a b:Array Keyed} {st st' : SortSt} {n0:Nat} [KL prog w A s]
def OkN (a b:Array Keyed) (st:SortSt) (n0:Nat) (c:LoS) (st' : SortSt):Prop:=Keep st st'∧∃ out ia ib mg ac bc,c=(none,out,ia,ib,mg,ac,bc)∧LoV a b out ia ib∧n0 ≤ ia + ib
def OkF (a b:Array Keyed) (st:SortSt) (c:LoS) (st' : SortSt):Prop:=Keep st st'∧∃ r rest,c=(some r,rest)∧Fin' (a.toList ++ b.toList) r.toList
def OkSt (a b:Array Keyed) (st:SortSt) (n0:Nat):ForInStep LoS→SortSt→Prop:=fun r st' => match r with
 | .done c => OkF a b st c st' ∨ OkN a b st n0 c st'
 | .yield c => OkN a b st n0 c st'
theorem last_done (hla:∀ p,a[a.size - 1]? = some p→∀ y ∈ b.toList,numK y < numK p) {out:Array Keyed} {ia ib:Nat} (h:LoI a b out ia ib) (hi:ia + 1=a.size):Fin' (a.toList ++ b.toList) (out ++ b.extract ib b.size ++ a.extract ia a.size).toList:=by
 refine h.last fun y hy x hx => ?_
 obtain ⟨i,hi2,e⟩:=idx_drop hx
 have:ia + i=a.size - 1:=by omega
 rw [this] at e
 exact Int.le_of_lt (hla x e y (List.mem_of_mem_drop hy))
theorem wpS_T4 (hla:∀ p,a[a.size - 1]? = some p→∀ y ∈ b.toList,numK y < numK p) {out:Array Keyed} {ia ib mg ac bc:Nat} (h:LoV a b out ia ib) (hn:n0 ≤ ia + ib) (kp:Keep st st') (hle:∀ p,a[ia]? = some p→∀ y ∈ b.toList.drop ib,numK p ≤ numK y):wpS (model prog w) A E s (loT4 a b out ia ib mg ac bc) (OkSt a b st n0) st':=by
 have ha:=h.ha
 obtain ⟨p,e,_⟩:=at_lt (a:=a) (i:=ia) (by omega)
 unfold loT4
 refine wpS_bind (wpS_elem e ?_)
 have h1:=h.mi.pushA e (hle p e)
 by_cases c1:(ia + 1 + 1 == a.size)=true
 ·rw [if_pos c1]
  exact wpS_pure (.inl ⟨kp,_,_,rfl,last_done hla h1 (by simpa using c1)⟩)
 ·rw [if_neg c1]
  have c1:ia + 1 + 1 ≠ a.size:=by simpa using c1
  have v:LoV a b (out.push p) (ia + 1) ib:=⟨h1,by omega,h.hb⟩
  split
  ·exact wpS_pure (.inr ⟨kp,_,_,_,_,_,_,rfl,v,by omega⟩)
  ·exact wpS_pure ⟨kp,_,_,_,_,_,_,rfl,v,by omega⟩
theorem wpS_T3 (T:Two a b) (hk:kindOf st=KO.kd) (hla:∀ p,a[a.size - 1]? = some p→∀ y ∈ b.toList,numK y < numK p) {out:Array Keyed} {ia ib mg ac bc:Nat} (h:LoI a b out ia ib) (ha:ia + 1 < a.size) (hb:ib ≤ b.size) (hn:n0 ≤ ia + ib) (kp:Keep st st'):wpS (model prog w) A E s (loT3 a b out ia ib mg ac bc) (OkSt a b st n0) st':=by
 unfold loT3
 by_cases c1:(ib == b.size)=true
 ·rw [if_pos c1]
  exact wpS_pure (.inl ⟨kp,_,_,rfl,h.done (by simpa using c1)⟩)
 rw [if_neg c1]
 have c1:ib ≠ b.size:=by simpa using c1
 obtain ⟨p,e,mp⟩:=at_lt (a:=a) (i:=ia) (by omega)
 refine wpS_bind (wpS_elem e (wpS_bind (wpS_gal (kp.1.trans hk) (T.ia p mp) (by omega) (by omega) T.ib (fun i j p q hij _ e1 e2 => srt_idx T.sb (by omega) e1 e2) fun k hk1 hlt hge => ?_)))
 dsimp only
 have ge:∀ y ∈ b.toList.drop (ib + k),numK p ≤ numK y:=fun y hy => by
  obtain ⟨i,hi,ei⟩:=idx_drop hy
  have:=hge (k + i) y (by omega) (by omega) (by rw [← Nat.add_assoc]; exact ei)
  unfold ahead at this
  rw [if_pos rfl] at this
  have:=of_decide_eq_false this
  omega
 by_cases c2:k > 0
 ·rw [if_pos c2]
  have h2:=h.blockB (k:=k) fun x hx y hy => by
   obtain ⟨i,hi,ei⟩:=idx_take hx
   have:=hlt i x hi ei
   unfold ahead at this
   rw [if_pos rfl] at this
   have:=of_decide_eq_true this
   have:=srt_at T.sa e y hy
   omega
  by_cases c3:(ib + k == b.size)=true
  ·rw [if_pos c3]
   exact wpS_pure (.inl ⟨kp,_,_,rfl,h2.done (by simpa using c3)⟩)
  ·rw [if_neg c3]
   have c3:ib + k ≠ b.size:=by simpa using c3
   exact wpS_T4 hla ⟨h2,ha,by omega⟩ (by omega) kp fun p' e' => by rw [e] at e'; cases e'; exact ge
 ·rw [if_neg c2]
  have k0:k=0:=by omega
  subst k0
  exact wpS_T4 hla ⟨h,ha,by omega⟩ hn kp fun p' e' => by rw [e] at e'; cases e'; exact ge
theorem wpS_T2 (T:Two a b) (hk:kindOf st=KO.kd) (hla:∀ p,a[a.size - 1]? = some p→∀ y ∈ b.toList,numK y < numK p) {out:Array Keyed} {ia ib mg ac bc:Nat} (h:LoV a b out ia ib) (hn:n0 ≤ ia + ib) (kp:Keep st st') (hle:∀ p,b[ib]? = some p→∀ y ∈ a.toList.drop ia,numK p ≤ numK y):wpS (model prog w) A E s (loT2 a b out ia ib mg ac bc) (OkSt a b st n0) st':=by
 have hb:=h.hb
 obtain ⟨p,e,_⟩:=at_lt (a:=b) (i:=ib) hb
 unfold loT2
 exact wpS_bind (wpS_elem e (wpS_T3 T hk hla (h.mi.pushB e (hle p e)) h.ha (by omega) (by omega) kp))
theorem wpS_T1 (T:Two a b) (hk:kindOf st=KO.kd) (hla:∀ p,a[a.size - 1]? = some p→∀ y ∈ b.toList,numK y < numK p) {out:Array Keyed} {ia ib mg ac bc:Nat} (h:LoV a b out ia ib) (hn:n0 ≤ ia + ib) (kp:Keep st st'):wpS (model prog w) A E s (loT1 a b out ia ib mg ac bc) (OkSt a b st n0) st':=by
 have hb:=h.hb
 have ha:=h.ha
 obtain ⟨p,e,mp⟩:=at_lt (a:=b) (i:=ib) hb
 unfold loT1
 rw [setMinGallopX_eq]
 refine wpS_bind (wpS_modify ?_)
 have kp:=kp.gal mg
 refine wpS_bind (wpS_elem e (wpS_bind (wpS_gal (kp.1.trans hk) (T.ib p mp) (by omega) (by omega) T.ia (fun i j p q hij _ e1 e2 => srt_idx T.sa (by omega) e1 e2) fun k hk1 hlt hge => ?_)))
 dsimp only
 have ge:∀ y ∈ a.toList.drop (ia + k),numK p ≤ numK y:=fun y hy => by
  obtain ⟨i,hi,ei⟩:=idx_drop hy
  have:=hge (k + i) y (by omega) (by omega) (by rw [← Nat.add_assoc]; exact ei)
  unfold ahead at this
  rw [if_neg (by decide)] at this
  cases z:decide (numK p < numK y) with
  | true => have:=of_decide_eq_true z; omega
  | false => rw [z] at this; cases this
 have lt:∀ (i:Nat) (x:Keyed),i < k→a[ia + i]? = some x→numK x ≤ numK p:=fun i x hi ei => by
  have:=hlt i x hi ei
  unfold ahead at this
  rw [if_neg (by decide)] at this
  cases z:decide (numK p < numK x) with
  | true => rw [z] at this; cases this
  | false => have:=of_decide_eq_false z; omega
 by_cases c2:k > 0
 ·rw [if_pos c2]
  have h2:=h.mi.blockA (k:=k) fun x hx y hy => by
   obtain ⟨i,hi,ei⟩:=idx_take hx
   have:=lt i x hi ei
   have:=srt_at T.sb e y hy
   omega
  by_cases c3:(ia + k + 1 == a.size)=true
  ·rw [if_pos c3]
   exact wpS_pure (.inl ⟨kp,_,_,rfl,last_done hla h2 (by simpa using c3)⟩)
  rw [if_neg c3]
  have c3:ia + k + 1 ≠ a.size:=by simpa using c3
  by_cases c4:(ia + k == a.size)=true
  ·have c4:ia + k=a.size:=by simpa using c4
   exfalso
   obtain ⟨x,ex,_⟩:=at_lt (a:=a) (i:=a.size - 1) (by omega)
   have h3:=hla x ex p mp
   have h4:=lt (k - 1) x (by omega) (by rw [show ia + (k - 1)=a.size - 1 by omega]; exact ex)
   omega
  ·rw [if_neg c4]
   have c4:ia + k ≠ a.size:=by simpa using c4
   exact wpS_T2 T hk hla ⟨h2,by omega,hb⟩ (by omega) kp fun p' e' => by rw [e] at e'; cases e'; exact ge
 ·rw [if_neg c2]
  have k0:k=0:=by omega
  subst k0
  exact wpS_T2 T hk hla h hn kp fun p' e' => by rw [e] at e'; cases e'; exact ge
theorem wpS_G (T:Two a b) (hk:kindOf st=KO.kd) (hla:∀ p,a[a.size - 1]? = some p→∀ y ∈ b.toList,numK y < numK p) {c:LoS} (h:OkN a b st n0 c st'):wpS (model prog w) A E s (loG a b c) (OkSt a b st n0) st':=by
 obtain ⟨kp,out,ia,ib,mg,ac,bc,rfl,v,hn⟩:=h
 unfold loG
 dsimp only
 split
 ·exact wpS_T1 T hk hla v hn kp
 ·exact wpS_T1 T hk hla v hn kp
def OkR (a b:Array Keyed) (st:SortSt) (n0:Nat) (c:LoR) (st' : SortSt):Prop:=Keep st st'∧∃ out ia ib ac bc,c=(none,out,ia,ib,ac,bc)∧LoV a b out ia ib∧n0 ≤ ia + ib
def OkRF (a b:Array Keyed) (st:SortSt) (c:LoR) (st' : SortSt):Prop:=Keep st st'∧∃ r rest,c=(some r,rest)∧Fin' (a.toList ++ b.toList) r.toList
theorem wpS_P (T:Two a b) (hk:kindOf st=KO.kd) (hla:∀ p,a[a.size - 1]? = some p→∀ y ∈ b.toList,numK y < numK p) {c:LoR} {mg:Nat} (h:OkR a b st n0 c st'):wpS (model prog w) A E s (loP a b mg c) (fun r st' => match r with
  | .done c => OkRF a b st c st' ∨ OkR a b st (n0 + 1) c st'
  | .yield c => OkR a b st (n0 + 1) c st') st':=by
 obtain ⟨kp,out,ia,ib,ac,bc,rfl,v,hn⟩:=h
 have hb:=v.hb
 have ha:=v.ha
 obtain ⟨p,e,mp⟩:=at_lt (a:=b) (i:=ib) hb
 obtain ⟨q,e2,mq⟩:=at_lt (a:=a) (i:=ia) (by omega)
 unfold loP
 refine wpS_bind (wpS_elem e (wpS_bind (wpS_elem e2 (wpS_bind (wpS_ltN (kp.1.trans hk) (T.ib p mp) (T.ia q mq) ?_)))))
 dsimp only
 by_cases hlt:numK p < numK q
 ·rw [decide_eq_true hlt,if_pos rfl]
  refine wpS_bind (wpS_elem e ?_)
  have h1:=v.mi.pushB e fun y hy => by have:=srt_at T.sa e2 y hy; omega
  by_cases c1:(ib + 1 == b.size)=true
  ·rw [if_pos c1]
   exact wpS_pure (.inl ⟨kp,_,_,rfl,h1.done (by simpa using c1)⟩)
  rw [if_neg c1]
  have c1:ib + 1 ≠ b.size:=by simpa using c1
  have v1:LoV a b (out.push p) ia (ib + 1):=⟨h1,ha,by omega⟩
  split
  ·exact wpS_pure (.inr ⟨kp,_,_,_,_,_,rfl,v1,by omega⟩)
  ·exact wpS_pure ⟨kp,_,_,_,_,_,rfl,v1,by omega⟩
 ·rw [decide_eq_false hlt,if_neg (by decide)]
  refine wpS_bind (wpS_elem e2 ?_)
  have h1:=v.mi.pushA e2 fun y hy => by have:=srt_at T.sb e y hy; omega
  by_cases c1:(ia + 1 + 1 == a.size)=true
  ·rw [if_pos c1]
   exact wpS_pure (.inl ⟨kp,_,_,rfl,last_done hla h1 (by simpa using c1)⟩)
  rw [if_neg c1]
  have c1:ia + 1 + 1 ≠ a.size:=by simpa using c1
  have v1:LoV a b (out.push q) (ia + 1) ib:=⟨h1,by omega,hb⟩
  split
  ·exact wpS_pure (.inr ⟨kp,_,_,_,_,_,rfl,v1,by omega⟩)
  ·exact wpS_pure ⟨kp,_,_,_,_,_,rfl,v1,by omega⟩
theorem wpS_mergeLo {Q:Array Keyed→SortSt→Prop} (T:Two a b) (hk:kindOf st=KO.kd) (a1:1 ≤ a.size) (b1:1 ≤ b.size) (h0:∀ p,b[0]? = some p→∀ x ∈ a.toList,numK p ≤ numK x) (hla:∀ p,a[a.size - 1]? = some p→∀ y ∈ b.toList,numK y < numK p)
  (h:∀ r st',Keep st st'→Fin' (a.toList ++ b.toList) r.toList→Q r st'):wpS (model prog w) A E s (mergeLoX a b) Q st:=by
 rw [mergeLoX_eq2]
 refine wpS_bind (wpS_lift (wpAny_rule ⟨rfl,?_⟩))
 obtain ⟨p,e,mp⟩:=at_lt (a:=b) (i:=0) (by omega)
 refine wpS_bind (wpS_elem e ?_)
 have st0:LoI a b #[] 0 0:=⟨by show (a.toList ++ b.toList).Perm _; exact List.Perm.refl _,List.Pairwise.nil,by rw [List.drop_zero]; exact T.sa,by rw [List.drop_zero]; exact T.sb,fun x hx => by cases hx⟩
 have st1:LoI a b #[p] 0 1:=st0.pushB e (h0 p e)
 by_cases c1:(1 == b.size)=true
 ·rw [if_pos c1]
  exact wpS_pure (h _ _ (Keep.refl st) (st1.done (by simpa using c1)))
 rw [if_neg c1]
 have c1:1 ≠ b.size:=by simpa using c1
 by_cases c2:(0 + 1 == a.size)=true
 ·rw [if_pos c2]
  exact wpS_pure (h _ _ (Keep.refl st) (last_done hla st1 (by simpa using c2)))
 rw [if_neg c2]
 have c2:1 ≠ a.size:=by simpa using c2
 refine wpS_bind (wpS_get ?_)
 refine wpS_bind (wpS_mono (wpS_forRange (I:=fun x c st' => Keep st st'∧∃ out ia ib mg,c=(none,out,ia,ib,mg)∧LoV a b out ia ib∧x ≤ ia + ib)
  (Q:=fun c st' => Keep st st'∧∃ r rest,c=(some r,rest)∧Fin' (a.toList ++ b.toList) r.toList) ?step ?fin ⟨Keep.refl st,_,_,_,_,rfl,⟨st1,by omega,by omega⟩,by omega⟩) ?post)
 case post =>
  rintro c st' ⟨kp,r,rest,rfl,f⟩
  exact wpS_pure (h r st' kp f)
 case fin =>
  rintro c st' ⟨kp,out,ia,ib,mg,rfl,v,hx⟩
  have:=v.ha
  have:=v.hb
  omega
 case step =>
  rintro x c st1 _ hx ⟨kp,out,ia,ib,mg,rfl,v,hn⟩
  unfold loO
  dsimp only
  refine wpS_bind (wpS_mono (wpS_forRange (I:=fun y c st' => OkR a b st (x + y) c st') (Q:=fun c st' => OkRF a b st c st' ∨ OkR a b st (x + 1) c st') ?_ ?_ ⟨kp,_,_,_,_,_,rfl,v,hn⟩) ?_)
  ·rintro y c st2 _ hy hR
   refine wpS_mono (wpS_P T hk hla hR) fun r st3 hr => ?_
   cases r with
   | done c =>
    rcases hr with hr | ⟨k3,out,ia,ib,ac,bc,e3,v3,n3⟩
    ·exact .inl hr
    ·exact .inr ⟨k3,out,ia,ib,ac,bc,e3,v3,by omega⟩
   | yield c => exact hr
  ·rintro c st2 ⟨k3,out,ia,ib,ac,bc,e3,v3,n3⟩
   exact .inr ⟨k3,out,ia,ib,ac,bc,e3,v3,by omega⟩
  ·rintro c st2 (⟨k2,r,rest,rfl,f⟩ | ⟨k2,out2,ia2,ib2,ac2,bc2,rfl,v2,n2⟩)
   ·exact wpS_pure ⟨k2,_,_,rfl,f⟩
   ·dsimp only
    refine wpS_bind (wpS_lift (wpAny_rule ⟨rfl,?_⟩))
    refine wpS_bind (wpS_mono (wpS_forRange (I:=fun y c st' => OkN a b st (x + 1) c st') (Q:=fun c st' => OkF a b st c st' ∨ OkN a b st (x + 1) c st') ?_ ?_ ⟨k2,_,_,_,_,_,_,rfl,v2,n2⟩) ?_)
    ·rintro y c st3 _ hy hR
     refine wpS_mono (wpS_G T hk hla hR) fun r st4 hr => ?_
     cases r with
     | done c => exact hr
     | yield c => exact hr
    ·exact fun c st3 hR => .inr hR
    ·rintro c st3 (⟨k3,r,rest,rfl,f⟩ | ⟨k3,out3,ia3,ib3,mg3,ac3,bc3,rfl,v3,n3⟩)
     ·exact wpS_pure ⟨k3,_,_,rfl,f⟩
     ·dsimp only
      rw [setMinGallopX_eq]
      exact wpS_bind (wpS_modify (wpS_pure ⟨k3.gal _,_,_,_,_,rfl,v3,by omega⟩))
end
end TimG
namespace TimG
open PySem PySem.Spec PyProof.Rows
variable [KO]
theorem mergeHiX_eq (a b:Array Keyed):mergeHiX a b=(do
 rule "list.sort.merge-hi"
 let total:=a.size + b.size
 let done (out:Array Keyed) (na nb:Nat):=a.extract 0 na ++ b.extract 0 nb ++ out.reverse
 let firstOfB (out:Array Keyed) (na nb:Nat):=b.extract 0 nb ++ a.extract 0 na ++ out.reverse
 let mut na:=a.size - 1
 let mut nb:=b.size
 let mut out:Array Keyed:=#[← elem' a na]
 if na == 0 then return done out na nb
 if nb == 1 then return firstOfB out na nb
 let mut minGallop:=gallopOf (← get)
 for _ in [0:total] do
  let mut acount:=0
  let mut bcount:=0
  for _ in [0:total] do
   let some aWins ← lt' (← elem' b (nb - 1)) (← elem' a (na - 1)) | return done out na nb
   if aWins then
    na:=na - 1; out:=out.push (← elem' a na); acount:=acount + 1; bcount:=0
    if na == 0 then return done out na nb
    if acount ≥ minGallop then break
   else
    nb:=nb - 1; out:=out.push (← elem' b nb); bcount:=bcount + 1; acount:=0
    if nb == 1 then return firstOfB out na nb
    if bcount ≥ minGallop then break
  rule "list.sort.gallop"
  minGallop:=minGallop + 1
  for _ in [0:total] do
   if minGallop > 1 then minGallop:=minGallop - 1
   setMinGallopX minGallop
   let some at_ ← gallopX false (← elem' b (nb - 1)) a 0 na (na - 1) | return done out na nb
   let k:=na - at_
   acount:=k
   if k > 0 then
    out:=out ++ (a.extract at_ na).reverse; na:=at_
    if na == 0 then return done out na nb
   nb:=nb - 1; out:=out.push (← elem' b nb)
   if nb == 1 then return firstOfB out na nb
   let some at_ ← gallopX true (← elem' a (na - 1)) b 0 nb (nb - 1) | return done out na nb
   let k:=nb - at_
   bcount:=k
   if k > 0 then
    out:=out ++ (b.extract at_ nb).reverse; nb:=at_
    if nb == 1 then return firstOfB out na nb
    if nb == 0 then return done out na nb
   na:=na - 1; out:=out.push (← elem' a na)
   if na == 0 then return done out na nb
   if acount < 7 && bcount < 7 then break
  minGallop:=minGallop + 1
  setMinGallopX minGallop
 unsupported "internal:list.sort.merge-bound"):=rfl
structure HI (L X Y o:List Keyed):Prop where
 perm:((X ++ Y) ++ o).Perm L
 so:Srt o
 sx:Srt X
 sy:Srt Y
 le:∀ y ∈ X ++ Y,∀ z ∈ o,numK y ≤ numK z
theorem HI.moveA {L X P Y o:List Keyed} (h:HI L (X ++ P) Y o) (hp:∀ p ∈ P,∀ y ∈ Y,numK y ≤ numK p):HI L X Y (P ++ o):=by
 refine ⟨?_,srt_app (srt_r h.sx) h.so fun x hx y hy => h.le x (List.mem_append_left _ (List.mem_append_right _ hx)) y hy,srt_l h.sx,h.sy,fun y hy z hz => ?_⟩
 ·refine List.Perm.trans ?_ h.perm
  rw [← List.append_assoc]
  refine List.Perm.append_right o ?_
  rw [List.append_assoc,List.append_assoc]
  exact List.Perm.append_left X List.perm_append_comm
 ·rcases List.mem_append.mp hz with hz | hz
  ·rcases List.mem_append.mp hy with hy | hy
   ·exact srt_lr h.sx y hy z hz
   ·exact hp z hz y hy
  ·refine h.le y ?_ z hz
   rcases List.mem_append.mp hy with hy | hy
   ·exact List.mem_append_left _ (List.mem_append_left _ hy)
   ·exact List.mem_append_right _ hy
theorem HI.moveB {L X P Y o:List Keyed} (h:HI L X (Y ++ P) o) (hp:∀ p ∈ P,∀ x ∈ X,numK x ≤ numK p):HI L X Y (P ++ o):=by
 refine ⟨?_,srt_app (srt_r h.sy) h.so fun x hx y hy => h.le x (List.mem_append_right _ (List.mem_append_right _ hx)) y hy,h.sx,srt_l h.sy,fun y hy z hz => ?_⟩
 ·have:=h.perm
  rw [← List.append_assoc,List.append_assoc] at this
  rw [← List.append_assoc] at this
  rw [← List.append_assoc]
  simpa [List.append_assoc] using this
 ·rcases List.mem_append.mp hz with hz | hz
  ·rcases List.mem_append.mp hy with hy | hy
   ·exact hp z hz y hy
   ·exact srt_lr h.sy y hy z hz
  ·refine h.le y ?_ z hz
   rcases List.mem_append.mp hy with hy | hy
   ·exact List.mem_append_left _ hy
   ·exact List.mem_append_right _ (List.mem_append_left _ hy)
theorem HI.endA {L Y o:List Keyed} (h:HI L [] Y o):Fin' L (Y ++ o):=⟨h.perm,srt_app h.sy h.so fun y hy z hz => h.le y hy z hz⟩
theorem HI.firstB {L X Y o:List Keyed} (h:HI L X Y o) (hp:∀ p ∈ X,∀ y ∈ Y,numK y ≤ numK p):Fin' L (Y ++ X ++ o):=by
 have h2:HI L ([] ++ X) Y o:=h
 rw [List.append_assoc]
 exact (h2.moveA hp).endA
theorem ext_low (a:Array Keyed) (n:Nat):(a.extract 0 n).toList=a.toList.take n:=by
 rw [Array.toList_extract,List.extract_eq_take_drop,List.drop_zero,Nat.sub_zero]
theorem ext_mid (a:Array Keyed) (m n:Nat):(a.extract m n).toList=(a.toList.take n).drop m:=by
 rw [Array.toList_extract,List.extract_eq_take_drop,List.drop_take]
theorem take_at {a:Array Keyed} {i:Nat} {p:Keyed} (e:a[i]? = some p):a.toList.take (i + 1)=a.toList.take i ++ [p]:=by
 have h:a.toList[i]? = some p:=by rw [Array.getElem?_toList]; exact e
 rw [List.take_add_one,h]
 rfl
def HiI (a b out:Array Keyed) (na nb:Nat):Prop:=HI (a.toList ++ b.toList) (a.toList.take na) (b.toList.take nb) out.toList.reverse
theorem HiI.pushA {a b out:Array Keyed} {na nb:Nat} {p:Keyed} (h:HiI a b out (na + 1) nb) (e:a[na]? = some p) (hp:∀ y ∈ b.toList.take nb,numK y ≤ numK p):HiI a b (out.push p) na nb:=by
 unfold HiI at h ⊢
 rw [take_at e] at h
 rw [Array.toList_push,List.reverse_append]
 exact HI.moveA (P:=[p]) h fun q hq y hy => by rw [List.mem_singleton.mp hq]; exact hp y hy
theorem HiI.pushB {a b out:Array Keyed} {na nb:Nat} {p:Keyed} (h:HiI a b out na (nb + 1)) (e:b[nb]? = some p) (hp:∀ y ∈ a.toList.take na,numK y ≤ numK p):HiI a b (out.push p) na nb:=by
 unfold HiI at h ⊢
 rw [take_at e] at h
 rw [Array.toList_push,List.reverse_append]
 exact HI.moveB (P:=[p]) h fun q hq y hy => by rw [List.mem_singleton.mp hq]; exact hp y hy
theorem HiI.blockA {a b out:Array Keyed} {na nb m:Nat} (h:HiI a b out na nb) (hm:m ≤ na) (hp:∀ x ∈ (a.toList.take na).drop m,∀ y ∈ b.toList.take nb,numK y ≤ numK x):HiI a b (out ++ (a.extract m na).reverse) m nb:=by
 unfold HiI at h ⊢
 rw [Array.toList_append,List.reverse_append,Array.toList_reverse,List.reverse_reverse,ext_mid]
 rw [← List.take_append_drop m (a.toList.take na),List.take_take,Nat.min_eq_left hm] at h
 exact h.moveA hp
theorem HiI.blockB {a b out:Array Keyed} {na nb m:Nat} (h:HiI a b out na nb) (hm:m ≤ nb) (hp:∀ x ∈ (b.toList.take nb).drop m,∀ y ∈ a.toList.take na,numK y ≤ numK x):HiI a b (out ++ (b.extract m nb).reverse) na m:=by
 unfold HiI at h ⊢
 rw [Array.toList_append,List.reverse_append,Array.toList_reverse,List.reverse_reverse,ext_mid]
 rw [← List.take_append_drop m (b.toList.take nb),List.take_take,Nat.min_eq_left hm] at h
 exact h.moveB hp
theorem HiI.done {a b out:Array Keyed} {nb:Nat} (h:HiI a b out 0 nb):Fin' (a.toList ++ b.toList) (a.extract 0 0 ++ b.extract 0 nb ++ out.reverse).toList:=by
 unfold HiI at h
 rw [Array.toList_append,Array.toList_append,ext_low,ext_low,Array.toList_reverse]
 exact HI.endA h
theorem HiI.first {a b out:Array Keyed} {na nb:Nat} (h:HiI a b out na nb) (hp:∀ p ∈ a.toList.take na,∀ y ∈ b.toList.take nb,numK y ≤ numK p):Fin' (a.toList ++ b.toList) (b.extract 0 nb ++ a.extract 0 na ++ out.reverse).toList:=by
 rw [Array.toList_append,Array.toList_append,ext_low,ext_low,Array.toList_reverse]
 exact HI.firstB h hp
end TimG
namespace TimG
open PySem PySem.Spec PyProof.Rows
variable [KO]
abbrev HiS:=Option (Array Keyed) × Nat × Nat × Array Keyed × Nat × Nat × Nat
def hiT4 (a b:Array Keyed) (na nb:Nat) (out:Array Keyed) (mg ac bc:Nat):StateT SortSt Sem (ForInStep HiS):=do
 let p ← elem' a (na - 1)
 if (na - 1 == 0)=true then pure (.done (some (a.extract 0 (na - 1) ++ b.extract 0 nb ++ (out.push p).reverse),na - 1,nb,out.push p,mg,ac,bc))
 else if (decide (ac < 7) && decide (bc < 7))=true then pure (.done (none,na - 1,nb,out.push p,mg,ac,bc)) else pure (.yield (none,na - 1,nb,out.push p,mg,ac,bc))
def hiT3 (a b:Array Keyed) (na nb:Nat) (out:Array Keyed) (mg ac bc:Nat):StateT SortSt Sem (ForInStep HiS) :=
 if (nb == 1)=true then pure (.done (some (b.extract 0 nb ++ a.extract 0 na ++ out.reverse),na,nb,out,mg,ac,bc))
 else do
  let p ← elem' a (na - 1)
  let x ← gallopX true p b 0 nb (nb - 1)
  match x with
  | some m =>
   if nb - m > 0 then
    if (m == 1)=true then pure (.done (some (b.extract 0 m ++ a.extract 0 na ++ (out ++ (b.extract m nb).reverse).reverse),na,m,out ++ (b.extract m nb).reverse,mg,ac,nb - m))
    else if (m == 0)=true then pure (.done (some (a.extract 0 na ++ b.extract 0 m ++ (out ++ (b.extract m nb).reverse).reverse),na,m,out ++ (b.extract m nb).reverse,mg,ac,nb - m))
    else hiT4 a b na m (out ++ (b.extract m nb).reverse) mg ac (nb - m)
   else hiT4 a b na nb out mg ac (nb - m)
  | _ => pure (.done (some (a.extract 0 na ++ b.extract 0 nb ++ out.reverse),na,nb,out,mg,ac,bc))
def hiT2 (a b:Array Keyed) (na nb:Nat) (out:Array Keyed) (mg ac bc:Nat):StateT SortSt Sem (ForInStep HiS):=do
 let p ← elem' b (nb - 1)
 hiT3 a b na (nb - 1) (out.push p) mg ac bc
def hiT1 (a b:Array Keyed) (na nb:Nat) (out:Array Keyed) (mg ac bc:Nat):StateT SortSt Sem (ForInStep HiS):=do
 setMinGallopX mg
 let p ← elem' b (nb - 1)
 let x ← gallopX false p a 0 na (na - 1)
 match x with
 | some m =>
  if na - m > 0 then
   if (m == 0)=true then pure (.done (some (a.extract 0 m ++ b.extract 0 nb ++ (out ++ (a.extract m na).reverse).reverse),m,nb,out ++ (a.extract m na).reverse,mg,na - m,bc))
   else hiT2 a b m nb (out ++ (a.extract m na).reverse) mg (na - m) bc
  else hiT2 a b na nb out mg (na - m) bc
 | _ => pure (.done (some (a.extract 0 na ++ b.extract 0 nb ++ out.reverse),na,nb,out,mg,ac,bc))
def hiG (a b:Array Keyed) (s:HiS):StateT SortSt Sem (ForInStep HiS):=if s.2.2.2.2.1 > 1 then hiT1 a b s.2.1 s.2.2.1 s.2.2.2.1 (s.2.2.2.2.1 - 1) s.2.2.2.2.2.1 s.2.2.2.2.2.2 else hiT1 a b s.2.1 s.2.2.1 s.2.2.2.1 s.2.2.2.2.1 s.2.2.2.2.2.1 s.2.2.2.2.2.2
abbrev HiR:=Option (Array Keyed) × Nat × Nat × Array Keyed × Nat × Nat
def hiP (a b:Array Keyed) (mg:Nat) (s:HiR):StateT SortSt Sem (ForInStep HiR):=do
 let p ← elem' b (s.2.2.1 - 1)
 let q ← elem' a (s.2.1 - 1)
 let x ← lt' p q
 match x with
 | some aWins =>
  if aWins=true then do
   let p ← elem' a (s.2.1 - 1)
   if (s.2.1 - 1 == 0)=true then pure (.done (some (a.extract 0 (s.2.1 - 1) ++ b.extract 0 s.2.2.1 ++ (s.2.2.2.1.push p).reverse),s.2.1 - 1,s.2.2.1,s.2.2.2.1.push p,s.2.2.2.2.1 + 1,0))
   else if s.2.2.2.2.1 + 1 ≥ mg then pure (.done (none,s.2.1 - 1,s.2.2.1,s.2.2.2.1.push p,s.2.2.2.2.1 + 1,0))
   else pure (.yield (none,s.2.1 - 1,s.2.2.1,s.2.2.2.1.push p,s.2.2.2.2.1 + 1,0))
  else do
   let p ← elem' b (s.2.2.1 - 1)
   if (s.2.2.1 - 1 == 1)=true then pure (.done (some (b.extract 0 (s.2.2.1 - 1) ++ a.extract 0 s.2.1 ++ (s.2.2.2.1.push p).reverse),s.2.1,s.2.2.1 - 1,s.2.2.2.1.push p,0,s.2.2.2.2.2 + 1))
   else if s.2.2.2.2.2 + 1 ≥ mg then pure (.done (none,s.2.1,s.2.2.1 - 1,s.2.2.2.1.push p,0,s.2.2.2.2.2 + 1))
   else pure (.yield (none,s.2.1,s.2.2.1 - 1,s.2.2.2.1.push p,0,s.2.2.2.2.2 + 1))
 | _ => pure (.done (some (a.extract 0 s.2.1 ++ b.extract 0 s.2.2.1 ++ s.2.2.2.1.reverse),s.2.1,s.2.2.1,s.2.2.2.1,s.2.2.2.2.1,s.2.2.2.2.2))
abbrev HiO:=Option (Array Keyed) × Nat × Nat × Array Keyed × Nat
def hiO (a b:Array Keyed) (s:HiO):StateT SortSt Sem (ForInStep HiO):=do
 let s1 ← forIn [0:a.size + b.size] ((none,s.2.1,s.2.2.1,s.2.2.2.1,0,0):HiR) fun _ s1 => hiP a b s.2.2.2.2 s1
 match s1.1 with
 | some r => pure (.done (some r,s1.2.1,s1.2.2.1,s1.2.2.2.1,s.2.2.2.2))
 | none => do
  liftM (rule "list.sort.gallop")
  let s2 ← forIn [0:a.size + b.size] ((none,s1.2.1,s1.2.2.1,s1.2.2.2.1,s.2.2.2.2 + 1,s1.2.2.2.2.1,s1.2.2.2.2.2):HiS) fun _ s2 => hiG a b s2
  match s2.1 with
  | some r => pure (.done (some r,s2.2.1,s2.2.2.1,s2.2.2.2.1,s2.2.2.2.2.1))
  | none => do
   setMinGallopX (s2.2.2.2.2.1 + 1)
   pure (.yield (none,s2.2.1,s2.2.2.1,s2.2.2.2.1,s2.2.2.2.2.1 + 1))
theorem mergeHiX_eq2 (a b:Array Keyed):mergeHiX a b=(do
 liftM (rule "list.sort.merge-hi")
 let p ← elem' a (a.size - 1)
 if (a.size - 1 == 0)=true then pure (a.extract 0 (a.size - 1) ++ b.extract 0 b.size ++ #[p].reverse)
 else if (b.size == 1)=true then pure (b.extract 0 b.size ++ a.extract 0 (a.size - 1) ++ #[p].reverse)
 else do
  let g ← get
  let s1 ← forIn [0:a.size + b.size] ((none,a.size - 1,b.size,#[p],gallopOf g):HiO) fun _ s1 => hiO a b s1
  match s1.1 with
  | some r => pure r
  | none => unsupported "internal:list.sort.merge-bound"):=by
 rw [mergeHiX_eq]
 dsimp only
 refine congrArg _ (funext fun _ => congrArg _ (funext fun p => ?_))
 refine ifc (ifc ?_)
 refine congrArg _ (funext fun g => ?_)
 congr 1
 ·congr 1
  funext x s1
  unfold hiO
  refine congrArg _ (funext fun s2 => ?_)
  obtain ⟨r,s2⟩:=s2
  cases r with
  | some r => rfl
  | none =>
   dsimp only
   refine congrArg _ (funext fun _ => congrArg _ (funext fun s3 => ?_))
   obtain ⟨r,s3⟩:=s3
   cases r with
   | some r => rfl
   | none => rfl
 ·funext s1
  obtain ⟨r,s1⟩:=s1
  cases r with
  | some r => rfl
  | none => rfl
end TimG
namespace TimG
open PySem PySem.Spec PyProof.Rows
variable [KO]
theorem idx_mid {a:Array Keyed} {m n:Nat} {y:Keyed} (h:y ∈ (a.toList.take n).drop m):∃ i,m ≤ i∧i < n∧a[i]? = some y:=by
 obtain ⟨i,hi⟩:=List.mem_iff_getElem?.mp h
 rw [List.getElem?_drop,List.getElem?_take] at hi
 split at hi
 ·rw [Array.getElem?_toList] at hi
  exact ⟨m + i,by omega,by assumption,hi⟩
 ·cases hi
theorem idx_low {a:Array Keyed} {n:Nat} {y:Keyed} (h:y ∈ a.toList.take n):∃ i,i < n∧a[i]? = some y:=by
 obtain ⟨i,_,h2,h3⟩:=idx_mid (m:=0) (n:=n) (a:=a) (y:=y) (by rw [List.drop_zero]; exact h)
 exact ⟨i,h2,h3⟩
theorem srt_top {a:Array Keyed} (h:Srt a.toList) {n:Nat} {p:Keyed} (e:a[n - 1]? = some p):∀ y ∈ a.toList.take n,numK y ≤ numK p:=fun y hy => by
 obtain ⟨i,hi,ei⟩:=idx_low hy
 exact srt_idx h (by omega) ei e
structure HiV (a b out:Array Keyed) (na nb:Nat):Prop where
 mi:HiI a b out na nb
 ha:0 < na
 ha2:na ≤ a.size
 hb:1 < nb
 hb2:nb ≤ b.size
section
variable {prog:Program} {w:World} {A:Around} {E:Value→Shared→Prop} {s:Shared} {a b:Array Keyed} {st st' : SortSt} {n0:Nat} [KL prog w A s]
def OhN (a b:Array Keyed) (st:SortSt) (n0:Nat) (c:HiS) (st' : SortSt):Prop:=Keep st st'∧∃ na nb out mg ac bc,c=(none,na,nb,out,mg,ac,bc)∧HiV a b out na nb∧na + nb + n0 ≤ a.size + b.size
def OhF (a b:Array Keyed) (st:SortSt) (c:HiS) (st' : SortSt):Prop:=Keep st st'∧∃ r rest,c=(some r,rest)∧Fin' (a.toList ++ b.toList) r.toList
def OhSt (a b:Array Keyed) (st:SortSt) (n0:Nat):ForInStep HiS→SortSt→Prop:=fun r st' => match r with
 | .done c => OhF a b st c st' ∨ OhN a b st n0 c st'
 | .yield c => OhN a b st n0 c st'
theorem first_done (h0:∀ p,b[0]? = some p→∀ x ∈ a.toList,numK p < numK x) {out:Array Keyed} {na nb:Nat} (h:HiI a b out na nb) (hi:nb=1):Fin' (a.toList ++ b.toList) (b.extract 0 nb ++ a.extract 0 na ++ out.reverse).toList:=by
 refine h.first fun p hp y hy => ?_
 obtain ⟨i,hi2,e⟩:=idx_low hy
 have:i=0:=by omega
 subst this
 exact Int.le_of_lt (h0 y e p (List.mem_of_mem_take hp))
theorem hi_done {out:Array Keyed} {na nb:Nat} (h:HiI a b out na nb) (hi:na=0):Fin' (a.toList ++ b.toList) (a.extract 0 na ++ b.extract 0 nb ++ out.reverse).toList:=by
 subst hi
 exact h.done
theorem wpS_H4 {out:Array Keyed} {na nb mg ac bc:Nat} (h:HiV a b out na nb) (hn:na + nb + n0 ≤ a.size + b.size) (kp:Keep st st') (hle:∀ p,a[na - 1]? = some p→∀ y ∈ b.toList.take nb,numK y ≤ numK p):wpS (model prog w) A E s (hiT4 a b na nb out mg ac bc) (OhSt a b st n0) st':=by
 have ha:=h.ha
 have ha2:=h.ha2
 obtain ⟨p,e,_⟩:=at_lt (a:=a) (i:=na - 1) (by omega)
 unfold hiT4
 refine wpS_bind (wpS_elem e ?_)
 have h1:HiI a b (out.push p) (na - 1) nb:=HiI.pushA (by rw [show na - 1 + 1=na by omega]; exact h.mi) e (hle p e)
 by_cases c1:(na - 1 == 0)=true
 ·rw [if_pos c1]
  exact wpS_pure (.inl ⟨kp,_,_,rfl,hi_done h1 (by simpa using c1)⟩)
 ·rw [if_neg c1]
  have c1:na - 1 ≠ 0:=by simpa using c1
  have v:HiV a b (out.push p) (na - 1) nb:=⟨h1,by omega,by omega,h.hb,h.hb2⟩
  split
  ·exact wpS_pure (.inr ⟨kp,_,_,_,_,_,_,rfl,v,by omega⟩)
  ·exact wpS_pure ⟨kp,_,_,_,_,_,_,rfl,v,by omega⟩
theorem wpS_H3 (T:Two a b) (hk:kindOf st=KO.kd) (h0:∀ p,b[0]? = some p→∀ x ∈ a.toList,numK p < numK x) {out:Array Keyed} {na nb mg ac bc:Nat} (h:HiI a b out na nb) (ha:0 < na) (ha2:na ≤ a.size) (hb:1 ≤ nb) (hb2:nb ≤ b.size) (hn:na + nb + n0 ≤ a.size + b.size) (kp:Keep st st'):wpS (model prog w) A E s (hiT3 a b na nb out mg ac bc) (OhSt a b st n0) st':=by
 unfold hiT3
 by_cases c1:(nb == 1)=true
 ·rw [if_pos c1]
  exact wpS_pure (.inl ⟨kp,_,_,rfl,first_done h0 h (by simpa using c1)⟩)
 rw [if_neg c1]
 have c1:nb ≠ 1:=by simpa using c1
 obtain ⟨p,e,mp⟩:=at_lt (a:=a) (i:=na - 1) (by omega)
 refine wpS_bind (wpS_elem e (wpS_bind (wpS_gal (kp.1.trans hk) (T.ia p mp) (by omega) (by omega) T.ib (fun i j p q hij _ e1 e2 => srt_idx T.sb (by omega) e1 e2) fun k hk1 hlt hge => ?_)))
 dsimp only
 have ge:∀ (i:Nat) (y:Keyed),k ≤ i→i < nb→b[i]? = some y→numK p ≤ numK y:=fun i y hi1 hi2 ei => by
  have:=hge i y hi1 hi2 (by rw [Nat.zero_add]; exact ei)
  unfold ahead at this
  rw [if_pos rfl] at this
  have:=of_decide_eq_false this
  omega
 have lt:∀ (i:Nat) (y:Keyed),i < k→b[i]? = some y→numK y < numK p:=fun i y hi ei => by
  have:=hlt i y hi (by rw [Nat.zero_add]; exact ei)
  unfold ahead at this
  rw [if_pos rfl] at this
  exact of_decide_eq_true this
 by_cases c2:nb - k > 0
 ·rw [if_pos c2]
  have h2:=h.blockB (m:=k) (by omega) fun x hx y hy => by
   obtain ⟨i,hi1,hi2,ei⟩:=idx_mid hx
   have:=ge i x hi1 hi2 ei
   have:=srt_top T.sa e y hy
   omega
  by_cases c3:(k == 1)=true
  ·rw [if_pos c3]
   exact wpS_pure (.inl ⟨kp,_,_,rfl,first_done h0 h2 (by simpa using c3)⟩)
  rw [if_neg c3]
  have c3:k ≠ 1:=by simpa using c3
  by_cases c4:(k == 0)=true
  ·have c4:k=0:=by simpa using c4
   exfalso
   obtain ⟨x,ex,_⟩:=at_lt (a:=b) (i:=0) (by omega)
   have h3:=h0 x ex p mp
   have h4:=ge 0 x (by omega) (by omega) ex
   omega
  ·rw [if_neg c4]
   have c4:k ≠ 0:=by simpa using c4
   refine wpS_H4 ⟨h2,ha,ha2,by omega,by omega⟩ (by omega) kp fun p' e' y hy => ?_
   rw [e] at e'
   cases e'
   obtain ⟨i,hi,ei⟩:=idx_low hy
   exact Int.le_of_lt (lt i y hi ei)
 ·rw [if_neg c2]
  refine wpS_H4 ⟨h,ha,ha2,by omega,hb2⟩ hn kp fun p' e' y hy => ?_
  rw [e] at e'
  cases e'
  obtain ⟨i,hi,ei⟩:=idx_low hy
  exact Int.le_of_lt (lt i y (by omega) ei)
theorem wpS_H2 (T:Two a b) (hk:kindOf st=KO.kd) (h0:∀ p,b[0]? = some p→∀ x ∈ a.toList,numK p < numK x) {out:Array Keyed} {na nb mg ac bc:Nat} (h:HiV a b out na nb) (hn:na + nb + n0 ≤ a.size + b.size) (kp:Keep st st') (hle:∀ p,b[nb - 1]? = some p→∀ y ∈ a.toList.take na,numK y ≤ numK p):wpS (model prog w) A E s (hiT2 a b na nb out mg ac bc) (OhSt a b st n0) st':=by
 have hb:=h.hb
 have hb2:=h.hb2
 obtain ⟨p,e,_⟩:=at_lt (a:=b) (i:=nb - 1) (by omega)
 unfold hiT2
 exact wpS_bind (wpS_elem e (wpS_H3 T hk h0 (HiI.pushB (by rw [show nb - 1 + 1=nb by omega]; exact h.mi) e (hle p e)) h.ha h.ha2 (by omega) (by omega) (by omega) kp))
theorem wpS_H1 (T:Two a b) (hk:kindOf st=KO.kd) (h0:∀ p,b[0]? = some p→∀ x ∈ a.toList,numK p < numK x) {out:Array Keyed} {na nb mg ac bc:Nat} (h:HiV a b out na nb) (hn:na + nb + n0 ≤ a.size + b.size) (kp:Keep st st'):wpS (model prog w) A E s (hiT1 a b na nb out mg ac bc) (OhSt a b st n0) st':=by
 have hb:=h.hb
 have hb2:=h.hb2
 have ha:=h.ha
 have ha2:=h.ha2
 obtain ⟨p,e,mp⟩:=at_lt (a:=b) (i:=nb - 1) (by omega)
 unfold hiT1
 rw [setMinGallopX_eq]
 refine wpS_bind (wpS_modify ?_)
 have kp:=kp.gal mg
 refine wpS_bind (wpS_elem e (wpS_bind (wpS_gal (kp.1.trans hk) (T.ib p mp) (by omega) (by omega) T.ia (fun i j p q hij _ e1 e2 => srt_idx T.sa (by omega) e1 e2) fun k hk1 hlt hge => ?_)))
 dsimp only
 have ge:∀ (i:Nat) (y:Keyed),k ≤ i→i < na→a[i]? = some y→numK p ≤ numK y:=fun i y hi1 hi2 ei => by
  have:=hge i y hi1 hi2 (by rw [Nat.zero_add]; exact ei)
  unfold ahead at this
  rw [if_neg (by decide)] at this
  cases z:decide (numK p < numK y) with
  | true => have:=of_decide_eq_true z; omega
  | false => rw [z] at this; cases this
 have lt:∀ (i:Nat) (x:Keyed),i < k→a[i]? = some x→numK x ≤ numK p:=fun i x hi ei => by
  have:=hlt i x hi (by rw [Nat.zero_add]; exact ei)
  unfold ahead at this
  rw [if_neg (by decide)] at this
  cases z:decide (numK p < numK x) with
  | true => rw [z] at this; cases this
  | false => have:=of_decide_eq_false z; omega
 by_cases c2:na - k > 0
 ·rw [if_pos c2]
  have h2:=h.mi.blockA (m:=k) (by omega) fun x hx y hy => by
   obtain ⟨i,hi1,hi2,ei⟩:=idx_mid hx
   have:=ge i x hi1 hi2 ei
   have:=srt_top T.sb e y hy
   omega
  by_cases c3:(k == 0)=true
  ·rw [if_pos c3]
   exact wpS_pure (.inl ⟨kp,_,_,rfl,hi_done h2 (by simpa using c3)⟩)
  rw [if_neg c3]
  have c3:k ≠ 0:=by simpa using c3
  refine wpS_H2 T hk h0 ⟨h2,by omega,by omega,hb,hb2⟩ (by omega) kp fun p' e' y hy => ?_
  rw [e] at e'
  cases e'
  obtain ⟨i,hi,ei⟩:=idx_low hy
  exact lt i y hi ei
 ·rw [if_neg c2]
  refine wpS_H2 T hk h0 h hn kp fun p' e' y hy => ?_
  rw [e] at e'
  cases e'
  obtain ⟨i,hi,ei⟩:=idx_low hy
  exact lt i y (by omega) ei
theorem wpS_HG (T:Two a b) (hk:kindOf st=KO.kd) (h0:∀ p,b[0]? = some p→∀ x ∈ a.toList,numK p < numK x) {c:HiS} (h:OhN a b st n0 c st'):wpS (model prog w) A E s (hiG a b c) (OhSt a b st n0) st':=by
 obtain ⟨kp,na,nb,out,mg,ac,bc,rfl,v,hn⟩:=h
 unfold hiG
 dsimp only
 split
 ·exact wpS_H1 T hk h0 v hn kp
 ·exact wpS_H1 T hk h0 v hn kp
def OhR (a b:Array Keyed) (st:SortSt) (n0:Nat) (c:HiR) (st' : SortSt):Prop:=Keep st st'∧∃ na nb out ac bc,c=(none,na,nb,out,ac,bc)∧HiV a b out na nb∧na + nb + n0 ≤ a.size + b.size
def OhRF (a b:Array Keyed) (st:SortSt) (c:HiR) (st' : SortSt):Prop:=Keep st st'∧∃ r rest,c=(some r,rest)∧Fin' (a.toList ++ b.toList) r.toList
theorem wpS_HP (T:Two a b) (hk:kindOf st=KO.kd) (h0:∀ p,b[0]? = some p→∀ x ∈ a.toList,numK p < numK x) {c:HiR} {mg:Nat} (h:OhR a b st n0 c st'):wpS (model prog w) A E s (hiP a b mg c) (fun r st' => match r with
  | .done c => OhRF a b st c st' ∨ OhR a b st (n0 + 1) c st'
  | .yield c => OhR a b st (n0 + 1) c st') st':=by
 obtain ⟨kp,na,nb,out,ac,bc,rfl,v,hn⟩:=h
 have hb:=v.hb
 have hb2:=v.hb2
 have ha:=v.ha
 have ha2:=v.ha2
 obtain ⟨p,e,mp⟩:=at_lt (a:=b) (i:=nb - 1) (by omega)
 obtain ⟨q,e2,mq⟩:=at_lt (a:=a) (i:=na - 1) (by omega)
 unfold hiP
 refine wpS_bind (wpS_elem e (wpS_bind (wpS_elem e2 (wpS_bind (wpS_ltN (kp.1.trans hk) (T.ib p mp) (T.ia q mq) ?_)))))
 dsimp only
 by_cases hlt:numK p < numK q
 ·rw [decide_eq_true hlt,if_pos rfl]
  refine wpS_bind (wpS_elem e2 ?_)
  have h1:HiI a b (out.push q) (na - 1) nb:=HiI.pushA (by rw [show na - 1 + 1=na by omega]; exact v.mi) e2 fun y hy => by have:=srt_top T.sb e y hy; omega
  by_cases c1:(na - 1 == 0)=true
  ·rw [if_pos c1]
   exact wpS_pure (.inl ⟨kp,_,_,rfl,hi_done h1 (by simpa using c1)⟩)
  rw [if_neg c1]
  have c1:na - 1 ≠ 0:=by simpa using c1
  have v1:HiV a b (out.push q) (na - 1) nb:=⟨h1,by omega,by omega,hb,hb2⟩
  split
  ·exact wpS_pure (.inr ⟨kp,_,_,_,_,_,rfl,v1,by omega⟩)
  ·exact wpS_pure ⟨kp,_,_,_,_,_,rfl,v1,by omega⟩
 ·rw [decide_eq_false hlt,if_neg (by decide)]
  refine wpS_bind (wpS_elem e ?_)
  have h1:HiI a b (out.push p) na (nb - 1):=HiI.pushB (by rw [show nb - 1 + 1=nb by omega]; exact v.mi) e fun y hy => by have:=srt_top T.sa e2 y hy; omega
  by_cases c1:(nb - 1 == 1)=true
  ·rw [if_pos c1]
   exact wpS_pure (.inl ⟨kp,_,_,rfl,first_done h0 h1 (by simpa using c1)⟩)
  rw [if_neg c1]
  have c1:nb - 1 ≠ 1:=by simpa using c1
  have v1:HiV a b (out.push p) na (nb - 1):=⟨h1,ha,ha2,by omega,by omega⟩
  split
  ·exact wpS_pure (.inr ⟨kp,_,_,_,_,_,rfl,v1,by omega⟩)
  ·exact wpS_pure ⟨kp,_,_,_,_,_,rfl,v1,by omega⟩
theorem wpS_mergeHi {Q:Array Keyed→SortSt→Prop} (T:Two a b) (hk:kindOf st=KO.kd) (a1:1 ≤ a.size) (b1:1 ≤ b.size) (h0:∀ p,b[0]? = some p→∀ x ∈ a.toList,numK p < numK x) (hla:∀ p,a[a.size - 1]? = some p→∀ y ∈ b.toList,numK y < numK p)
  (h:∀ r st',Keep st st'→Fin' (a.toList ++ b.toList) r.toList→Q r st'):wpS (model prog w) A E s (mergeHiX a b) Q st:=by
 rw [mergeHiX_eq2]
 refine wpS_bind (wpS_lift (wpAny_rule ⟨rfl,?_⟩))
 obtain ⟨p,e,mp⟩:=at_lt (a:=a) (i:=a.size - 1) (by omega)
 refine wpS_bind (wpS_elem e ?_)
 have ta:a.toList.take a.size=a.toList:=List.take_of_length_le (by rw [Array.length_toList]; exact Nat.le_refl _)
 have tb:b.toList.take b.size=b.toList:=List.take_of_length_le (by rw [Array.length_toList]; exact Nat.le_refl _)
 have st0:HiI a b #[] a.size b.size:=by
  unfold HiI
  rw [ta,tb]
  exact ⟨by show ((a.toList ++ b.toList) ++ []).Perm _; rw [List.append_nil],List.Pairwise.nil,T.sa,T.sb,fun y _ z hz => by cases hz⟩
 have st1:HiI a b #[p] (a.size - 1) b.size:=HiI.pushA (out:=#[]) (by rw [show a.size - 1 + 1=a.size by omega]; exact st0) e fun y hy => Int.le_of_lt (hla p e y (List.mem_of_mem_take hy))
 by_cases c1:(a.size - 1 == 0)=true
 ·rw [if_pos c1]
  exact wpS_pure (h _ _ (Keep.refl st) (hi_done st1 (by simpa using c1)))
 rw [if_neg c1]
 have c1:a.size - 1 ≠ 0:=by simpa using c1
 by_cases c2:(b.size == 1)=true
 ·rw [if_pos c2]
  exact wpS_pure (h _ _ (Keep.refl st) (first_done h0 st1 (by simpa using c2)))
 rw [if_neg c2]
 have c2:b.size ≠ 1:=by simpa using c2
 refine wpS_bind (wpS_get ?_)
 refine wpS_bind (wpS_mono (wpS_forRange (I:=fun x c st' => Keep st st'∧∃ na nb out mg,c=(none,na,nb,out,mg)∧HiV a b out na nb∧na + nb + x ≤ a.size + b.size)
  (Q:=fun c st' => Keep st st'∧∃ r rest,c=(some r,rest)∧Fin' (a.toList ++ b.toList) r.toList) ?step ?fin ⟨Keep.refl st,_,_,_,_,rfl,⟨st1,by omega,by omega,by omega,Nat.le_refl _⟩,by omega⟩) ?post)
 case post =>
  rintro c st' ⟨kp,r,rest,rfl,f⟩
  exact wpS_pure (h r st' kp f)
 case fin =>
  rintro c st' ⟨kp,na,nb,out,mg,rfl,v,hx⟩
  have:=v.ha
  have:=v.hb
  omega
 case step =>
  rintro x c st1 _ hx ⟨kp,na,nb,out,mg,rfl,v,hn⟩
  unfold hiO
  dsimp only
  refine wpS_bind (wpS_mono (wpS_forRange (I:=fun y c st' => OhR a b st (x + y) c st') (Q:=fun c st' => OhRF a b st c st' ∨ OhR a b st (x + 1) c st') ?_ ?_ ⟨kp,_,_,_,_,_,rfl,v,hn⟩) ?_)
  ·rintro y c st2 _ hy hR
   refine wpS_mono (wpS_HP T hk h0 hR) fun r st3 hr => ?_
   cases r with
   | done c =>
    rcases hr with hr | ⟨k3,na,nb,out,ac,bc,e3,v3,n3⟩
    ·exact .inl hr
    ·exact .inr ⟨k3,na,nb,out,ac,bc,e3,v3,by omega⟩
   | yield c => exact hr
  ·rintro c st2 ⟨k3,na,nb,out,ac,bc,e3,v3,n3⟩
   exact .inr ⟨k3,na,nb,out,ac,bc,e3,v3,by omega⟩
  ·rintro c st2 (⟨k2,r,rest,rfl,f⟩ | ⟨k2,na2,nb2,out2,ac2,bc2,rfl,v2,n2⟩)
   ·exact wpS_pure ⟨k2,_,_,rfl,f⟩
   ·dsimp only
    refine wpS_bind (wpS_lift (wpAny_rule ⟨rfl,?_⟩))
    refine wpS_bind (wpS_mono (wpS_forRange (I:=fun y c st' => OhN a b st (x + 1) c st') (Q:=fun c st' => OhF a b st c st' ∨ OhN a b st (x + 1) c st') ?_ ?_ ⟨k2,_,_,_,_,_,_,rfl,v2,n2⟩) ?_)
    ·rintro y c st3 _ hy hR
     refine wpS_mono (wpS_HG T hk h0 hR) fun r st4 hr => ?_
     cases r with
     | done c => exact hr
     | yield c => exact hr
    ·exact fun c st3 hR => .inr hR
    ·rintro c st3 (⟨k3,r,rest,rfl,f⟩ | ⟨k3,na3,nb3,out3,mg3,ac3,bc3,rfl,v3,n3⟩)
     ·exact wpS_pure ⟨k3,_,_,rfl,f⟩
     ·dsimp only
      rw [setMinGallopX_eq]
      exact wpS_bind (wpS_modify (wpS_pure ⟨k3.gal _,_,_,_,_,rfl,v3,by omega⟩))
end
end TimG
namespace TimG
open PySem PySem.Spec PyProof.Rows
variable [KO]
theorem mergeAtX_eq (i:Nat):mergeAt' i=(do
 let s ← get
 let (some (sa,na,power),some (sb,nb,_)):=((pendingOf s)[i]?,(pendingOf s)[i + 1]?) | unsupported "internal:list.sort.pending"
 set (setPending s (((pendingOf s).setIfInBounds i (sa,na + nb,power)).eraseIdxIfInBounds (i + 1)))
 let some k ← gallopX false (← elem' (arrOf s) sb) (arrOf s) sa na 0 | return false
 let (sa,na):=(sa + k,na - k)
 if na == 0 then return true
 let some nb ← gallopX true (← elem' (arrOf s) (sa + na - 1)) (arrOf s) sb nb (nb - 1) | return false
 if nb == 0 then return true
 let x:=(arrOf s).extract sa sb
 let y:=(arrOf s).extract sb (sb + nb)
 let merged ← if na ≤ nb then mergeLoX x y else mergeHiX x y
 modify fun s => setArr s (merged.toList.zipIdx.foldl (fun a (p,j) => a.setIfInBounds (sa + j) p) (arrOf s))
 return (failedOf (← get)).isNone):=rfl
theorem put_all:∀ (l:List Keyed) (j o:Nat) (a:Array Keyed),o + j + l.length ≤ a.size→((l.zipIdx j).foldl (fun a (p:Keyed × Nat) => a.setIfInBounds (o + p.2) p.1) a).toList=a.toList.take (o + j) ++ l ++ a.toList.drop (o + j + l.length)
 | [],j,o,a,_ => by
  show a.toList=_
  rw [List.append_nil,List.length_nil,Nat.add_zero,List.take_append_drop]
 | x :: l,j,o,a,h => by
  rw [List.length_cons] at h
  rw [List.zipIdx_cons,List.foldl_cons]
  have ih:=put_all l (j + 1) o (a.setIfInBounds (o + j) x) (by rw [Array.size_setIfInBounds]; omega)
  dsimp only
  rw [ih,Array.toList_setIfInBounds]
  have hl:o + j < a.toList.length:=by rw [Array.length_toList]; omega
  have e1:(a.toList.set (o + j) x).take (o + (j + 1))=a.toList.take (o + j) ++ [x]:=by
   rw [show o + (j + 1)=o + j + 1 by omega,List.take_add_one,List.take_set_of_le (Nat.le_refl _),List.getElem?_set_self hl]
   rfl
  have e2:(a.toList.set (o + j) x).drop (o + (j + 1) + l.length)=a.toList.drop (o + j + (l.length + 1)):=by
   rw [List.drop_set_of_lt (by omega),show o + (j + 1) + l.length=o + j + (l.length + 1) by omega]
  rw [e1,e2,List.length_cons]
  simp
def offs:Nat→List (List Keyed)→List (Nat × Nat)
 | _,[] => []
 | s,R :: Rs => (s,R.length) :: offs (s + R.length) Rs
theorem offs_app:∀ (s:Nat) (A B:List (List Keyed)),offs s (A ++ B)=offs s A ++ offs (s + A.flatten.length) B
 | s,[],B => by simp [offs]
 | s,R :: A,B => by
  show (s,R.length) :: offs (s + R.length) (A ++ B)=(s,R.length) :: offs (s + R.length) A ++ _
  rw [offs_app (s + R.length) A B,List.flatten_cons,List.length_append,Nat.add_assoc]
  rfl
theorem offs_len:∀ (s:Nat) (A:List (List Keyed)),(offs s A).length=A.length
 | s,[] => rfl
 | s,R :: A => by show (offs (s + R.length) A).length + 1=A.length + 1; rw [offs_len]
def bare (P:Array (Nat × Nat × Nat)):List (Nat × Nat):=P.toList.map fun x => (x.1,x.2.1)
theorem extract_eq (a:Array Keyed) (i j:Nat):(a.extract i j).toList=(a.toList.drop i).take (j - i):=by
 rw [Array.toList_extract,List.extract_eq_take_drop]
theorem at_app {a:Array Keyed} {U V W:List Keyed} (e:a.toList=U ++ V ++ W) {i:Nat} (hi:i < V.length):a[U.length + i]? = V[i]?:=by
 rw [← Array.getElem?_toList,e,List.append_assoc,List.getElem?_append_right (by omega),List.getElem?_append_left (by omega)]
 congr 1
 omega
theorem srt_get {l:List Keyed} (h:Srt l) {i j:Nat} {p q:Keyed} (hij:i ≤ j) (e1:l[i]? = some p) (e2:l[j]? = some q):numK p ≤ numK q:=by
 have:=srt_idx (a:=l.toArray) (by simpa using h) hij (by simpa using e1) (by simpa using e2)
 exact this
section
variable {prog:Program} {w:World} {A:Around} {E:Value→Shared→Prop} {s:Shared} {st:SortSt} [KL prog w A s]
theorem wpS_set {x:SortSt} {Q:PUnit→SortSt→Prop} (h:Q ⟨⟩ x):wpS (model prog w) A E s (set x:StateT SortSt Sem PUnit) Q st:=by
 unfold wpS; rw [StateT.run_set]; exact wpAny_pure ⟨rfl,h⟩
theorem wpS_mergeAt {Q:Bool→SortSt→Prop} {U S1 S2 W:List Keyed} {i pw pw2:Nat} (hk:kindOf st=KO.kd) (hf:failedOf st=none) (ea:(arrOf st).toList=U ++ S1 ++ S2 ++ W) (hI:∀ p ∈ (arrOf st).toList,Ik p) (s1:Srt S1) (s2:Srt S2) (n1:1 ≤ S1.length) (n2:1 ≤ S2.length)
  (e1:(pendingOf st)[i]? = some (U.length,S1.length,pw)) (e2:(pendingOf st)[i + 1]? = some (U.length + S1.length,S2.length,pw2))
  (h:∀ (M:List Keyed) (st' : SortSt),kindOf st' = KO.kd→failedOf st' = none→(arrOf st').toList=U ++ M ++ W→M.Perm (S1 ++ S2)→Srt M→pendingOf st' = ((pendingOf st).setIfInBounds i (U.length,S1.length + S2.length,pw)).eraseIdxIfInBounds (i + 1)→Q true st') :
  wpS (model prog w) A E s (mergeAt' i) Q st:=by
 rw [mergeAtX_eq]
 refine wpS_bind (wpS_get ?_)
 rw [e1,e2]
 dsimp only
 refine wpS_bind (wpS_set ?_)
 have hsz:(arrOf st).size=U.length + S1.length + S2.length + W.length:=by rw [← Array.length_toList,ea,List.length_append,List.length_append,List.length_append]
 have ea1:(arrOf st).toList=U ++ S1 ++ (S2 ++ W):=by rw [ea]; simp
 have g1:∀ i,i < S1.length→(arrOf st)[U.length + i]? = S1[i]?:=fun i hi => at_app ea1 hi
 have g2:∀ i,i < S2.length→(arrOf st)[U.length + S1.length + i]? = S2[i]?:=fun i hi => by
  have:=at_app (U:=U ++ S1) ea hi
  rw [List.length_append] at this
  exact this
 have i1:∀ p ∈ S1,Ik p:=fun p hp => hI p (by rw [ea]; simp [hp])
 have i2:∀ p ∈ S2,Ik p:=fun p hp => hI p (by rw [ea]; simp [hp])
 have eb0:S2[0]? = some S2[0]:=List.getElem?_eq_getElem n2
 have mb0:S2[0] ∈ S2:=List.getElem_mem n2
 generalize S2[0]=b0 at eb0 mb0
 have sb0:∀ y ∈ S2,numK b0 ≤ numK y:=fun y hy => by
  obtain ⟨j,hj⟩:=List.mem_iff_getElem?.mp hy
  exact srt_get s2 (Nat.zero_le j) eb0 hj
 refine wpS_bind (wpS_elem (p:=b0) (by have:=g2 0 n2; rw [Nat.add_zero] at this; rw [this]; exact eb0) ?_)
 refine wpS_bind (wpS_gal hk (i2 b0 mb0) n1 (by omega) hI (fun i j p q hij hj x1 x2 => by rw [g1 i (by omega)] at x1; rw [g1 j hj] at x2; exact srt_get s1 hij x1 x2) fun k hk1 hlt hge => ?_)
 have lt1:∀ (i:Nat) (x:Keyed),i < k→S1[i]? = some x→numK x ≤ numK b0:=fun i x hi ei => by
  have:=hlt i x hi (by rw [g1 i (by omega)]; exact ei)
  unfold ahead at this
  rw [if_neg (by decide)] at this
  cases z:decide (numK b0 < numK x) with
  | true => rw [z] at this; cases this
  | false => have:=of_decide_eq_false z; omega
 have ge1:∀ (i:Nat) (y:Keyed),k ≤ i→S1[i]? = some y→numK b0 < numK y:=fun i y hi1 ei => by
  have hi2:=(List.getElem?_eq_some_iff.mp ei).1
  have:=hge i y hi1 hi2 (by rw [g1 i hi2]; exact ei)
  unfold ahead at this
  rw [if_neg (by decide)] at this
  cases z:decide (numK b0 < numK y) with
  | true => exact of_decide_eq_true z
  | false => rw [z] at this; cases this
 dsimp only
 by_cases c1:(S1.length - k == 0)=true
 ·rw [if_pos c1]
  have c1:S1.length - k=0:=by simpa using c1
  refine wpS_pure (h (S1 ++ S2) _ hk hf (by show (arrOf st).toList=_; rw [ea]; simp) (List.Perm.refl _) (srt_app s1 s2 fun x hx y hy => ?_) rfl)
  obtain ⟨j,hj⟩:=List.mem_iff_getElem?.mp hx
  have hj2:=(List.getElem?_eq_some_iff.mp hj).1
  exact Int.le_trans (lt1 j x (by omega) hj) (sb0 y hy)
 rw [if_neg c1]
 have c1:S1.length - k ≠ 0:=by simpa using c1
 have el:S1[S1.length - 1]? = some S1[S1.length - 1]:=List.getElem?_eq_getElem (by omega)
 have ml:S1[S1.length - 1] ∈ S1:=List.getElem_mem (by omega)
 generalize S1[S1.length - 1]=z0 at el ml
 have sz0:∀ y ∈ S1,numK y ≤ numK z0:=fun y hy => by
  obtain ⟨j,hj⟩:=List.mem_iff_getElem?.mp hy
  have hj2:=(List.getElem?_eq_some_iff.mp hj).1
  exact srt_get s1 (by omega) hj el
 refine wpS_bind (wpS_elem (p:=z0) (by rw [show U.length + k + (S1.length - k) - 1=U.length + (S1.length - 1) by omega,g1 _ (by omega)]; exact el) ?_)
 refine wpS_bind (wpS_gal hk (i1 z0 ml) (by omega) (by omega) hI (fun i j p q hij hj x1 x2 => by rw [g2 i (by omega)] at x1; rw [g2 j hj] at x2; exact srt_get s2 hij x1 x2) fun nb hnb hlt2 hge2 => ?_)
 have lt2:∀ (i:Nat) (x:Keyed),i < nb→S2[i]? = some x→numK x < numK z0:=fun i x hi ei => by
  have:=hlt2 i x hi (by rw [g2 i (by omega)]; exact ei)
  unfold ahead at this
  rw [if_pos rfl] at this
  exact of_decide_eq_true this
 have ge2:∀ (i:Nat) (y:Keyed),nb ≤ i→S2[i]? = some y→numK z0 ≤ numK y:=fun i y hi1 ei => by
  have hi2:=(List.getElem?_eq_some_iff.mp ei).1
  have:=hge2 i y hi1 hi2 (by rw [g2 i hi2]; exact ei)
  unfold ahead at this
  rw [if_pos rfl] at this
  have:=of_decide_eq_false this
  omega
 dsimp only
 by_cases c2:(nb == 0)=true
 ·have c2:nb=0:=by simpa using c2
  exfalso
  have h1:=ge2 0 b0 (by omega) eb0
  have h2:=ge1 (S1.length - 1) z0 (by omega) el
  omega
 rw [if_neg c2]
 have c2:nb ≠ 0:=by simpa using c2
 have ex:((arrOf st).extract (U.length + k) (U.length + S1.length)).toList=S1.drop k:=by
  rw [extract_eq,ea1,List.append_assoc,List.drop_append,List.drop_of_length_le (by omega),List.nil_append,show U.length + k - U.length=k by omega,List.drop_append,List.take_append]
  rw [List.take_of_length_le (by rw [List.length_drop]; omega),List.length_drop,show U.length + S1.length - (U.length + k) - (S1.length - k)=0 by omega,List.take_zero,List.append_nil]
 have ey:((arrOf st).extract (U.length + S1.length) (U.length + S1.length + nb)).toList=S2.take nb:=by
  rw [extract_eq,ea,List.append_assoc,List.drop_append,List.drop_of_length_le (by rw [List.length_append]; exact Nat.le_refl _),List.nil_append,List.length_append,Nat.sub_self,List.drop_zero,Nat.add_sub_cancel_left,List.take_append,show nb - S2.length=0 by omega,List.take_zero,List.append_nil]
 have lx:((arrOf st).extract (U.length + k) (U.length + S1.length)).size=S1.length - k:=by rw [← Array.length_toList,ex,List.length_drop]
 have ly:((arrOf st).extract (U.length + S1.length) (U.length + S1.length + nb)).size=nb:=by rw [← Array.length_toList,ey,List.length_take]; omega
 generalize (arrOf st).extract (U.length + k) (U.length + S1.length)=xa at ex lx ⊢
 generalize (arrOf st).extract (U.length + S1.length) (U.length + S1.length + nb)=ya at ey ly ⊢
 have T:Two xa ya:=⟨by rw [ex]; exact fun p hp => i1 p (List.mem_of_mem_drop hp),by rw [ey]; exact fun p hp => i2 p (List.mem_of_mem_take hp),by rw [ex]; exact srt_drop s1 k,by rw [ey]; exact List.Pairwise.take s2⟩
 have H0:∀ p,ya[0]? = some p→∀ x ∈ xa.toList,numK p < numK x:=fun p ep x hx => by
  rw [← Array.getElem?_toList,ey,List.getElem?_take,if_pos (by omega),eb0] at ep
  cases ep
  rw [ex] at hx
  obtain ⟨j,hj⟩:=List.mem_iff_getElem?.mp hx
  rw [List.getElem?_drop] at hj
  exact ge1 (k + j) x (by omega) hj
 have HL:∀ p,xa[xa.size - 1]? = some p→∀ y ∈ ya.toList,numK y < numK p:=fun p ep y hy => by
  rw [← Array.getElem?_toList,ex,List.getElem?_drop,lx,show k + (S1.length - k - 1)=S1.length - 1 by omega,el] at ep
  cases ep
  rw [ey] at hy
  obtain ⟨j,hj⟩:=List.mem_iff_getElem?.mp hy
  rw [List.getElem?_take] at hj
  split at hj
  ·exact lt2 j y (by assumption) hj
  ·cases hj
 have fin:∀ (r:Array Keyed) (st3:SortSt),Keep (setPending st (((pendingOf st).setIfInBounds i (U.length,S1.length + S2.length,pw)).eraseIdxIfInBounds (i + 1))) st3→Fin' (xa.toList ++ ya.toList) r.toList →
   wpS (model prog w) A E s (do
    modify fun s => setArr s (List.foldl (fun a (x:Keyed × Nat) => a.setIfInBounds (U.length + k + x.snd) x.fst) (arrOf s) r.toList.zipIdx)
    let g ← get
    pure (failedOf g).isNone) Q st3:=by
  intro r st3 ⟨q1,q2,q3,q4⟩ ⟨fp,fs⟩
  rw [ex,ey] at fp
  have lr:r.toList.length=(S1.length - k) + nb:=by rw [fp.length_eq,List.length_append,List.length_drop,List.length_take]; omega
  refine wpS_bind (wpS_modify (wpS_bind (wpS_get (wpS_pure ?_))))
  show Q (failedOf st3).isNone _
  rw [q4]
  show Q (failedOf st).isNone _
  rw [hf]
  refine h (S1.take k ++ r.toList ++ S2.drop nb) _ (q1.trans hk) (q4.trans hf) ?_ ?_ ?_ q3
  ·show (List.foldl (fun a (x:Keyed × Nat) => a.setIfInBounds (U.length + k + x.snd) x.fst) (arrOf st3) (r.toList.zipIdx 0)).toList=_
   rw [put_all r.toList 0 (U.length + k) (arrOf st3) (by rw [q2]; show _ ≤ (arrOf st).size; omega),q2]
   show (arrOf st).toList.take _ ++ _ ++ (arrOf st).toList.drop _=_
   have t1:(arrOf st).toList.take (U.length + k + 0)=U ++ S1.take k:=by
    rw [ea1,List.append_assoc,List.take_append,List.take_of_length_le (by omega),show U.length + k + 0 - U.length=k by omega,List.take_append,show k - S1.length=0 by omega,List.take_zero,List.append_nil]
   have t2:(arrOf st).toList.drop (U.length + k + 0 + r.toList.length)=S2.drop nb ++ W:=by
    rw [ea,List.append_assoc,List.drop_append,List.drop_of_length_le (by rw [List.length_append]; omega),List.nil_append,List.length_append,lr,show U.length + k + 0 + (S1.length - k + nb) - (U.length + S1.length)=nb by omega,List.drop_append,show nb - S2.length=0 by omega,List.drop_zero]
   rw [t1,t2]
   simp
  ·have p1:(S1.take k ++ r.toList ++ S2.drop nb).Perm (S1.take k ++ (S1.drop k ++ S2.take nb) ++ S2.drop nb):=List.Perm.append_right _ (List.Perm.append_left _ fp)
   refine p1.trans ?_
   have:S1.take k ++ (S1.drop k ++ S2.take nb) ++ S2.drop nb=S1 ++ S2:=by
    rw [← List.append_assoc,List.take_append_drop,List.append_assoc,List.take_append_drop]
   rw [this]
  ·have inr:∀ y ∈ r.toList,y ∈ S1.drop k ∨ y ∈ S2.take nb:=fun y hy => List.mem_append.mp (fp.mem_iff.mp hy)
   have s1' : Srt (S1.take k ++ S1.drop k):=by rw [List.take_append_drop]; exact s1
   have s2' : Srt (S2.take nb ++ S2.drop nb):=by rw [List.take_append_drop]; exact s2
   refine srt_app (srt_app (srt_l s1') fs fun x hx y hy => ?_) (srt_r s2') fun x hx y hy => ?_
   ·rcases inr y hy with hy | hy
    ·exact srt_lr s1' x hx y hy
    ·obtain ⟨j,hj⟩:=List.mem_iff_getElem?.mp hx
     rw [List.getElem?_take] at hj
     split at hj
     ·exact Int.le_trans (lt1 j x (by assumption) hj) (sb0 y (List.mem_of_mem_take hy))
     ·cases hj
   ·have zy:numK z0 ≤ numK y:=by
     obtain ⟨j,hj⟩:=List.mem_iff_getElem?.mp hy
     rw [List.getElem?_drop] at hj
     exact ge2 (nb + j) y (by omega) hj
    rcases List.mem_append.mp hx with hx | hx
    ·exact Int.le_trans (sz0 x (List.mem_of_mem_take hx)) zy
    ·rcases inr x hx with hx | hx
     ·exact Int.le_trans (sz0 x (List.mem_of_mem_drop hx)) zy
     ·exact srt_lr s2' x hx y hy
 by_cases c3:S1.length - k ≤ nb
 ·rw [if_pos c3]
  exact wpS_bind (wpS_mergeLo T hk (by omega) (by omega) (fun p ep x hx => Int.le_of_lt (H0 p ep x hx)) HL fun r st3 kp f => fin r st3 kp f)
 ·rw [if_neg c3]
  exact wpS_bind (wpS_mergeHi T hk (by omega) (by omega) H0 HL fun r st3 kp f => fin r st3 kp f)
end
end TimG
namespace TimG
open PySem PySem.Spec PyProof.Rows
variable [KO]
def ascY (lo a nrem:Nat):StateT SortSt Sem AscSt :=
 forIn [a:nrem] ((none,a):AscSt) fun _ c => do
  let x ← ltAt' (lo + c.2) (lo + c.2 - 1)
  match x with
  | some smaller => if smaller=true then pure (.done (none,c.2)) else pure (.yield (none,c.2 + 1))
  | _ => pure (.done (some none,c.2))
def tailY (lo n nrem:Nat):StateT SortSt Sem (Option Nat):=do
 reverseSlice' lo (lo + n)
 let c ← ascY lo n nrem
 match c.1 with
 | some r => pure r
 | none => pure (some c.2)
def descY (lo n nrem:Nat):StateT SortSt Sem DescSt :=
 forIn [n:nrem] ((none,n,0):DescSt) fun _ c => do
  let x ← ltAt' (lo + c.2.1) (lo + c.2.1 - 1)
  match x with
  | some smaller =>
   if smaller=true then
    if c.2.2 > 0 then do
     reverseSlice' (lo + c.2.1 - (c.2.2 + 1)) (lo + c.2.1)
     pure (.yield (none,c.2.1 + 1,0))
    else pure (.yield (none,c.2.1 + 1,0))
   else do
    let x ← ltAt' (lo + c.2.1 - 1) (lo + c.2.1)
    match x with
    | some larger => if larger=true then pure (.done (none,c.2.1,c.2.2)) else pure (.yield (none,c.2.1 + 1,c.2.2 + 1))
    | _ => pure (.done (some none,c.2.1,c.2.2))
  | _ => pure (.done (some none,c.2.1,c.2.2))
def descZ (lo n nrem:Nat):StateT SortSt Sem (Option Nat):=do
 liftM (rule "list.sort.descending-run")
 let c ← descY lo (n + 1) nrem
 match c.1 with
 | some r => pure r
 | none =>
  if c.2.2 > 0 then do
   reverseSlice' (lo + c.2.1 - (c.2.2 + 1)) (lo + c.2.1)
   tailY lo c.2.1 nrem
  else tailY lo c.2.1 nrem
theorem countRunX_eq (lo nrem:Nat):countRun' lo nrem=(do
  let c ← ascY lo 1 nrem
  match c.1 with
  | some r => pure r
  | none =>
   if (c.2 == nrem)=true then pure (some c.2)
   else if c.2 > 1 then do
    let x ← ltAt' lo (lo + c.2 - 1)
    match x with
    | some rose => if rose=true then pure (some c.2) else do
      reverseSlice' lo (lo + c.2)
      descZ lo c.2 nrem
    | _ => pure none
   else descZ lo c.2 nrem):=by
 have tl:∀ n,(do
   reverseSlice' lo (lo + n)
   let mut n:=n
   for _ in [n:nrem] do
    let some smaller ← ltAt' (lo + n) (lo + n - 1) | return none
    if smaller then break
    n:=n + 1
   return some n)=tailY lo n nrem:=fun n => by
  unfold tailY
  dsimp only
  refine congrArg _ (funext fun _ => congrArg _ (funext fun c => ?_))
  obtain ⟨r,c⟩:=c
  cases r <;> rfl
 have dz:∀ n,(do
   rule "list.sort.descending-run"
   let mut n:=n + 1
   let mut neq:=0
   for _ in [n:nrem] do
    let some smaller ← ltAt' (lo + n) (lo + n - 1) | return none
    if smaller then
     if neq > 0 then reverseSlice' (lo + n - (neq + 1)) (lo + n)
     neq:=0
    else
     let some larger ← ltAt' (lo + n - 1) (lo + n) | return none
     if larger then break
     neq:=neq + 1
    n:=n + 1
   if neq > 0 then reverseSlice' (lo + n - (neq + 1)) (lo + n)
   reverseSlice' lo (lo + n)
   for _ in [n:nrem] do
    let some smaller ← ltAt' (lo + n) (lo + n - 1) | return none
    if smaller then break
    n:=n + 1
   return some n)=(descZ lo n nrem:StateT SortSt Sem (Option Nat)):=fun n => by
  unfold descZ
  dsimp only
  refine congrArg _ (funext fun _ => congrArg _ (funext fun c => ?_))
  obtain ⟨r,n2,q2⟩:=c
  cases r with
  | some r => rfl
  | none =>
   dsimp only
   refine ifd (congrArg _ (funext fun _ => ?_)) ?_
   ·exact tl n2
   ·exact tl n2
 rw [countRun'_eq]
 dsimp only
 refine congrArg _ (funext fun c => ?_)
 obtain ⟨r,n⟩:=c
 cases r with
 | some r => rfl
 | none =>
  dsimp only
  refine ifc (ifd (congrArg _ (funext fun x => ?_)) ?_)
  ·cases x with
   | none => rfl
   | some rose =>
    dsimp only
    refine ifc (congrArg _ (funext fun _ => ?_))
    exact dz n
  ·exact dz n
end TimG
namespace TimG
open PySem PySem.Spec PyProof.Rows
variable [KO]
structure CB (a₀:Array Keyed) (lo:Nat) (P:Array (Nat × Nat × Nat)) (st:SortSt):Prop where
 kind:kindOf st=KO.kd
 failed:failedOf st=none
 pend:pendingOf st=P
 perm:(arrOf st).Perm a₀
 low:∀ i,i < lo→(arrOf st)[i]? = a₀[i]?
theorem CB.size {a₀:Array Keyed} {lo:Nat} {P:Array (Nat × Nat × Nat)} {st:SortSt} (h:CB a₀ lo P st):(arrOf st).size=a₀.size:=h.perm.size_eq
theorem CB.rev {a₀:Array Keyed} {lo:Nat} {P:Array (Nat × Nat × Nat)} {st:SortSt} (h:CB a₀ lo P st) {i j:Nat} (hi:lo ≤ i) (hj:j ≤ a₀.size):CB a₀ lo P (setArr st (mirror (arrOf st) i j ((j - i) / 2))) :=
 ⟨h.kind,h.failed,h.pend,(mirror_perm _ _ _ _).trans h.perm,fun k hk => by
  show (mirror (arrOf st) i j ((j - i) / 2))[k]? = _
  rw [getElem?_mirror_all (by rw [h.size]; exact hj),if_neg (by omega)]
  exact h.low k hk⟩
theorem CB.at {a₀:Array Keyed} {lo:Nat} {P:Array (Nat × Nat × Nat)} {st:SortSt} (h:CB a₀ lo P st) (h0:IkA a₀) {i:Nat} (hi:i < a₀.size):∃ p,(arrOf st)[i]? = some p∧Ik p∧K (arrOf st) i=numK p:=by
 have hi' : i < (arrOf st).size:=by rw [h.size]; exact hi
 have hm:(arrOf st)[i] ∈ a₀.toList:=(Array.perm_iff_toList_perm.mp h.perm).mem_iff.mp (by simp)
 have e:(arrOf st)[i]? = some (arrOf st)[i]:=getElem?_pos _ i hi'
 refine ⟨_,e,h0 _ hm,?_⟩
 unfold K L2.RK
 rw [e]
 rfl
def SegA (xs:Array Keyed) (lo n:Nat):Prop:=∀ i j,i ≤ j→j < n→K xs (lo + i) ≤ K xs (lo + j)
def SegD (xs:Array Keyed) (lo n:Nat):Prop:=∀ i j,i ≤ j→j < n→K xs (lo + j) ≤ K xs (lo + i)
section
variable {prog:Program} {w:World} {A:Around} {E:Value→Shared→Prop} {s:Shared} {a₀:Array Keyed} {lo nrem:Nat} {P:Array (Nat × Nat × Nat)} {st:SortSt} [KL prog w A s]
theorem wpS_ltC {i j:Nat} {Q:Option Bool→SortSt→Prop} (hB:CB a₀ lo P st) (h0:IkA a₀) (hi:i < a₀.size) (hj:j < a₀.size) (h:Q (some (decide (K (arrOf st) i < K (arrOf st) j))) st):wpS (model prog w) A E s (ltAt' i j) Q st:=by
 obtain ⟨p,e1,i1,k1⟩:=hB.at h0 hi
 obtain ⟨q,e2,i2,k2⟩:=hB.at h0 hj
 rw [k1,k2] at h
 rw [ltAt'_eq]
 refine wpS_bind (wpS_get ?_)
 dsimp only
 rw [elem'_eq,elem'_eq,e1,e2]
 exact wpS_bind (wpS_pure (wpS_bind (wpS_pure (wpS_ltN hB.kind i1 i2 h))))
theorem wpS_rev {i j:Nat} {Q:Unit→SortSt→Prop} (h:Q () (setArr st (mirror (arrOf st) i j ((j - i) / 2)))):wpS (model prog w) A E s (reverseSlice' i j) Q st:=by
 rw [reverseSlice'_eq]
 exact wpS_modify h
theorem wpS_ascY {a:Nat} {Q:AscSt→SortSt→Prop} (h0:IkA a₀) (hn:lo + nrem ≤ a₀.size) (ha:1 ≤ a) (han:a ≤ nrem) (hB:CB a₀ lo P st) (hs:SegA (arrOf st) lo a)
  (h:∀ n,a ≤ n→n ≤ nrem→SegA (arrOf st) lo n→(n < nrem→K (arrOf st) (lo + n) < K (arrOf st) (lo + n - 1))→Q (none,n) st):wpS (model prog w) A E s (ascY lo a nrem) Q st:=by
 unfold ascY
 refine wpS_mono (wpS_forRange (I:=fun x c st' => st' = st∧c=(none,x)∧SegA (arrOf st) lo x) (Q:=fun c st' => st' = st∧∃ n,c=(none,n)∧a ≤ n∧n ≤ nrem∧SegA (arrOf st) lo n∧(n < nrem→K (arrOf st) (lo + n) < K (arrOf st) (lo + n - 1))) ?_ ?_ ⟨rfl,rfl,hs⟩) ?_
 ·rintro x c st' hx hx2 ⟨rfl,rfl,hS⟩
  dsimp only
  refine wpS_bind (wpS_ltC hB h0 (by omega) (by omega) ?_)
  by_cases hlt:K (arrOf st') (lo + x) < K (arrOf st') (lo + x - 1)
  ·rw [decide_eq_true hlt]
   exact wpS_pure ⟨rfl,x,rfl,hx,by omega,hS,fun _ => hlt⟩
  ·rw [decide_eq_false hlt]
   refine wpS_pure ⟨rfl,rfl,fun i j hij hj => ?_⟩
   by_cases c:j < x
   ·exact hS i j hij c
   ·have:j=x:=by omega
    subst this
    by_cases c2:i=j
    ·subst c2; exact Int.le_refl _
    ·have:=hS i (j - 1) (by omega) (by omega)
     rw [show lo + (j - 1)=lo + j - 1 by omega] at this
     omega
 ·rintro c st' ⟨rfl,rfl,hS⟩
  rw [show max a nrem=nrem by omega] at hS ⊢
  exact ⟨rfl,nrem,rfl,han,Nat.le_refl _,hS,fun h => by omega⟩
 ·rintro c st' ⟨rfl,n,rfl,q1,q2,q3,q4⟩
  exact h n q1 q2 q3 q4
theorem wpS_tailY {n:Nat} {Q:Option Nat→SortSt→Prop} (h0:IkA a₀) (hn:lo + nrem ≤ a₀.size) (h1:1 ≤ n) (hnn:n ≤ nrem) (hB:CB a₀ lo P st) (hs:SegD (arrOf st) lo n)
  (h:∀ m st',CB a₀ lo P st'→1 ≤ m→m ≤ nrem→SegA (arrOf st') lo m→Q (some m) st'):wpS (model prog w) A E s (tailY lo n nrem) Q st:=by
 unfold tailY
 refine wpS_bind (wpS_rev ?_)
 have hB2:=hB.rev (i:=lo) (j:=lo + n) (Nat.le_refl _) (by omega)
 refine wpS_bind (wpS_ascY h0 hn h1 hnn hB2 (fun i j hij hj => ?_) fun m q1 q2 q3 _ => wpS_pure (h m _ hB2 (by omega) q2 q3))
 show K (mirror (arrOf st) lo (lo + n) ((lo + n - lo) / 2)) (lo + i) ≤ K (mirror (arrOf st) lo (lo + n) ((lo + n - lo) / 2)) (lo + j)
 rw [K_mirror (by rw [hB.size]; omega),K_mirror (by rw [hB.size]; omega),if_pos (by omega),if_pos (by omega)]
 have:=hs (n - 1 - j) (n - 1 - i) (by omega) (by omega)
 rw [show lo + (n - 1 - j)=lo + (lo + n) - 1 - (lo + j) by omega,show lo + (n - 1 - i)=lo + (lo + n) - 1 - (lo + i) by omega] at this
 exact this
theorem wpS_descZ {n:Nat} {Q:Option Nat→SortSt→Prop} (h0:IkA a₀) (hn:lo + nrem ≤ a₀.size) (hnn:n + 1 ≤ nrem) (hB:CB a₀ lo P st) (hs:SegD (arrOf st) lo (n + 1))
  (h:∀ m st',CB a₀ lo P st'→1 ≤ m→m ≤ nrem→SegA (arrOf st') lo m→Q (some m) st'):wpS (model prog w) A E s (descZ lo n nrem) Q st:=by
 unfold descZ descY
 refine wpS_bind (wpS_lift (wpAny_rule ⟨rfl,?_⟩))
 refine wpS_bind (wpS_mono (wpS_forRange (I:=fun x c st' => CB a₀ lo P st'∧∃ q,c=(none,x,q)∧SegD (arrOf st') lo x∧q < x∧∀ i,lo + x - (q + 1) ≤ i→i < lo + x→K (arrOf st') i=K (arrOf st') (lo + x - 1))
  (Q:=fun c st' => CB a₀ lo P st'∧∃ m q,c=(none,m,q)∧1 ≤ m∧m ≤ nrem∧SegD (arrOf st') lo m∧q < m∧∀ i,lo + m - (q + 1) ≤ i→i < lo + m→K (arrOf st') i=K (arrOf st') (lo + m - 1)) ?_ ?_ ⟨hB,0,rfl,hs,by omega,fun i h1 h2 => by rw [show i=lo + (n + 1) - 1 by omega]⟩) ?_)
 ·rintro x c st' hx hx2 ⟨hB',q,rfl,hD,hq,he⟩
  dsimp only
  refine wpS_bind (wpS_ltC hB' h0 (by omega) (by omega) ?_)
  have step:∀ (ys:Array Keyed),(∀ i,K ys i=K (arrOf st') i)→K (arrOf st') (lo + x) ≤ K (arrOf st') (lo + x - 1)→SegD ys lo (x + 1):=fun ys hy hle i j hij hj => by
   rw [hy,hy]
   by_cases c:j < x
   ·exact hD i j hij c
   ·have:j=x:=by omega
    subst this
    by_cases c2:i=j
    ·subst c2; exact Int.le_refl _
    ·have:=hD i (j - 1) (by omega) (by omega)
     rw [show lo + (j - 1)=lo + j - 1 by omega] at this
     omega
  by_cases hlt:K (arrOf st') (lo + x) < K (arrOf st') (lo + x - 1)
  ·rw [decide_eq_true hlt]
   dsimp only
   rw [if_pos rfl]
   by_cases hq0:q > 0
   ·rw [if_pos hq0]
    refine wpS_bind (wpS_rev (wpS_pure ⟨hB'.rev (by omega) (by omega),0,rfl,?_,by omega,fun i h1 h2 => by rw [show i=lo + (x + 1) - 1 by omega]⟩))
    refine step (mirror (arrOf st') (lo + x - (q + 1)) (lo + x) ((lo + x - (lo + x - (q + 1))) / 2)) (fun i => ?_) (by omega)
    exact K_mirror_equal (by rw [hB'.size]; omega) he i
   ·rw [if_neg hq0]
    exact wpS_pure ⟨hB',0,rfl,step _ (fun _ => rfl) (by omega),by omega,fun i h1 h2 => by rw [show i=lo + (x + 1) - 1 by omega]⟩
  ·rw [decide_eq_false hlt]
   dsimp only
   rw [if_neg (by decide)]
   refine wpS_bind (wpS_ltC hB' h0 (by omega) (by omega) ?_)
   by_cases hgt:K (arrOf st') (lo + x - 1) < K (arrOf st') (lo + x)
   ·rw [decide_eq_true hgt]
    exact wpS_pure ⟨hB',x,q,rfl,by omega,by omega,hD,hq,he⟩
   ·rw [decide_eq_false hgt]
    refine wpS_pure ⟨hB',q + 1,rfl,step _ (fun _ => rfl) (by omega),by omega,fun i h1 h2 => ?_⟩
    rw [show lo + (x + 1) - 1=lo + x by omega]
    by_cases c:i < lo + x
    ·rw [he i (by omega) c]; omega
    ·rw [show i=lo + x by omega]
 ·rintro c st' ⟨hB',q,rfl,hD,hq,he⟩
  rw [show max (n + 1) nrem=nrem by omega] at hD hq he ⊢
  exact ⟨hB',nrem,q,rfl,by omega,Nat.le_refl _,hD,hq,he⟩
 ·rintro c st' ⟨hB',m,q,rfl,m1,m2,hD,hq,he⟩
  dsimp only
  by_cases hq0:q > 0
  ·rw [if_pos hq0]
   refine wpS_bind (wpS_rev (wpS_tailY h0 hn m1 m2 (hB'.rev (by omega) (by omega)) (fun i j hij hj => ?_) h))
   show K (mirror (arrOf st') (lo + m - (q + 1)) (lo + m) ((lo + m - (lo + m - (q + 1))) / 2)) (lo + j) ≤ K (mirror (arrOf st') (lo + m - (q + 1)) (lo + m) ((lo + m - (lo + m - (q + 1))) / 2)) (lo + i)
   rw [K_mirror_equal (by rw [hB'.size]; omega) he,K_mirror_equal (by rw [hB'.size]; omega) he]
   exact hD i j hij hj
  ·rw [if_neg hq0]
   exact wpS_tailY h0 hn m1 m2 hB' hD h
theorem wpS_count {Q:Option Nat→SortSt→Prop} (h0:IkA a₀) (hn:lo + nrem ≤ a₀.size) (h1:1 ≤ nrem) (hB:CB a₀ lo P st)
  (h:∀ m st',CB a₀ lo P st'→1 ≤ m→m ≤ nrem→SegA (arrOf st') lo m→Q (some m) st'):wpS (model prog w) A E s (countRun' lo nrem) Q st:=by
 rw [countRunX_eq]
 refine wpS_bind (wpS_ascY h0 hn (Nat.le_refl 1) h1 hB (fun i j hij hj => by rw [show i=j by omega]; exact Int.le_refl _) fun n n1 n2 hS hlt => ?_)
 dsimp only
 by_cases c1:(n == nrem)=true
 ·rw [if_pos c1]
  exact wpS_pure (h n st hB n1 n2 hS)
 rw [if_neg c1]
 have c1:n ≠ nrem:=by simpa using c1
 have hd:=hlt (by omega)
 by_cases c2:n > 1
 ·rw [if_pos c2]
  refine wpS_bind (wpS_ltC hB h0 (by omega) (by omega) ?_)
  by_cases hr:K (arrOf st) lo < K (arrOf st) (lo + n - 1)
  ·rw [decide_eq_true hr]
   exact wpS_pure (h n st hB n1 n2 hS)
  ·rw [decide_eq_false hr]
   have eqs:∀ i,lo ≤ i→i < lo + n→K (arrOf st) i=K (arrOf st) (lo + n - 1):=fun i hi1 hi2 => by
    have q1:=hS 0 (i - lo) (by omega) (by omega)
    have q2:=hS (i - lo) (n - 1) (by omega) (by omega)
    rw [show lo + (i - lo)=i by omega] at q1 q2
    rw [show lo + (n - 1)=lo + n - 1 by omega] at q2
    rw [Nat.add_zero] at q1
    omega
   refine wpS_bind (wpS_rev (wpS_descZ h0 hn (by omega) (hB.rev (Nat.le_refl _) (by omega)) (fun i j hij hj => ?_) h))
   show K (mirror (arrOf st) lo (lo + n) ((lo + n - lo) / 2)) (lo + j) ≤ K (mirror (arrOf st) lo (lo + n) ((lo + n - lo) / 2)) (lo + i)
   rw [K_mirror_equal (by rw [hB.size]; omega) eqs,K_mirror_equal (by rw [hB.size]; omega) eqs]
   by_cases ci:i < n
   ·rw [eqs (lo + i) (by omega) (by omega)]
    by_cases cj:j < n
    ·rw [eqs (lo + j) (by omega) (by omega)]; exact Int.le_refl _
    ·rw [show j=n by omega]; omega
   ·rw [show i=j by omega]; exact Int.le_refl _
 ·rw [if_neg c2]
  have:n=1:=by omega
  subst this
  refine wpS_descZ h0 hn (by omega) hB (fun i j hij hj => ?_) h
  rw [show lo + 1 - 1=lo by omega] at hd
  by_cases ci:i=j
  ·subst ci; exact Int.le_refl _
  ·have i0:i=0:=by omega
   have j1:j=1:=by omega
   subst i0 j1
   show K (arrOf st) (lo + 1) ≤ K (arrOf st) lo
   exact Int.le_of_lt hd
end
end TimG
namespace TimG
open PySem PySem.Spec PyProof.Rows
variable [KO]
section
variable {prog:Program} {w:World} {A:Around} {E:Value→Shared→Prop} {s:Shared} {a₀:Array Keyed} {lo nrem:Nat} {P:Array (Nat × Nat × Nat)} {st:SortSt} [KL prog w A s]
theorem CB.bub (h:CB a₀ lo P st) {src d:Nat} (hs:src < a₀.size) (hd:d ≤ src) (hl:lo ≤ src - d):CB a₀ lo P (setArr st (bubble (arrOf st) src d)) :=
 ⟨h.kind,h.failed,h.pend,(bubble_perm _ _ _).trans h.perm,fun k hk => by
  show (bubble (arrOf st) src d)[k]? = _
  rw [getElem?_bubble (by rw [h.size]; exact hs) d hd,if_neg (by omega),if_neg (by omega)]
  exact h.low k hk⟩
theorem wpS_bins {n ok:Nat} {Q:Bool→SortSt→Prop} (h0:IkA a₀) (hn:lo + n ≤ a₀.size) (hok:ok ≤ n) (hB:CB a₀ lo P st) (hs:SegA (arrOf st) lo ok)
  (h:∀ st',CB a₀ lo P st'→SegA (arrOf st') lo n→Q true st'):wpS (model prog w) A E s (binarySort' lo n ok) Q st:=by
 rw [binarySort'_eq]
 refine wpS_bind (wpS_mono (wpS_forRange (I:=fun k c st' => c=(none,())∧CB a₀ lo P st'∧SegA (arrOf st') lo (min k n)) (Q:=fun c st' => c=(none,())∧CB a₀ lo P st'∧SegA (arrOf st') lo n) ?step ?fin ?init) ?post)
 case post =>
  rintro c st' ⟨rfl,hB',hs'⟩
  exact wpS_pure (h st' hB' hs')
 case init =>
  refine ⟨rfl,hB,fun i j hij hj => ?_⟩
  by_cases h1:ok=0
  ·rw [show i=j by omega]; exact Int.le_refl _
  ·exact hs i j hij (by omega)
 case fin =>
  rintro c st' ⟨hc,hB',hs'⟩
  refine ⟨hc,hB',?_⟩
  rwa [show min (max (max ok 1) n) n=n by omega] at hs'
 case step =>
  rintro k c st' hak hkn ⟨rfl,hB',hs'⟩
  rw [show min k n=k by omega] at hs'
  have hk:lo + k < a₀.size:=by omega
  refine wpS_bind (wpS_mono (wpS_forRange (I:=fun x c st'' => st'' = st'∧∃ l r,c=(none,l,r)∧l ≤ r∧r ≤ k∧r - l ≤ k - x ∧
    (∀ i,i < l→K (arrOf st') (lo + i) ≤ K (arrOf st') (lo + k))∧(∀ i,r ≤ i→i < k→K (arrOf st') (lo + k) < K (arrOf st') (lo + i)))
   (Q:=fun c st'' => st'' = st'∧∃ l r,c=(none,l,r)∧l ≤ k ∧
    (∀ i,i < l→K (arrOf st') (lo + i) ≤ K (arrOf st') (lo + k))∧(∀ i,l ≤ i→i < k→K (arrOf st') (lo + k) < K (arrOf st') (lo + i))) ?istep ?ifin ?iinit) ?ipost)
  case iinit => exact ⟨rfl,0,k,rfl,by omega,by omega,by omega,fun i hi => by omega,fun i h1 h2 => by omega⟩
  case ifin =>
   rintro c st'' ⟨rfl,l,r,rfl,hlr,hrk,hm,hlo,hhi⟩
   have:l=r:=by omega
   subst this
   exact ⟨rfl,l,l,rfl,hrk,hlo,hhi⟩
  case istep =>
   rintro x c st'' _ hxk ⟨rfl,l,r,rfl,hlr,hrk,hm,hlo,hhi⟩
   dsimp only
   by_cases hge:l ≥ r
   ·rw [if_pos hge]
    have:l=r:=by omega
    subst this
    exact wpS_pure ⟨rfl,l,l,rfl,hrk,hlo,hhi⟩
   ·rw [if_neg hge]
    refine wpS_bind (wpS_ltC hB' h0 hk (by omega) ?_)
    by_cases hless:K (arrOf st'') (lo + k) < K (arrOf st'') (lo + (l + r) / 2)
    ·rw [decide_eq_true hless]
     refine wpS_pure ⟨rfl,l,(l + r) / 2,rfl,by omega,by omega,by omega,hlo,fun i h1 h2 => ?_⟩
     exact Int.lt_of_lt_of_le hless (hs' _ _ h1 h2)
    ·rw [decide_eq_false hless]
     refine wpS_pure ⟨rfl,(l + r) / 2 + 1,r,rfl,by omega,by omega,by omega,fun i h1 => ?_,hhi⟩
     exact Int.le_trans (hs' i ((l + r) / 2) (by omega) (by omega)) (Int.not_lt.mp hless)
  case ipost =>
   rintro c st'' ⟨rfl,l,r,rfl,hlk,hlo,hhi⟩
   show wpS _ _ _ _ (do moveDown' (lo + k) (lo + l); pure (ForInStep.yield (none,()))) _ _
   rw [moveDown'_eq]
   refine wpS_bind (wpS_modify (wpS_pure ⟨rfl,hB'.bub hk (by omega) (by omega),?_⟩))
   rw [show min (k + 1) n=k + 1 by omega]
   have hks:lo + k < (arrOf st'').size:=by rw [hB'.size]; exact hk
   intro i j hij hj
   show K (bubble (arrOf st'') (lo + k) (lo + k - (lo + l))) (lo + i) ≤ K (bubble (arrOf st'') (lo + k) (lo + k - (lo + l))) (lo + j)
   have key:∀ m,m ≤ k→K (bubble (arrOf st'') (lo + k) (lo + k - (lo + l))) (lo + m)=if m=l then K (arrOf st'') (lo + k) else if l < m then K (arrOf st'') (lo + (m - 1)) else K (arrOf st'') (lo + m):=fun m hm => by
    rw [K_bubble hks (by omega)]
    by_cases c1:m=l
    ·rw [if_pos (by omega),if_pos c1]
    ·rw [if_neg (by omega),if_neg c1]
     by_cases c2:l < m
     ·rw [if_pos (by omega),if_pos c2,show lo + m - 1=lo + (m - 1) by omega]
     ·rw [if_neg (by omega),if_neg c2]
   rw [key i (by omega),key j (by omega)]
   repeat' split
   all_goals first
    | (exfalso; omega)
    | exact Int.le_refl _
    | exact hlo _ (by omega)
    | exact Int.le_of_lt (hhi _ (by omega) (by omega))
    | exact hs' _ _ (by omega) (by omega)
end
end TimG
namespace TimG
open PySem PySem.Spec PyProof.Rows
variable [KO]
theorem set_erase {α:Type} (c a b:α):∀ (X Y:List α),((X ++ a :: b :: Y).set X.length c).eraseIdx (X.length + 1)=X ++ c :: Y
 | [],Y => rfl
 | x :: X,Y => by
  show x :: ((X ++ a :: b :: Y).set X.length c).eraseIdx (X.length + 1)=x :: (X ++ c :: Y)
  rw [set_erase c a b X Y]
structure RL (a₀:Array Keyed) (T:List Keyed) (Rs:List (List Keyed)) (st:SortSt):Prop where
 kind:kindOf st=KO.kd
 failed:failedOf st=none
 perm:(arrOf st).toList.Perm a₀.toList
 flat:(arrOf st).toList=Rs.flatten ++ T
 srt:∀ R ∈ Rs,Srt R∧1 ≤ R.length
 pend:bare (pendingOf st)=offs 0 Rs
theorem bare_at {P:Array (Nat × Nat × Nat)} {i:Nat} {x:Nat × Nat} (h:(bare P)[i]? = some x):∃ pw,P[i]? = some (x.1,x.2,pw):=by
 unfold bare at h
 rw [List.getElem?_map,Array.getElem?_toList] at h
 cases z:P[i]? with
 | none => rw [z] at h; cases h
 | some y => rw [z] at h; cases h; exact ⟨y.2.2,rfl⟩
theorem map_er {α β:Type} (f:α→β):∀ (l:List α) (n:Nat),(l.eraseIdx n).map f=(l.map f).eraseIdx n
 | [],n => by cases n <;> rfl
 | a :: l,0 => rfl
 | a :: l,n + 1 => by
  show f a :: (l.eraseIdx n).map f=f a :: (l.map f).eraseIdx n
  rw [map_er f l n]
theorem er_big {α:Type} : ∀ (l:List α) (n:Nat),l.length ≤ n→l.eraseIdx n=l
 | [],n,_ => by cases n <;> rfl
 | a :: l,0,h => by simp at h
 | a :: l,n + 1,h => by
  show a :: l.eraseIdx n=a :: l
  rw [er_big l n (by simpa using h)]
theorem bare_merge (P:Array (Nat × Nat × Nat)) (i a b pw:Nat):bare ((P.setIfInBounds i (a,b,pw)).eraseIdxIfInBounds (i + 1))=((bare P).set i (a,b)).eraseIdx (i + 1):=by
 unfold bare
 have e:((P.setIfInBounds i (a,b,pw)).eraseIdxIfInBounds (i + 1)).toList=(P.toList.set i (a,b,pw)).eraseIdx (i + 1):=by
  unfold Array.eraseIdxIfInBounds
  split
  ·rw [Array.toList_eraseIdx,Array.toList_setIfInBounds]
  ·rw [Array.toList_setIfInBounds,er_big _ _ (by rename_i hh; rw [List.length_set,Array.length_toList]; rw [Array.size_setIfInBounds] at hh; omega)]
 rw [e,map_er,List.map_set]
theorem split2 {α:Type} {Rs:List α} {i:Nat} (h:i + 1 < Rs.length):∃ R1 a b R2,Rs=R1 ++ a :: b :: R2∧R1.length=i:=by
 refine ⟨Rs.take i,Rs[i],Rs[i + 1],Rs.drop (i + 2),?_,by rw [List.length_take]; omega⟩
 rw [← List.drop_eq_getElem_cons h,← List.drop_eq_getElem_cons (by omega),List.take_append_drop]
section
variable {prog:Program} {w:World} {A:Around} {E:Value→Shared→Prop} {s:Shared} {a₀:Array Keyed} {T:List Keyed} {Rs:List (List Keyed)} {st:SortSt} [KL prog w A s]
theorem wpS_mstep {Q:Bool→SortSt→Prop} {i:Nat} (h0:∀ p ∈ a₀.toList,Ik p) (hR:RL a₀ T Rs st) (hi:i + 1 < Rs.length) (h:∀ Rs' st',RL a₀ T Rs' st'→Rs'.length + 1=Rs.length→Q true st'):wpS (model prog w) A E s (mergeAt' i) Q st:=by
 obtain ⟨R1,S1,S2,R2,rfl,rfl⟩:=split2 hi
 have eo:offs 0 (R1 ++ S1 :: S2 :: R2)=offs 0 R1 ++ (R1.flatten.length,S1.length) :: (R1.flatten.length + S1.length,S2.length) :: offs (R1.flatten.length + S1.length + S2.length) R2:=by
  rw [offs_app,Nat.zero_add]
  rfl
 have lo1:=offs_len 0 R1
 have p1:(bare (pendingOf st))[R1.length]? = some (R1.flatten.length,S1.length):=by
  rw [hR.pend,eo,List.getElem?_append_right (by omega),lo1,Nat.sub_self]
  rfl
 have p2:(bare (pendingOf st))[R1.length + 1]? = some (R1.flatten.length + S1.length,S2.length):=by
  rw [hR.pend,eo,List.getElem?_append_right (by omega),lo1,Nat.add_sub_cancel_left]
  rfl
 obtain ⟨pw,e1⟩:=bare_at p1
 obtain ⟨pw2,e2⟩:=bare_at p2
 have q1:=hR.srt S1 (by simp)
 have q2:=hR.srt S2 (by simp)
 refine wpS_mergeAt (U:=R1.flatten) (S1:=S1) (S2:=S2) (W:=R2.flatten ++ T) hR.kind hR.failed (by rw [hR.flat]; simp) (fun p hp => h0 p (hR.perm.mem_iff.mp hp)) q1.1 q2.1 q1.2 q2.2 e1 e2 fun M st' k' f' a' pm sm pd => ?_
 have lm:M.length=S1.length + S2.length:=by rw [pm.length_eq,List.length_append]
 refine h (R1 ++ M :: R2) st' ⟨k',f',?_,by rw [a']; simp,fun R hR' => ?_,?_⟩ (by simp; omega)
 ·rw [a']
  refine List.Perm.trans ?_ hR.perm
  rw [hR.flat]
  have:(R1.flatten ++ M ++ (R2.flatten ++ T)).Perm (R1.flatten ++ (S1 ++ S2) ++ (R2.flatten ++ T)):=List.Perm.append_right _ (List.Perm.append_left _ pm)
  refine this.trans ?_
  simp
 ·rcases List.mem_append.mp hR' with z | z
  ·exact hR.srt R (by simp [z])
  ·rcases List.mem_cons.mp z with rfl | z
   ·exact ⟨sm,by omega⟩
   ·exact hR.srt R (by simp [z])
 ·rw [pd,bare_merge,hR.pend,eo,← lo1,set_erase,offs_app,Nat.zero_add]
  show _=offs 0 R1 ++ (R1.flatten.length,M.length) :: offs (R1.flatten.length + M.length) R2
  rw [lm,Nat.add_assoc]
end
end TimG
namespace TimG
open PySem PySem.Spec PyProof.Rows
variable [KO]
section
variable {prog:Program} {w:World} {A:Around} {E:Value→Shared→Prop} {s:Shared} {a₀:Array Keyed} {T:List Keyed} {Rs:List (List Keyed)} {st:SortSt} [KL prog w A s]
theorem RL.len (h:RL a₀ T Rs st):(pendingOf st).size=Rs.length:=by
 have:=congrArg List.length h.pend
 rw [offs_len] at this
 unfold bare at this
 rw [List.length_map,Array.length_toList] at this
 exact this
theorem bare_mod (P:Array (Nat × Nat × Nat)) (i pw:Nat):bare (P.modify i fun x => (x.1,x.2.1,pw))=bare P:=by
 unfold bare
 refine List.ext_getElem? fun j => ?_
 rw [List.getElem?_map,List.getElem?_map,Array.getElem?_toList,Array.getElem?_toList,Array.getElem?_modify]
 split
 ·cases P[j]? <;> rfl
 ·rfl
theorem bare_push (P:Array (Nat × Nat × Nat)) (x:Nat × Nat × Nat):bare (P.push x)=bare P ++ [(x.1,x.2.1)]:=by
 unfold bare
 rw [Array.toList_push,List.map_append]
 rfl
def tailS (sz lo n:Nat):StateT SortSt Sem (ForInStep (Option Unit × Nat)):=do
 let g ← get
 match (pendingOf g).back? with
 | some (s1,n1,_) => do
  let c ← forIn [0:sz] ((none,()):Option Unit × Unit) fun _ c => do
   let g ← get
   match (if (pendingOf g).size > 1 then (pendingOf g)[(pendingOf g).size - 2]? else none) with
   | some (_,_,older) =>
    if older ≤ power' sz (2 * s1 + n1) (2 * s1 + n1 + n1 + n) sz then pure (.done (none,()))
    else do
     let b ← mergeAt' ((pendingOf g).size - 2)
     if (!b)=true then pure (.done (some (),())) else pure (.yield (none,()))
   | _ => pure (.done (none,()))
  match c.1 with
  | some r => pure (.done (some r,lo))
  | none => do
   modify fun s => setPending s ((pendingOf s).modify ((pendingOf s).size - 1) fun x => (x.1,x.2.1,power' sz (2 * s1 + n1) (2 * s1 + n1 + n1 + n) sz))
   modify fun s => setPending s ((pendingOf s).push (lo,n,0))
   pure (.yield (none,lo + n))
 | _ => do
  modify fun s => setPending s ((pendingOf s).push (lo,n,0))
  pure (.yield (none,lo + n))
theorem RL.push {S W:List Keyed} (hR:RL a₀ (S ++ W) Rs st) (hS:Srt S) (h1:1 ≤ S.length) {P:Array (Nat × Nat × Nat)} (hP:bare P=bare (pendingOf st)):RL a₀ W (Rs ++ [S]) (setPending st (P.push (Rs.flatten.length,S.length,0))):=by
 refine ⟨hR.kind,hR.failed,hR.perm,by show (arrOf st).toList=_; rw [hR.flat]; simp,fun R hr => ?_,?_⟩
 ·rcases List.mem_append.mp hr with z | z
  ·exact hR.srt R z
  ·rw [List.mem_singleton.mp z]; exact ⟨hS,h1⟩
 ·show bare (P.push _)=_
  rw [bare_push,hP,hR.pend,offs_app,Nat.zero_add]
  rfl
theorem wpS_tailS {S W:List Keyed} {sz:Nat} {Q:ForInStep (Option Unit × Nat)→SortSt→Prop} (h0:∀ p ∈ a₀.toList,Ik p) (hR:RL a₀ (S ++ W) Rs st) (hS:Srt S) (h1:1 ≤ S.length)
  (h:∀ Rs' st',RL a₀ W Rs' st'→Rs'.flatten.length=Rs.flatten.length + S.length→Q (.yield (none,Rs.flatten.length + S.length)) st'):wpS (model prog w) A E s (tailS sz Rs.flatten.length S.length) Q st:=by
 unfold tailS
 refine wpS_bind (wpS_get ?_)
 have fl:∀ {Rs' : List (List Keyed)} {st' : SortSt},RL a₀ (S ++ W) Rs' st'→Rs'.flatten.length=Rs.flatten.length:=fun {Rs' st'} h' => by
  have e1:=congrArg List.length h'.flat
  have e2:=congrArg List.length hR.flat
  rw [h'.perm.length_eq,List.length_append] at e1
  rw [hR.perm.length_eq,List.length_append] at e2
  omega
 have fin:∀ {Rs' : List (List Keyed)} {st' : SortSt} {P:Array (Nat × Nat × Nat)},RL a₀ (S ++ W) Rs' st'→bare P=bare (pendingOf st')→Q (.yield (none,Rs.flatten.length + S.length)) (setPending st' (P.push (Rs.flatten.length,S.length,0))):=fun {Rs' st' P} h' hP => by
  have:=h'.push hS h1 hP
  rw [fl h'] at this
  refine h _ _ this ?_
  rw [List.flatten_append,List.length_append,fl h']
  simp
 cases hb:(pendingOf st).back? with
 | none => exact wpS_bind (wpS_modify (wpS_pure (fin hR rfl)))
 | some y =>
  obtain ⟨s1,n1,pw⟩:=y
  dsimp only
  refine wpS_bind (wpS_mono (wpS_forRange (I:=fun x c st' => c=(none,())∧∃ Rs',RL a₀ (S ++ W) Rs' st') (Q:=fun c st' => c=(none,())∧∃ Rs',RL a₀ (S ++ W) Rs' st') ?_ (fun c st' hh => hh) ⟨rfl,Rs,hR⟩) ?_)
  ·rintro x c st' _ _ ⟨rfl,Rs',hR'⟩
   refine wpS_bind (wpS_get ?_)
   by_cases c1:(pendingOf st').size > 1
   ·rw [if_pos c1]
    cases z:(pendingOf st')[(pendingOf st').size - 2]? with
    | none => exact wpS_pure ⟨rfl,Rs',hR'⟩
    | some v =>
     obtain ⟨v1,v2,older⟩:=v
     dsimp only
     split
     ·exact wpS_pure ⟨rfl,Rs',hR'⟩
     ·have hl:=hR'.len
      exact wpS_bind (wpS_mstep h0 hR' (by omega) fun Rs2 st2 hR2 _ => wpS_pure ⟨rfl,Rs2,hR2⟩)
   ·rw [if_neg c1]
    exact wpS_pure ⟨rfl,Rs',hR'⟩
  ·rintro c st' ⟨rfl,Rs',hR'⟩
   refine wpS_bind (wpS_modify (wpS_bind (wpS_modify (wpS_pure ?_))))
   exact fin (st':=st') (P:=(pendingOf st').modify ((pendingOf st').size - 1) fun x => (x.1,x.2.1,power' sz (2 * s1 + n1) (2 * s1 + n1 + n1 + S.length) sz)) hR' (bare_mod _ _ _)
theorem wpS_cg {α:Type} {m1 m2:StateT SortSt Sem α} {Q:α→SortSt→Prop} (e:m1=m2) (h:wpS (model prog w) A E s m1 Q st):wpS (model prog w) A E s m2 Q st:=e ▸ h
theorem if_le (c:Prop) [Decidable c] (a:Nat):(if c then a - 1 else a) ≤ a:=by split <;> omega
theorem numK_K {a:Array Keyed} {i:Nat} {p:Keyed} (e:a[i]? = some p):K a i=numK p:=by
 unfold K L2.RK
 rw [e]
 rfl
theorem wpS_sortAll {Q:Unit→SortSt→Prop} (h0:IkA a₀) (hk:kindOf st=KO.kd) (hf:failedOf st=none) (hp:pendingOf st = #[]) (ha:arrOf st=a₀)
  (h:∀ st',(arrOf st').toList.Perm a₀.toList→failedOf st' = none→Srt (arrOf st').toList→Q () st'):wpS (model prog w) A E s sortRuns' Q st:=by
 have hI:∀ p ∈ a₀.toList,Ik p:=h0
 rw [sortRuns'_eq]
 refine wpS_bind (wpS_get ?_)
 dsimp only
 rw [ha]
 have R0:RL a₀ a₀.toList [] st:=⟨hk,hf,by rw [ha],by rw [ha]; rfl,fun R hR => (by cases hR),by rw [hp]; rfl⟩
 have tl:∀ {st' : SortSt} {x lo n:Nat} {Rs:List (List Keyed)} {T:List Keyed} {st1:SortSt},RL a₀ T Rs st1→Rs.flatten.length=lo→x ≤ lo→lo < a₀.size→CB (arrOf st1) lo (pendingOf st1) st'→1 ≤ n→lo + n ≤ a₀.size→SegA (arrOf st') lo n →
   wpS (model prog w) A E s (tailS a₀.size lo n) (fun r st' => match r with | .done c => c=(none,a₀.size)∧∃ Rs,RL a₀ [] Rs st' | .yield c => ∃ lo Rs T,c=(none,lo)∧RL a₀ T Rs st'∧Rs.flatten.length=lo∧x + 1 ≤ lo∧lo ≤ a₀.size) st':=by
  intro st' x lo n Rs T st1 hR el hx hlo hB n1 hn hs
  subst el
  have szz:(arrOf st1).size=a₀.size:=by rw [← Array.length_toList,hR.perm.length_eq,Array.length_toList]
  have sz2:(arrOf st').size=a₀.size:=by rw [hB.size,szz]
  have pm:(arrOf st').toList.Perm (arrOf st1).toList:=Array.perm_iff_toList_perm.mp hB.perm
  have lowe:(arrOf st').toList.take Rs.flatten.length=Rs.flatten:=by
   have:(arrOf st').toList.take Rs.flatten.length=(arrOf st1).toList.take Rs.flatten.length:=by
    refine List.ext_getElem? fun j => ?_
    rw [List.getElem?_take,List.getElem?_take]
    split
    ·rw [Array.getElem?_toList,Array.getElem?_toList]; exact hB.low j (by assumption)
    ·rfl
   rw [this,hR.flat,List.take_left']
   rfl
  have eS:((arrOf st').toList.drop Rs.flatten.length).take n=((arrOf st').extract Rs.flatten.length (Rs.flatten.length + n)).toList:=(ext_k _ _ _).symm
  generalize hSd:((arrOf st').toList.drop Rs.flatten.length).take n=S at eS
  have lS:S.length=n:=by rw [← hSd,List.length_take,List.length_drop,Array.length_toList]; omega
  have sS:Srt S:=by
   refine List.pairwise_iff_getElem.mpr fun i j hi hj hij => ?_
   have gi:∀ i (hi:i < S.length),(arrOf st')[Rs.flatten.length + i]? = some S[i]:=fun i hi => by
    have:S[i]? = some S[i]:=List.getElem?_eq_getElem hi
    rw [← this,← hSd,List.getElem?_take,if_pos (by omega),List.getElem?_drop,Array.getElem?_toList]
   have:=hs i j (by omega) (by omega)
   rw [numK_K (gi i hi),numK_K (gi j hj)] at this
   exact this
  have hR' : RL a₀ (S ++ (arrOf st').toList.drop (Rs.flatten.length + n)) Rs st':=by
   refine ⟨hB.kind,hB.failed,pm.trans hR.perm,?_,hR.srt,by rw [hB.pend]; exact hR.pend⟩
   rw [← hSd,← List.drop_drop,List.take_append_drop]
   conv => lhs; rw [← List.take_append_drop Rs.flatten.length (arrOf st').toList]
   rw [lowe]
  have:=wpS_tailS (prog:=prog) (w:=w) (A:=A) (E:=E) (s:=s) (sz:=a₀.size) (Q:=fun r st' => match r with | .done c => c=(none,a₀.size)∧∃ Rs,RL a₀ [] Rs st' | .yield c => ∃ lo Rs T,c=(none,lo)∧RL a₀ T Rs st'∧Rs.flatten.length=lo∧x + 1 ≤ lo∧lo ≤ a₀.size) hI hR' sS (by omega) fun Rs2 st2 hR2 e2 => ⟨_,Rs2,_,rfl,hR2,e2,by omega,by omega⟩
  rw [lS] at this
  exact this
 have tnil:∀ {T:List Keyed} {Rs:List (List Keyed)} {st' : SortSt},RL a₀ T Rs st'→Rs.flatten.length=a₀.size→RL a₀ [] Rs st':=fun {T Rs st'} hR el => by
  have e:=congrArg List.length hR.flat
  rw [hR.perm.length_eq,List.length_append,el,Array.length_toList] at e
  have:T=[]:=List.eq_nil_of_length_eq_zero (by omega)
  subst this
  exact hR
 have many:∀ Rs:List (List Keyed),(∀ R ∈ Rs,Srt R∧1 ≤ R.length)→Rs.length ≤ Rs.flatten.length:=fun Rs => by
  induction Rs with
  | nil => intro _; exact Nat.le_refl _
  | cons R Rs ih =>
   intro hh
   rw [List.flatten_cons,List.length_append,List.length_cons]
   have:=ih fun R' hR' => hh R' (List.mem_cons_of_mem _ hR')
   have:=(hh R List.mem_cons_self).2
   omega
 refine wpS_bind (wpS_mono (wpS_forRange (I:=fun x c st' => ∃ lo Rs T,c=(none,lo)∧RL a₀ T Rs st'∧Rs.flatten.length=lo∧x ≤ lo∧lo ≤ a₀.size) (Q:=fun c st' => c=(none,a₀.size)∧∃ Rs,RL a₀ [] Rs st') ?step ?fin ⟨0,[],_,rfl,R0,rfl,Nat.le_refl _,Nat.zero_le _⟩) ?post)
 case fin =>
  rintro c st' ⟨lo,Rs,T,rfl,hR,el,hx,hl⟩
  have:lo=a₀.size:=by omega
  subst this
  exact ⟨rfl,Rs,tnil hR el⟩
 case step =>
  rintro x c st1 _ hx ⟨lo,Rs,T,rfl,hR,el,hxl,hl⟩
  dsimp only
  by_cases c1:lo ≥ a₀.size
  ·rw [if_pos c1]
   have:lo=a₀.size:=by omega
   subst this
   exact wpS_pure ⟨rfl,Rs,tnil hR el⟩
  rw [if_neg c1]
  have szz:(arrOf st1).size=a₀.size:=by rw [← Array.length_toList,hR.perm.length_eq,Array.length_toList]
  have i1:IkA (arrOf st1):=fun p hp => h0 p (hR.perm.mem_iff.mp hp)
  refine wpS_bind (wpS_count (a₀:=arrOf st1) (P:=pendingOf st1) i1 (by omega) (by omega) ⟨hR.kind,hR.failed,rfl,Array.Perm.refl _,fun _ _ => rfl⟩ fun m st2 hB2 m1 m2 hs2 => ?_)
  dsimp only
  by_cases c2:m < minRun' a₀.size a₀.size 0
  ·rw [if_pos c2]
   refine wpS_bind (wpS_lift (wpAny_rule ⟨rfl,?_⟩))
   refine wpS_bind (wpS_bins i1 (by omega) (by omega) hB2 hs2 fun st3 hB3 hs3 => ?_)
   rw [if_neg (by decide)]
   refine wpS_cg ?_ (wpS_mono (tl hR el hxl (by omega) hB3 (by omega) (by omega) hs3) fun r st4 hr => (by cases r with | done c => exact hr | yield c => exact hr))
   ·unfold tailS
    refine congrArg _ (funext fun g => ?_)
    cases (pendingOf g).back? with
    | none => rfl
    | some y =>
     obtain ⟨s1,n1,pw⟩:=y
     dsimp only
     refine congrArg _ (funext fun c => ?_)
     obtain ⟨r,c⟩:=c
     cases r with
     | some r => rfl
     | none => rfl
  ·rw [if_neg c2]
   refine wpS_cg ?_ (wpS_mono (tl hR el hxl (by omega) hB2 m1 (by omega) hs2) fun r st4 hr => (by cases r with | done c => exact hr | yield c => exact hr))
   ·unfold tailS
    refine congrArg _ (funext fun g => ?_)
    cases (pendingOf g).back? with
    | none => rfl
    | some y =>
     obtain ⟨s1,n1,pw⟩:=y
     dsimp only
     refine congrArg _ (funext fun c => ?_)
     obtain ⟨r,c⟩:=c
     cases r with
     | some r => rfl
     | none => rfl
 case post =>
  rintro c st' ⟨rfl,Rs,hR⟩
  dsimp only
  have lR:Rs.length ≤ a₀.size:=by
   have:=many Rs hR.srt
   have e:=congrArg List.length hR.flat
   rw [hR.perm.length_eq,List.append_nil,Array.length_toList] at e
   omega
  refine wpS_bind (wpS_mono (wpS_forRange (I:=fun x c st' => c=(none,())∧∃ Rs,RL a₀ [] Rs st'∧(Rs.length ≤ 1 ∨ Rs.length + x ≤ a₀.size)) (Q:=fun c st' => c=(none,())∧∃ Rs,RL a₀ [] Rs st'∧Rs.length ≤ 1) ?_ ?_ ⟨rfl,Rs,hR,.inr (by omega)⟩) ?_)
  ·rintro x c st1 _ hx ⟨rfl,Rs,hR,hc⟩
   refine wpS_bind (wpS_get ?_)
   have hl:=hR.len
   by_cases c1:(pendingOf st1).size ≤ 1
   ·rw [if_pos c1]
    exact wpS_pure ⟨rfl,Rs,hR,by omega⟩
   ·rw [if_neg c1]
    refine wpS_bind (wpS_mstep hI hR (Nat.lt_of_le_of_lt (Nat.succ_le_succ (if_le _ _)) (by omega)) fun Rs2 st2 hR2 e2 => ?_)
    exact wpS_pure ⟨rfl,Rs2,hR2,by omega⟩
  ·rintro c st1 ⟨rfl,Rs,hR,hc⟩
   exact ⟨rfl,Rs,hR,by omega⟩
  ·rintro c st1 ⟨rfl,Rs,hR,hc⟩
   refine wpS_pure (h st1 hR.perm hR.failed ?_)
   rw [hR.flat,List.append_nil]
   rcases Rs with _ | ⟨R,_ | ⟨R2,Rs⟩⟩
   ·exact List.Pairwise.nil
   ·rw [List.flatten_cons,List.flatten_nil,List.append_nil]
    exact (hR.srt R List.mem_cons_self).1
   ·simp at hc
end
end TimG
set_option maxHeartbeats 1000000
namespace L2
open PySem PySem.Spec PyProof.Rows
section
variable {prog:Program} {w:World} {A:Around} {E:Value→Shared→Prop} {s:Shared} {k0:SortKind} {a0:Array Keyed} {rk:Value→Int}
theorem runsG_ok (hL:LtOk prog w A s k0 a0 rk) {st:SortSt} (b:SB k0 a0 st) (ha:arrOf st=a0) {Q:Unit→SortSt→Prop}
  (h:∀ t,(arrOf t).Perm a0→failedOf t=none→(∀ i j,i ≤ j→j < a0.size→RK rk (arrOf t) i ≤ RK rk (arrOf t) j)→Q () t):wpS (model prog w) A E s sortRuns' Q st:=by
 letI:TimG.KO:=⟨rk,fun p => p ∈ a0.toList,k0⟩
 haveI:TimG.KL prog w A s:=⟨fun {E x y st Q} hk hx hy q => by
  rw [lt'_eq]
  refine wpS_bind (wpS_get (wpS_bind (wpS_lift (wpAny_attempt ?_))))
  rw [show kindOf st=k0 from hk]
  exact hL _ x y _ hx hy ⟨rfl,wpS_pure q⟩⟩
 refine TimG.wpS_sortAll (a₀:=a0) (fun p hp => hp) b.kd b.fl b.pn ha fun t pm ft sr => h t (Array.perm_iff_toList_perm.mpr pm) ft fun i j hij hj => ?_
 have sz:(arrOf t).size=a0.size:=(Array.perm_iff_toList_perm.mpr pm).size_eq
 have e1:(arrOf t)[i]? = some (arrOf t)[i]:=Array.getElem?_eq_getElem (by omega)
 have e2:(arrOf t)[j]? = some (arrOf t)[j]:=Array.getElem?_eq_getElem (by omega)
 have:=TimG.srt_idx sr hij e1 e2
 unfold RK
 rw [e1,e2]
 exact this
end
end L2
namespace L2
open PySem PySem.Spec PyProof.Rows
section
variable {prog:Program} {w:World} {A:Around} {E:Value→Shared→Prop} {s:Shared}
theorem sort_genW {a:Addr} {vs:List Value} {n:Nat} {k0:SortKind} {rk:Value→Int} {P:Fin→Shared→Prop} (hb:s.heap.get? a=some (seqObj "list" vs.toArray n)) (h64:vs.length ≤ 3000)
  (hk:2 ≤ vs.length→∀ h' : Heap,(∀ b o,b ≠ a→s.heap.get? b=some o→h'.get? b=some o)→∀ (E:Value→Shared→Prop) (Q:SortKind→Shared→Prop),Q k0 { s with heap:=h' }→wpAny (model prog w) A (keyKind' vs.toArray) Q E { s with heap:=h' })
  (hL:∀ h' : Heap,(∀ b o,b ≠ a→s.heap.get? b=some o→h'.get? b=some o)→LtOk prog w A { s with heap:=h' } k0 (pairsOf vs) rk)
  (h:∀ xs:Array Keyed,xs.Perm (pairsOf vs)→(∀ i j,i ≤ j→j < (pairsOf vs).size→RK rk xs i ≤ RK rk xs j)→P (.done (.ret .none)) { s with heap:=sortedHeap s.heap a vs (xs.map (·.2)) }) :
  wpAny (model prog w) A (Builtin.«list.sort» ⟨[.ref a],[]⟩) P E s:=by
 have la:a < s.heap.objs.size:=Heap.lt_size hb
 have sv:vs.toArray.size=vs.length:=List.size_toArray ..
 rw [list_sort_plain]
 refine wpAny_bind (listItems_at hb rfl (wpAny_bind (listUpdate_at hb rfl ?_)))
 have g1:=get?_update_seq hb (fun _ => (#[]:Array Value))
 have k1:∀ b o,b ≠ a→s.heap.get? b=some o→(s.heap.update a (Obj.mapSeq fun _ => #[])).get? b=some o:=fun b o nb z => by
  rw [Heap.get?_update_ne _ _ _ _ nb]; exact z
 refine wpAny_bind (seqEpoch_at g1 rfl (wpAny_bind (wpAny_newTuple (wpAny_bind (wpAny_newList (wpAny_holding ?_))))))
 show wpAny (model prog w) A _ P E { s with heap:=((s.heap.update a (Obj.mapSeq fun _ => #[])).push (seqObj "tuple" vs.toArray 0)).push (seqObj "list" #[] 0) }
 have g6:=Heap.get?_push_of_some (seqObj "list" #[] 0) (Heap.get?_push_of_some (seqObj "tuple" vs.toArray 0) g1)
 have k6:∀ b o,b ≠ a→s.heap.get? b=some o→(((s.heap.update a (Obj.mapSeq fun _ => #[])).push (seqObj "tuple" vs.toArray 0)).push (seqObj "list" #[] 0)).get? b=some o:=fun b o nb z => Heap.get?_push_of_some _ (Heap.get?_push_of_some _ (k1 b o nb z))
 have done:∀ (xs:Array Keyed) (t:SortSt),arrOf t=xs→failedOf t=none→xs.Perm (pairsOf vs)→(∀ i j,i ≤ j→j < (pairsOf vs).size→RK rk xs i ≤ RK rk xs j) →
   wpAny (model prog w) A (do
    let touched:=(← seqEpoch a) != (if (#[]:Array Value).size == vs.toArray.size then n else n + 1)
    Builtin.List.listUpdate (.ref a) fun _ => (arrOf t).map (·.2)
    if let some e:=failedOf t then rule "list.sort.comparison-raised"; throw e
    if touched then rule "list.sort.modified"; raiseError "ValueError" "list modified during sort"
    ret .none) P E { s with heap:=((s.heap.update a (Obj.mapSeq fun _ => #[])).push (seqObj "tuple" vs.toArray 0)).push (seqObj "list" #[] 0) }:=by
  rintro xs t rfl ft pm up
  refine wpAny_bind (seqEpoch_at g6 rfl (wpAny_bind (listUpdate_at g6 rfl ?_ (hsz2:=?_))))
  ·rw [ft]
   dsimp only
   rw [if_neg (by simp)]
   exact wpAny_pure (h _ pm up)
  ·show ((arrOf t).map (·.2)).size ≤ sizeLine + 1
   rw [Array.size_map,pm.size_eq,pairsOf_size]
   exact Nat.le_trans (show vs.length ≤ 3000 by omega) (by decide)
 by_cases h2:vs.toArray.size < 2
 ·rw [if_pos h2,if_pos h2]
  refine wpAny_bind (wpAny_pure ?_)
  dsimp only
  rw [StateT.run_pure]
  refine wpAny_bind (wpAny_pure (done _ (SortSt.mk' general' (vs.toArray.zip vs.toArray) #[] 7 none) rfl rfl (Array.Perm.refl _) fun i j ij jl => ?_))
  rw [pairsOf_size] at jl
  rw [show i=j by omega]
  exact Int.le_refl _
 ·rw [if_neg h2,if_neg h2]
  refine wpAny_bind (hk (by omega) _ k6 _ _ ?_)
  refine wpAny_bind (wpAny_mono (runsG_ok (hL _ k6) (st:=SortSt.mk' k0 (vs.toArray.zip vs.toArray) #[] 7 none) (a0:=pairsOf vs) ⟨Array.Perm.refl _,rfl,rfl,rfl⟩ rfl (Q:=fun _ t => (arrOf t).Perm (pairsOf vs)∧failedOf t=none∧∀ i j,i ≤ j→j < (pairsOf vs).size→RK rk (arrOf t) i ≤ RK rk (arrOf t) j) fun t p1 p2 p3 => ⟨p1,p2,p3⟩) ?_ fun _ _ z => z)
  rintro ⟨⟨⟩,t⟩ s' ⟨rfl,p1,p2,p3⟩
  exact done _ t rfl p2 p1 p3
end
end L2
set_option maxHeartbeats 4000000
namespace L2
open PySem PySem.Spec PyProof.Rows
section
variable {prog:Program} {w:World} {A:Around} {E:Value→Shared→Prop} {s:Shared}
theorem ints_mem:∀ {vs:List Value} {ns:List Int},IntsAre vs ns→∀ v ∈ vs,∃ n t,v = .int n t
 | _,_,.nil,v,h => by cases h
 | _,_,.cons n t r,v,h => by
  rcases List.mem_cons.mp h with e | e
  ·exact ⟨n,t,e⟩
  ·exact ints_mem r v e
theorem sort_anyG {a:Addr} {vs:List Value} {ns:List Int} {n:Nat} {P:Fin→Shared→Prop} (ho:s.heap.get? a=some (seqObj "list" vs.toArray n)) (hI:IntsAre vs ns) (hz:vs.length ≤ 3000)
  (h:∀ (out:Array Value) (ns' : List Int),IntsAre out.toList ns'→ns'.Perm ns→ns'.Pairwise (· ≤ ·)→P (.done (.ret .none)) { s with heap:=sortedHeap s.heap a vs out }) :
  wpAny (model prog w) A (Builtin.«list.sort» ⟨[.ref a],[]⟩) P E s:=by
 have mz:∀ p,p ∈ (pairsOf vs).toList→∃ m t,p.1 = .int m t:=fun p q => by
  rw [pairsOf_toList] at q
  exact ints_mem hI _ (mem_zip_self q).2
 refine sort_genW (k0:=oneType') (rk:=numOf) ho hz (fun h2 h' k E' Q' q => ?_) (fun h' k E' x y Q' hx hy q => ?_) fun xs pm up => ?_
 ·obtain ⟨v₁,v₂,rest,rfl⟩:∃ v₁ v₂ rest,vs=v₁ :: v₂ :: rest:=by
   match vs,h2 with
   | [],h2 => simp at h2
   | [_],h2 => simp at h2
   | v₁ :: v₂ :: rest,_ => exact ⟨v₁,v₂,rest,rfl⟩
  rw [keyKind_ints hI]
  exact wpAny_pure q
 ·obtain ⟨m,t,ex⟩:=mz x hx
  obtain ⟨m',t',ey⟩:=mz y hy
  rw [keyLt'_oneType,ex,ey]
  rw [ex,ey] at q
  exact oneLt_int q
 ·obtain ⟨ns',q1,q2,q3⟩:=sorted_out hI pm (fun i j hij hj => up i j (by omega) hj)
  exact h _ ns' q1 q2 q3
theorem sorted_anyW {l:Addr} {vs:List Value} {ns:List Int} {Q:Value→Shared→Prop} (hl:s.heap.IsList l vs.toArray) (hI:IntsAre vs ns) (hz:vs.length ≤ 3000)
  (h:∀ (out:Array Value) (ns' : List Int),IntsAre out.toList ns'→ns'.Perm ns→ns'.Pairwise (· ≤ ·)→Q (.ref (s.heap.objs.size + 1)) { s with heap:=sortedAll s.heap vs out }) :
  wpAny (model prog w) A (call (.builtin "sorted") [.ref l]) Q E s:=by
 have hline:vs.length ≤ sizeLine:=Nat.le_trans hz (by decide)
 refine Calls.call_function_entry kind_sorted plain_sorted entry_sorted (args_sorted1 _) ?_
 unfold Builtin.«sorted»
 refine wpAny_bind (m:=checkCount "sorted" 1 1 _) (wpAny_pure (wpAny_bind (collect_list hl (wpAny_bind (wpAny_newList ?_)) (hsz:=hline))))
 have hsz:((s.heap.push (seqObj "list" #[] 0)).update s.heap.objs.size (Obj.mapSeq (· ++ vs.toArray))).objs.size=s.heap.objs.size + 1:=by
  rw [Heap.size_update,size_push']
 have hoL:(((s.heap.push (seqObj "list" #[] 0)).update s.heap.objs.size (Obj.mapSeq (· ++ vs.toArray))).push (seqObj "list" vs.toArray 0)).get? (s.heap.objs.size + 1)=some (seqObj "list" vs.toArray 0):=by
  rw [← hsz]; exact Heap.get?_push_size _ rfl
 show wpAny _ _ _ _ _ { s with heap:=((s.heap.push (seqObj "list" #[] 0)).update s.heap.objs.size (Obj.mapSeq (· ++ vs.toArray))).push (seqObj "list" vs.toArray 0) }
 rw [hsz]
 refine wpAny_bind (wpAny_holding (wpAny_call_entry slot_list_sort ⟨_,hoL,rfl⟩ entry_list_sort (sort_anyG hoL hI hz fun out ns' a1 a2 a3 => ⟨_,rfl,?_⟩) (args_list_sort _)))
 exact wpAny_pure ⟨_,rfl,h out ns' a1 a2 a3⟩
end
section
variable {X:Cx}
theorem call_sortedW:CallR X (.builtin "sorted") (fun xs H Q => ∃ (p:Addr) (ns:List Int),xs=[.ref p]∧SqL X.K H p (ns.map V.int)∧ns.length ≤ 3000∧∀ (l:Addr) (ms:List Int),H l=none→ms.Perm ns→ms.Pairwise (· ≤ ·)→Q (.ref l) (upd H l (.lst (ms.map V.int)))):=by
 intro pins s σ H xs us Q I r h
 obtain ⟨p,ns,rfl,hq,hb,q⟩:=h
 obtain ⟨u,rfl,rx⟩:=vals1 r
 cases rx
 obtain ⟨its,rv,pl,hz⟩:=I.list hq
 have hlen:its.length=ns.length:=by have:=rv.length; rw [List.length_map] at this; exact this.symm
 refine sorted_anyW (vs:=its) pl.isList (intsAre_of rv) (by omega) fun out ms hI hp hw => ?_
 obtain ⟨e,he⟩:=sortedAll_at s.heap its out
 have hl:ms.length=ns.length:=hp.length_eq
 refine ⟨.ref _,upd H (s.heap.objs.size + 1) (.lst (ms.map V.int)),I.laid (t':=s.toks) (fun b ob z => sortedAll_old z) (Nat.le_succ _) ⟨?_,out.toList,e,vals_ints hI,?_⟩,rfl,q _ ms (I.hok.fresh (Nat.le_succ _)) hp hw⟩
 ·rw [List.length_map,hl]
  exact Nat.le_trans (show ns.length ≤ 3000 from hb) (by decide)
 ·rw [he]
end
end L2
set_option maxHeartbeats 1000000
namespace L2
open PySem PySem.Spec PyProof.Rows
theorem smallW {n:Nat} (h:n ≤ 100000):n < sizeLine:=Nat.lt_of_le_of_lt h (by decide)
theorem compLW {K:PySem.W.Frag} {k:Nat} {a:Addr} {xs:List V} {g:TG} {tt:TT} {te:TE} {Q:VK} {σ:St} {H:Hp} (Pv:Nat→List V→Hp→Prop) (h0:Pv 0 [] H) (hb:xs.length ≤ 100000) (hz:∀ i ys H,Pv i ys H→ys.length ≤ i) (hl:∀ i ys H,i ≤ xs.length→Pv i ys H→SqL K H a xs)
  (hs:∀ i x ys H (pre:St),pre.length=k→xs[i]? = some x→Pv i ys H→g x (pre ++ σ) H fun σ' H2 => (∃ pre' : St,σ' = pre' ++ σ∧pre'.length=k)∧tt σ' H2 fun ok H3 => if ok=true then te σ' H3 fun y H4 => Pv (i + 1) (ys ++ [y]) H4 else Pv (i + 1) ys H3) (hd:∀ ys H,Pv xs.length ys H→∀ D,H D=none→Q (.ref D) (upd H D (.lst ys))):CGo k (Itl K a) g tt te Q σ H:=by
 refine ⟨fun i m ys H => m=xs.length - i∧i ≤ xs.length∧Pv i ys H,⟨xs.length,by simp,Nat.zero_le _,h0⟩,?_⟩
 rintro i m ys H ⟨rfl,hi,p⟩
 have q:=hl i ys H hi p
 by_cases hlt:i < xs.length
 ·refine .inr ⟨⟨xs,xs[i],q,by simp [hlt]⟩,Nat.lt_of_le_of_lt (hz i ys H p) (smallW (by omega)),Pv (i + 1),fun zs H' p' => ⟨xs.length - (i + 1),by omega,rfl,hlt,p'⟩,fun x H' pre hp y => ?_⟩
  obtain ⟨e,y⟩:=y
  subst e
  exact hs i x ys _ pre hp (y xs q) p
 ·have e:i=xs.length:=by omega
  subst e
  exact .inl ⟨⟨xs,q,Nat.le_refl _⟩,hd ys H p⟩
theorem compTW {K:PySem.W.Frag} {k:Nat} {a:Addr} {xs:List V} {g:TG} {tt:TT} {te:TE} {Q:VK} {σ:St} {H:Hp} (Pv:Nat→List V→Hp→Prop) (h0:Pv 0 [] H) (hb:xs.length ≤ 100000) (hz:∀ i ys H,Pv i ys H→ys.length ≤ i) (hl:∀ i ys H,i ≤ xs.length→Pv i ys H→SqT K H a xs)
  (hs:∀ i x ys H (pre:St),pre.length=k→xs[i]? = some x→Pv i ys H→g x (pre ++ σ) H fun σ' H2 => (∃ pre' : St,σ' = pre' ++ σ∧pre'.length=k)∧tt σ' H2 fun ok H3 => if ok=true then te σ' H3 fun y H4 => Pv (i + 1) (ys ++ [y]) H4 else Pv (i + 1) ys H3) (hd:∀ ys H,Pv xs.length ys H→∀ D,H D=none→Q (.ref D) (upd H D (.lst ys))):CGo k (Itt K a) g tt te Q σ H:=by
 refine ⟨fun i m ys H => m=xs.length - i∧i ≤ xs.length∧Pv i ys H,⟨xs.length,by simp,Nat.zero_le _,h0⟩,?_⟩
 rintro i m ys H ⟨rfl,hi,p⟩
 have q:=hl i ys H hi p
 by_cases hlt:i < xs.length
 ·refine .inr ⟨⟨xs,xs[i],q,by simp [hlt]⟩,Nat.lt_of_le_of_lt (hz i ys H p) (smallW (by omega)),Pv (i + 1),fun zs H' p' => ⟨xs.length - (i + 1),by omega,rfl,hlt,p'⟩,fun x H' pre hp y => ?_⟩
  obtain ⟨e,y⟩:=y
  subst e
  exact hs i x ys _ pre hp (y xs q) p
 ·have e:i=xs.length:=by omega
  subst e
  exact .inl ⟨⟨xs,q,Nat.le_refl _⟩,hd ys H p⟩
theorem compRW {k:Nat} {lo:Int} {n:Nat} {g:TG} {tt:TT} {te:TE} {Q:VK} {σ:St} {H:Hp} (Pv:Nat→List V→Hp→Prop) (h0:Pv 0 [] H) (hb:n ≤ 100000) (hz:∀ i ys H,Pv i ys H→ys.length ≤ i)
  (hs:∀ (i:Nat) ys H (pre:St),pre.length=k→i < n→Pv i ys H→g (.int (lo + i)) (pre ++ σ) H fun σ' H2 => (∃ pre' : St,σ' = pre' ++ σ∧pre'.length=k)∧tt σ' H2 fun ok H3 => if ok=true then te σ' H3 fun y H4 => Pv (i + 1) (ys ++ [y]) H4 else Pv (i + 1) ys H3) (hd:∀ ys H,Pv n ys H→∀ D,H D=none→Q (.ref D) (upd H D (.lst ys))):CGo k (Itr lo n) g tt te Q σ H:=by
 refine ⟨fun i m ys H => m=n - i∧i ≤ n∧Pv i ys H,⟨n,by simp,Nat.zero_le _,h0⟩,?_⟩
 rintro i m ys H ⟨rfl,hi,p⟩
 by_cases hlt:i < n
 ·refine .inr ⟨hlt,Nat.lt_of_le_of_lt (hz i ys H p) (smallW (by omega)),Pv (i + 1),fun zs H' p' => ⟨n - (i + 1),by omega,rfl,hlt,p'⟩,fun x H' pre hp y => ?_⟩
  obtain ⟨e,y⟩:=y
  subst e y
  exact hs i ys _ pre hp hlt p
 ·have e:i=n:=by omega
  subst e
  exact .inl ⟨Nat.le_refl _,hd ys H p⟩
end L2
set_option maxHeartbeats 4000000
namespace L2
open PySem PySem.Spec PyProof.Rows
theorem besideW_reads {K:PySem.W.Frag} {H:Hp} {Q:VK} {Z:L2.St→Hp→Prop} {b:Addr} {n:Nat} {ps:List V} {L:List (Nat × Nat)} (hb:H b=some (.lst ps)) (tL:TuL H ps (L.map pc)) (hn:n ≤ 2500) (hL:L.length ≤ 40000) (rg:∀ p ∈ L,p.1 < n∧p.2 < n)
  (k:∀ (c:Addr) (zs:List V) (gs:List (List (List Int))) (H' : Hp),Same H H'→H c=none→H' c=some (.lst zs)→LsL H' false zs gs→BsI n (dirL L) gs→Q (.ref c) H'):tBeside K { nx:=Z,rt:=Q } [some (nv n),some (.ref b),none,none,none] H:=by
 have e7:((n:Int)).toNat=n:=Int.toNat_natCast n
 refine ⟨_,rfl,(n:Int),rfl,by omega,by omega,compRW (lo:=0) (n:=((n:Int)).toNat) (fun i ys H' => LsL H' false ys (List.replicate i [])∧ys.Nodup∧Same H H'∧∀ y ∈ ys,∀ a,y = .ref a→H a=none) ⟨LsL.nil _ _,List.nodup_nil,Same.refl H,fun y hy => (by cases hy)⟩ (by omega) (fun i ys H' h => by rw [h.1.1,List.length_replicate]; exact Nat.le_refl _) ?_ ?_⟩
 ·rintro i ys H1 pre hpre hi ⟨l1,nd1,s1,f1⟩
  rcases pre with _ | ⟨q0,_ | ⟨q1,pre⟩⟩
  ·cases hpre
  ·refine ⟨⟨[some _],rfl,rfl⟩,?_⟩
   unfold tYes
   dsimp only
   rw [if_pos (rfl:true=true)]
   refine ⟨(by show 0 ≤ sizeLine; decide),fun p hp => ?_⟩
   have s2:=Same.nw (o:=.lst []) (Same.refl H1) hp
   refine ⟨?_,?_,s1.trans s2,fun y hy a e => ?_⟩
   ·rw [List.replicate_succ']
    exact LsL.snoc (l1.up s2) upd_same (ItL.nil _ _)
   ·rw [List.nodup_append]
    refine ⟨nd1,by simp,fun y hy z hz e => ?_⟩
    rw [List.mem_singleton.mp hz] at e
    obtain ⟨j,hj⟩:=List.mem_iff_getElem?.mp hy
    have jl:=(List.getElem?_eq_some_iff.mp hj).1
    obtain ⟨a,xs',ea,ha,_⟩:=l1.2 j y _ hj (List.getElem?_eq_getElem (by rw [← l1.1]; exact jl))
    rw [ea] at e
    cases e
    rw [hp] at ha
    cases ha
   ·rcases List.mem_append.mp hy with z | z
    ·exact f1 y z a e
    ·rw [List.mem_singleton.mp z] at e
     cases e
     exact s1.free hp
  ·cases hpre
 rintro zs H1 ⟨l1,nd1,s1,f1⟩ c hc
 rw [e7] at l1
 have s2:=Same.nw (o:=.lst zs) (Same.refl H1) hc
 have fc:(upd H1 c (.lst zs)) c=some (.lst zs):=upd_same
 have cf:H c=none:=s1.free hc
 have zc:∀ y ∈ zs,y ≠ .ref c:=fun y hy e => by
  obtain ⟨j,hj⟩:=List.mem_iff_getElem?.mp hy
  have jl:=(List.getElem?_eq_some_iff.mp hj).1
  obtain ⟨a,xs',ea,ha,_⟩:=l1.2 j y _ hj (List.getElem?_eq_getElem (by rw [← l1.1]; exact jl))
  rw [ea] at e
  cases e
  rw [hc] at ha
  cases ha
 generalize upd H1 c (.lst zs)=H2 at s2 fc ⊢
 have zl:zs.length=n:=by rw [l1.1,List.length_replicate]
 have lp:ps.length=L.length:=by rw [tL.1,List.length_map]
 have app:∀ (H' : Hp) (gs:List (List (List Int))) (D:List (Nat × Nat)) (x y:Nat),x < n→D.length ≤ 90000→Same H H'→Tups H2 H'→H' c=some (.lst zs)→LsL H' false zs gs→BsI n D gs→∃ (a:Addr) (ax:List V) (gs' : List (List (List Int))),zs[x]? = some (.ref a)∧H' a=some (.lst ax)∧ax.length < sizeLine∧Same H (upd H' a (.lst (ax ++ [nv y])))∧Tups H2 (upd H' a (.lst (ax ++ [nv y])))∧(upd H' a (.lst (ax ++ [nv y]))) c=some (.lst zs)∧LsL (upd H' a (.lst (ax ++ [nv y]))) false zs gs'∧BsI n (D ++ [(x,y)]) gs':=by
  intro H' gs D x y hx hD s' t' hc' l' B'
  obtain ⟨ms,eg,ml,_⟩:=B'.at' x hx
  have ez:zs[x]? = some zs[x]:=List.getElem?_eq_getElem (by omega)
  obtain ⟨a,ax,ea,ha,ia⟩:=l'.2 x _ _ ez eg
  rw [ea] at ez
  have nac:a ≠ c:=fun z => zc _ (List.mem_of_getElem? ez) (by rw [z])
  have af:H a=none:=f1 _ (List.mem_of_getElem? ez) a rfl
  have al:ax.length ≤ 90000:=by rw [ia.1,List.length_map]; omega
  exact ⟨a,ax,_,ez,ha,Nat.lt_of_le_of_lt al (by decide),s'.ow af,Tups.lst t' ha,by rw [upd_ne (Ne.symm nac)]; exact hc',LsL.put l' nd1 ez eg ha (.int _),B'.put hx eg⟩
 refine ⟨_,rfl,b,rfl,⟨_,SqL.of ((s1.trans s2) _ _ hb)⟩,for_list (K:=K) (a:=b) (xs:=ps) (fun i σ H' => ∃ (x3 x4:Option V) (gs:List (List (List Int))),σ=[some (nv n),some (.ref b),some (.ref c),x3,x4]∧Same H H'∧Tups H2 H'∧H' c=some (.lst zs)∧LsL H' false zs gs∧BsI n (dirL (L.take i)) gs) ⟨_,_,List.replicate n [],rfl,s1.trans s2,Tups.refl _,fc,l1.up s2,⟨by rw [List.length_replicate],fun j hj => ⟨[],by rw [List.getElem?_replicate,if_pos hj]; rfl,Nat.zero_le _,fun m => by simp [dirL]⟩⟩⟩ (fun i σ H' _ h => by obtain ⟨_,_,_,_,s',_⟩:=h; exact SqL.of (s' _ _ hb)) ?_ ?_⟩
 ·rintro i y σ H3 hy ⟨x3,x4,gs,rfl,s3,t3,hc3,l3,B3⟩
  obtain ⟨u,q,eu,rfl,hq⟩:=(tL.up s3.tups).take hy
  rw [List.getElem?_map] at eu
  cases eL:L[i]? with
  | none => rw [eL] at eu; cases eu
  | some p =>
   rw [eL] at eu
   cases eu
   have mp:p ∈ L:=List.mem_of_getElem? eL
   have il:i < L.length:=(List.getElem?_eq_some_iff.mp eL).1
   obtain ⟨r1,r2⟩:=rg p mp
   have dl:(dirL (L.take i)).length ≤ 80000:=by rw [dirL_len,List.length_take]; omega
   refine ⟨q,_,rfl,SqT.of hq,rfl,_,_,rfl,_,_,rfl,rfl,?_⟩
   obtain ⟨a,ax,gs4,ez,ha,al,s4,t4,hc4,l4,B4⟩:=app H3 gs _ p.1 p.2 r1 (by omega) s3 t3 hc3 l3 B3
   refine ⟨_,rfl,_,rfl,c,zs,_,.ref a,rfl,rfl,SqL.of hc3,atI_nat ez,.inl ⟨rfl,_,SqL.of ha⟩,_,rfl,a,ax,_,rfl,rfl,ha,al,?_⟩
   show _
   generalize hH4:upd H3 a (.lst (ax ++ [nv p.2]))=H4 at s4 t4 hc4 l4
   obtain ⟨a',ax',gs5,ez',ha',al',s5,t5,hc5,l5,B5⟩:=app H4 gs4 _ p.2 p.1 r2 (by rw [List.length_append]; simp; omega) s4 t4 hc4 l4 B4
   have hH4' : upd H3 a (.lst (ax ++ [V.int (p.2:Int)]))=H4:=hH4
   rw [hH4']
   refine ⟨_,rfl,_,rfl,c,zs,_,.ref a',rfl,rfl,SqL.of hc4,atI_nat ez',.inl ⟨rfl,_,SqL.of ha'⟩,_,rfl,a',ax',_,rfl,rfl,ha',al',?_⟩
   exact ⟨_,_,gs5,rfl,s5,t5,hc5,l5,by rw [take_succ' eL,dirL_snoc]; exact B5⟩
 ·rintro σ H3 ⟨x3,x4,gs,rfl,s3,t3,hc3,l3,B3⟩
  rw [List.take_of_length_le (by omega)] at B3
  exact ⟨_,rfl,k c zs gs H3 s3 cf hc3 l3 B3⟩
def tRoomW (K:PySem.W.Frag):TS:=tSeq (tAsg (tC (V.bl true)) (gSub (tVar 2) (tVar 0) rSetL)) (tSeq (tAsg (tLst (tCons (tVar 0) tNil)) (gName 3)) (tSeq (tAsg (tLst (tCons (tVar 0) tNil)) (gName 4)) (tSeq (tWhile (fun σ H_1 Q => tVar 4 σ H_1 fun x H' => ∃ k,TruV K x H' k∧Q k H') (tSeq (tAsg (tBM0 K "list" rPop (tVar 4)) (gName 5)) (tFor (iList K (tOp (rIxL K) (tVar 1) (tVar 5))) (gName 6) (tIfS (tNot (tB (tOp (rIxL K) (tVar 2) (tVar 6)))) (tSeq (tAsg (tC (V.bl true)) (gSub (tVar 2) (tVar 6) rSetL)) (tSeq (tDrop (tBM K "list" rAppend (tVar 3) (tCons (tVar 6) tNil))) (tDrop (tBM K "list" rAppend (tVar 4) (tCons (tVar 6) tNil))))) tNext)))) (tRet (tCB (fun xs H_1 Q => ∃ p ns,xs=[V.ref p]∧SqL K H_1 p (List.map V.int ns)∧ns.length ≤ 3000∧∀ (l:Addr) (ms:List Int),H_1 l=none→ms.Perm ns→List.Pairwise (fun x1 x2 => x1 ≤ x2) ms→Q (V.ref l) (upd H_1 l (HO.lst (List.map V.int ms)))) (tCons (tVar 3) tNil))))))
theorem roomW_reads {K:PySem.W.Frag} {H:Hp} {Q:VK} {Z:L2.St→Hp→Prop} {bd sn:Addr} {n s:Nat} {zs:List V} {gs:List (List (List Int))} {D:List (Nat × Nat)} {b0:List Bool} (hz:H bd=some (.lst zs)) (lz:LsL H false zs gs) (B:BsI n D gs) (hs:H sn=some (.lst (b0.map V.bl))) (hl:b0.length=n) (sl:s < n) (es:b0[s]? = some false) (n63:n ≤ 2500) (nz:∀ y ∈ zs,y ≠ .ref sn) (nb:bd ≠ sn) (rg:∀ u v,(u,v) ∈ D→v < n)
  (k:∀ (l:Addr) (ws vs:List Nat) (b' : List Bool) (H' : Hp),Bt sn H H'→H l=none→H' l=some (.lst (ws.map nv))→H' sn=some (.lst (b'.map V.bl))→RmI n D b0 b' s vs [] none→ws.Perm vs→ws.Pairwise (· < ·)→Q (.ref l) H'):tRoomW K { nx:=Z,rt:=Q } [some (nv s),some (.ref bd),some (.ref sn),none,none,none,none] H:=by
 refine ⟨_,rfl,_,rfl,sn,_,(s:Int),s,rfl,rfl,hs,by rw [List.length_map]; exact ixN_nat (by omega),?_⟩
 rw [map_set_bl]
 have o1:Bt sn H (upd H sn (.lst ((b0.set s true).map V.bl))):=Bt.at (fun _ _ _ e => e)
 have hs1:(upd H sn (.lst ((b0.set s true).map V.bl))) sn=some (.lst ((b0.set s true).map V.bl)):=upd_same
 generalize upd H sn (.lst ((b0.set s true).map V.bl))=H1 at o1 hs1 ⊢
 refine ⟨_,rfl,(by show 1 ≤ sizeLine; decide),fun r hr => ?_⟩
 refine ⟨_,rfl,(by show 1 ≤ sizeLine; decide),fun a ha => ?_⟩
 have rf:H r=none:=o1.free hs1 hr
 have ar:a ≠ r:=fun e => by rw [e,upd_same] at ha; cases ha
 have ha1:H1 a=none:=by rw [upd_ne ar] at ha; exact ha
 have st:Rst H (upd (upd H1 r (.lst [nv s])) a (.lst [nv s])) sn r a (b0.set s true) [s] [s] :=
  ⟨(o1.nw rf).nw (o1.free hs1 ha1),by rw [upd_ne (ne_of_none hs1 ha1),upd_ne (ne_of_none hs1 hr)]; exact hs1,by rw [upd_ne (Ne.symm ar)]; exact upd_same,upd_same,rf,o1.free hs1 ha1,Ne.symm ar,Ne.symm (ne_of_none hs1 hr),Ne.symm (ne_of_none hs1 ha1)⟩
 generalize upd (upd H1 r (.lst [nv s])) a (.lst [nv s])=H2 at st ⊢
 show tWhile (fun σ H_1 Q => tVar 4 σ H_1 fun x H' => ∃ k,TruV K x H' k∧Q k H') _ _ _ _
 refine while_by (fun σ H' => ∃ (x5 x6:Option V) (b:List Bool) (vs as:List Nat),σ=[some (nv s),some (.ref bd),some (.ref sn),some (.ref r),some (.ref a),x5,x6]∧Rst H H' sn r a b vs as∧RmI n D b0 b s vs as none∧as.length ≤ vs.length) (fun σ H' => match H' r,H' a with | some (.lst vs),some (.lst as) => 2 * (n - vs.length) + as.length | _,_ => 0) ⟨_,_,_,[s],[s],rfl,st,RmI.init hl sl es,Nat.le_refl _⟩ ?_ (fun σ H Q Q' h hc => by obtain ⟨v,e,t,tr,q⟩:=hc; exact ⟨v,e,t,tr,h _ _ q⟩)
 rintro σ H3 ⟨x5,x6,b,vs,as,rfl,st3,I3,av3⟩
 refine ⟨_,rfl,_,.inl ⟨_,SqL.of st3.ha,rfl⟩,?_⟩
 rcases List.eq_nil_or_concat as with rfl | ⟨as0,p,rfl⟩
 ·refine iteF ⟨_,rfl,r,vs.map fun m:Nat => (m:Int),rfl,?_,?_,fun l ms hl' pm pu => ?_⟩
  ·rw [List.map_map]
   exact SqL.of st3.hr
  ·rw [List.length_map]
   have:=I3.size
   omega
  ·obtain ⟨ws,e1,e2,e3⟩:=nat_sorted pm pu I3.nd
   rw [e1]
   exact k l ws vs b _ (st3.old.nw (st3.old.free st3.hs hl')) (st3.old.free st3.hs hl') upd_same (by rw [upd_ne (ne_of_none st3.hs hl')]; exact st3.hs) I3 e2 e3
 ·rw [List.concat_eq_append] at st3 I3 av3 ⊢
  rw [List.length_append] at av3
  have av4:as0.length + 1 ≤ vs.length:=av3
  rw [show (!((as0 ++ [p]).map nv).isEmpty)=true by simp]
  refine iteT ⟨_,rfl,.inl ⟨rfl,_,SqL.of st3.ha⟩,a,(as0 ++ [p]).map nv,nv p,rfl,rfl,st3.ha,by simp,?_⟩
  have mu0:(match H3 r,H3 a with | some (.lst vs),some (.lst as) => 2 * (n - vs.length) + as.length | _,_ => 0)=2 * (n - vs.length) + (as0.length + 1):=by
   rw [st3.hr,st3.ha]
   simp
  rw [mu0]
  have st4:=st3.pop
  obtain ⟨I4,pv⟩:=I3.pop
  rw [show ((as0 ++ [p]).map nv).dropLast=as0.map nv by simp]
  generalize upd H3 a (.lst (as0.map nv))=H4 at st4 ⊢
  have pl:p < n:=I4.lt p pv
  obtain ⟨ms,eg,ml,mm⟩:=B.at' p pl
  have zl:zs.length=n:=by rw [lz.1,B.len]
  have ez:zs[p]? = some zs[p]:=List.getElem?_eq_getElem (by omega)
  obtain ⟨lp,xs,ea,hp,ip⟩:=lz.2 p _ _ ez eg
  rw [ea] at ez
  have xe:=it_nv ip
  subst xe
  have lsn:lp ≠ sn:=fun e => nz _ (List.mem_of_getElem? ez) (by rw [e])
  refine ⟨_,rfl,_,rfl,bd,zs,(p:Int),.ref lp,rfl,rfl,SqL.of (st4.old _ _ nb hz),atI_nat ez,?_⟩
  refine ⟨lp,rfl,⟨_,SqL.of (st4.old _ _ lsn hp)⟩,for_list (K:=K) (a:=lp) (xs:=ms.map nv) (fun i σ H' => ∃ (x6:Option V) (b:List Bool) (vs' as:List Nat),σ=[some (nv s),some (.ref bd),some (.ref sn),some (.ref r),some (.ref a),some (nv p),x6]∧Rst H H' sn r a b vs' as∧RmI n D b0 b s vs' as (some p)∧p ∈ vs'∧(∀ j ∈ ms.take i,b[j]? = some true)∧as.length + vs.length=vs'.length + as0.length∧vs.length ≤ vs'.length) ⟨_,b,vs,as0,rfl,st4,I4,pv,fun j hj => (by rw [List.take_zero] at hj; cases hj),by omega,Nat.le_refl _⟩ (fun i σ H' _ h => by obtain ⟨_,_,_,_,_,s',_⟩:=h; exact SqL.of (s'.old _ _ lsn hp)) ?_ ?_⟩
  ·rintro i y σ H5 hy ⟨x6,b5,vs5,as5,rfl,st5,I5,pv5,tk5,cn5,le5⟩
   rw [List.getElem?_map] at hy
   cases em:ms[i]? with
   | none => rw [em] at hy; cases hy
   | some g =>
    rw [em] at hy
    cases hy
    have mg:g ∈ ms:=List.mem_of_getElem? em
    have gD:=(mm g).mp mg
    have gl:g < n:=rg p g gD
    have gb:g < b5.length:=by rw [I5.len]; exact gl
    have ez5:b5[g]? = some b5[g]:=List.getElem?_eq_getElem gb
    cases bg:b5[g] with
    | true =>
     rw [bg] at ez5
     refine ⟨_,rfl,_,rfl,sn,_,(g:Int),.bl true,rfl,rfl,SqL.of st5.hs,bl_at ez5,true,rfl,?_⟩
     refine iteF ?_
     refine ⟨_,b5,vs5,as5,rfl,st5,I5,pv5,fun j hj => ?_,cn5,le5⟩
     rw [take_succ' em] at hj
     rcases List.mem_append.mp hj with z | z
     ·exact tk5 j z
     ·rw [List.mem_singleton.mp z]; exact ez5
    | false =>
     rw [bg] at ez5
     refine ⟨_,rfl,_,rfl,sn,_,(g:Int),.bl false,rfl,rfl,SqL.of st5.hs,bl_at ez5,false,rfl,?_⟩
     refine iteT ?_
     refine ⟨_,rfl,_,rfl,sn,_,(g:Int),g,rfl,rfl,st5.hs,by rw [List.length_map,I5.len]; exact ixN_nat gl,?_⟩
     rw [map_set_bl]
     have st6:=st5.mark g
     generalize upd H5 sn (.lst ((b5.set g true).map V.bl))=H6 at st6 ⊢
     have I6:=I5.add pv5 gD gl ez5
     have vz:=I6.size
     rw [List.length_append] at vz
     have vz' : vs5.length + 1 ≤ n:=vz
     refine ⟨_,rfl,.inl ⟨rfl,_,SqL.of st6.hr⟩,_,rfl,r,_,nv g,rfl,rfl,st6.hr,by rw [List.length_map]; exact Nat.lt_of_le_of_lt (show vs5.length ≤ 3000 by omega) (by decide),?_⟩
     have st7:=st6.put (vs5 ++ [g])
     rw [show (vs5 ++ [g]).map nv=vs5.map nv ++ [nv g] by simp] at st7
     generalize upd H6 r (.lst (vs5.map nv ++ [nv g]))=H7 at st7 ⊢
     have al:as5.length ≤ 3000:=by omega
     refine ⟨_,rfl,.inl ⟨rfl,_,SqL.of st7.ha⟩,_,rfl,a,_,nv g,rfl,rfl,st7.ha,by rw [List.length_map]; exact Nat.lt_of_le_of_lt al (by decide),?_⟩
     have st8:=st7.putA (as5 ++ [g])
     rw [show (as5 ++ [g]).map nv=as5.map nv ++ [nv g] by simp] at st8
     refine ⟨_,b5.set g true,vs5 ++ [g],as5 ++ [g],rfl,st8,I6,List.mem_append_left _ pv5,fun j hj => ?_,by simp; omega,by simp; omega⟩
     rw [set_seen (by rw [I5.len]; exact gl)]
     rw [take_succ' em] at hj
     rcases List.mem_append.mp hj with z | z
     ·exact .inr (tk5 j z)
     ·exact .inl (List.mem_singleton.mp z)
  ·rintro σ H5 ⟨x6,b5,vs5,as5,rfl,st5,I5,pv5,tk5,cn5,le5⟩
   rw [List.length_map,List.take_of_length_le (Nat.le_refl _)] at tk5
   refine ⟨⟨_,_,b5,vs5,as5,rfl,st5,I5.fin fun j hj => tk5 j ((mm j).mpr hj),by omega⟩,?_⟩
   have sz:=I5.size
   show (match H5 r,H5 a with | some (.lst vs),some (.lst as) => 2 * (n - vs.length) + as.length | _,_ => 0) < _
   rw [st5.hr,st5.ha]
   simp only [List.length_map]
   omega
def spBesideW:Sp:=fun vs H Q _ => ∃ (b:Addr) (n:Nat) (ps:List V) (L:List (Nat × Nat)),vs=[nv n,.ref b]∧H b=some (.lst ps)∧TuL H ps (L.map pc)∧n ≤ 2500∧L.length ≤ 40000∧(∀ p ∈ L,p.1 < n∧p.2 < n)∧∀ (c:Addr) (zs:List V) (gs:List (List (List Int))) (H' : Hp),Same H H'→H c=none→H' c=some (.lst zs)→LsL H' false zs gs→BsI n (dirL L) gs→Q (.ref c) H'
def spRoomW:Sp:=fun vs H Q _ => ∃ (bd sn:Addr) (n s:Nat) (zs:List V) (gs:List (List (List Int))) (D:List (Nat × Nat)) (b0:List Bool),vs=[nv s,.ref bd,.ref sn]∧H bd=some (.lst zs)∧LsL H false zs gs∧BsI n D gs∧H sn=some (.lst (b0.map V.bl))∧b0.length=n∧s < n∧b0[s]? = some false∧n ≤ 2500∧(∀ y ∈ zs,y ≠ .ref sn)∧bd ≠ sn∧(∀ u v,(u,v) ∈ D→v < n) ∧
 ∀ (l:Addr) (ws vs:List Nat) (b' : List Bool) (H' : Hp),Bt sn H H'→H l=none→H' l=some (.lst (ws.map nv))→H' sn=some (.lst (b'.map V.bl))→RmI n D b0 b' s vs [] none→ws.Perm vs→ws.Pairwise (· < ·)→Q (.ref l) H'
def spLinkedW:Sp:=fun vs H Q _ => ∃ (b:Addr) (n:Nat) (ps:List V) (L:List (Nat × Nat)),vs=[nv n,.ref b]∧H b=some (.lst ps)∧TuL H ps (L.map pc)∧n ≤ 2500∧L.length ≤ 40000∧(∀ p ∈ L,p.1 < n∧p.2 < n)∧∀ (c:Addr) (zs:List V) (hs:List (List Nat)) (b' : List Bool) (H' : Hp),Same H H'→H c=none→H' c=some (.lst zs)→LsL H' false zs (hs.map (List.map nc))→LkI n (dirL L) n b' hs→(∀ y ∈ zs,∀ a,y = .ref a→H a=none)→Q (.ref c) H'
def tLinkedW (K:PySem.W.Frag):TS:=tSeq (tAsg (tCall spBesideW [] E0 (tCons (tVar 0) (tCons (tVar 1) tNil))) (gName 2)) (tSeq (tAsg (tOp rRep (tLst (tCons (tC (V.bl false)) tNil)) (tVar 0)) (gName 3)) (tSeq (tAsg (tLst tNil) (gName 4)) (tSeq (tFor (iRng1 (tCons (tVar 0) tNil)) (gName 5) (tIfS (tNot (tB (tOp (rIxL K) (tVar 3) (tVar 5)))) (tDrop (tBM K "list" rAppend (tVar 4) (tCons (tCall spRoomW [] E0 (tCons (tVar 5) (tCons (tVar 2) (tCons (tVar 3) tNil)))) tNil))) tNext)) (tRet (tVar 4)))))
theorem linkedW_reads {K:PySem.W.Frag} {H:Hp} {Q:VK} {Z:L2.St→Hp→Prop} {b:Addr} {n:Nat} {ps:List V} {L:List (Nat × Nat)} (hb:H b=some (.lst ps)) (tL:TuL H ps (L.map pc)) (hn:n ≤ 2500) (hL:L.length ≤ 40000) (rg:∀ p ∈ L,p.1 < n∧p.2 < n)
  (k:∀ (c:Addr) (zs:List V) (hs:List (List Nat)) (b' : List Bool) (H' : Hp),Same H H'→H c=none→H' c=some (.lst zs)→LsL H' false zs (hs.map (List.map nc))→LkI n (dirL L) n b' hs→(∀ y ∈ zs,∀ a,y = .ref a→H a=none)→Q (.ref c) H'):tLinkedW K { nx:=Z,rt:=Q } [some (nv n),some (.ref b),none,none,none,none] H:=by
 have sy:∀ u v,(u,v) ∈ dirL L→(v,u) ∈ dirL L:=fun u v h => mem_dirL.mpr ((mem_dirL.mp h).elim .inr .inl)
 have rD:∀ u v,(u,v) ∈ dirL L→v < n:=fun u v h => (mem_dirL.mp h).elim (fun q => (rg _ q).2) fun q => (rg _ q).1
 refine ⟨_,rfl,_,rfl,b,n,ps,L,rfl,hb,tL,by omega,hL,rg,fun bd zs gs H1 s1 bf hz lz B => ?_⟩
 refine ⟨(by show 1 ≤ sizeLine; decide),fun p hp => ?_⟩
 have s2:=Same.nw (o:=.lst [.bl false]) (Same.refl H1) hp
 have fp:(upd H1 p (.lst [.bl false])) p=some (.lst [.bl false]):=upd_same
 generalize upd H1 p (.lst [.bl false])=H2 at s2 fp ⊢
 refine ⟨_,rfl,p,(n:Int),[.bl false],rfl,rfl,fp,by omega,by omega,Nat.le_trans (show [V.bl false].length * ((n:Int)).toNat ≤ 2500 by simp; omega) (by decide),fun sn hsn => ?_⟩
 rw [Int.toNat_natCast,rep_one,show List.replicate n (V.bl false)=(List.replicate n false).map V.bl by rw [List.map_replicate]]
 have s3:=Same.nw (o:=.lst ((List.replicate n false).map V.bl)) (Same.refl H2) hsn
 have fs:(upd H2 sn (.lst ((List.replicate n false).map V.bl))) sn=some (.lst ((List.replicate n false).map V.bl)):=upd_same
 generalize upd H2 sn (.lst ((List.replicate n false).map V.bl))=H3 at s3 fs ⊢
 refine ⟨(by show 0 ≤ sizeLine; decide),fun c hc => ?_⟩
 have s4:=Same.nw (o:=.lst []) (Same.refl H3) hc
 have fc:(upd H3 c (.lst [])) c=some (.lst []):=upd_same
 generalize upd H3 c (.lst [])=H4 at s4 fc ⊢
 have s14:Same H1 H4:=s2.trans (s3.trans s4)
 have s04:Same H H4:=s1.trans s14
 have sn1:H1 sn=none:=s2.free hsn
 have c1:H1 c=none:=(s2.trans s3).free hc
 have nzs:=lz.avoid sn1
 have nzc:=lz.avoid c1
 have nbs:bd ≠ sn:=ne_of_none hz sn1
 have nbc:bd ≠ c:=ne_of_none hz c1
 have nsc:sn ≠ c:=ne_of_none fs hc
 have sn0:H sn=none:=s1.free sn1
 have c0:H c=none:=s1.free c1
 refine ⟨_,rfl,(n:Int),rfl,by omega,by omega,for_range (lo:=0) (n:=((n:Int)).toNat) (fun i σ H' => ∃ (x5:Option V) (b' : List Bool) (ys:List V) (hs:List (List Nat)),σ=[some (nv n),some (.ref b),some (.ref bd),some (.ref sn),some (.ref c),x5]∧Same H H'∧H' bd=some (.lst zs)∧LsL H' false zs gs∧H' sn=some (.lst (b'.map V.bl))∧H' c=some (.lst ys)∧LsL H' false ys (hs.map (List.map nc))∧(∀ y ∈ ys,y ≠ .ref sn∧y ≠ .ref c∧∀ a,y = .ref a→H a=none)∧LkI n (dirL L) i b' hs∧hs.length ≤ i) ⟨_,_,[],[],rfl,s04,s14 _ _ hz,lz.up s14,s4 _ _ fs,fc,LsL.nil _ _,fun y hy => (by cases hy),LkI.init n _,Nat.le_refl _⟩ ?_ ?_⟩
 ·rintro i σ H5 hi ⟨x5,b5,ys,hs,rfl,s5,hz5,lz5,hs5,hc5,ly5,nv5,I5,hl5⟩
  rw [Int.toNat_natCast] at hi
  rw [Int.zero_add]
  have ib:i < b5.length:=by rw [I5.len]; exact hi
  have eb:b5[i]? = some b5[i]:=List.getElem?_eq_getElem ib
  cases bi:b5[i] with
  | true =>
   rw [bi] at eb
   refine ⟨_,rfl,_,rfl,sn,_,(i:Int),.bl true,rfl,rfl,SqL.of hs5,bl_at eb,true,rfl,?_⟩
   exact iteF ⟨_,b5,ys,hs,rfl,s5,hz5,lz5,hs5,hc5,ly5,nv5,I5.skip hi eb,by omega⟩
  | false =>
   rw [bi] at eb
   refine ⟨_,rfl,_,rfl,sn,_,(i:Int),.bl false,rfl,rfl,SqL.of hs5,bl_at eb,false,rfl,?_⟩
   refine iteT ⟨_,rfl,.inl ⟨rfl,_,SqL.of hc5⟩,_,rfl,_,rfl,_,rfl,bd,sn,n,i,zs,gs,dirL L,b5,rfl,hz5,lz5,B,hs5,I5.len,hi,eb,hn,nzs,nbs,rD,fun l ws vs b6 H6 t6 lf hl6 hs6 R6 pw up => ?_⟩
   have hc6:=t6 _ _ (Ne.symm nsc) hc5
   have yl:ys.length ≤ 2500:=by rw [ly5.1,List.length_map]; omega
   refine ⟨c,ys,.ref l,rfl,rfl,hc6,Nat.lt_of_le_of_lt (show ys.length ≤ 2500 from yl) (by decide),?_⟩
   have s6:Same H H6:=fun q o e => t6 q o (ne_of_none e sn0) (s5 q o e)
   have lc:l ≠ c:=fun z => by rw [z,hc5] at lf; cases lf
   have ls:l ≠ sn:=fun z => by rw [z,hs5] at lf; cases lf
   have lz6:=lz5.bt t6 hs5 nzs
   have ly6:=LsL.snoc (ly5.bt t6 hs5 fun y hy => (nv5 y hy).1) hl6 (nv_it ws)
   have nv6:∀ y ∈ ys ++ [.ref l],y ≠ .ref sn∧y ≠ .ref c∧∀ a,y = .ref a→H a=none:=fun y hy => by
    rcases List.mem_append.mp hy with z | z
    ·exact nv5 y z
    ·rw [List.mem_singleton.mp z]
     exact ⟨fun e => ls (V.ref.inj e),fun e => lc (V.ref.inj e),fun a e => by cases e; exact s5.free lf⟩
   refine ⟨_,b6,ys ++ [.ref l],hs ++ [ws],rfl,s6.ow c0,by rw [upd_ne nbc]; exact t6 _ _ nbs hz5,lz6.set hc6 nzc,by rw [upd_ne nsc]; exact hs6,upd_same,?_,nv6,I5.room hi R6 pw up sy rD,by rw [List.length_append]; simp; omega⟩
   rw [List.map_append]
   exact ly6.set hc6 fun y hy => (nv6 y hy).2.1
 ·rintro σ H5 ⟨x5,b5,ys,hs,rfl,s5,hz5,lz5,hs5,hc5,ly5,nv5,I5,hl5⟩
  rw [Int.toNat_natCast] at I5
  exact ⟨_,rfl,k c ys hs b5 H5 s5 c0 hc5 ly5 I5 fun y hy => (nv5 y hy).2.2⟩
end L2
set_option maxHeartbeats 1000000
namespace L2
open PySem PySem.Spec PyProof.Rows
def CpL (H:Hp) (ys:List V) (vss:List (List V)):Prop:=ys.length=vss.length∧∀ (i:Nat) (y:V) (vs:List V),ys[i]? = some y→vss[i]? = some vs→∃ q:Addr,y = .ref q∧H q=some (.tup vs)
theorem CpL.nil (H:Hp):CpL H [] []:=⟨rfl,fun i y vs h => by cases h⟩
theorem CpL.up {H H' : Hp} {ys:List V} {vss:List (List V)} (h:CpL H ys vss) (t:Tups H H'):CpL H' ys vss:=⟨h.1,fun i y vs h1 h2 => by
 obtain ⟨q,e,hq⟩:=h.2 i y vs h1 h2
 exact ⟨q,e,t _ _ hq⟩⟩
theorem CpL.snoc {H:Hp} {ys:List V} {vss:List (List V)} {q:Addr} {vs:List V} (h:CpL H ys vss) (hq:H q=some (.tup vs)):CpL H (ys ++ [.ref q]) (vss ++ [vs]):=by
 refine ⟨by rw [List.length_append,List.length_append,h.1]; rfl,fun i y us h1 h2 => ?_⟩
 by_cases c:i < ys.length
 ·rw [List.getElem?_append_left c] at h1
  rw [List.getElem?_append_left (h.1 ▸ c)] at h2
  exact h.2 i y us h1 h2
 ·rw [List.getElem?_append_right (by omega)] at h1
  rw [List.getElem?_append_right (by rw [← h.1]; omega),← h.1] at h2
  have:i - ys.length=0:=by
   have:=(List.getElem?_eq_some_iff.mp h1).1
   simp at this
   omega
  rw [this] at h1 h2
  cases h1
  cases h2
  exact ⟨q,rfl,hq⟩
end L2
namespace L2
open PySem PySem.Spec PyProof.Rows
def fV:V→PyData
 | .int i => .int i
 | .bl b => .bool b
 | _ => .none
def FlatV (vs:List V):Prop:=∀ v ∈ vs,(∃ i,v = .int i) ∨ ∃ b,v = .bl b
def dCp (vs:List V):PyData:=.tuple (vs.map fV)
theorem fV_di {K:PySem.W.Frag} {H:Hp} {v:V} (h:(∃ i,v = .int i) ∨ ∃ b,v = .bl b):DI K H v (fV v):=by
 rcases h with ⟨i,rfl⟩ | ⟨b,rfl⟩
 ·exact .int i
 ·exact .bl b
theorem dCp_di {K:PySem.W.Frag} {H:Hp} {q:Addr} {vs:List V} (hq:H q=some (.tup vs)) (hf:FlatV vs):DI K H (.ref q) (dCp vs):=by
 refine .tup (SqT.of hq) (by rw [List.length_map]) fun i x d h1 h2 => ?_
 rw [List.getElem?_map,h1] at h2
 cases h2
 exact fV_di (hf x (List.mem_of_getElem? h1))
theorem lay_fVs:∀ vs:List V,PyData.canLayAll0 (vs.map fV)=true
 | [] => rfl
 | v :: r => by
  show ((fV v).canLay0 && PyData.canLayAll0 (r.map fV))=true
  rw [lay_fVs r,Bool.and_true]
  cases v <;> rfl
theorem lay_dCp (vs:List V):(dCp vs).canLay0=true:=lay_fVs vs
theorem dep_fVs:∀ vs:List V,PyData.depthAll (vs.map fV)=0
 | [] => rfl
 | v :: r => by
  show max (fV v).depth (PyData.depthAll (r.map fV))=0
  rw [dep_fVs r]
  cases v <;> rfl
theorem dep_dCp (vs:List V):(dCp vs).depth=1:=by show PyData.depthAll _ + 1=1; rw [dep_fVs]
theorem CpL.di {K:PySem.W.Frag} {H:Hp} {p:Addr} {ys:List V} {vss:List (List V)} (h:CpL H ys vss) (hp:SqL K H p ys) (hf:∀ vs ∈ vss,FlatV vs):DI K H (.ref p) (.list (vss.map dCp)):=by
 refine .lst hp (by rw [List.length_map]; exact h.1) fun i x d h1 h2 => ?_
 rw [List.getElem?_map] at h2
 cases e:vss[i]? with
 | none => rw [e] at h2; cases h2
 | some vs =>
  rw [e] at h2
  cases h2
  obtain ⟨q,rfl,hq⟩:=h.2 i x vs h1 e
  exact dCp_di hq (hf vs (List.mem_of_getElem? e))
theorem lay_dCps:∀ vss:List (List V),PyData.canLayAll0 (vss.map dCp)=true
 | [] => rfl
 | v :: r => by
  show ((dCp v).canLay0 && PyData.canLayAll0 (r.map dCp))=true
  rw [lay_dCps r,lay_dCp]
  rfl
theorem dep_dCps:∀ vss:List (List V),PyData.depthAll (vss.map dCp) ≤ 1
 | [] => Nat.zero_le _
 | v :: r => by
  show max (dCp v).depth (PyData.depthAll (r.map dCp)) ≤ 1
  have:=dep_dCps r
  rw [dep_dCp]
  omega
def dHall (n:Int) (vss:List (List V)) (L:List (Int × List Int)):PyData:=.tuple [.int n,.list (vss.map dCp),dL L]
theorem lay_dHall (n:Int) (vss:List (List V)) (L:List (Int × List Int)):(dHall n vss L).canLay0=true:=by
 show (true && (PyData.canLayAll0 (vss.map dCp) && ((dL L).canLay0 && true)))=true
 rw [lay_dCps,lay_dL]
 rfl
theorem dep_dHall (n:Int) (vss:List (List V)) (L:List (Int × List Int)):(dHall n vss L).depth ≤ 60:=by
 show max 0 (max (PyData.depthAll (vss.map dCp) + 1) (max (PyData.depthAll (L.map dE) + 1) 0)) + 1 ≤ 60
 have:=dep_dCps vss
 have:=dep_dEs L
 omega
theorem hall_di {K:PySem.W.Frag} {H:Hp} {p pa pb:Addr} {n:Int} {ya yb:List V} {vss:List (List V)} {L:List (Int × List Int)} (hp:H p=some (.tup [.int n,.ref pa,.ref pb])) (ha:H pa=some (.lst ya)) (ca:CpL H ya vss) (hf:∀ vs ∈ vss,FlatV vs) (hb:H pb=some (.lst yb)) (wb:Wg H yb L):DI K H (.ref p) (dHall n vss L):=by
 refine .tup (SqT.of hp) rfl fun i x d h1 h2 => ?_
 rcases i with _ | _ | _ | i
 ·cases h1; cases h2; exact .int _
 ·cases h1; cases h2; exact ca.di (SqL.of ha) hf
 ·cases h1; cases h2; exact Wg.di wb (SqL.of hb)
 ·cases h1
end L2
namespace L2
open PySem PySem.Spec PyProof.Rows
theorem TuL.get {H:Hp} {xs:List V} {us:List (List Int)} (h:TuL H xs us) {i:Nat} {u:List Int} (e:us[i]? = some u):∃ a:Addr,H a=some (.tup (u.map V.int))∧xs[i]? = some (.ref a):=by
 have il:i < xs.length:=by rw [h.1]; exact (List.getElem?_eq_some_iff.mp e).1
 obtain ⟨a,ea,ha⟩:=h.2 i _ u (List.getElem?_eq_getElem il) e
 exact ⟨a,ha,by rw [List.getElem?_eq_getElem il,ea]⟩
end L2
namespace L2
open PySem PySem.Spec PyProof.Rows
abbrev PR:=Int × Int × Int × Bool
def pV (p:PR):List V:=[.int p.1,.int p.2.1,.int p.2.2.1,.bl p.2.2.2]
theorem pV_flat (p:PR):FlatV (pV p):=fun v hv => by
 simp only [pV,List.mem_cons,List.not_mem_nil,or_false] at hv
 rcases hv with rfl | rfl | rfl | rfl
 ·exact .inl ⟨_,rfl⟩
 ·exact .inl ⟨_,rfl⟩
 ·exact .inl ⟨_,rfl⟩
 ·exact .inr ⟨_,rfl⟩
theorem pVs_flat (ps:List PR):∀ vs ∈ ps.map pV,FlatV vs:=fun vs h => by
 obtain ⟨p,_,rfl⟩:=List.mem_map.mp h
 exact pV_flat p
abbrev WL2:=List (Int × List Int)
structure HallAt (H:Hp) (a pa pb:Addr) (n:Int) (ps:List PR) (L:WL2) (ya yb:List V):Prop where
 h:H a=some (.tup [.int n,.ref pa,.ref pb])
 ha:H pa=some (.lst ya)
 ca:CpL H ya (ps.map pV)
 hb:H pb=some (.lst yb)
 wb:Wg H yb L
theorem HallAt.up {H H' : Hp} {a pa pb:Addr} {n:Int} {ps:List PR} {L:WL2} {ya yb:List V} (x:HallAt H a pa pb n ps L ya yb) (s:Same H H'):HallAt H' a pa pb n ps L ya yb :=
 ⟨s _ _ x.h,s _ _ x.ha,x.ca.up s.tups,s _ _ x.hb,x.wb.up s.tups⟩
theorem HallAt.di {K:PySem.W.Frag} {H:Hp} {a pa pb:Addr} {n:Int} {ps:List PR} {L:WL2} {ya yb:List V} (x:HallAt H a pa pb n ps L ya yb):DI K H (.ref a) (dHall n (ps.map pV) L):=hall_di x.h x.ha x.ca (pVs_flat ps) x.hb x.wb
theorem HallAt.len {H:Hp} {a pa pb:Addr} {n:Int} {ps:List PR} {L:WL2} {ya yb:List V} (x:HallAt H a pa pb n ps L ya yb):ya.length=ps.length:=by rw [x.ca.1,List.length_map]
theorem HallAt.at {H:Hp} {a pa pb:Addr} {n:Int} {ps:List PR} {L:WL2} {ya yb:List V} (x:HallAt H a pa pb n ps L ya yb) {k:Nat} {p:PR} (e:ps[k]? = some p):∃ q:Addr,ya[k]? = some (.ref q)∧H q=some (.tup (pV p)):=by
 have il:k < ya.length:=by rw [x.len]; exact (List.getElem?_eq_some_iff.mp e).1
 obtain ⟨q,eq,hq⟩:=x.ca.2 k _ (pV p) (List.getElem?_eq_getElem il) (by rw [List.getElem?_map,e]; rfl)
 exact ⟨q,by rw [List.getElem?_eq_getElem il,eq],hq⟩
def SrL (H:Hp) (ys:List V) (S:List (List Int × Int)):Prop:=ys.length=S.length∧∀ (i:Nat) (y:V) (e:List Int × Int),ys[i]? = some y→S[i]? = some e→∃ q w:Addr,y = .ref q∧H q=some (.tup [.ref w,.int e.2])∧H w=some (.tup (e.1.map V.int))
def dSrt (S:List (List Int × Int)):PyData:=.list (S.map fun e => .tuple [dT e.1,.int e.2])
theorem SrL.di {K:PySem.W.Frag} {H:Hp} {p:Addr} {ys:List V} {S:List (List Int × Int)} (h:SrL H ys S) (hp:SqL K H p ys):DI K H (.ref p) (dSrt S):=by
 refine .lst hp (by rw [List.length_map]; exact h.1) fun i x d h1 h2 => ?_
 rw [List.getElem?_map] at h2
 cases e:S[i]? with
 | none => rw [e] at h2; cases h2
 | some z =>
  rw [e] at h2
  cases h2
  obtain ⟨q,w,rfl,hq,hw⟩:=h.2 i x z h1 e
  refine .tup (SqT.of hq) rfl fun j x d z1 z2 => ?_
  rcases j with _ | _ | j
  ·cases z1; cases z2; exact di_ints hw
  ·cases z1; cases z2; exact .int _
  ·cases z1
theorem lay_srts:∀ S:List (List Int × Int),PyData.canLayAll0 (S.map fun e => .tuple [dT e.1,.int e.2])=true
 | [] => rfl
 | e :: r => by
  show (((dT e.1).canLay0 && (true && true)) && PyData.canLayAll0 (r.map fun e => .tuple [dT e.1,.int e.2]))=true
  rw [lay_srts r,lay_dT]
  rfl
theorem cut_from (xs:List V) {k:Nat} (h:k ≤ xs.length):cutV xs (some (k:Int)) none=xs.drop k:=by
 unfold cutV
 rw [HT.sIx_nat,HT.sIx_none,Nat.min_eq_left h,List.take_of_length_le (by rw [List.length_drop]; exact Nat.le_refl _)]
end L2
namespace L2
open PySem PySem.Spec PyProof.Rows
theorem compILW {K:PySem.W.Frag} {k:Nat} {a:Addr} {xs:List V} {g:TG} {tt:TT} {te:TE} {N:List V→Hp→Prop} {σ σ1:St} {ys:List V} {H:Hp} (Pv:Nat→List V→St→Hp→Prop) (h0:Pv 0 ys σ1 H) (hz:∀ i ys σ' H,Pv i ys σ' H→ys.length ≤ 100000) (hl:∀ i ys σ' H,i ≤ xs.length→Pv i ys σ' H→SqL K H a xs)
  (hs:∀ i x ys σ' H,xs[i]? = some x→Pv i ys σ' H→g x σ' H fun σ2 H2 => (∃ pre' : St,σ2=pre' ++ σ∧pre'.length=k)∧tt σ2 H2 fun ok H3 => if ok=true then te σ2 H3 fun y H4 => Pv (i + 1) (ys ++ [y]) σ2 H4 else Pv (i + 1) ys σ2 H3) (hd:∀ ys σ' H,Pv xs.length ys σ' H→N ys H):CGi k (Itl K a) g tt te N σ ys σ1 H:=by
 refine ⟨fun i m ys σ' H => m=xs.length - i∧i ≤ xs.length∧Pv i ys σ' H,⟨xs.length,by simp,Nat.zero_le _,h0⟩,?_⟩
 rintro i m ys σ' H ⟨rfl,hi,p⟩
 have q:=hl i ys σ' H hi p
 by_cases hlt:i < xs.length
 ·refine .inr ⟨⟨xs,xs[i],q,by simp [hlt]⟩,Nat.lt_of_le_of_lt (hz i ys σ' H p) (by decide),Pv (i + 1),fun zs σ2 H' p' => ⟨xs.length - (i + 1),by omega,rfl,hlt,p'⟩,fun x H' y => ?_⟩
  obtain ⟨e,y⟩:=y
  subst e
  exact hs i x ys σ' _ (y xs q) p
 ·have e:i=xs.length:=by omega
  subst e
  exact .inl ⟨⟨xs,q,Nat.le_refl _⟩,hd ys σ' H p⟩
def PrW (n:Nat) (p:PR):Prop:=0 ≤ p.1∧p.1 ≤ p.2.1∧1 ≤ p.2.2.1∧p.2.1 + p.2.2.1 ≤ (n:Int)
def lnk (p:PR) (i:Nat):Nat × Nat:=((p.1 + (i:Int)).toNat,(if p.2.2.2=true then p.2.1 + p.2.2.1 - 1 - (i:Int) else p.2.1 + (i:Int)).toNat)
def prL (p:PR):List (Nat × Nat):=(List.range p.2.2.1.toNat).map (lnk p)
def psL (ps:List PR):List (Nat × Nat):=(ps.map prL).flatten
theorem psL_snoc (ps:List PR) (p:PR):psL (ps ++ [p])=psL ps ++ prL p:=by simp [psL]
theorem prL_len (p:PR):(prL p).length=p.2.2.1.toNat:=by simp [prL]
theorem lnk_pc {n:Nat} {p:PR} (h:PrW n p) {i:Nat} (hi:i < p.2.2.1.toNat):pc (lnk p i)=[p.1 + (i:Int),if p.2.2.2=true then p.2.1 + p.2.2.1 - 1 - (i:Int) else p.2.1 + (i:Int)]:=by
 obtain ⟨a,b,c,d⟩:=h
 unfold pc lnk
 dsimp only
 rw [Int.toNat_of_nonneg (by omega),Int.toNat_of_nonneg (by split <;> omega)]
theorem prL_lt {n:Nat} {p:PR} (h:PrW n p):∀ q ∈ prL p,q.1 < n∧q.2 < n:=fun q hq => by
 obtain ⟨i,hi,rfl⟩:=List.mem_map.mp hq
 rw [List.mem_range] at hi
 obtain ⟨a,b,c,d⟩:=h
 unfold lnk
 dsimp only
 constructor
 ·omega
 ·split <;> omega
theorem psL_lt {n:Nat} {ps:List PR} (h:∀ p ∈ ps,PrW n p):∀ q ∈ psL ps,q.1 < n∧q.2 < n:=fun q hq => by
 obtain ⟨l,hl,hq⟩:=List.mem_flatten.mp hq
 obtain ⟨p,hp,rfl⟩:=List.mem_map.mp hl
 exact prL_lt (h p hp) q hq
theorem psL_len {n:Nat} : ∀ {ps:List PR},(∀ p ∈ ps,PrW n p)→(psL ps).length ≤ ps.length * n
 | [],_ => Nat.zero_le _
 | p :: ps,h => by
  have e:psL (p :: ps)=prL p ++ psL ps:=by simp [psL]
  rw [e,List.length_append,prL_len,List.length_cons,Nat.succ_mul]
  have:=psL_len fun q hq => h q (List.mem_cons_of_mem _ hq)
  obtain ⟨a,b,c,d⟩:=h p List.mem_cons_self
  omega
theorem perm_uniS {α:Type} {r:α→α→Prop} (as:∀ x y,r x y→r y x→False):∀ (a b:List α),a.Perm b→a.Pairwise r→b.Pairwise r→a=b
 | [],b,p,_,_ => p.nil_eq
 | x :: a,[],p,_,_ => absurd p.length_eq (by simp)
 | x :: a,y :: b,p,h1,h2 => by
  have exy:x=y:=by
   rcases List.mem_cons.mp (p.subset List.mem_cons_self) with e | e
   ·exact e
   ·rcases List.mem_cons.mp (p.symm.subset List.mem_cons_self) with f | f
    ·exact f.symm
    ·exact (as x y ((List.pairwise_cons.mp h1).1 y f) ((List.pairwise_cons.mp h2).1 x e)).elim
  subst exy
  rw [perm_uniS as a b (List.Perm.cons_inv p) (List.pairwise_cons.mp h1).2 (List.pairwise_cons.mp h2).2]
theorem lk_uni {n:Nat} {D:List (Nat × Nat)} {b b' : List Bool} {hs gs:List (List Nat)} (h:LkI n D n b hs) (g:LkI n D n b' gs):hs=gs :=
 h.parts.uni (lt:=fun x y => x < y) (ll:=fun g h => ∃ x t y u,g=x :: t∧h=y :: u∧x < y) (perm_uniS fun x y h1 h2 => absurd h1 (by omega)) (perm_uniS fun x y h1 h2 => by
  obtain ⟨a,t,b,u,e1,e2,l1⟩:=h1
  obtain ⟨c,t',d,u',e3,e4,l2⟩:=h2
  rw [e1] at e4
  rw [e2] at e3
  cases e4
  cases e3
  omega) g.parts List.nodup_range h.up g.up h.hds g.hds
theorem lay_ms:∀ us:List Nat,PyData.canLayAll0 (us.map fun m:Nat => .int (m:Int))=true
 | [] => rfl
 | m :: us => by
  show (true && PyData.canLayAll0 (us.map fun m:Nat => .int (m:Int)))=true
  rw [lay_ms us]; rfl
theorem dep_ms:∀ us:List Nat,PyData.depthAll (us.map fun m:Nat => .int (m:Int)) ≤ 0
 | [] => Nat.zero_le _
 | m :: us => by
  show max 0 (PyData.depthAll (us.map fun m:Nat => .int (m:Int))) ≤ 0
  have:=dep_ms us
  omega
end L2
namespace L2
open PySem PySem.Spec PyProof.Rows
section
variable {K:PySem.W.Frag} {H:Hp} {Q:VK} {Z:L2.St→Hp→Prop}
def PurseW (H:Hp) (d:Addr):Prop:=∃ a b:Int,H d=some (.lst [.int a,.int b])∧0 ≤ b∧b < 2147483648
def ButW (d:Addr) (H H' : Hp):Prop:=∀ c o,H c=some o→c ≠ d→H' c=some o
theorem ButW.refl (d:Addr) (H:Hp):ButW d H H:=fun _ _ e _ => e
theorem ButW.trans {d:Addr} {H H1 H2:Hp} (a:ButW d H H1) (b:ButW d H1 H2):ButW d H H2:=fun c o e n => b c o (a c o e n) n
theorem ButW.new {d p:Addr} {H H' : Hp} {o:HO} (a:ButW d H H') (h:H' p=none):ButW d H (L2.upd H' p o):=fun c u e n => by
 have:=a c u e n
 rw [upd_ne (ne_of_none this h)]; exact this
theorem ButW.own {d p:Addr} {H H' : Hp} {o:HO} (B:ButW d H H') (h:H p=none):ButW d H (L2.upd H' p o):=fun c u e n => by
 rw [upd_ne (ne_of_none e h)]; exact B c u e n
theorem ButW.same {d:Addr} {H H1 H2:Hp} (B:ButW d H H1) (s:Same H1 H2):ButW d H H2:=fun c o e n => s c o (B c o e n)
theorem Same.butW {d:Addr} {H0 H H' : Hp} (s:Same H0 H) (f:H0 d=none) (e:ButW d H H'):Same H0 H':=fun b o q => e b o (s b o q) (fun z => by rw [z,f] at q; cases q)
theorem PurseW.new {d p:Addr} {H:Hp} {o:HO} (a:PurseW H d) (h:H p=none):PurseW (L2.upd H p o) d:=by
 obtain ⟨x,y,e,r⟩:=a
 exact ⟨x,y,by rw [upd_ne (ne_of_none e h)]; exact e,r⟩
theorem PurseW.at {d p:Addr} {H:Hp} {o:HO} (a:PurseW H d) (h:p ≠ d):PurseW (L2.upd H p o) d:=by
 obtain ⟨x,y,e,r⟩:=a
 exact ⟨x,y,by rw [upd_ne (Ne.symm h)]; exact e,r⟩
theorem PurseW.ne {d p:Addr} {H:Hp} (a:PurseW H d) (h:H p=none):p ≠ d:=by
 obtain ⟨x,y,e,_⟩:=a
 rintro rfl
 rw [e] at h; cases h
theorem ButW.tups {d:Addr} {H H' : Hp} (B:ButW d H H') (P:PurseW H d):Tups H H':=fun b ys e => B b _ e (fun z => by
 obtain ⟨x,y,e',_⟩:=P
 rw [z,e'] at e; cases e)
def spTakeW:Sp:=fun vs H Q _ => ∃ (d:Addr) (m:Int),vs=[.ref d,.int m]∧PurseW H d∧0 < m∧m < 10 ^ 100∧∀ (r:Int) (H' : Hp),0 ≤ r→r < m→PurseW H' d→ButW d H H'→Q (.int r) H'
def spWideW:Sp:=fun vs H Q _ => ∃ (d:Addr),vs=[.ref d]∧PurseW H d∧∀ (r:Int) (H' : Hp),1 ≤ r→r ≤ 24→PurseW H' d→ButW d H H'→Q (.int r) H'
structure FitW (wd:Int) (lg:Int) (L:Toy.Wl):Prop where
 nrm:Toy.Nrm wd.toNat L
 len:L.length ≤ 41
 sum:tot L=lg
 num:∀ e ∈ L,∀ z ∈ e.2,-(10 ^ 62) < z∧z < 10 ^ 62
def spFittedW:Sp:=fun vs H Q _ => ∃ (d:Addr) (wd lg:Int),vs=[.ref d,.int wd,.int lg]∧PurseW H d∧1 ≤ wd∧wd ≤ 24∧0 ≤ lg∧lg < 10 ^ 63∧∀ (b:Addr) (ys:List V) (L:Toy.Wl) (H' : Hp),b ≠ d→H' b=some (.lst ys)→Wg H' ys L→FitW wd lg L→PurseW H' d→ButW d H H'→Q (.ref b) H'
end
end L2
namespace L2
open PySem PySem.Spec PyProof.Rows
section
variable {prog:Program} {w:World} {A:Around} {E:Value→Shared→Prop} {s:Shared}
theorem sort_pairsW {a:Addr} {vs:List Value} {n:Nat} {P:Fin→Shared→Prop} (hu:A.units < cLine) (hb:s.heap.get? a=some (seqObj "list" vs.toArray n)) (h64:vs.length ≤ 1000) (hv:∀ v ∈ vs,∃ u m,PrI s.heap v u m)
  (hm:∀ v ∈ vs,∀ v' ∈ vs,kfP s.heap v=kfP s.heap v'→kfM s.heap v=kfM s.heap v')
  (h:∀ out:Array Value,out.toList.Perm vs→(out.toList.map (kfP s.heap)).Pairwise (fun x y => lexB y x=false)→P (.done (.ret .none)) { s with heap:=sortedHeap s.heap a vs out }):wpAny (model prog w) A (Builtin.«list.sort» ⟨[.ref a],[]⟩) P E s:=by
 have kt:∀ h' : Heap,(∀ b o,b ≠ a→s.heap.get? b=some o→h'.get? b=some o)→∀ v ∈ vs,∃ u m,PrI h' v u m∧kfP s.heap v=u∧kfM s.heap v=m:=fun h' k v q => by
  obtain ⟨u,m,t⟩:=hv v q
  exact ⟨u,m,t.keep (tup_keep hb rfl k),t.kf.1,t.kf.2⟩
 have mz:∀ p,p ∈ (pairsOf vs).toList→p.1=p.2∧p.1 ∈ vs:=fun p q => by rw [pairsOf_toList] at q; exact mem_zip_self q
 refine sort_genW (k0:=tuples' false) (rk:=fun v => rnk (vs.map (kfP s.heap)) (kfP s.heap v)) hb (Nat.le_trans h64 (by decide)) (fun h2 h' k E' Q' q => ?_) (fun h' k E' x y Q' hx hy q => ?_) fun xs pm up => ?_
 ·refine kind_pairs (s:={ s with heap:=h' }) (fun v hv' => ?_) (fun z => by rw [z] at h2; simp at h2) q
  obtain ⟨u,m,t,_⟩:=kt h' k v hv'
  exact ⟨u,m,t⟩
 ·obtain ⟨u,m,t,eu,em⟩:=kt h' k x.1 (mz x hx).2
  obtain ⟨u',m',t',eu',em'⟩:=kt h' k y.1 (mz y hy).2
  refine lt_pairs (s:={ s with heap:=h' }) hu t t' (fun z => ?_) ?_
  ·rw [← em,← em']
   exact hm _ (mz x hx).2 _ (mz y hy).2 (by rw [eu,eu',z])
  have m1:kfP s.heap x.1 ∈ vs.map (kfP s.heap):=List.mem_map.mpr ⟨_,(mz x hx).2,rfl⟩
  have m2:kfP s.heap y.1 ∈ vs.map (kfP s.heap):=List.mem_map.mpr ⟨_,(mz y hy).2,rfl⟩
  have e3:lexB u u' = decide (rnk (vs.map (kfP s.heap)) (kfP s.heap x.1) < rnk (vs.map (kfP s.heap)) (kfP s.heap y.1)):=by rw [rnk_ok m1 m2,eu,eu']
  rw [e3]
  exact q
 ·have pl:xs.toList.Perm (vs.zip vs):=by rw [← pairsOf_toList]; exact Array.perm_iff_toList_perm.mp pm
  have ps:(xs.map (·.2)).toList.Perm vs:=by
   rw [Array.toList_map]
   have:=pl.map (·.2)
   rw [List.map_snd_zip (Nat.le_refl _)] at this
   exact this
  refine h (xs.map (·.2)) ps ?_
  rw [List.pairwise_iff_getElem]
  intro i j hi hj ij
  have lx:(xs.map (·.2)).toList.length=xs.size:=by rw [Array.length_toList,Array.size_map]
  rw [List.length_map,lx] at hi hj
  have hz:xs.size=(pairsOf vs).size:=pm.size_eq
  have q:=up i j (Nat.le_of_lt ij) (by omega)
  have mi:xs[i] ∈ (pairsOf vs).toList:=(Array.perm_iff_toList_perm.mp pm).subset (Array.getElem_mem_toList hi)
  have mj:xs[j] ∈ (pairsOf vs).toList:=(Array.perm_iff_toList_perm.mp pm).subset (Array.getElem_mem_toList hj)
  unfold RK at q
  rw [Array.getElem?_eq_getElem hi,Array.getElem?_eq_getElem hj] at q
  dsimp only at q
  have e:=rnk_ok (ks:=vs.map (kfP s.heap)) (x:=kfP s.heap xs[j].1) (y:=kfP s.heap xs[i].1) (List.mem_map.mpr ⟨_,(mz _ mj).2,rfl⟩) (List.mem_map.mpr ⟨_,(mz _ mi).2,rfl⟩)
  rw [decide_eq_false (by omega)] at e
  simp only [List.getElem_map,Array.getElem_toList,Array.getElem_map]
  rw [← (mz _ mi).1,← (mz _ mj).1]
  exact e.symm
theorem sorted_itsW {v d:Addr} {es:Array DictEntry} {ep:Nat} {Q:Value→Shared→Prop} (hu:A.in1.in1.units < cLine) (hh:A.handled=none) (hv:s.heap.IsItemsView v d) (hd:RawD s.heap d es ep) (h64:es.size ≤ 1000) {ks:List (List Int × Int)} (hl:es.size=ks.length)
  (he:∀ (j:Nat) (e:DictEntry) (k:List Int × Int),es[j]? = some e→ks[j]? = some k→TupI s.heap e.key k.1∧∃ t,e.val = .int k.2 t) (hn:(ks.map (·.1)).Nodup)
  (h:∀ (out:Array Value) (ws:List (List Int × Int)) (h1 h' : Heap) (e:Nat),(∀ b ob,s.heap.get? b=some ob→h1.get? b=some ob)→(∀ b ob,h1.get? b=some ob→h'.get? b=some ob)→out.size=ws.length→(∀ (i:Nat) (v:Value) (u:List Int × Int),out[i]? = some v→ws[i]? = some u→∃ (a ka:Addr) (t:Tok),v = .ref a∧s.heap.objs.size ≤ a∧h1.get? a=some { cls:=.type "tuple",data:=.seq #[.ref ka,.int u.2 t] }∧(∃ en ∈ es.toList,en.key = .ref ka)∧TupI s.heap (.ref ka) u.1)→ws.Perm ks→ws.Pairwise (fun x y => lexB y.1 x.1=false)→h'.get? h1.objs.size=some (seqObj "list" out e)→Q (.ref h1.objs.size) { s with heap:=h' }) :
  wpAny (model prog w) A (call (.builtin "sorted") [.ref v]) Q E s:=by
 refine Calls.call_function_entry kind_sorted plain_sorted entry_sorted (args_sorted1 _) ?_
 unfold Builtin.«sorted»
 refine wpAny_bind (m:=checkCount "sorted" 1 1 _) (wpAny_pure (wpAny_bind (collect_its (by simp [hh]) hv hd (Nat.le_of_lt (small1000 (by omega))) fun h1 as kp la pa na => ?_)))
 have PR:∀ (j:Nat) (a:Addr) (k:List Int × Int),as[j]? = some a→ks[j]? = some k→PrI h1 (.ref a) k.1 k.2∧∃ (ka:Addr) (t:Tok),h1.get? a=some { cls:=.type "tuple",data:=.seq #[.ref ka,.int k.2 t] }∧(∃ en ∈ es.toList,en.key = .ref ka)∧TupI s.heap (.ref ka) k.1:=fun j a k e1 e2 => by
  obtain ⟨e,x1,x2⟩:=pa j a e1
  obtain ⟨y1,t,y2⟩:=he j e k x1 e2
  rw [y2] at x2
  refine ⟨⟨a,_,e.key,t,_,rfl,x2,rfl,rfl,y1.keep' fun b o _ q => kp b o q⟩,?_⟩
  have y1':=y1
  obtain ⟨ka,o,its,n,ek,_⟩:=y1'
  rw [ek] at x2 y1
  exact ⟨ka,t,x2,⟨e,by rw [← Array.getElem?_toList] at x1; exact List.mem_of_getElem? x1,ek⟩,y1⟩
 have lz:as.length=ks.length:=by omega
 refine wpAny_bind (wpAny_newList ?_)
 have hoL:(h1.push { cls:=.type "list",data:=.seq (as.map Value.ref).toArray }).get? h1.objs.size=some (seqObj "list" (as.map Value.ref).toArray 0):=Heap.get?_push_size _ rfl
 have kp2:∀ (b:Addr) (o:Obj),o.cls = .type "tuple" → h1.get? b=some o→(h1.push { cls:=.type "list",data:=.seq (as.map Value.ref).toArray }).get? b=some o:=fun b o _ e => Heap.get?_push_of_some _ e
 have at_:∀ v ∈ as.map Value.ref,∃ (j:Nat) (a:Addr) (k:List Int × Int),v = .ref a∧as[j]? = some a∧ks[j]? = some k:=fun v m => by
  obtain ⟨a,ma,rfl⟩:=List.mem_map.mp m
  obtain ⟨j,hj⟩:=List.mem_iff_getElem?.mp ma
  have jl:=(List.getElem?_eq_some_iff.mp hj).1
  exact ⟨j,a,ks[j],rfl,hj,List.getElem?_eq_getElem (by omega)⟩
 refine wpAny_bind (wpAny_holding (wpAny_call_entry slot_list_sort ⟨_,hoL,rfl⟩ entry_list_sort (sort_pairsW (s:={ s with heap:=h1.push { cls:=.type "list",data:=.seq (as.map Value.ref).toArray } }) ?_ hoL (by rw [List.length_map]; omega) (fun v q => ?_) (fun v q v' q' ev => ?_) fun out po so => ⟨_,rfl,?_⟩) (args_list_sort _)))
 ·exact hu
 ·obtain ⟨j,a,k,rfl,e1,e2⟩:=at_ v q
  exact ⟨_,_,(PR j a k e1 e2).1.keep kp2⟩
 ·obtain ⟨j,a,k,rfl,e1,e2⟩:=at_ v q
  obtain ⟨j',a',k',rfl,e1',e2'⟩:=at_ v' q'
  have p1:=((PR j a k e1 e2).1.keep kp2).kf
  have p2:=((PR j' a' k' e1' e2').1.keep kp2).kf
  dsimp only at ev ⊢
  rw [p1.1,p2.1] at ev
  rw [p1.2,p2.2]
  have jj:j=j':=by
   have l1:(ks.map (·.1))[j]? = some k.1:=by rw [List.getElem?_map,e2]; rfl
   have l2:(ks.map (·.1))[j']? = some k.1:=by rw [List.getElem?_map,e2',ev]; rfl
   obtain ⟨b1,c1⟩:=List.getElem?_eq_some_iff.mp l1
   obtain ⟨b2,c2⟩:=List.getElem?_eq_some_iff.mp l2
   exact (List.getElem_inj hn).mp (c1.trans c2.symm)
  subst jj
  rw [e2] at e2'
  cases e2'
  rfl
 ·obtain ⟨e,hE⟩:=sortedHeap_at (out:=out) hoL
  generalize hH:h1.push { cls:=.type "list",data:=.seq (as.map Value.ref).toArray } = H1 at *
  have kf:∀ (j:Nat) (a:Addr) (k:List Int × Int),as[j]? = some a→ks[j]? = some k→(kfP H1 (.ref a),kfM H1 (.ref a))=k:=fun j a k e1 e2 => by
   have p1:=((PR j a k e1 e2).1.keep kp2).kf
   rw [p1.1,p1.2]
  have ek:(as.map Value.ref).map (fun v => (kfP H1 v,kfM H1 v))=ks:=by
   apply List.ext_getElem?
   intro i
   rw [List.getElem?_map,List.getElem?_map]
   by_cases z:i < as.length
   ·have e1:as[i]? = some as[i]:=List.getElem?_eq_getElem z
    have e2:ks[i]? = some ks[i]:=List.getElem?_eq_getElem (by omega)
    rw [e1,e2]
    show some (kfP H1 (.ref as[i]),kfM H1 (.ref as[i]))=_
    rw [kf i _ _ e1 e2]
   ·rw [List.getElem?_eq_none (by omega),List.getElem?_eq_none (by omega)]
    rfl
  refine wpAny_pure ⟨_,rfl,h out (out.toList.map (fun v => (kfP H1 v,kfM H1 v))) h1 _ e kp (fun b ob z => ?_) (by rw [List.length_map,Array.length_toList]) (fun i v u h3 h4 => ?_) ?_ ?_ hE⟩
  ·have hlt:b < h1.objs.size:=Heap.lt_size z
   have hlt2:b < H1.objs.size:=by rw [← hH,Heap.size_push]; exact Nat.lt_succ_of_lt hlt
   rw [sortedHeap_old (Nat.ne_of_lt hlt) hlt2]
   rw [← hH]
   exact Heap.get?_push_of_some _ z
  ·rw [List.getElem?_map,Array.getElem?_toList,h3] at h4
   cases h4
   have mv:v ∈ as.map Value.ref:=po.mem_iff.mp (by rw [← Array.getElem?_toList] at h3; exact List.mem_of_getElem? h3)
   obtain ⟨j,a,k,rfl,e1,e2⟩:=at_ v mv
   obtain ⟨ka,t,y1,y2,y3⟩:=(PR j a k e1 e2).2
   have:=kf j a k e1 e2
   have k1:kfP H1 (.ref a)=k.1:=congrArg Prod.fst this
   have k2:kfM H1 (.ref a)=k.2:=congrArg Prod.snd this
   dsimp only
   rw [k1,k2]
   exact ⟨a,ka,t,rfl,na a (List.mem_of_getElem? e1),y1,y2,y3⟩
  ·have p1:=po.map (fun v => (kfP H1 v,kfM H1 v))
   rw [ek] at p1
   exact p1
  ·rw [List.pairwise_map] at so ⊢
   exact so
end
end L2
namespace L2
open PySem PySem.Spec PyProof.Rows
section
variable {X:Cx}
theorem call_sortedIW {k:Nat} (hr:Room k X.A):CallR X (.builtin "sorted") (fun xs H Q => ∃ (v d:Addr) (ks:List (List Int × Int)),xs=[.ref v]∧H v=some (.ext (IView v d))∧H d=some (.dT (ks.map fun k => (k.1.map Sum.inl,V.int k.2)))∧ks.length ≤ 1000 ∧
  ∀ (l:Addr) (ps:List V) (ws:List (List Int × Int)) (H' : Hp),H l=none→(∀ b o,H b=some o→H' b=some o)→H' l=some (.lst ps)→PrL H' ps ws→ws.Perm ks→ws.Pairwise (fun x y => lexB y.1 x.1=false)→Q (.ref l) H'):=by
 intro pins s σ H xs us Q I r h
 obtain ⟨v,d,ks,rfl,hv,hd,h64,q⟩:=h
 obtain ⟨u,rfl,rx⟩:=vals1 r
 cases rx
 obtain ⟨iv,_,_⟩:=(show ObjOk X.prog X.w H s.heap v (.ext (IView v d)) from I.hok v _ hv)
 obtain ⟨_,hsys,xs,rel,o,es,ep,ho,hx,hdat,hes,hn⟩:=(show ObjOk X.prog X.w H s.heap d (.dT _) from I.hok d _ hd)
 obtain ⟨rl,ra⟩:=paired_at rel
 rw [List.length_map] at rl
 have row:∀ (j:Nat) (e:DictEntry) (k:List Int × Int),es[j]? = some e→ks[j]? = some k→∃ (ka:Addr) (t:Tok),e.key = .ref ka∧e.val = .int k.2 t∧H ka=some (.tup (k.1.map V.int)):=fun j e k e1 e2 => by
  rw [← Array.getElem?_toList,hes,List.getElem?_map] at e1
  cases z:xs[j]? with
  | none => rw [z] at e1; cases e1
  | some x =>
   rw [z] at e1
   cases e1
   have g:=ra j _ x (by rw [List.getElem?_map,e2]; rfl) z
   obtain ⟨g1,g2,g3⟩:=g
   have g3:RelV (V.int k.2) x.2.2:=g3
   obtain ⟨t,g4⟩:=g3
   refine ⟨x.2.1,t,rfl,g4,?_⟩
   have g2:H x.2.1=some (.tup ((k.1.map Sum.inl).map kV)):=g2
   rw [List.map_map] at g2
   exact g2
 have tupI:∀ (ka:Addr) (u:List Int),H ka=some (.tup (u.map V.int))→TupI s.heap (.ref ka) u:=fun ka u g => by
  obtain ⟨_,its,rv,o,e,c,n,dd⟩:=(show ObjOk X.prog X.w H s.heap ka (.tup (u.map V.int)) from I.hok ka _ g)
  exact ⟨ka,o,its.toArray,n,rfl,e,c,dd,by rw [List.toList_toArray]; exact intsAre_of rv⟩
 have sz:es.size=ks.length:=by rw [← Array.length_toList,hes,List.length_map,← rl]
 have nd:(ks.map (·.1)).Nodup:=by
  have e:xs.map (·.1)=(ks.map (·.1)).map (fun u => u.map Sum.inl):=by
   apply List.ext_getElem?
   intro j
   rw [List.getElem?_map,List.map_map,List.getElem?_map]
   cases z:xs[j]? with
   | none => rw [List.getElem?_eq_none (by have:=List.getElem?_eq_none_iff.mp z; omega)]; rfl
   | some x =>
    have jl:=(List.getElem?_eq_some_iff.mp z).1
    have e2:ks[j]? = some ks[j]:=List.getElem?_eq_getElem (by omega)
    have g:=ra j _ x (by rw [List.getElem?_map,e2]; rfl) z
    rw [e2]
    show some x.1=some _
    rw [← g.1]
    rfl
  rw [e] at hn
  exact (List.pairwise_map.mp hn).imp fun h e => h (by rw [e])
 have hu:X.A.in1.in1.units < cLine:=by
  have:=hr.un
  show X.A.units + 1 + 1 < cLine
  omega
 refine sorted_itsW (ks:=ks) hu hr.hd iv ⟨o,ho,hx,hdat⟩ (by omega) sz (fun j e k e1 e2 => ?_) nd fun out ws h1 h' e kp kp2 lo hout pm sr hl => ?_
 ·obtain ⟨ka,t,g1,g2,g3⟩:=row j e k e1 e2
  rw [g1]
  exact ⟨tupI _ _ g3,t,g2⟩
 ·have hw:∀ (i:Nat) (v:Value) (u:List Int × Int),out[i]? = some v→ws[i]? = some u→∃ (a ka:Addr) (t:Tok),v = .ref a∧s.heap.objs.size ≤ a∧h1.get? a=some { cls:=.type "tuple",data:=.seq #[.ref ka,.int u.2 t] }∧H ka=some (.tup (u.1.map V.int)):=fun i v u e1 e2 => by
   obtain ⟨a,ka,t,x1,x2,x3,⟨en,x4,x5⟩,x6⟩:=hout i v u e1 e2
   obtain ⟨j,hj⟩:=List.mem_iff_getElem?.mp x4
   rw [Array.getElem?_toList] at hj
   have jl:=(Array.getElem?_eq_some_iff.mp hj).1
   have kj:ks[j]? = some ks[j]:=List.getElem?_eq_getElem (by omega)
   obtain ⟨ka',t',y1,y2,y3⟩:=row j en _ hj kj
   rw [x5] at y1
   cases y1
   have:=x6.kf.symm.trans (tupI _ _ y3).kf
   rw [← this] at y3
   exact ⟨a,ka,t,x1,x2,x3,y3⟩
  have fresh:∀ a,s.heap.objs.size ≤ a→H a=none:=fun a q => I.hok.fresh q
  have I1:Inv X pins σ H { s with heap:=h1 }:=I.kept (t':=s.toks) kp
  have fl:H h1.objs.size=none:=I1.hok.fresh (Nat.le_refl _)
  have gone:∀ a,s.heap.objs.size ≤ a→s.heap.get? a=none:=fun a q => by
   cases z:s.heap.get? a with
   | none => rfl
   | some o => exact absurd (Heap.lt_size z) (Nat.not_lt.mpr q)
  have gl:s.heap.get? h1.objs.size=none:=by
   cases z:s.heap.get? h1.objs.size with
   | none => rfl
   | some o => exact absurd (Heap.lt_size (kp _ _ z)) (Nat.lt_irrefl _)
  have atI:∀ a ∈ out.toList.map adr,∃ (ka:Addr) (t:Tok) (u:List Int × Int),s.heap.objs.size ≤ a∧h1.get? a=some { cls:=.type "tuple",data:=.seq #[.ref ka,.int u.2 t] }∧H ka=some (.tup (u.1.map V.int)):=fun a m => by
   obtain ⟨v,mv,ev⟩:=List.mem_map.mp m
   obtain ⟨i,hi⟩:=List.mem_iff_getElem?.mp mv
   rw [Array.getElem?_toList] at hi
   have il:=(Array.getElem?_eq_some_iff.mp hi).1
   obtain ⟨a',ka,t,x1,x2,x3,x4⟩:=hw i v _ hi (List.getElem?_eq_getElem (by omega))
   rw [x1] at ev
   have ev:a' = a:=ev
   subst ev
   exact ⟨ka,t,_,x2,x3,x4⟩
  have ct:∀ (a ka:Addr) (m:Int) (t:Tok),h1.get? a=some { cls:=.type "tuple",data:=.seq #[.ref ka,.int m t] }→cont h1 a=some (.tup [.ref ka,.int m]):=fun a ka m t g => by
   unfold cont
   rw [g]
  have wp:∀ (a ka:Addr) (m:Int) (t:Tok),a ∈ out.toList.map adr→s.heap.objs.size ≤ a→h1.get? a=some { cls:=.type "tuple",data:=.seq #[.ref ka,.int m t] }→withPairs H h1 h1.objs.size (out.toList.map adr) a=some (.tup [.ref ka,.int m]):=fun a ka m t ma sa g => by
   unfold withPairs
   rw [fresh a sa]
   dsimp only
   rw [if_neg (Nat.ne_of_lt (Heap.lt_size g)),if_pos ma,ct a ka m t g]
  have old:∀ b o,H b=some o→withPairs H h1 h1.objs.size (out.toList.map adr) b=some o:=fun b o q => by
   unfold withPairs
   rw [q]
  have wl:withPairs H h1 h1.objs.size (out.toList.map adr) h1.objs.size=some (.lst ((out.toList.map adr).map V.ref)):=by
   unfold withPairs
   rw [fl]
   dsimp only
   rw [if_pos rfl]
  have o64:out.size ≤ 1000:=by rw [lo,pm.length_eq]; omega
  have I2:Inv X pins σ (withPairs H h1 h1.objs.size (out.toList.map adr)) { s with heap:=h',toks:=s.toks }:=by
   refine Inv.more I (fun b u z => kp2 b u (kp b u z)) old fun b ob nb hb => ?_
   have hb':=hb
   unfold withPairs at hb'
   rw [nb] at hb'
   dsimp only at hb'
   by_cases zl:b=h1.objs.size
   ·subst zl
    rw [if_pos rfl] at hb'
    cases hb'
    refine ⟨gl,?_,out.toList,e,?_,?_⟩
    ·rw [List.length_map,List.length_map,Array.length_toList]
     exact Nat.le_of_lt (small1000 (by omega))
    ·have vr:∀ l:List Value,(∀ v ∈ l,∃ a,v=Value.ref a)→Vals ((l.map adr).map V.ref) l:=by
      intro l
      induction l with
      | nil => exact fun _ => .nil
      | cons v l ih =>
       intro hl
       obtain ⟨a,rfl⟩:=hl v List.mem_cons_self
       exact .cons rfl (ih fun z m => hl z (List.mem_cons_of_mem _ m))
     refine vr _ fun v mv => ?_
     obtain ⟨i,hi⟩:=List.mem_iff_getElem?.mp mv
     rw [Array.getElem?_toList] at hi
     have il:=(Array.getElem?_eq_some_iff.mp hi).1
     obtain ⟨a',ka,t,x1,_⟩:=hw i v _ hi (List.getElem?_eq_getElem (by omega))
     exact ⟨a',x1⟩
    ·rw [hl]
   ·rw [if_neg zl] at hb'
    by_cases zm:b ∈ out.toList.map adr
    ·rw [if_pos zm] at hb'
     obtain ⟨ka,t,u,x1,x2,x3⟩:=atI b zm
     rw [ct b ka _ t x2] at hb'
     cases hb'
     exact ⟨gone b x1,(by show 2 ≤ sizeLine; decide),[.ref ka,.int u.2 t],.cons rfl (.cons ⟨t,rfl⟩ .nil),_,kp2 _ _ x2,rfl,_,rfl⟩
    ·rw [if_neg zm] at hb'
     cases hb'
  refine ⟨.ref h1.objs.size,_,I2,rfl,q _ _ ws _ fl old wl ⟨?_,fun i x u e1 e2 => ?_⟩ pm sr⟩
  ·rw [List.length_map,List.length_map,Array.length_toList,lo]
  ·rw [List.getElem?_map,List.getElem?_map,Array.getElem?_toList] at e1
   cases z:out[i]? with
   | none => rw [z] at e1; cases e1
   | some v =>
    rw [z] at e1
    obtain ⟨a,ka,t,x1,x2,x3,x4⟩:=hw i v u z e2
    subst x1
    cases e1
    refine ⟨a,ka,rfl,wp a ka _ t ?_ x2 x3,old _ _ x4⟩
    rw [← Array.getElem?_toList] at z
    exact List.mem_map.mpr ⟨_,List.mem_of_getElem? z,rfl⟩
end
end L2
set_option maxHeartbeats 4000000
namespace L2
open PySem PySem.Spec PyProof.Rows
section
variable {prog:Program} {w:World} {A:Around} {E:Value→Shared→Prop} {s:Shared}
theorem sorted_pairsW {l:Addr} {vs:List Value} {Q:Value→Shared→Prop} (hu:A.in1.in1.units < cLine) (hl:s.heap.IsList l vs.toArray) (hz:vs.length ≤ 1000) (hv:∀ v ∈ vs,∃ u m,PrI s.heap v u m)
  (hm:∀ v ∈ vs,∀ v' ∈ vs,kfP s.heap v=kfP s.heap v'→kfM s.heap v=kfM s.heap v')
  (h:∀ out:Array Value,out.toList.Perm vs→(out.toList.map (kfP s.heap)).Pairwise (fun x y => lexB y x=false)→Q (.ref (s.heap.objs.size + 1)) { s with heap:=sortedAll s.heap vs out }) :
  wpAny (model prog w) A (call (.builtin "sorted") [.ref l]) Q E s:=by
 have hline:vs.length ≤ sizeLine:=Nat.le_trans hz (by decide)
 refine Calls.call_function_entry kind_sorted plain_sorted entry_sorted (args_sorted1 _) ?_
 unfold Builtin.«sorted»
 refine wpAny_bind (m:=checkCount "sorted" 1 1 _) (wpAny_pure (wpAny_bind (collect_list hl (wpAny_bind (wpAny_newList ?_)) (hsz:=hline))))
 have hsz:((s.heap.push (seqObj "list" #[] 0)).update s.heap.objs.size (Obj.mapSeq (· ++ vs.toArray))).objs.size=s.heap.objs.size + 1:=by
  rw [Heap.size_update,size_push']
 have kp:∀ (b:Addr) (o:Obj),o.cls = .type "tuple" → s.heap.get? b=some o→(((s.heap.push (seqObj "list" #[] 0)).update s.heap.objs.size (Obj.mapSeq (· ++ vs.toArray))).push (seqObj "list" vs.toArray 0)).get? b=some o:=fun b o _ e => by
  refine Heap.get?_push_of_some _ ?_
  rw [Heap.get?_update_ne _ _ _ _ (Nat.ne_of_lt (Heap.lt_size e))]
  exact Heap.get?_push_of_some _ e
 have hoL:(((s.heap.push (seqObj "list" #[] 0)).update s.heap.objs.size (Obj.mapSeq (· ++ vs.toArray))).push (seqObj "list" vs.toArray 0)).get? (s.heap.objs.size + 1)=some (seqObj "list" vs.toArray 0):=by
  rw [← hsz]; exact Heap.get?_push_size _ rfl
 show wpAny _ _ _ _ _ { s with heap:=((s.heap.push (seqObj "list" #[] 0)).update s.heap.objs.size (Obj.mapSeq (· ++ vs.toArray))).push (seqObj "list" vs.toArray 0) }
 rw [hsz]
 have kf:∀ v ∈ vs,kfP (((s.heap.push (seqObj "list" #[] 0)).update s.heap.objs.size (Obj.mapSeq (· ++ vs.toArray))).push (seqObj "list" vs.toArray 0)) v=kfP s.heap v∧kfM (((s.heap.push (seqObj "list" #[] 0)).update s.heap.objs.size (Obj.mapSeq (· ++ vs.toArray))).push (seqObj "list" vs.toArray 0)) v=kfM s.heap v:=fun v q => by
  obtain ⟨u,m,t⟩:=hv v q
  have k1:=t.kf
  have k2:=(t.keep kp).kf
  exact ⟨k2.1.trans k1.1.symm,k2.2.trans k1.2.symm⟩
 refine wpAny_bind (wpAny_holding (wpAny_call_entry slot_list_sort ⟨_,hoL,rfl⟩ entry_list_sort (sort_pairsW (s:={ s with heap:=((s.heap.push (seqObj "list" #[] 0)).update s.heap.objs.size (Obj.mapSeq (· ++ vs.toArray))).push (seqObj "list" vs.toArray 0) }) hu hoL hz (fun v q => ?_) (fun v q v' q' ev => ?_) fun out po so => ⟨_,rfl,?_⟩) (args_list_sort _)))
 ·obtain ⟨u,m,t⟩:=hv v q
  exact ⟨u,m,t.keep kp⟩
 ·have a1:=kf v q
  have a2:=kf v' q'
  dsimp only at ev ⊢
  rw [a1.1,a2.1] at ev
  rw [a1.2,a2.2]
  exact hm v q v' q' ev
 ·refine wpAny_pure ⟨_,rfl,h out po ?_⟩
  have e:out.toList.map (kfP s.heap)=out.toList.map (kfP (((s.heap.push (seqObj "list" #[] 0)).update s.heap.objs.size (Obj.mapSeq (· ++ vs.toArray))).push (seqObj "list" vs.toArray 0))):=List.map_congr_left fun v q => (kf v (po.mem_iff.mp q)).1.symm
  rw [e]
  exact so
end
section
variable {X:Cx}
theorem call_sortedPW {k:Nat} (hr:Room k X.A):CallR X (.builtin "sorted") (fun xs H Q => ∃ (p:Addr) (ys:List V) (us:List (List Int × Int)),xs=[.ref p]∧SqL X.K H p ys∧PrL H ys us∧us.length ≤ 1000∧(us.map (·.1)).Nodup ∧
  ∀ (l:Addr) (zs:List V) (ws:List (List Int × Int)),H l=none→PrL H zs ws→ws.Perm us→ws.Pairwise (fun x y => lexB y.1 x.1=false)→Q (.ref l) (upd H l (.lst zs))):=by
 intro pins s σ H xs us0 Q I r h
 obtain ⟨p,ys,us,rfl,hq,pr,hb,nd,q⟩:=h
 obtain ⟨u,rfl,rx⟩:=vals1 r
 cases rx
 obtain ⟨its,rv,pl,hz⟩:=I.list hq
 have hlen:its.length=us.length:=by rw [← rv.length,pr.1]
 have row:∀ (j:Nat) (v:Value),its[j]? = some v→∃ (a b:Addr) (k:List Int × Int),v = .ref a∧us[j]? = some k∧H a=some (.tup [.ref b,.int k.2])∧H b=some (.tup (k.1.map V.int)):=fun j v ev => by
  have jl:=(List.getElem?_eq_some_iff.mp ev).1
  have jy:j < ys.length:=by rw [rv.length]; exact jl
  have eu:us[j]? = some us[j]:=List.getElem?_eq_getElem (by omega)
  obtain ⟨a,b,e1,e2,e3⟩:=pr.2 j ys[j] us[j] (List.getElem?_eq_getElem jy) eu
  obtain ⟨v',e4,e5⟩:=rv.get (List.getElem?_eq_getElem jy)
  rw [ev] at e4
  cases e4
  rw [e1] at e5
  cases e5
  exact ⟨a,b,us[j],rfl,eu,e2,e3⟩
 have prI:∀ (a b:Addr) (k:List Int × Int),H a=some (.tup [.ref b,.int k.2])→H b=some (.tup (k.1.map V.int))→PrI s.heap (.ref a) k.1 k.2:=fun a b k h1 h2 => by
  obtain ⟨_,its2,rv2,o,e,c,n,dd⟩:=(show ObjOk X.prog X.w H s.heap a (.tup [.ref b,.int k.2]) from I.hok a _ h1)
  cases rv2 with
  | cons r1 r2 => cases r2 with
   | cons r3 r4 => cases r4 with
    | nil =>
     cases r1
     obtain ⟨t,rfl⟩:=r3
     exact ⟨a,o,.ref b,t,n,rfl,e,c,dd,tup_of I h2⟩
 have hu:X.A.in1.in1.units < cLine:=by
  have:=hr.un
  show X.A.units + 1 + 1 < cLine
  omega
 have inj:∀ (j j' : Nat) (k k' : List Int × Int),us[j]? = some k→us[j']? = some k'→k.1=k'.1→k=k':=fun j j' k k' e1 e2 ek => by
  have l1:(us.map (·.1))[j]? = some k.1:=by rw [List.getElem?_map,e1]; rfl
  have l2:(us.map (·.1))[j']? = some k.1:=by rw [List.getElem?_map,e2,ek]; rfl
  obtain ⟨b1,c1⟩:=List.getElem?_eq_some_iff.mp l1
  obtain ⟨b2,c2⟩:=List.getElem?_eq_some_iff.mp l2
  have jj:j=j':=(List.getElem_inj nd).mp (c1.trans c2.symm)
  subst jj
  rw [e1] at e2
  cases e2
  rfl
 have rowm:∀ v ∈ its,∃ (a b:Addr) (k:List Int × Int) (j:Nat),v = .ref a∧us[j]? = some k∧H a=some (.tup [.ref b,.int k.2])∧H b=some (.tup (k.1.map V.int)):=fun v m => by
  obtain ⟨j,hj⟩:=List.mem_iff_getElem?.mp m
  obtain ⟨a,b,k,e1,e2,e3,e4⟩:=row j v hj
  exact ⟨a,b,k,j,e1,e2,e3,e4⟩
 refine sorted_pairsW (vs:=its) hu pl.isList (by omega) (fun v m => ?_) (fun v m v' m' ev => ?_) fun out po so => ?_
 ·obtain ⟨a,b,k,j,rfl,e2,e3,e4⟩:=rowm v m
  exact ⟨_,_,prI a b k e3 e4⟩
 ·obtain ⟨a,b,k,j,rfl,e2,e3,e4⟩:=rowm v m
  obtain ⟨a',b',k',j',rfl,e2',e3',e4'⟩:=rowm v' m'
  have p1:=(prI a b k e3 e4).kf
  have p2:=(prI a' b' k' e3' e4').kf
  rw [p1.1,p2.1] at ev
  rw [p1.2,p2.2,inj j j' k k' e2 e2' ev]
 ·have ek:its.map (fun v => (kfP s.heap v,kfM s.heap v))=us:=by
   apply List.ext_getElem?
   intro i
   rw [List.getElem?_map]
   cases z:its[i]? with
   | none => rw [List.getElem?_eq_none (by have:=List.getElem?_eq_none_iff.mp z; omega)]; rfl
   | some v =>
    obtain ⟨a,b,k,rfl,e2,e3,e4⟩:=row i v z
    have p1:=(prI a b k e3 e4).kf
    rw [e2]
    show some (kfP s.heap (.ref a),kfM s.heap (.ref a))=some k
    rw [p1.1,p1.2]
  have pm:(out.toList.map (fun v => (kfP s.heap v,kfM s.heap v))).Perm us:=by
   have:=po.map (fun v => (kfP s.heap v,kfM s.heap v))
   rw [ek] at this
   exact this
  have sr:(out.toList.map (fun v => (kfP s.heap v,kfM s.heap v))).Pairwise (fun x y => lexB y.1 x.1=false):=by
   rw [List.pairwise_map] at so ⊢
   exact so
  obtain ⟨e,he⟩:=sortedAll_at s.heap its out
  have ol:out.size=us.length:=by rw [← Array.length_toList,po.length_eq,hlen]
  refine ⟨.ref _,upd H (s.heap.objs.size + 1) (.lst ((out.toList.map adr).map V.ref)),I.laid (t':=s.toks) (fun b ob z => sortedAll_old z) (Nat.le_succ _) ⟨?_,out.toList,e,?_,?_⟩,rfl,q _ _ _ (I.hok.fresh (Nat.le_succ _)) ⟨?_,fun i x u e1 e2 => ?_⟩ pm sr⟩
  ·rw [List.length_map,List.length_map,Array.length_toList]
   exact Nat.le_trans (show out.size ≤ 1000 by omega) (by decide)
  ·have vr:∀ l:List Value,(∀ v ∈ l,∃ a,v=Value.ref a)→Vals ((l.map adr).map V.ref) l:=by
    intro l
    induction l with
    | nil => exact fun _ => .nil
    | cons v l ih =>
     intro hl
     obtain ⟨a,rfl⟩:=hl v List.mem_cons_self
     exact .cons rfl (ih fun z m => hl z (List.mem_cons_of_mem _ m))
   refine vr _ fun v mv => ?_
   obtain ⟨a,b,k,j,e1,_⟩:=rowm v (po.mem_iff.mp mv)
   exact ⟨a,e1⟩
  ·rw [he]
  ·rw [List.length_map,List.length_map,List.length_map]
  ·rw [List.getElem?_map,List.getElem?_map] at e1
   rw [List.getElem?_map] at e2
   cases z:out.toList[i]? with
   | none => rw [z] at e1; cases e1
   | some v =>
    rw [z] at e1 e2
    obtain ⟨a,b,k,j,rfl,f2,f3,f4⟩:=rowm v (po.mem_iff.mp (List.mem_of_getElem? z))
    cases e1
    have p1:=(prI a b k f3 f4).kf
    have e2:some (kfP s.heap (.ref a),kfM s.heap (.ref a))=some u:=e2
    rw [p1.1,p1.2] at e2
    cases e2
    exact ⟨a,b,rfl,f3,f4⟩
end
end L2
set_option maxHeartbeats 1000000
namespace L2
open PySem PySem.Spec PyProof.Rows
section
variable {prog:Program} {w:World} {A:Around} {E:Value→Shared→Prop} {s:Shared} {it d:Addr} {i ep:Nat} {es:Array DictEntry}
theorem raw_ty (r:RawD s.heap d es ep):s.TypeIs (.ref d) "dict" := let ⟨o,e,x,_⟩:=r; ⟨o,e,x.1⟩
theorem kr_iter {Q:Value→Shared→Prop} (sm:(d == sysModules)=false) (r:RawD s.heap d es ep) (q:Q (.ref s.heap.objs.size) { s with heap:=s.heap.push { cls:=.type "dict_keyiterator",data:=.fields #[.ref d,.int 0 0,.int es.size 0,.int ep 0] } }):wpAny (model prog w) A (pyIter (.ref d)) Q E s:=by
 have ty:=raw_ty r
 obtain ⟨o,e1,e2,e3⟩:=r
 refine wpAny_pyIter_slot ty PySem.F.slot_dict_iter (wpAny_call_entry PySem.F.slot_dict_iter ty PySem.F.entry_dict_iter ?_ (PySem.F.args_dict_iter_1 _))
 unfold Builtin.«dict.__iter__» Builtin.Dict.dictSlotNone
 refine wpAny_bind (wpAny_bind (wpAny_notOrdered_dict ty ?_))
 show wpAny _ _ (pure (Value.ref d)) _ _ _
 refine wpAny_pure ?_
 show wpAny _ _ (Builtin.Dict.showsAll d >>= _) _ _ _
 unfold Builtin.Dict.showsAll
 rw [if_neg (by rw [sm]; decide)]
 refine wpAny_bind (wpAny_pure (wpAny_bind (wpAny_dictEntries e1 e3 (wpAny_bind (wpAny_dictEpoch e1 e3 ?_)))))
 exact wpAny_bind (wpAny_newObj_type (wpAny_pure ⟨_,rfl, "dict_keyiterator",_,⟨_,Heap.get?_push_size _ rfl,rfl⟩,PySem.F.slot_dict_keyiterator_next.lookup,q⟩))
theorem kr_owns:Builtin.Dict_items.ownsTuple "dict_keyiterator" = false:=by decide
theorem kr_item {Q:Option Value→Shared→Prop} (g:s.heap.IsKeyIter it d i es.size ep) (r:RawD s.heap d es ep) (hi:i < es.size)
  (q:∀ h',h'.IsKeyIter it d (i + 1) es.size ep→Heap.SameBut it s.heap h'→Q (some es[i].key) { s with heap:=h' }):wpAny (model prog w) A (pyNext (.ref it)) Q E s:=by
 have ty:=g.typeIs
 obtain ⟨ob,g1,g2,g3⟩:=id g
 obtain ⟨o,e1,e2,e3⟩:=r
 unfold pyNext
 refine wpAny_bind (wpAny_attempt (wpAny_callSpecial?_slot (name:=Str.ofString "__next__") ty PySem.F.slot_dict_keyiterator_next (wpAny_call_entry PySem.F.slot_dict_keyiterator_next ty PySem.F.entry_dict_keyiterator_next ?_ (PySem.F.args_dict_keyiterator_next_1 _))))
 refine wpAny_bind (wpAny_pure (wpAny_bind (wpAny_bind (wpAny_bind (wpAny_typeNameOfWhole_keyiter ty (wpAny_pure (wpAny_bind (wpAny_fieldsOf g1 g3 ?_))))))))
 simp only [kr_owns,Bool.false_eq_true,if_false]
 show wpAny _ _ (if (Value.ref d == Value.none)=true then _ else _) _ _ _
 rw [if_neg (by intro z; cases z)]
 refine wpAny_bind (wpAny_pure (wpAny_bind (wpAny_dictEntries e1 e3 ?_)))
 rw [if_neg (by simp)]
 refine wpAny_bind (wpAny_pure (wpAny_bind (wpAny_dictEpoch e1 e3 ?_)))
 rw [if_neg (by simp)]
 refine wpAny_pure ?_
 have n0 : ¬ ((i:Int) < 0):=by omega
 simp only [n0,if_false,Int.toNat_natCast,Array.getElem?_eq_getElem hi]
 refine wpAny_bind (wpAny_bind (wpAny_typeNameOfWhole_keyiter ty (wpAny_pure (wpAny_bind (wpAny_isOneOf_keyiter ty ?_)))))
 show wpAny _ _ (setField (.ref it) 1 (rawInt ((i:Int) + 1)) >>= _) _ _ _
 refine wpAny_bind (wpAny_setField g1 g3 (by simp) ?_)
 have g4:(s.heap.update it (Obj.mapFields (·.setIfInBounds 1 (rawInt ((i:Int) + 1))))).IsKeyIter it d (i + 1) es.size ep :=
  ⟨_,Heap.get?_update_self _ g1 (Obj.isFreed_of_fields (Obj.data_mapFields g3 _)),(Obj.cls_mapFields ..).trans g2,by rw [Obj.data_mapFields g3]; simp [rawInt]⟩
 refine wpAny_bind (wpAny_holding (wpAny_bind (wpAny_isOneOf_keyiter (s:={ s with heap:=s.heap.update it (Obj.mapFields (·.setIfInBounds 1 (rawInt ((i:Int) + 1)))) }) g4.typeIs ?_)))
 show wpAny _ _ (pure (es[i]).key) _ _ _
 exact wpAny_pure (wpAny_pure ⟨_,rfl,wpAny_pure (q _ g4 (Heap.SameBut.update ..))⟩)
theorem kr_end {Q:Option Value→Shared→Prop} (hh:A.handled=none) (g:s.heap.IsKeyIter it d i es.size ep) (r:RawD s.heap d es ep) (hi:es.size ≤ i)
  (q:∀ h',Heap.ExtBut it s.heap h'→Q none { s with heap:=h' }):wpAny (model prog w) A (pyNext (.ref it)) Q E s:=by
 have ty:=g.typeIs
 obtain ⟨ob,g1,g2,g3⟩:=id g
 obtain ⟨o,e1,e2,e3⟩:=r
 unfold pyNext
 refine wpAny_bind (wpAny_attempt (wpAny_callSpecial?_slot (name:=Str.ofString "__next__") ty PySem.F.slot_dict_keyiterator_next (wpAny_call_entry PySem.F.slot_dict_keyiterator_next ty PySem.F.entry_dict_keyiterator_next ?_ (PySem.F.args_dict_keyiterator_next_1 _))))
 refine wpAny_bind (wpAny_pure (wpAny_bind (wpAny_bind (wpAny_bind (wpAny_typeNameOfWhole_keyiter ty (wpAny_pure (wpAny_bind (wpAny_fieldsOf g1 g3 ?_))))))))
 simp only [kr_owns,Bool.false_eq_true,if_false]
 show wpAny _ _ (if (Value.ref d == Value.none)=true then _ else _) _ _ _
 rw [if_neg (by intro z; cases z)]
 refine wpAny_bind (wpAny_pure (wpAny_bind (wpAny_dictEntries e1 e3 ?_)))
 rw [if_neg (by simp)]
 refine wpAny_bind (wpAny_pure (wpAny_bind (wpAny_dictEpoch e1 e3 ?_)))
 rw [if_neg (by simp)]
 refine wpAny_pure ?_
 have n0 : ¬ ((i:Int) < 0):=by omega
 simp only [n0,if_false,Int.toNat_natCast,Array.getElem?_eq_none hi]
 refine wpAny_bind (wpAny_bind (wpAny_typeNameOfWhole_keyiter ty (wpAny_pure ?_)))
 show wpAny _ _ (setField (.ref it) 0 .none >>= _) _ _ _
 refine wpAny_bind (wpAny_setField g1 g3 (by simp) ?_)
 show wpAny _ _ (newExc (.type "StopIteration") ([]:List Value) >>= _) _ _ _
 refine wpAny_bind ?_
 simp only [newExc,newTuple]
 refine wpAny_bind (wpAny_newObj_type (wpAny_bind (m:=firstArgMember _ _) (wpAny_of_eq (a:=Value.none) (by first | rfl | (simp only [firstArgMember]; rfl)) (wpAny_newObj_type ?_ (by size_fits)))) (by size_fits))
 simp only [raiseNew]
 have h1:A.in1.handled=none:=hh
 refine wpAny_bind (wpAny_handled (by rw [h1]; refine wpAny_bind (wpAny_pure (wpAny_throw ?_)); refine wpAny_bind (wpAny_isInstance (b:=true) (T := "StopIteration") ⟨_,Heap.get?_push_size _ rfl,rfl⟩ isSubtype_stop ?_); exact wpAny_pure (q _ (((Heap.SameBut.update ..).extBut.push _).push _))))
end
section
variable {X:Cx} {pins:List (Addr × Obj)} {σ:St} {H:Hp} {s:Shared}
theorem Inv.freezeT {d:Addr} {o:Obj} {kvs:List (List Key × V)} (I:Inv X pins σ H s) (e:H d=some (.dT kvs)) (ho:s.heap.get? d=some o):Inv X pins σ (upd H d (.frz o (.dT kvs))) s:=by
 have nd:∀ b u,H b=some u→u ≠ .dT kvs→b ≠ d:=fun b u q n z => by subst z; rw [e] at q; cases q; exact n rfl
 have h0:=I.hok d _ e
 refine I.step (g':=s.gens) (d':=s.drawn) (t':=s.toks) (h':=s.heap) (ch:=[]) (fun _ z => nomatch z) (fun b ob _ _ _ q _ => q) (fun b ob _ _ _ q _ => ⟨ob.slots,q⟩) (fun b ob _ _ q => by rw [upd_ne (fun z => by subst z; rw [e] at q; cases q)]; exact q) (fun b ob _ q => ⟨ob,q⟩) (fun b xs q => by rw [upd_ne (nd b _ q (fun z => nomatch z))]; exact q) (fun b ob u q => by rw [upd_ne (nd b _ q (fun z => nomatch z))]; exact q) (fun b ps q => ⟨#[],by rw [upd_ne (nd b _ q (fun z => nomatch z)),Array.append_empty]; exact q⟩) (fun m q => q) ?_ I.bare
 refine HOk.write (h':=s.heap) I.hok (x:=d) (e:=d) (by rw [e]; trivial) (.inl rfl) (fun b u _ q => q) ⟨o,ho⟩ ⟨ho,?_⟩
 obtain ⟨z,y,xs,r,oo⟩:=h0
 refine ⟨z,y,xs,?_,oo⟩
 have up:∀ {l:List (List Key × V)} {m:List (List Key × Addr × Value)},Paired (fun (p:List Key × V) (q:List Key × Addr × Value) => p.1=q.1∧H q.2.1=some (.tup (p.1.map kV))∧RelV p.2 q.2.2) l m→Paired (fun (p:List Key × V) (q:List Key × Addr × Value) => p.1=q.1∧(upd H d (.frz o (.dT kvs))) q.2.1=some (.tup (p.1.map kV))∧RelV p.2 q.2.2) l m:=by
  intro l m q
  induction q with
  | nil => exact .nil
  | cons hq t ih => exact .cons ⟨hq.1,by rw [upd_ne (nd _ _ hq.2.1 (fun z => nomatch z))]; exact hq.2.1,hq.2.2⟩ ih
 exact up r
def ItdT (d:Addr) (o:Obj) (kvs:List (List Key × V)):It :=
 ⟨fun i H => H d=some (.frz o (.dT kvs))∧i < kvs.length,fun i H x H' => H' = H∧∃ k v b,kvs[i]? = some (k,v)∧x = .ref b∧H b=some (.tup (k.map kV)),fun i H => H d=some (.frz o (.dT kvs))∧kvs.length ≤ i⟩
theorem frzT_at {d:Addr} {o:Obj} {kvs:List (List Key × V)} {es:Array DictEntry} {ep:Nat} (I:Inv X pins σ H s) (hH:H d=some (.frz o (.dT kvs))) (hes:o.data = .dict es ep):RawD s.heap d es ep∧es.size=kvs.length∧∀ (i:Nat) (hi:i < es.size),∃ k v b,kvs[i]? = some (k,v)∧es[i].key = .ref b∧H b=some (.tup (k.map kV)):=by
 obtain ⟨hod,_,_,xs,rel,o',es',ep',ho',ex',dat',hes',_⟩:=I.hok d _ hH
 rw [hod] at ho'
 cases ho'
 rw [hes] at dat'
 cases dat'
 obtain ⟨rl,ra⟩:=paired_at rel
 have sz:es.size=xs.length:=by rw [← Array.length_toList,hes',List.length_map]
 refine ⟨⟨o,hod,ex',hes⟩,by omega,fun i hi => ?_⟩
 have ix:i < xs.length:=by omega
 have ik:i < kvs.length:=by omega
 obtain ⟨r1,r2,r3⟩:=ra i kvs[i] xs[i] (List.getElem?_eq_getElem ik) (List.getElem?_eq_getElem ix)
 refine ⟨kvs[i].1,kvs[i].2,xs[i].2.1,List.getElem?_eq_getElem ik,?_,r2⟩
 have e:es.toList[i]? = some (entryOfKey (tupleKind (mixKind X.prog X.w)) xs[i]):=by rw [hes',List.getElem?_map,List.getElem?_eq_getElem ix]; rfl
 rw [Array.getElem?_toList,Array.getElem?_eq_getElem hi] at e
 rw [Option.some.inj e]
 rfl
theorem turn_dictT {P:Program} {w:World} {K:PySem.W.Frag} {tg:Expr} {o:Obj} {kvs:List (List Key × V)} {es:Array DictEntry} {ep:Nat} (d it:Addr) (hes:o.data = .dict es ep) :
  Turn P w K tg (ItdT d o kvs) [it] it (fun i h => h.IsKeyIter it d i es.size ep) where
 mem:=by simp
 obj:=fun i h st b hb => by
  have e:b=it:=by simpa using hb
  subst e
  obtain ⟨ob,e,c,dt⟩:=st
  exact ⟨ob,e,fun v z => by rw [dt] at z; cases z⟩
 keep:=fun i h h' st k => by
  obtain ⟨ob,e,r⟩:=st
  exact ⟨ob,k it (by simp) ob e,r⟩
 item:=by
  intro X hP hw hK hc i pins s σ H E I hf st hg
  subst hP hw hK
  obtain ⟨hH,il⟩:=hg
  obtain ⟨rd,sz,at'⟩:=frzT_at I hH hes
  have ie:i < es.size:=by omega
  obtain ⟨k,v,b,e1,e2,e3⟩:=at' i ie
  obtain ⟨f0,f1,f2,f3,f4,f5⟩:=hf it (by simp)
  refine kr_item st rd ie fun h' st' sb => ?_
  have I1:Inv X pins σ H { s with heap:=h' }:=I.turned (t':=s.toks) (fun b ob hb e => (sb.2 b hb).trans e) f0 f1 f3 f4 f5
  obtain ⟨ob,e,c,dt⟩:=id st'
  exact ⟨es[i].key,rfl,go_of (s:={ s with heap:=h' }) e c dt (by decide) ⟨.ref b,H,I1,e2,⟨rfl,k,v,b,e1,rfl,e3⟩,st',fun b hb => (hf b hb).1⟩⟩
 done:=by
  intro X hP hw hK hc i pins s σ H E I hf st hg
  subst hP hw hK
  obtain ⟨hH,il⟩:=hg
  obtain ⟨rd,sz,_⟩:=frzT_at I hH hes
  obtain ⟨f0,f1,f2,f3,f4,f5⟩:=hf it (by simp)
  exact kr_end (I.ok.hd hc) st rd (by omega) fun h' eb => ⟨rfl,I.turned (t':=s.toks) (fun b ob hb e => eb b ob hb e) f0 f1 f3 f4 f5⟩
 self:=fun _ _ _ _ _ st h => wpAny_pyIter_keyiter st h
def iDictT (td:TE):TI:=fun σ H R => td σ H fun x H1 => ∃ d kvs,x = .ref d∧H1 d=some (.dT kvs)∧∀ o,R (ItdT d o kvs) (upd H1 d (.frz o (.dT kvs)))
theorem pi_dictT {tg l:Expr} {td:TE} (hl:PE X l td):PI X tg l (iDictT td):=by
 intro pins s σ H R I h
 refine thn (hl pins s σ H _ I h) fun v s1 ⟨x,H1,I1,r1,q1⟩ => ?_
 obtain ⟨d,kvs,e,hd,q⟩:=q1
 subst e
 cases r1
 obtain ⟨_,sm,xs,rel,o,es,ep,ho,ex,dat,_,_⟩:=id (I1.hok d _ hd)
 have I2:=I1.freezeT hd ho
 refine kr_iter sm ⟨o,ho,ex,dat⟩ ?_
 refine ⟨s1.heap.objs.size,[s1.heap.objs.size],_,_,_,rfl,I2.kept (t':=s1.toks) fun b o e => Heap.get?_push_of_some _ e,turn_dictT d _ dat,⟨_,Heap.get?_push_size _ rfl,rfl,rfl⟩,fun b hb => ?_,q o⟩
 have e:b=s1.heap.objs.size:=by simpa using hb
 subst e
 exact I2.fpOk (Nat.le_refl _) (I2.hok.fresh (Nat.le_refl _))
end
theorem compDT {k:Nat} {d:Addr} {o:Obj} {kvs:List (List Key × V)} {g:TG} {tt:TT} {te:TE} {Q:VK} {σ:St} {H:Hp} (Pv:Nat→List V→Hp→Prop) (h0:Pv 0 [] H) (hb:kvs.length ≤ 1000) (hz:∀ i ys H,Pv i ys H→ys.length ≤ i) (hl:∀ i ys H,i ≤ kvs.length→Pv i ys H→H d=some (.frz o (.dT kvs)))
  (hs:∀ i k0 v b ys H (pre:St),pre.length=k→kvs[i]? = some (k0,v)→H b=some (.tup (k0.map kV))→Pv i ys H→g (.ref b) (pre ++ σ) H fun σ' H2 => (∃ pre' : St,σ' = pre' ++ σ∧pre'.length=k)∧tt σ' H2 fun ok H3 => if ok=true then te σ' H3 fun y H4 => Pv (i + 1) (ys ++ [y]) H4 else Pv (i + 1) ys H3) (hd:∀ ys H,Pv kvs.length ys H→∀ D,H D=none→Q (.ref D) (upd H D (.lst ys))):CGo k (ItdT d o kvs) g tt te Q σ H:=by
 refine ⟨fun i m ys H => m=kvs.length - i∧i ≤ kvs.length∧Pv i ys H,⟨kvs.length,by simp,Nat.zero_le _,h0⟩,?_⟩
 rintro i m ys H ⟨rfl,hi,p⟩
 have q:=hl i ys H hi p
 by_cases hlt:i < kvs.length
 ·refine .inr ⟨⟨q,hlt⟩,Nat.lt_of_le_of_lt (hz i ys H p) (small1000 (by omega)),Pv (i + 1),fun zs H' p' => ⟨kvs.length - (i + 1),by omega,rfl,hlt,p'⟩,fun x H' pre hp y => ?_⟩
  obtain ⟨e,k0,v,b,ek,ex,eb⟩:=y
  subst e ex
  exact hs i k0 v b ys _ pre hp ek eb p
 ·have e:i=kvs.length:=by omega
  subst e
  exact .inl ⟨⟨q,Nat.le_refl _⟩,hd ys H p⟩
end L2
namespace Toy
open PySem L2 PyProof.Rows
def top (i:Nat):Stmt:=PySem.Challenge.pw_farcords_k20_sorts_walked.main.body.getD i (.Pass ⟨0,0,0,0⟩)
structure Kn (P:Program) (w:World) (K:PySem.W.Frag) (mg:Str→Option Value) (base:Heap) (x:Str) (k:Nat) (ps:List Str) (sp:Sp):Prop where
 ex:∃ (f:Addr) (fd:FuncData),FnOk P w K mg base CX0 k f fd ps sp∧mg x=some (.ref f)∧PySem.W.keepIn K (.ref f)=true∧Binds K fd ps []
theorem pe_callD {X:Cx} {x:Str} {k j:Nat} {ps:List Str} {sp:Sp} {e:Expr} {es:List Expr} {t:TA} {p pos:PySem.Pos} (G:Kn X.prog X.w X.K X.mg X.base x k ps sp) (hr:Room j X.A) (hg:Gl X x) (ha:PA X (e :: es) t) (hle:k ≤ j:=by decide)
  (hdb:(x == ("__debug__" : Str))=false:=by decide)
  (he:starEach (e :: es) X.env=(false,eval e X.env) :: starEach es X.env:=by rfl) (hpl:(backTo pos (starEach es X.env)).any (·.1)=false:=by rfl):PE X (.Call (.Name x p) (e :: es) [] pos) (tCall sp [] E0 t):=by
 obtain ⟨f,fd,F,hm,hk,hb⟩:=G.ex
 exact pe_call F (hr.mono hle) hg hm hk hb .nil pass0 ha hdb he hpl
structure Txt (mg:Str→Option Value):Prop where
 len:mg "len" = none
 range:mg "range" = none
 min:mg "min" = none
 max:mg "max" = none
 isinstance:mg "isinstance" = none
 bool:mg "bool" = none
 int:mg "int" = none
 tuple:mg "tuple" = none
 list:mg "list" = none
 str:mg "str" = none
 all:mg "all" = none
 sum:mg "sum" = none
 sorted:mg "sorted" = none
def Purse (H:Hp) (d:Addr):Prop:=∃ a b:Int,H d=some (.lst [.int a,.int b])∧0 ≤ b∧b < 2147483648
def But (d:Addr) (H H' : Hp):Prop:=∀ c o,H c=some o→c ≠ d→H' c=some o
theorem But.refl (d:Addr) (H:Hp):But d H H:=fun _ _ e _ => e
theorem But.trans {d:Addr} {H H1 H2:Hp} (a:But d H H1) (b:But d H1 H2):But d H H2:=fun c o e n => b c o (a c o e n) n
theorem But.upd {d:Addr} {H H' : Hp} {o:HO} (a:But d H H'):But d H (upd H' d o):=fun c u e n => by rw [upd_ne n]; exact a c u e n
theorem But.new {d p:Addr} {H H' : Hp} {o:HO} (a:But d H H') (h:H' p=none):But d H (L2.upd H' p o):=fun c u e n => by
 have:=a c u e n
 rw [upd_ne (ne_of_none this h)]; exact this
theorem Purse.new {d p:Addr} {H:Hp} {o:HO} (a:Purse H d) (h:H p=none):Purse (L2.upd H p o) d:=by
 obtain ⟨x,y,e,r⟩:=a
 exact ⟨x,y,by rw [upd_ne (ne_of_none e h)]; exact e,r⟩
theorem Same.new {p:Addr} {H H' : Hp} {o:HO} (a:Same H H') (h:H' p=none):Same H (L2.upd H' p o):=fun c u e => by
 have:=a c u e
 rw [upd_ne (ne_of_none this h)]; exact this
theorem log_ok {m:Int} (h0:0 < m) (h:m < 10 ^ 100):m.natAbs.log2 < 9000:=by
 have h2:m.natAbs < 2 ^ 400:=by
  have:(10:Int) ^ 100 ≤ 2 ^ 400:=by decide +kernel
  omega
 have:=(Nat.log2_lt (n:=m.natAbs) (k:=400) (by omega)).mpr h2
 omega
theorem bits_ok {m:Int} (h0:0 < m) (h:m < 10 ^ 100):((Builtin.Int.intBits m:Nat):Int) ≤ 400:=by
 have h2:m.natAbs < 2 ^ 400:=by
  have:(10:Int) ^ 100 ≤ 2 ^ 400:=by decide +kernel
  omega
 have:=(Nat.log2_lt (n:=m.natAbs) (k:=400) (by omega)).mpr h2
 have hne:(m == 0)=false:=by simp; omega
 unfold Builtin.Int.intBits
 simp only [hne]
 simp
 omega
section
variable {P:Program} {w:World} {K:PySem.W.Frag} {mg:Str→Option Value} {base:Heap}
abbrev s__law_cell_at:Stmt:=top 19
theorem sc__law_cell_at:FnScope ["_law_script", "_law_k"] ["_law_script", "_law_k"] (defScope s__law_cell_at):=⟨rfl,rfl,rfl,by decide +kernel,rfl,by decide +kernel,by decide +kernel⟩
def spCell (K:PySem.W.Frag):Sp:=fun vs H Q _ => ∃ (a:Addr) (ns:List Int) (k:Int),vs=[.ref a,.int k]∧SqL K H a (ns.map V.int)∧0 ≤ k∧∀ n:Int,Q (.int n) H
theorem ok_cell {f:Addr} {fd:FuncData} (F:Fun K "_law_cell_at" "_law_cell_at" s__law_cell_at f fd) (M:Txt mg):FnOk P w K mg base CX0 1 f fd ["_law_script", "_law_k"] (spCell K):=by
 have sc:=sc__law_cell_at
 refine F.ok sc (fun vs H Q E h => ?_) (fun cdv A outer s H vs Q E hr h => ?_)
 ·obtain ⟨a,ns,k,rfl,_⟩:=h
  rfl
 ·obtain ⟨a,ns,i,rfl,hS,h0,k⟩:=h
  refine ⟨_,(pss_cons (ps_if (pt_cmpR op_lt (pv 1) (pe_callB (call_lenK (K:=K)) (by rfl) M.len PySem.boot_len (pa_Name (pv 0) pa_nil)) (nomark _)) (pss_one (ps_ret (pe_ix (ix_listK (K:=K)) (pv 0) (pv 1) (fun _ _ => rfl)))) pss_nil)
   (pss_one (ps_ret pe_int))),?_⟩
  refine ⟨_,rfl,_,rfl,a,_,rfl,.inl hS,_,_,rfl,rfl,_,rfl,?_⟩
  refine ite2 (fun e => ?_) (fun e => ?_)
  ·have e:=of_decide_eq_true e
   rw [List.length_map] at e
   have hlt:i.toNat < ns.length:=by omega
   refine ⟨_,rfl,_,rfl,a,_,_,V.int (ns[i.toNat]),rfl,rfl,hS,?_,k _⟩
   have:=atI_nat (xs:=ns.map V.int) (j:=i.toNat) (v:=V.int (ns[i.toNat])) (by rw [List.getElem?_map,List.getElem?_eq_getElem hlt]; rfl)
   rw [Int.toNat_of_nonneg h0] at this
   exact this
  ·exact k 0
abbrev s__law_purse:Stmt:=top 20
theorem sc__law_purse:FnScope ["_law_script", "_law_at", "_law_cell", "_law_seed", "_law_k"] ["_law_script", "_law_at"] (defScope s__law_purse):=⟨rfl,rfl,rfl,by decide +kernel,rfl,by decide +kernel,by decide +kernel⟩
def spPurse (K:PySem.W.Frag):Sp:=fun vs H Q _ => ∃ (a:Addr) (ns:List Int) (k:Int),vs=[.ref a,.int k]∧SqL K H a (ns.map V.int)∧0 ≤ k∧k ≤ 1000∧∀ (d:Addr) (H' : Hp),H d=none→Purse H' d→Same H H'→Q (.ref d) H'
theorem ok_purse {f:Addr} {fd:FuncData} (F:Fun K "_law_purse" "_law_purse" s__law_purse f fd) (M:Txt mg) (G_law_cell_at:Kn P w K mg base "_law_cell_at" 1 ["_law_script", "_law_k"] (spCell K)):FnOk P w K mg base CX0 2 f fd ["_law_script", "_law_at"] (spPurse K):=by
 have sc:=sc__law_purse
 refine F.ok sc (fun vs H Q E h => ?_) (fun cdv A outer s H vs Q E hr h => ?_)
 ·obtain ⟨a,ns,k,rfl,_⟩:=h
  rfl
 ·obtain ⟨a,ns,i,rfl,hS,h0,h1,k⟩:=h
  refine ⟨_,(pss_cons (ps_set (i:=2) sc.nd rfl (Or.inl rfl) (pe_callD G_law_cell_at hr rfl (pa_Name (pv 0) (pa_Name (pv 1) pa_nil))))
   (pss_cons (ps_if (pt_cmpR op_ge (pv 2) (pe_op op_pow pe_int pe_int) (nomark _)) (pss_one (ps_ret (pe_lst (pa_o2 (pv 2) pe_int pa_nil)))) pss_nil)
   (pss_cons (ps_set (i:=3) sc.nd rfl (Or.inl rfl) (pe_op op_add (pe_op op_mul pe_int (pv 1)) pe_int))
   (pss_cons (ps_for PassesOwn.never rfl (pi_range1 rfl M.range (pa_Constant pe_int pa_nil)) (pg_name (i:=4) sc.nd rfl (Or.inl rfl))
   (pss_cons (ps_set (i:=3) sc.nd rfl (Or.inl rfl) (pe_op op_add (pe_op op_add (pe_op op_mul (pv 3) pe_int) (pe_op op_mod (pe_callD G_law_cell_at hr rfl (pa_Name (pv 0) (pa_BinOp (pe_op op_add (pv 1) (pv 4)) pa_nil))) pe_int)) (pe_op op_mul pe_int (pv 4))))
   (pss_one (ps_set (i:=3) sc.nd rfl (Or.inl rfl) (pe_op op_mod (pv 3) pe_int)))))
   (pss_one (ps_ret (pe_lst (pa_o2 pe_int (pe_op op_add (pv 3) pe_int) pa_nil)))))))),?_⟩
  refine ⟨_,rfl,_,rfl,a,ns,i,rfl,hS,h0,fun cell => ?_⟩
  refine ⟨_,rfl,_,_,rfl,rfl,⟨by decide,by decide,by decide⟩,_,_,rfl,rfl,_,rfl,?_⟩
  refine ite2 (fun e => ?_) (fun e => ?_)
  ·refine ⟨_,rfl,(by show 2 ≤ sizeLine; decide),fun d hd => ?_⟩
   exact k d _ hd ⟨_,_,upd_same,by decide,by decide⟩ (Same.new (Same.refl _) hd)
  ·refine ⟨_,rfl,_,_,rfl,rfl,.inl ⟨by decide,by decide⟩,_,_,rfl,rfl,?_⟩
   refine ⟨9,rfl,by decide,by decide,for_range (n:=9) (fun j σ H' => ∃ (c kk:Option V) (seed:Int),σ=[some (.ref a),some (.int i),c,some (.int seed),kk]∧0 ≤ seed∧seed < 2147483629∧H' = H) ⟨_,_,_,rfl,by omega,by omega,rfl⟩ ?_ ?_⟩
   ·rintro j σ H' hj ⟨c,kk,seed,rfl,hs0,hs1,rfl⟩
    refine ⟨_,rfl,_,_,rfl,rfl,.inl ⟨by omega,by omega⟩,?_⟩
    refine ⟨_,rfl,_,rfl,_,rfl,_,_,rfl,rfl,a,ns,_,rfl,hS,by omega,fun cell' => ?_⟩
    refine ⟨_,_,rfl,rfl,(by show (0:Int) < 2147483647; decide),_,_,rfl,rfl,_,rfl,_,_,rfl,rfl,.inl ⟨by decide,by decide⟩,_,_,rfl,rfl,?_⟩
    refine ⟨_,rfl,_,_,rfl,rfl,(by show (0:Int) < 2147483629; decide),?_⟩
    exact ⟨_,_,_,rfl,Int.emod_nonneg _ (by decide),Int.emod_lt_of_pos _ (by decide),rfl⟩
   ·rintro σ H' ⟨c,kk,seed,rfl,hs0,hs1,rfl⟩
    refine ⟨_,rfl,_,_,rfl,rfl,(by show 2 ≤ sizeLine; decide),fun d hd => ?_⟩
    exact k d _ hd ⟨_,_,upd_same,by omega,by omega⟩ (Same.new (Same.refl _) hd)
abbrev s__law_take:Stmt:=top 21
theorem sc__law_take:FnScope ["_law_draw", "_law_many", "_law_digit", "_law_found", "_law_k"] ["_law_draw", "_law_many"] (defScope s__law_take):=⟨rfl,rfl,rfl,by decide +kernel,rfl,by decide +kernel,by decide +kernel⟩
def spTake:Sp:=fun vs H Q _ => ∃ (d:Addr) (m:Int),vs=[.ref d,.int m]∧Purse H d∧0 < m∧m < 10 ^ 100∧∀ (r:Int) (H' : Hp),0 ≤ r→r < m→Purse H' d→But d H H'→Q (.int r) H'
theorem ok_take {f:Addr} {fd:FuncData} (F:Fun K "_law_take" "_law_take" s__law_take f fd) (M:Txt mg):FnOk P w K mg base CX0 1 f fd ["_law_draw", "_law_many"] spTake:=by
 have sc:=sc__law_take
 refine F.ok sc (fun vs H Q E h => ?_) (fun cdv A outer s H vs Q E hr h => ?_)
 ·obtain ⟨a,k,rfl,_⟩:=h
  rfl
 ·obtain ⟨d,m,rfl,⟨a,b,hd,hb0,hb1⟩,hm0,hm1,k⟩:=h
  have hlog:=log_ok hm0 hm1
  have hbits:=bits_ok hm0 hm1
  refine ⟨_,(pss_cons (ps_if (pt_cmpR op_eq (pe_ix (ix_listK (K:=K)) (pv 0) pe_int (fun _ _ => rfl)) pe_int (nomark _)) (pss_cons (ps_set (i:=2) sc.nd rfl (Or.inl rfl) (pe_op op_mod (pe_ix (ix_listK (K:=K)) (pv 0) pe_int (fun _ _ => rfl)) (pv 1)))
   (pss_cons (ps_asg (pe_op op_fdivL (pe_ix (ix_listK (K:=K)) (pv 0) pe_int (fun _ _ => rfl)) (pv 1)) (pg_sub (pv 0) pe_int set_list))
   (pss_one (ps_ret (pv 2))))) pss_nil)
   (pss_cons (ps_set (i:=3) sc.nd rfl (Or.inl rfl) pe_int)
   (pss_cons (ps_for PassesOwn.never rfl (pi_range1 rfl M.range (pa_BinOp (pe_op op_add pe_int (pe_op op_fdivL (pe_bm0 PySem.F.plainAttrs_int PySem.F.slot_int_bit_length PySem.F.type_int_bit_length mt_bits (pv 1)) pe_int)) pa_nil)) (pg_name (i:=4) sc.nd rfl (Or.inl rfl))
   (pss_cons (ps_asg (pe_op op_mod (pe_op op_mul (pe_ix (ix_listK (K:=K)) (pv 0) pe_int (fun _ _ => rfl)) pe_int) pe_int) (pg_sub (pv 0) pe_int set_list))
   (pss_one (ps_set (i:=3) sc.nd rfl (Or.inl rfl) (pe_op op_add (pe_op op_mul (pv 3) pe_int) (pe_op op_mod (pe_op op_mul (pe_ix (ix_listK (K:=K)) (pv 0) pe_int (fun _ _ => rfl)) (pe_ix (ix_listK (K:=K)) (pv 0) pe_int (fun _ _ => rfl))) pe_int))))))
   (pss_one (ps_ret (pe_op op_mod (pe_op op_fdivL (pv 3) pe_int) (pv 1))))))),?_⟩
  refine ⟨_,rfl,d,_,_,_,rfl,rfl,SqL.of hd,rfl,rfl,_,rfl,?_⟩
  refine ite2 (fun e => ?_) (fun e => ?_)
  ·refine ⟨_,rfl,d,_,_,_,rfl,rfl,SqL.of hd,rfl,_,rfl,_,_,rfl,rfl,hm0,?_⟩
   refine ⟨_,rfl,d,_,_,_,rfl,rfl,SqL.of hd,rfl,_,rfl,_,_,rfl,rfl,⟨hm0,hlog⟩,_,rfl,d,_,_,_,rfl,rfl,hd,rfl,?_⟩
   refine ⟨_,rfl,?_⟩
   exact k _ _ (Int.emod_nonneg _ (by omega)) (Int.emod_lt_of_pos _ hm0) ⟨_,_,upd_same,hb0,hb1⟩ (But.upd (But.refl _ _))
  ·refine ⟨_,rfl,rfl,_,rfl,rfl,_,_,rfl,rfl,⟨by decide,by decide⟩,_,_,rfl,rfl,?_⟩
   refine ⟨_,rfl,by omega,by omega,for_range (fun j σ H' => ∃ (c kk:Option V) (found b' : Int),σ=[some (.ref d),some (.int m),c,some (.int found),kk]∧H' d=some (.lst [.int a,.int b'])∧0 ≤ b'∧b' < 2147483648∧But d H H') ⟨_,_,_,b,rfl,hd,hb0,hb1,But.refl _ _⟩ ?_ ?_⟩
   ·rintro j σ H' hj ⟨c,kk,found,b',rfl,hd',hb0',hb1',bt⟩
    refine ⟨_,rfl,d,_,_,_,rfl,rfl,SqL.of hd',rfl,_,_,rfl,rfl,.inl ⟨by omega,by omega⟩,_,_,rfl,rfl,(by show (0:Int) < 2147483647; decide),_,rfl,d,_,_,_,rfl,rfl,hd',rfl,?_⟩
    have z0:0 ≤ b' * 48271 % 2147483647:=Int.emod_nonneg _ (by decide)
    have z1:b' * 48271 % 2147483647 < 2147483647:=Int.emod_lt_of_pos _ (by decide)
    refine ⟨_,rfl,_,_,rfl,rfl,.inr ⟨by decide,by decide⟩,?_⟩
    refine ⟨_,rfl,d,_,_,_,rfl,rfl,SqL.of upd_same,rfl,_,rfl,d,_,_,_,rfl,rfl,SqL.of upd_same,rfl,_,_,rfl,rfl,.inl ⟨by omega,by omega⟩,_,_,rfl,rfl,(by show (0:Int) < 2147483629; decide),_,_,rfl,rfl,?_⟩
    exact ⟨_,_,_,_,rfl,upd_same,z0,by omega,But.upd bt⟩
   ·rintro σ H' ⟨c,kk,found,b',rfl,hd',hb0',hb1',bt⟩
    refine ⟨_,rfl,_,_,rfl,rfl,⟨by decide,by decide⟩,_,rfl,_,_,rfl,rfl,hm0,?_⟩
    exact k _ _ (Int.emod_nonneg _ (by omega)) (Int.emod_lt_of_pos _ hm0) ⟨_,_,hd',hb0',hb1'⟩ bt
end
end Toy
namespace Toy
open PySem L2 PyProof.Rows
theorem Purse.ne {H:Hp} {d p:Addr} (P:Purse H d) (h:H p=none):p ≠ d:=by
 obtain ⟨x,y,e,_⟩:=P
 exact (ne_of_none e h).symm
theorem But.free {d p:Addr} {H H' : Hp} (e:But d H H') (hP:Purse H' d) (h:H' p=none):H p=none:=by
 cases z:H p with
 | none => rfl
 | some o =>
  by_cases q:p=d
  ·subst q
   obtain ⟨x,y,e',_⟩:=hP
   rw [h] at e'; cases e'
  ·rw [e p o z q] at h; cases h
theorem But.tups {d:Addr} {H H' : Hp} (B:But d H H') (P:Purse H d):Tups H H':=fun b ys e => B b _ e (fun z => by
 obtain ⟨x,y,e',_⟩:=P
 rw [z,e'] at e; cases e)
theorem But.own {d p:Addr} {H H' : Hp} {o:HO} (B:But d H H') (h:H p=none):But d H (L2.upd H' p o):=fun c u e n => by
 rw [upd_ne (ne_of_none e h)]; exact B c u e n
theorem Purse.own {d p:Addr} {H:Hp} {o:HO} (P:Purse H d) (h:p ≠ d):Purse (L2.upd H p o) d:=by
 obtain ⟨x,y,e,r⟩:=P
 exact ⟨x,y,by rw [upd_ne (Ne.symm h)]; exact e,r⟩
theorem But.same {d:Addr} {H H1 H2:Hp} (B:But d H H1) (s:Same H1 H2):But d H H2:=fun c o e n => s c o (B c o e n)
theorem Same.purse {d:Addr} {H H' : Hp} (s:Same H H') (P:Purse H d):Purse H' d:=by
 obtain ⟨x,y,e,r⟩:=P
 exact ⟨x,y,s _ _ e,r⟩
section
variable {P:Program} {w:World} {K:PySem.W.Frag} {mg:Str→Option Value} {base:Heap}
abbrev s__law_number:Stmt:=top 22
theorem sc__law_number:FnScope ["_law_draw", "_law_way", "_law_figure"] ["_law_draw"] (defScope s__law_number):=⟨rfl,rfl,rfl,by decide +kernel,rfl,by decide +kernel,by decide +kernel⟩
def spNumber:Sp:=fun vs H Q _ => ∃ (d:Addr),vs=[.ref d]∧Purse H d∧∀ (r:Int) (H' : Hp),-(10 ^ 62) < r→r < 10 ^ 62→Purse H' d→But d H H'→Q (.int r) H'
theorem ok_number {f:Addr} {fd:FuncData} (F:Fun K "_law_number" "_law_number" s__law_number f fd) (M:Txt mg) (G_law_take:Kn P w K mg base "_law_take" 1 ["_law_draw", "_law_many"] spTake):FnOk P w K mg base CX0 2 f fd ["_law_draw"] spNumber:=by
 have sc:=sc__law_number
 refine F.ok sc (fun vs H Q E h => ?_) (fun cdv A outer s H vs Q E hr h => ?_)
 ·obtain ⟨d,rfl,_⟩:=h
  rfl
 ·obtain ⟨d,rfl,hP,k⟩:=h
  refine ⟨_,(pss_cons (ps_set (i:=1) sc.nd rfl (Or.inl rfl) (pe_callD G_law_take hr rfl (pa_Name (pv 0) (pa_Constant pe_int pa_nil))))
   (pss_cons (ps_if (pt_cmpR op_lt (pv 1) pe_int (nomark _)) (pss_one (ps_ret (pe_op op_sub (pe_callD G_law_take hr rfl (pa_Name (pv 0) (pa_Constant pe_int pa_nil))) pe_int))) pss_nil)
   (pss_cons (ps_set (i:=2) sc.nd rfl (Or.inl rfl) (pe_callD G_law_take hr rfl (pa_Name (pv 0) (pa_Subscript (pe_ix (ix_listK (K:=K)) (pe_lst (pa_o3 (pe_op op_pow pe_int pe_int) (pe_op op_pow pe_int pe_int) (pe_op op_pow pe_int pe_int) pa_nil)) (pe_op op_sub (pv 1) pe_int) (fun _ _ => rfl)) pa_nil))))
   (pss_one (ps_ret (pe_op op_mul (pv 2) (pe_op op_sub pe_int (pe_op op_mul pe_int (pe_callD G_law_take hr rfl (pa_Name (pv 0) (pa_Constant pe_int pa_nil))))))))))),?_⟩
  refine ⟨_,rfl,d,8,rfl,hP,by decide,by decide,fun way H1 w0 w1 P1 B1 => ?_⟩
  refine ⟨_,rfl,_,_,rfl,rfl,_,rfl,ite2 (fun e => ?_) (fun e => ?_)⟩
  ·refine ⟨_,rfl,d,9,rfl,P1,by decide,by decide,fun r H2 r0 r1 P2 B2 => ⟨_,_,rfl,rfl,?_⟩⟩
   exact k _ H2 (by omega) (by omega) P2 (B1.trans B2)
  ·have e:=of_decide_eq_false (Bool.eq_false_iff.mpr e)
   refine ⟨_,rfl,_,_,rfl,rfl,⟨by decide,by decide,by decide⟩,_,_,rfl,rfl,⟨by decide,by decide,by decide⟩,_,_,rfl,rfl,⟨by decide,by decide,by decide⟩,(by show 3 ≤ sizeLine; decide),fun l hl => ?_⟩
   have hc:way=5 ∨ way=6 ∨ way=7:=by omega
   rcases hc with rfl | rfl | rfl
   all_goals
    refine ⟨_,rfl,_,_,rfl,rfl,l,_,_,_,rfl,rfl,SqL.of upd_same,rfl,?_⟩
    refine ⟨d,_,rfl,P1.new hl,by decide,by decide,fun r H2 r0 r1 P2 B2 => ?_⟩
    refine ⟨_,rfl,_,rfl,d,2,rfl,P2,by decide,by decide,fun b H3 b0 b1 P3 B3 => ?_⟩
    refine ⟨_,_,rfl,rfl,.inl ⟨by decide,by decide⟩,_,_,rfl,rfl,_,_,rfl,rfl,.inr ⟨by omega,by omega⟩,?_⟩
    have r1' : r < 10 ^ 62:=Int.lt_of_lt_of_le r1 (by decide)
    have hb:b=0 ∨ b=1:=by omega
    rcases hb with rfl | rfl
    ·exact k _ H3 (by omega) (by omega) P3 (((B1.new hl).trans B2).trans B3)
    ·exact k _ H3 (by omega) (by omega) P3 (((B1.new hl).trans B2).trans B3)
abbrev s__law_weights:Stmt:=top 23
theorem sc__law_weights:FnScope ["_law_draw", "_law_wide_here"] ["_law_draw", "_law_wide_here"] (defScope s__law_weights):=⟨rfl,rfl,rfl,by decide +kernel,rfl,by decide +kernel,by decide +kernel⟩
def WdOk (wd:Int) (ns:List Int):Prop:=ns.length=wd.toNat∧∀ z ∈ ns,-(10 ^ 62) < z∧z < 10 ^ 62
def spWeights:Sp:=fun vs H Q _ => ∃ (d:Addr) (wd:Int),vs=[.ref d,.int wd]∧Purse H d∧1 ≤ wd∧wd ≤ 24∧∀ (p:Addr) (ns:List Int) (H' : Hp),H p=none→H' p=some (.tup (ns.map V.int))→WdOk wd ns→Purse H' d→But d H H'→Q (.ref p) H'
theorem ok_weights {f:Addr} {fd:FuncData} (F:Fun K "_law_weights" "_law_weights" s__law_weights f fd) (M:Txt mg) (G_law_number:Kn P w K mg base "_law_number" 2 ["_law_draw"] spNumber):FnOk P w K mg base CX0 3 f fd ["_law_draw", "_law_wide_here"] spWeights:=by
 have sc:=sc__law_weights
 refine F.ok sc (fun vs H Q E h => ?_) (fun cdv A outer s H vs Q E hr h => ?_)
 ·obtain ⟨d,wd,rfl,_⟩:=h
  rfl
 ·obtain ⟨d,wd,rfl,hP,w1,w2,k⟩:=h
  refine ⟨_,(pss_one (ps_ret (pe_callTy call_tuple_of (by rfl) M.tuple boot_tuple (pa_cons (pe_compG (xs:=["_law_k"]) (Nb:=["_law_draw", "_law_wide_here"]) rfl (pi_range1 rfl M.range (pa_Name (pv 1) pa_nil)) rfl (by show ∀ p ∈ (List.zip ["_law_draw", "_law_wide_here"] ["_law_draw", "_law_wide_here"]:List (Str × Str)),_; decide +kernel) (by decide +kernel) (fun cl C s₂ H₂ fp => (pg_name (i:=0) (by show List.Nodup (["_law_k", "_law_draw", "_law_wide_here"]:List Str); decide +kernel) rfl (Or.inl (lookup_relabel_local rfl)) (Or.inr (lookup_relabel_local rfl)))) (fun cl C s₂ H₂ fp => pif_nil) (fun cl C s₂ H₂ fp => (pe_callD G_law_number hr rfl (pa_Name (pv 1) pa_nil))) (by decide +kernel) rfl (by decide +kernel) (by show ∀ y ∈ (_:List (Str × NameKind)),y.2=NameKind.free→(defScope s__law_weights).names.lookup y.1=some .cell; decide +kernel)) pa_nil)))),?_⟩
  refine ⟨_,rfl,_,rfl,by omega,by omega,compR (fun i ys H' => (∃ ns:List Int,ys=ns.map V.int∧ns.length=i∧∀ z ∈ ns,-(10 ^ 62) < z∧z < 10 ^ 62)∧Purse H' d∧But d H H') ⟨⟨[],rfl,rfl,fun z hz => by simp at hz⟩,hP,But.refl _ _⟩ (by omega) (fun i ys H' h => by obtain ⟨⟨ns,rfl,e,_⟩,_⟩:=h; rw [List.length_map,e]; exact Nat.le_refl _) ?_ ?_⟩
  ·rintro i ys H' pre hp hi ⟨⟨ns,rfl,e,hbd⟩,P1,B1⟩
   rcases pre with _ | ⟨p0,_ | ⟨p1,pre⟩⟩
   ·cases hp
   ·refine ⟨⟨[some _],rfl,rfl⟩,?_⟩
    unfold tYes
    dsimp only
    rw [if_pos (rfl:true=true)]
    refine ⟨_,rfl,d,rfl,P1,fun r H2 r0 r1 P2 B2 => ?_⟩
    exact ⟨⟨ns ++ [r],by rw [List.map_append]; rfl,by rw [List.length_append,e]; rfl,fun z hz => by
     rcases List.mem_append.mp hz with q | q
     ·exact hbd z q
     ·rw [List.mem_singleton.mp q]; exact ⟨r0,r1⟩⟩,P2,B1.trans B2⟩
   ·cases hp
  ·rintro ys H' ⟨⟨ns,rfl,e,hbd⟩,P1,B1⟩ D hD
   refine ⟨D,_,rfl,.inl ⟨SqL.of upd_same,fun l hl => ?_⟩⟩
   have B2:=B1.new (o:=.lst (ns.map V.int)) hD
   have P2:=P1.new (o:=.lst (ns.map V.int)) hD
   exact k l ns _ (B2.free P2 hl) upd_same ⟨e,hbd⟩ (P2.new hl) (B2.new hl)
end
end Toy
namespace Toy
open PySem L2 PyProof.Rows
theorem Same.own {p:Addr} {H H' : Hp} {o:HO} (a:Same H H') (h:H p=none):Same H (L2.upd H' p o):=fun c u e => by
 rw [upd_ne (ne_of_none e h)]; exact a c u e
theorem shStep_len (acc:List (Int × List Int)) (e:Int × List Int):(shStep acc e).length ≤ acc.length + 1:=by
 unfold shStep
 split
 ·split
  ·split
   ·rw [List.length_append,List.length_dropLast,List.length_singleton]; omega
   ·rw [List.length_append,List.length_singleton]; exact Nat.le_refl _
  ·rw [List.length_append,List.length_singleton]; exact Nat.le_refl _
 ·omega
theorem shape_len (L:List (Int × List Int)):(shape L).length ≤ L.length:=by
 have key:∀ (L acc:List (Int × List Int)),(L.foldl shStep acc).length ≤ acc.length + L.length:=by
  intro L
  induction L with
  | nil => intro acc; exact Nat.le_refl _
  | cons e L ih =>
   intro acc
   rw [List.foldl_cons,List.length_cons]
   have:=ih (shStep acc e)
   have:=shStep_len acc e
   omega
 have:=key L []
 unfold shape
 simpa using this
theorem shape_all {p:List Int→Prop} {L:List (Int × List Int)} (h:∀ e ∈ L,p e.2):∀ e ∈ shape L,p e.2:=by
 have key:∀ (L acc:List (Int × List Int)),(∀ e ∈ L,p e.2)→(∀ e ∈ acc,p e.2)→∀ e ∈ L.foldl shStep acc,p e.2:=by
  intro L
  induction L with
  | nil => intro acc _ h; exact h
  | cons x L ih =>
   intro acc hL ha
   rw [List.foldl_cons]
   refine ih _ (fun e he => hL e (List.mem_cons_of_mem _ he)) ?_
   have hx:=hL x List.mem_cons_self
   have snoc:∀ e ∈ acc ++ [x],p e.2:=fun e he => (List.mem_append.mp he).elim (ha e) fun z => by rw [List.mem_singleton] at z; subst z; exact hx
   unfold shStep
   split
   ·split
    ·split
     ·intro e he
      rcases List.mem_append.mp he with z | z
      ·exact ha e (List.dropLast_subset _ z)
      ·rw [List.mem_singleton] at z; subst z; exact hx
     ·exact snoc
    ·exact snoc
   ·exact ha
 exact key L [] h (fun e he => by simp at he)
section
variable {P:Program} {w:World} {K:PySem.W.Frag} {mg:Str→Option Value} {base:Heap}
abbrev s__law_shape:Stmt:=top 24
theorem sc__law_shape:FnScope ["_law_pieces", "_law_found", "_law_many", "_law_weights_here"] ["_law_pieces"] (defScope s__law_shape):=⟨rfl,rfl,rfl,by decide +kernel,rfl,by decide +kernel,by decide +kernel⟩
def spShape (K:PySem.W.Frag):Sp:=fun vs H Q _ => ∃ (a:Addr) (xs:List V) (L:List (Int × List Int)),vs=[.ref a]∧SqL K H a xs∧Wg H xs L∧L.length ≤ 1000∧∀ (b:Addr) (ys:List V) (H' : Hp),H b=none→H' b=some (.lst ys)→Wg H' ys (shape L)→Same H H'→Q (.ref b) H'
theorem ok_shape {f:Addr} {fd:FuncData} (F:Fun K "_law_shape" "_law_shape" s__law_shape f fd) (M:Txt mg):FnOk P w K mg base CX0 1 f fd ["_law_pieces"] (spShape K):=by
 have sc:=sc__law_shape
 refine F.ok sc (fun vs H Q E h => ?_) (fun cdv A outer s H vs Q E hr h => ?_)
 ·obtain ⟨a,xs,L,rfl,_⟩:=h
  rfl
 ·obtain ⟨a,xs,L,rfl,hS,g,hL,k⟩:=h
  refine ⟨_,(pss_cons (ps_set (i:=1) sc.nd rfl (Or.inl rfl) (pe_lst pa_nil))
   (pss_cons (ps_for PassesOwn.never rfl (pi_list (pv 0)) (pg_tup rfl (pgs_cons (pg_name (i:=2) sc.nd rfl (Or.inl rfl)) (pgs_cons (pg_name (i:=3) sc.nd rfl (Or.inl rfl)) pgs_nil)))
   (pss_one (ps_if (pt_cmpR op_gt (pv 2) pe_int (nomark _)) (pss_cons (ps_if (PW.pt (pw_and (pt_cmpR (op_neD hr) (pv 1) (pe_lst pa_nil) (nomark _)) (pw_and1 (pt_cmpR (op_eqD hr) (pe_ix (ix_tupK (K:=K)) (pe_ix (ix_listK (K:=K)) (pv 1) (pe_un un_neg pe_int) (fun _ _ => rfl)) pe_int (fun _ _ => rfl)) (pv 3) (nomark _))))) (pss_one (ps_set (i:=2) sc.nd rfl (Or.inl rfl) (pe_op op_add (pv 2) (pe_ix (ix_tupK (K:=K)) (pe_bm0 PySem.F.plainAttrs_list PySem.F.slot_list_pop PySem.F.type_list_pop mt_pop (pv 1)) pe_int (fun _ _ => rfl))))) pss_nil)
   (pss_one (ps_expr (pe_bm PySem.F.plainAttrs_list PySem.F.slot_list_append PySem.F.type_list_append mt_append (pv 1) (pa_Tuple (pe_tup (pa_o2 (pv 2) (pv 3) pa_nil)) pa_nil))))) pss_nil)))
   (pss_one (ps_ret (pv 1))))),?_⟩
  refine ⟨(by show 0 ≤ sizeLine; decide),fun b fb => ?_⟩
  refine ⟨_,rfl,a,rfl,⟨xs,(Same.new (Same.refl H) fb).seq hS⟩,for_list (K:=K) (a:=a) (xs:=xs) (fun i σ H' => ∃ (m v:Option V) (ys:List V),σ=[some (.ref a),some (.ref b),m,v]∧H' b=some (.lst ys)∧Wg H' ys (shape (L.take i))∧Same H H') ⟨_,_,[],rfl,upd_same,Wg.nil _,Same.new (Same.refl H) fb⟩ (fun i σ H' _ ⟨_,_,_,_,_,_,z⟩ => z.seq hS) ?_ ?_⟩
  ·rintro i x σ H1 hx ⟨m,v,ys,rfl,h1b,g1,s1⟩
   obtain ⟨e,hei,q,wq,rfl,hq,hw⟩:=g.at' hx
   have hq1:=s1 _ _ hq
   have hw1:=s1 _ _ hw
   have hi:i < L.length:=(List.getElem?_eq_some_iff.mp hei).1
   have lys:ys.length ≤ i:=by have:=shape_len (L.take i); have:=g1.1; rw [List.length_take] at *; omega
   refine ⟨q,_,rfl,SqT.of hq1,rfl,_,_,rfl,_,_,rfl,rfl,?_⟩
   refine ⟨_,rfl,_,_,rfl,rfl,_,rfl,ite2 (fun hc => ?_) (fun hc => ?_)⟩
   ·have hpos:0 < e.1:=of_decide_eq_true hc
    refine ⟨_,rfl,(by show 0 ≤ sizeLine; decide),fun l hl => ?_⟩
    have nlb:l ≠ b:=fun z => by rw [z,h1b] at hl; cases hl
    have s2:Same H (upd H1 l (.lst [])):=Same.new s1 hl
    have T2:Tups H1 (upd H1 l (.lst [])):=(Tups.refl H1).new hl
    have h2b:(upd H1 l (.lst [])) b=some (.lst ys):=by rw [upd_ne (Ne.symm nlb)]; exact h1b
    have hlN:(upd H1 l (.lst [])) l=some (.lst []):=upd_same
    have hw2:=T2 _ _ hw1
    have hq2:=T2 _ _ hq1
    have g2:=g1.up T2
    generalize upd H1 l (.lst [])=H2 at s2 T2 h2b hlN hw2 hq2 g2 ⊢
    refine ⟨_,_,g2.di (SqL.of h2b),di_nil (SqL.of hlN),lay_dL _,lay_dL _,dep_dL _,_,rfl,?_⟩
    rw [eqv_dL]
    cases hlast:(shape (L.take i)).getLast? with
    | none =>
     have hnil:shape (L.take i)=[]:=by
      cases z:shape (L.take i) with
      | nil => rfl
      | cons y r => rw [z] at hlast; simp at hlast
     rw [decide_eq_true hnil]
     refine iteF (iteF ?_)
     refine ⟨_,rfl,.inl ⟨rfl,_,SqL.of h2b⟩,_,rfl,_,rfl,(by show 2 ≤ sizeLine; decide),fun p hp => ?_⟩
     have npb:p ≠ b:=fun z => by rw [z,h2b] at hp; cases hp
     have h8b:=(upd_ne (H:=H2) (a:=p) (o:=.tup [.int e.1,.ref wq]) (Ne.symm npb)).trans h2b
     refine ⟨b,_,_,rfl,rfl,h8b,Nat.lt_of_le_of_lt (by have:=lys; omega:ys.length ≤ 1000) (by decide),?_⟩
     have T8:Tups H2 (upd H2 p (.tup [.int e.1,.ref wq])):=(Tups.refl _).new hp
     have T9:Tups (upd H2 p (.tup [.int e.1,.ref wq])) (upd (upd H2 p (.tup [.int e.1,.ref wq])) b (.lst (ys ++ [.ref p]))):=(Tups.refl _).lst h8b
     refine ⟨_,_,_,rfl,upd_same,?_,Same.own (Same.new s2 hp) fb⟩
     rw [shape_succ hei]; unfold shStep; rw [if_pos hpos]; rw [hlast]; dsimp only
     exact Wg.snoc (g2.up (T8.trans T9)) ⟨p,wq,rfl,T9 _ _ upd_same,T9 _ _ (T8 _ _ hw2)⟩
    | some l0 =>
     have hne:shape (L.take i) ≠ []:=fun z => by rw [z] at hlast; cases hlast
     rw [decide_eq_false hne]
     refine iteT ?_
     have hlen1:(shape (L.take i)).length - 1 < ys.length:=by
      have:0 < (shape (L.take i)).length:=List.length_pos_iff.mpr hne
      have:=g2.1; omega
     have hl0:(shape (L.take i))[ys.length - 1]? = some l0:=by rw [g2.1,← List.getLast?_eq_getElem?]; exact hlast
     obtain ⟨y0,hy0,q0,w0,rfl,hq0,hw0⟩:=g2.get hl0
     refine ⟨_,rfl,_,rfl,b,_,_,V.ref q0,rfl,rfl,SqL.of h2b,?_,q0,_,_,_,rfl,rfl,SqT.of hq0,rfl,_,rfl,_,_,di_ints hw0,di_ints hw2,lay_dT _,lay_dT _,(by rw [dep_dT]; decide),_,rfl,?_⟩
     ·have:ys=ys.dropLast ++ [V.ref q0]:=drop_get (by rw [List.getLast?_eq_getElem?]; exact hy0)
      rw [this]; exact atI_last _ _
     rw [eqv_dT]
     refine ite2 (fun hE => ?_) (fun hE => ?_)
     ·have hE:=of_decide_eq_true hE
      refine ⟨_,rfl,_,rfl,.inl ⟨rfl,_,SqL.of h2b⟩,b,ys,V.ref q0,rfl,rfl,h2b,hy0,?_⟩
      have T3:Tups H2 (upd H2 b (.lst ys.dropLast)):=(Tups.refl H2).lst h2b
      have s3:Same H (upd H2 b (.lst ys.dropLast)):=Same.own s2 fb
      have h3b:(upd H2 b (.lst ys.dropLast)) b=some (.lst ys.dropLast):=upd_same
      have hw3:=T3 _ _ hw2
      have hq03:=T3 _ _ hq0
      have g3:=(g2.up T3).pop
      have ld:ys.dropLast.length ≤ i:=by rw [List.length_dropLast]; omega
      generalize upd H2 b (.lst ys.dropLast)=H3 at s3 T3 h3b hw3 hq03 g3 ⊢
      refine ⟨q0,_,_,_,rfl,rfl,SqT.of hq03,rfl,_,_,rfl,rfl,?_⟩
      refine ⟨_,rfl,.inl ⟨rfl,_,SqL.of h3b⟩,_,rfl,_,rfl,(by show 2 ≤ sizeLine; decide),fun p hp => ?_⟩
      have npb:p ≠ b:=fun z => by rw [z,h3b] at hp; cases hp
      have h8b:=(upd_ne (H:=H3) (a:=p) (o:=.tup [.int (e.1 + l0.1),.ref wq]) (Ne.symm npb)).trans h3b
      refine ⟨b,_,_,rfl,rfl,h8b,Nat.lt_of_le_of_lt (by have:=ld; omega:ys.dropLast.length ≤ 1000) (by decide),?_⟩
      have T8:Tups H3 (upd H3 p (.tup [.int (e.1 + l0.1),.ref wq])):=(Tups.refl _).new hp
      have T9:Tups (upd H3 p (.tup [.int (e.1 + l0.1),.ref wq])) (upd (upd H3 p (.tup [.int (e.1 + l0.1),.ref wq])) b (.lst (ys.dropLast ++ [.ref p]))):=(Tups.refl _).lst h8b
      refine ⟨_,_,_,rfl,upd_same,?_,Same.own (Same.new s3 hp) fb⟩
      rw [shape_succ hei]; unfold shStep; rw [if_pos hpos]; rw [hlast]; dsimp only; rw [if_pos hE]
      exact Wg.snoc (g3.up (T8.trans T9)) ⟨p,wq,rfl,T9 _ _ upd_same,T9 _ _ (T8 _ _ hw3)⟩
     ·have hE:=of_decide_eq_false (Bool.eq_false_iff.mpr hE)
      refine ⟨_,rfl,.inl ⟨rfl,_,SqL.of h2b⟩,_,rfl,_,rfl,(by show 2 ≤ sizeLine; decide),fun p hp => ?_⟩
      have npb:p ≠ b:=fun z => by rw [z,h2b] at hp; cases hp
      have h8b:=(upd_ne (H:=H2) (a:=p) (o:=.tup [.int e.1,.ref wq]) (Ne.symm npb)).trans h2b
      refine ⟨b,_,_,rfl,rfl,h8b,Nat.lt_of_le_of_lt (by have:=lys; omega:ys.length ≤ 1000) (by decide),?_⟩
      have T8:Tups H2 (upd H2 p (.tup [.int e.1,.ref wq])):=(Tups.refl _).new hp
      have T9:Tups (upd H2 p (.tup [.int e.1,.ref wq])) (upd (upd H2 p (.tup [.int e.1,.ref wq])) b (.lst (ys ++ [.ref p]))):=(Tups.refl _).lst h8b
      refine ⟨_,_,_,rfl,upd_same,?_,Same.own (Same.new s2 hp) fb⟩
      rw [shape_succ hei]; unfold shStep; rw [if_pos hpos]; rw [hlast]; dsimp only; rw [if_neg hE]
      exact Wg.snoc (g2.up (T8.trans T9)) ⟨p,wq,rfl,T9 _ _ upd_same,T9 _ _ (T8 _ _ hw2)⟩
   ·have hc:=of_decide_eq_false (Bool.eq_false_iff.mpr hc)
    refine ⟨_,_,ys,rfl,h1b,?_,s1⟩
    rw [shape_succ hei]
    unfold shStep
    rw [if_neg hc]
    exact g1
  ·rintro σ H1 ⟨m,v,ys,rfl,h1b,g1,s1⟩
   have hlx:L.take xs.length=L:=by rw [g.1]; exact List.take_length
   rw [hlx] at g1
   exact ⟨_,rfl,k b ys H1 fb h1b g1 s1⟩
abbrev s__law_wide:Stmt:=top 25
theorem sc__law_wide:FnScope ["_law_draw"] ["_law_draw"] (defScope s__law_wide):=⟨rfl,rfl,rfl,by decide +kernel,rfl,by decide +kernel,by decide +kernel⟩
def spWide:Sp:=fun vs H Q _ => ∃ (d:Addr),vs=[.ref d]∧Purse H d∧∀ (r:Int) (H' : Hp),1 ≤ r→r ≤ 24→Purse H' d→But d H H'→Q (.int r) H'
theorem ok_wide {f:Addr} {fd:FuncData} (F:Fun K "_law_wide" "_law_wide" s__law_wide f fd) (M:Txt mg) (G_law_take:Kn P w K mg base "_law_take" 1 ["_law_draw", "_law_many"] spTake):FnOk P w K mg base CX0 2 f fd ["_law_draw"] spWide:=by
 have sc:=sc__law_wide
 refine F.ok sc (fun vs H Q E h => ?_) (fun cdv A outer s H vs Q E hr h => ?_)
 ·obtain ⟨d,rfl,_⟩:=h
  rfl
 ·obtain ⟨d,rfl,hP,k⟩:=h
  refine ⟨_,(pss_one (ps_ret (pe_ix (ix_listK (K:=K)) (pe_lst (pa_o2 (pe_op op_add pe_int (pe_callD G_law_take hr rfl (pa_Name (pv 0) (pa_Constant pe_int pa_nil)))) (pe_op op_add pe_int (pe_callD G_law_take hr rfl (pa_Name (pv 0) (pa_Constant pe_int pa_nil)))) pa_nil)) (pe_callTy call_int1 (by rfl) M.int boot_int (pa_cons (pe_cmpR op_eq (pe_callD G_law_take hr rfl (pa_Name (pv 0) (pa_Constant pe_int pa_nil))) pe_int (nomark _)) pa_nil)) (fun _ _ => rfl)))),?_⟩
  refine ⟨_,rfl,d,3,rfl,hP,by decide,by decide,fun r H1 r0 r1 P1 B1 => ⟨_,_,rfl,rfl,?_⟩⟩
  refine ⟨_,rfl,d,24,rfl,P1,by decide,by decide,fun r' H2 q0 q1 P2 B2 => ⟨_,_,rfl,rfl,(by show 2 ≤ sizeLine; decide),fun l hl => ?_⟩⟩
  have nl:=P2.ne hl
  refine ⟨_,rfl,d,8,rfl,P2.new hl,by decide,by decide,fun t H3 t0 t1 P3 B3 => ⟨rfl,?_⟩⟩
  have hl3:=B3 l _ upd_same nl
  have B:=((B1.trans B2).new hl).trans B3
  refine .inr ⟨_,rfl,?_⟩
  cases decide (V.int t=V.int 5) with
  | true => exact ⟨l,_,_,_,rfl,rfl,SqL.of hl3,rfl,k _ H3 (by omega) (by omega) P3 B⟩
  | false => exact ⟨l,_,_,_,rfl,rfl,SqL.of hl3,rfl,k _ H3 (by omega) (by omega) P3 B⟩
end
end Toy
namespace Toy
open PySem L2 PyProof.Rows
structure Gb (mg:Str→Option Value):Prop where
 mp:∃ t,mg "MOST_PLACES" = some (.int 2000 t)
 zp:mg "zip" = none
 st:mg "set" = none
end Toy
namespace Toy
open PySem L2 PyProof.Rows
theorem first_zero {ss:List Int} (so:ss.Pairwise (· < ·)) (hb:∀ s ∈ ss,0 ≤ s) (z0:(0:Int) ∈ ss):ss[0]? = some 0:=by
 cases ss with
 | nil => cases z0
 | cons a r =>
  have ha:=hb a List.mem_cons_self
  rcases List.mem_cons.mp z0 with z | z
  ·rw [z]; rfl
  ·have:=(List.pairwise_cons.mp so).1 _ z
   omega
theorem last_long {ss:List Int} {lg:Int} (so:ss.Pairwise (· < ·)) (hb:∀ s ∈ ss,s ≤ lg) (zl:lg ∈ ss):ss[ss.length - 1]? = some lg:=by
 obtain ⟨i,hi⟩:=List.mem_iff_getElem?.mp zl
 obtain ⟨hlt,he⟩:=List.getElem?_eq_some_iff.mp hi
 by_cases z:i=ss.length - 1
 ·rw [← z]; exact hi
 ·have:=List.pairwise_iff_getElem.mp so i (ss.length - 1) hlt (by omega) (by omega)
  have h2:=hb _ (List.getElem_mem (show ss.length - 1 < ss.length by omega))
  omega
section
variable {P:Program} {w:World} {K:PySem.W.Frag} {mg:Str→Option Value} {base:Heap}
abbrev s__law_fitted:Stmt:=top 26
theorem sc__law_fitted:FnScope ["_law_draw", "_law_wide_here", "_law_long", "_law_spots", "_law_k", "_law_pool", "_law_found"] ["_law_draw", "_law_wide_here", "_law_long"] (defScope s__law_fitted):=⟨rfl,rfl,rfl,by decide +kernel,rfl,by decide +kernel,by decide +kernel⟩
def spFitted:Sp:=fun vs H Q _ => ∃ (d:Addr) (wd lg:Int),vs=[.ref d,.int wd,.int lg]∧Purse H d∧1 ≤ wd∧wd ≤ 24∧0 ≤ lg∧lg < 10 ^ 63∧∀ (b:Addr) (ys:List V) (L:Wl) (H' : Hp),b ≠ d→H' b=some (.lst ys)→Wg H' ys L→FitW wd lg L→Purse H' d→But d H H'→Q (.ref b) H'
theorem ok_fitted {f:Addr} {fd:FuncData} (F:Fun K "_law_fitted" "_law_fitted" s__law_fitted f fd) (M:Txt mg) (G_law_take:Kn P w K mg base "_law_take" 1 ["_law_draw", "_law_many"] spTake) (G_law_weights:Kn P w K mg base "_law_weights" 3 ["_law_draw", "_law_wide_here"] spWeights) (G_law_shape:Kn P w K mg base "_law_shape" 1 ["_law_pieces"] (spShape K)) (B:Gb mg):FnOk P w K mg base CX0 4 f fd ["_law_draw", "_law_wide_here", "_law_long"] spFitted:=by
 have sc:=sc__law_fitted
 refine F.ok sc (fun vs H Q E h => ?_) (fun cdv A outer s H vs Q E hr h => ?_)
 ·obtain ⟨d,wd,lg,rfl,_⟩:=h
  rfl
 ·obtain ⟨d,wd,lg,rfl,hP,w1,w2,g0,g1,k⟩:=h
  refine ⟨_,(pss_cons (ps_if (pt_cmpR op_eq (pv 2) pe_int (nomark _)) (pss_one (ps_ret (pe_lst pa_nil))) pss_nil)
   (pss_cons (ps_set (i:=3) sc.nd rfl (Or.inl rfl) (pe_lst (pa_o2 pe_int (pv 2) pa_nil)))
   (pss_cons (ps_for PassesOwn.never rfl (pi_range1 rfl M.range (pa_Subscript (pe_ix (ix_listK (K:=K)) (pe_lst (pa_o2 (pe_callD G_law_take hr rfl (pa_Name (pv 0) (pa_Constant pe_int pa_nil))) (pe_callD G_law_take hr rfl (pa_Name (pv 0) (pa_Constant pe_int pa_nil))) pa_nil)) (pe_callTy call_int1 (by rfl) M.int boot_int (pa_cons (pe_cmpR op_eq (pe_callD G_law_take hr rfl (pa_Name (pv 0) (pa_Constant pe_int pa_nil))) pe_int (nomark _)) pa_nil)) (fun _ _ => rfl)) pa_nil)) (pg_name (i:=4) sc.nd rfl (Or.inl rfl))
   (pss_one (ps_expr (pe_bm PySem.F.plainAttrs_list PySem.F.slot_list_append PySem.F.type_list_append mt_append (pv 3) (pa_Call (pe_callD G_law_take hr rfl (pa_Name (pv 0) (pa_Subscript (pe_ix (ix_listK (K:=K)) (pe_lst (pa_o2 (pv 2) (pe_callB (call_min2 rfl) (by rfl) M.min boot_min (pa_Name (pv 2) (pa_Constant pe_int pa_nil))) pa_nil)) (pe_callD G_law_take hr rfl (pa_Name (pv 0) (pa_Constant pe_int pa_nil))) (fun _ _ => rfl)) pa_nil))) pa_nil)))))
   (pss_cons (ps_set (i:=3) sc.nd rfl (Or.inl rfl) (pe_sortedSet rfl (pv 3) rfl M.sorted rfl B.st))
   (pss_cons (ps_compG (xs:=["_law_k"]) (Nb:=["_law_draw", "_law_wide_here", "_law_long", "_law_spots", "", "_law_pool", "_law_found"]) (pg_name (i:=5) sc.nd rfl (Or.inl rfl)) rfl rfl (pi_range1 rfl M.range (pa_BinOp (pe_op op_add pe_int (pe_callD G_law_take hr rfl (pa_Name (pv 0) (pa_Constant pe_int pa_nil)))) pa_nil)) rfl (by show ∀ p ∈ (List.zip ["_law_draw", "_law_wide_here", "_law_long", "_law_spots", "", "_law_pool", "_law_found"] ["_law_draw", "_law_wide_here", "_law_long", "_law_spots", "_law_k", "_law_pool", "_law_found"]:List (Str × Str)),_; decide +kernel) (by decide +kernel) (fun cl C s₂ H₂ fp => (pg_name (i:=0) (by show List.Nodup (["_law_k", "_law_draw", "_law_wide_here", "_law_long", "_law_spots", "", "_law_pool", "_law_found"]:List Str); decide +kernel) rfl (Or.inl (lookup_relabel_local rfl)) (Or.inr (lookup_relabel_local rfl)))) (fun cl C s₂ H₂ fp => pif_nil) (fun cl C s₂ H₂ fp => (pe_callD G_law_weights hr rfl (pa_Name (pv 1) (pa_Name (pv 2) pa_nil)))) (by decide +kernel) rfl (by decide +kernel) (by show ∀ y ∈ (_:List (Str × NameKind)),y.2=NameKind.free→(defScope s__law_fitted).names.lookup y.1=some .cell; decide +kernel))
   (pss_cons (ps_set (i:=6) sc.nd rfl (Or.inl rfl) (pe_lst pa_nil))
   (pss_cons (ps_for PassesOwn.never rfl (pi_range2 rfl M.range (pa_Constant pe_int (pa_Call (pe_callB (call_lenK (K:=K)) (by rfl) M.len PySem.boot_len (pa_Name (pv 3) pa_nil)) pa_nil))) (pg_name (i:=4) sc.nd rfl (Or.inl rfl))
   (pss_one (ps_expr (pe_bm PySem.F.plainAttrs_list PySem.F.slot_list_append PySem.F.type_list_append mt_append (pv 6) (pa_Tuple (pe_tup (pa_o2 (pe_op op_sub (pe_ix (ix_listK (K:=K)) (pv 3) (pv 4) (fun _ _ => rfl)) (pe_ix (ix_listK (K:=K)) (pv 3) (pe_op op_sub (pv 4) pe_int) (fun _ _ => rfl))) (pe_ix (ix_listK (K:=K)) (pv 5) (pe_callD G_law_take hr rfl (pa_Name (pv 0) (pa_Call (pe_callB (call_lenK (K:=K)) (by rfl) M.len PySem.boot_len (pa_Name (pv 5) pa_nil)) pa_nil))) (fun _ _ => rfl)) pa_nil)) pa_nil)))))
   (pss_one (ps_ret (pe_callD G_law_shape hr rfl (pa_Name (pv 6) pa_nil))))))))))),?_⟩
  refine ⟨_,rfl,rfl,_,rfl,ite2 (fun e => ?_) (fun e => ?_)⟩
  ·have e:lg=0:=V.int.inj (of_decide_eq_true e)
   exact ⟨(by show 0 ≤ sizeLine; decide),fun b hb => k b [] [] _ (hP.ne hb) upd_same (Wg.nil _) ⟨⟨fun e he => (by cases he),fun e he => (by cases he),trivial⟩,Nat.zero_le _,e.symm,fun e he => (by cases he)⟩ (hP.new hb) ((But.refl d H).new hb)⟩
  have lp:0 < lg:=by
   have:lg ≠ 0:=fun z => e (decide_eq_true (congrArg V.int z))
   omega
  refine ⟨_,rfl,(by show 2 ≤ sizeLine; decide),fun b hb => ?_⟩
  have nbd:=hP.ne hb
  have P0:=hP.new (o:=.lst [.int 0,.int lg]) hb
  have B0:=(But.refl d H).new (o:=.lst [.int 0,.int lg]) hb
  have hb0:(upd H b (.lst [.int 0,.int lg])) b=some (.lst (([0,lg]:List Int).map V.int)):=upd_same
  generalize upd H b (.lst [.int 0,.int lg])=H0 at P0 B0 hb0 ⊢
  refine ⟨_,rfl,d,6,rfl,P0,by decide,by decide,fun r1 H1 r10 r11 P1 B1 => ?_⟩
  refine ⟨_,rfl,d,40,rfl,P1,by decide,by decide,fun r2 H2 r20 r21 P2 B2 => ⟨(by show 2 ≤ sizeLine; decide),fun l hl => ?_⟩⟩
  have nl:=P2.ne hl
  refine ⟨_,rfl,d,8,rfl,P2.new hl,by decide,by decide,fun t H3 t0 t1 P3 B3 => ⟨rfl,.inr ⟨_,rfl,?_⟩⟩⟩
  have hl3:=B3 l _ upd_same nl
  have B03:=((B1.trans B2).new hl).trans B3
  have hb3:=B03 _ _ hb0 nbd
  have BH3:=B0.trans B03
  have key:∃ r:Int,atI [V.int r1,V.int r2] (if decide (V.int t=V.int 3)=true then 1 else 0)=some (V.int r)∧0 ≤ r∧r < 40:=by
   cases decide (V.int t=V.int 3) with
   | true => exact ⟨r2,rfl,r20,r21⟩
   | false => exact ⟨r1,rfl,r10,by omega⟩
  obtain ⟨r,hat,q0,q1⟩:=key
  refine ⟨l,_,_,_,rfl,rfl,SqL.of hl3,hat,r,rfl,by omega,by omega,?_⟩
  refine for_range (n:=r.toNat) (fun i σ H' => ∃ (kk:Option V) (ps:List Int),σ=[some (.ref d),some (.int wd),some (.int lg),some (.ref b),kk,none,none]∧H' b=some (.lst (ps.map V.int))∧ps.length=2 + i∧(∀ s ∈ ps,0 ≤ s∧s ≤ lg)∧(0:Int) ∈ ps∧lg ∈ ps∧Purse H' d∧But d H H')
    ⟨_,[0,lg],rfl,hb3,rfl,fun s hs => by
     rcases List.mem_cons.mp hs with rfl | hs
     ·omega
     ·rw [List.mem_singleton.mp hs]; omega,List.mem_cons_self,List.mem_cons_of_mem _ List.mem_cons_self,P3,BH3⟩ ?_ ?_
  ·rintro i σ H4 hi ⟨kk,ps,rfl,hb4,lps,bp,z0,zl,P4,B4⟩
   refine ⟨_,rfl,.inl ⟨rfl,_,SqL.of hb4⟩,_,rfl,_,rfl,_,rfl,_,_,rfl,(by show 2 ≤ sizeLine; decide),fun l2 hl2 => ?_⟩
   have nl2:=P4.ne hl2
   refine ⟨_,rfl,d,2,rfl,P4.new hl2,by decide,by decide,fun c H5 c0 c1 P5 B5 => ?_⟩
   have hl5:=B5 l2 _ upd_same nl2
   have B45:=((But.refl d H4).new hl2).trans B5
   have key:∃ m:Int,atI [V.int lg,V.int (if 12 < lg then 12 else lg)] c=some (V.int m)∧0 < m∧m ≤ lg:=by
    have hc:c=0 ∨ c=1:=by omega
    rcases hc with rfl | rfl
    ·exact ⟨lg,rfl,lp,Int.le_refl _⟩
    ·exact ⟨_,rfl,by split <;> omega,by split <;> omega⟩
   obtain ⟨m,hat2,m0,m1⟩:=key
   refine ⟨l2,_,_,_,rfl,rfl,SqL.of hl5,hat2,d,m,rfl,P5,m0,Int.lt_of_le_of_lt m1 (Int.lt_trans g1 (by decide)),fun s H6 s0 s1 P6 B6 => ?_⟩
   have hb6:=B6 _ _ (B45 _ _ hb4 nbd) nbd
   refine ⟨b,_,_,rfl,rfl,hb6,Nat.lt_of_le_of_lt (by rw [List.length_map]; omega:_ ≤ 1000) (by decide),?_⟩
   refine ⟨_,ps ++ [s],rfl,by rw [upd_same,List.map_append]; rfl,by rw [List.length_append,lps]; rfl,fun z hz => ?_,List.mem_append_left _ z0,List.mem_append_left _ zl,P6.own nbd,((B4.trans B45).trans B6).own hb⟩
   rcases List.mem_append.mp hz with z | z
   ·exact bp _ z
   ·rw [List.mem_singleton.mp z]; omega
  ·rintro σ H4 ⟨kk,ps,rfl,hb4,lps,bp,z0,zl,P4,B4⟩
   refine ⟨_,rfl,b,ps,rfl,SqL.of hb4,by omega,fun q ms hq hpm hs => ?_⟩
   have ml:ms.length ≤ 41:=by rw [hpm.length_eq]; exact Nat.le_trans (dd_len ps) (by omega)
   have mm:∀ s,s ∈ ms ↔ s ∈ ps:=fun s => by rw [hpm.mem_iff,dd_mem]
   have nd:ms.Nodup:=hpm.nodup_iff.mpr (dd_nodup ps)
   have so:ms.Pairwise (· < ·):=(hs.and nd).imp fun h => Int.lt_iff_le_and_ne.mpr h
   have bm:∀ s ∈ ms,0 ≤ s∧s ≤ lg:=fun s hs' => bp s ((mm s).mp hs')
   have fz:=first_zero so (fun s h => (bm s h).1) ((mm 0).mpr z0)
   have fl:=last_long so (fun s h => (bm s h).2) ((mm lg).mpr zl)
   have mp:0 < ms.length:=(List.getElem?_eq_some_iff.mp fz).1
   have B5:=B4.new (o:=.lst (ms.map V.int)) hq
   have P5:=P4.new (o:=.lst (ms.map V.int)) hq
   have nqd:=P4.ne hq
   have hq5:(upd H4 q (.lst (ms.map V.int))) q=some (.lst (ms.map V.int)):=upd_same
   generalize upd H4 q (.lst (ms.map V.int))=H5 at B5 P5 hq5 ⊢
   refine ⟨_,rfl,d,3,rfl,P5,by decide,by decide,fun r H6 r0 r1 P6 B6 => ⟨_,_,rfl,rfl,?_⟩⟩
   have hq6:=B6 _ _ hq5 nqd
   refine ⟨_,rfl,by omega,by omega,compR (fun i ys H' => ys.length=i∧(∀ y ∈ ys,∃ (q:Addr) (ns:List Int),y=V.ref q∧H' q=some (.tup (ns.map V.int))∧WdOk wd ns)∧H' q=some (.lst (ms.map V.int))∧Purse H' d∧But d H H') ⟨rfl,fun y hy => by simp at hy,hq6,P6,B5.trans B6⟩ (by omega) (fun i ys H' h => Nat.le_of_eq h.1) ?_ ?_⟩
   ·rintro i ys H' pre hp hi ⟨e,hy,hq',P2,B2⟩
    rcases pre with _ | ⟨p0,_ | ⟨p1,pre⟩⟩
    ·cases hp
    ·refine ⟨⟨[some _],rfl,rfl⟩,?_⟩
     unfold tYes
     dsimp only
     rw [if_pos (rfl:true=true)]
     refine ⟨_,rfl,_,rfl,d,wd,rfl,P2,w1,w2,fun q2 ns H3 f3 h3 l3 P3 B3 => ?_⟩
     refine ⟨by rw [List.length_append,e]; rfl,fun y hm => ?_,B3 _ _ hq' nqd,P3,B2.trans B3⟩
     rcases List.mem_append.mp hm with z | z
     ·obtain ⟨q',ns',rfl,t',l'⟩:=hy y z
      exact ⟨q',ns',rfl,B3.tups P2 _ _ t',l'⟩
     ·rw [List.mem_singleton] at z
      subst z
      exact ⟨q2,ns,rfl,h3,l3⟩
    ·cases hp
   ·rintro ys H2 ⟨e,hy,hq2,P2,B2⟩ D hD
    have P3:=P2.new (o:=.lst ys) hD
    have B3:=B2.new (o:=.lst ys) hD
    have nqD:q ≠ D:=fun z => by rw [← z,hq2] at hD; cases hD
    refine ⟨(by show 0 ≤ sizeLine; decide),fun c hc => ?_⟩
    have P4:=P3.new (o:=.lst []) hc
    have B4:=B3.new (o:=.lst []) hc
    have fc:=B3.free P3 hc
    have ncD:c ≠ D:=fun z => by rw [z,upd_same] at hc; cases hc
    have ncq:c ≠ q:=fun z => by rw [z,upd_ne nqD,hq2] at hc; cases hc
    have nDd:=P2.ne hD
    have ncd:=P3.ne hc
    have T4:Tups H2 (upd (upd H2 D (.lst ys)) c (.lst [])):=((Tups.refl H2).new hD).new hc
    have hq4:(upd (upd H2 D (.lst ys)) c (.lst [])) q=some (.lst (ms.map V.int)):=by rw [upd_ne (Ne.symm ncq),upd_ne nqD]; exact hq2
    have hD4:(upd (upd H2 D (.lst ys)) c (.lst [])) D=some (.lst ys):=by rw [upd_ne (Ne.symm ncD)]; exact upd_same
    have hc4:(upd (upd H2 D (.lst ys)) c (.lst [])) c=some (.lst []):=upd_same
    generalize upd (upd H2 D (.lst ys)) c (.lst [])=HS at P4 B4 T4 hq4 hD4 hc4 ⊢
    have ml' : (ms.map V.int).length ≤ 41:=by rw [List.length_map]; exact ml
    refine ⟨_,rfl,q,_,rfl,.inl (SqL.of hq4),1,_,rfl,⟨by decide,by decide,by omega,by omega⟩,for_range (fun i σ H' => ∃ (kk:Option V) (xs:List V) (L:Wl),σ=[some (.ref d),some (.int wd),some (.int lg),some (.ref q),kk,some (.ref D),some (.ref c)]∧H' c=some (.lst xs)∧H' D=some (.lst ys)∧H' q=some (.lst (ms.map V.int))∧Tups H2 H'∧Wg H' xs L∧L.length=i∧(∀ e ∈ L,1 ≤ e.1∧WdOk wd e.2)∧ms[i]? = some (tot L)∧Purse H' d∧But d H H') ⟨_,[],[],rfl,hc4,hD4,hq4,T4,Wg.nil _,rfl,fun e he => by simp at he,fz,P4,B4⟩ ?_ ?_⟩
    ·rintro i σ H5 hi ⟨kk,xs,L,rfl,h5c,h5D,h5q,T5,g5,l5,q5,ht5,P5,B5⟩
     rw [List.length_map] at hi
     have hv:ms[i + 1]? = some ms[i + 1]:=List.getElem?_eq_getElem (by omega)
     have hlt:tot L < ms[i + 1]:=by
      obtain ⟨a,ea⟩:=List.getElem?_eq_some_iff.mp ht5
      have:=List.pairwise_iff_getElem.mp so i (i + 1) a (by omega) (by omega)
      rw [ea] at this
      exact this
     generalize ms[i + 1]=v at hv hlt
     have au:atI (ms.map V.int) (1 + (i:Int) - 1)=some (V.int (tot L)):=by
      rw [show (1 + (i:Int) - 1)=((i:Nat):Int) by omega]
      exact atI_nat (by rw [List.getElem?_map,ht5]; rfl)
     have av:atI (ms.map V.int) (1 + (i:Int))=some (V.int v):=by
      rw [show (1 + (i:Int))=((i + 1:Nat):Int) by omega]
      exact atI_nat (by rw [List.getElem?_map,hv]; rfl)
     refine ⟨_,rfl,.inl ⟨rfl,_,SqL.of h5c⟩,_,rfl,_,rfl,q,_,_,_,rfl,rfl,SqL.of h5q,av,?_⟩
     refine ⟨_,rfl,_,rfl,_,_,rfl,rfl,q,_,_,_,rfl,rfl,SqL.of h5q,au,_,_,rfl,rfl,?_⟩
     refine ⟨_,rfl,_,rfl,_,rfl,D,_,rfl,.inl (SqL.of h5D),d,_,rfl,P5,by omega,by omega,fun cc H7 c0 c1 P7 B7 => ?_⟩
     have h7c:=B7 c _ h5c ncd
     have h7D:=B7 D _ h5D nDd
     have h7q:=B7 q _ h5q nqd
     have hcc:cc.toNat < ys.length:=by omega
     have T57:Tups H5 H7:=B7.tups P5
     have T7:Tups H2 H7:=T5.trans T57
     obtain ⟨q',ns,eq,tq,lq⟩:=hy _ (List.getElem_mem hcc)
     have tq7:=T7 _ _ tq
     refine ⟨D,_,_,V.ref q',rfl,rfl,SqL.of h7D,?_,(by show 2 ≤ sizeLine; decide),fun p hp => ?_⟩
     ·have:=atI_nat (xs:=ys) (j:=cc.toNat) (v:=V.ref q') (by rw [List.getElem?_eq_getElem hcc,eq])
      rw [Int.toNat_of_nonneg c0] at this
      exact this
     ·have npc:p ≠ c:=fun z => by rw [z,h7c] at hp; cases hp
      have npD:p ≠ D:=fun z => by rw [z,h7D] at hp; cases hp
      have npq:p ≠ q:=fun z => by rw [z,h7q] at hp; cases hp
      have h8c:(upd H7 p (.tup [.int (v - tot L),.ref q'])) c=some (.lst xs):=by rw [upd_ne (Ne.symm npc)]; exact h7c
      have hxl:xs.length=i:=g5.1.trans l5
      refine ⟨c,xs,_,rfl,rfl,h8c,Nat.lt_of_le_of_lt (by omega:xs.length ≤ 1000) (by decide),?_⟩
      have P8:=P7.new (o:=.tup [.int (v - tot L),.ref q']) hp
      have B8:=(B5.trans B7).new (o:=.tup [.int (v - tot L),.ref q']) hp
      have T8:Tups H7 (upd H7 p (.tup [.int (v - tot L),.ref q'])):=(Tups.refl H7).new hp
      have T9:Tups (upd H7 p (.tup [.int (v - tot L),.ref q'])) (upd (upd H7 p (.tup [.int (v - tot L),.ref q'])) c (.lst (xs ++ [.ref p]))):=(Tups.refl _).lst h8c
      refine ⟨_,_,L ++ [(v - tot L,ns)],rfl,upd_same,?_,?_,(T7.trans T8).trans T9,?_,by rw [List.length_append,l5]; rfl,fun e he => ?_,?_,P8.own ncd,B8.own fc⟩
      ·rw [upd_ne (Ne.symm ncD),upd_ne (Ne.symm npD)]; exact h7D
      ·rw [upd_ne (Ne.symm ncq),upd_ne (Ne.symm npq)]; exact h7q
      ·exact Wg.snoc (g5.up ((T57.trans T8).trans T9)) ⟨p,q',rfl,T9 _ _ upd_same,T9 _ _ (T8 _ _ tq7)⟩
      ·rcases List.mem_append.mp he with z | z
       ·exact q5 e z
       ·rw [List.mem_singleton] at z; subst z; exact ⟨by show 1 ≤ v - tot L; omega,lq⟩
      ·rw [hv,tot_append,tot_cons,tot_nil,show tot L + ((v - tot L) + 0)=v by omega]
    ·rintro σ H5 ⟨kk,xs,L,rfl,h5c,h5D,h5q,T5,g5,l5,q5,ht5,P5,B5⟩
     rw [List.length_map] at l5 ht5
     rw [show ((ms.length:Int) - 1).toNat=ms.length - 1 by omega] at l5 ht5
     rw [fl] at ht5
     refine ⟨_,rfl,c,xs,L,rfl,SqL.of h5c,g5,by omega,fun b2 ys2 H6 f6 h6 g6 s6 => ?_⟩
     refine k b2 ys2 (shape L) H6 (P5.ne f6) h6 g6 ⟨shape_nrm fun e he => (q5 e he).2.1,Nat.le_trans (shape_len L) (by omega),?_,fun e he z hz => ?_⟩ (Same.purse s6 P5) (B5.same s6)
     ·rw [shape_tot fun e he => by have:=(q5 e he).1; omega]
      exact (Option.some.inj ht5).symm
     ·exact (shape_all (p:=WdOk wd) (fun e he => (q5 e he).2) e he).2 z hz
end
end Toy
namespace Toy
open PySem L2 PyProof.Rows
section
variable {P:Program} {w:World} {K:PySem.W.Frag} {mg:Str→Option Value} {base:Heap}
def ledV (b g l:Int) (t:Bool) (p:Int):V:=if b ≤ p∧p < b + l then .int (if t=true then g + l - 1 - (p - b) else g + (p - b)) else .non
abbrev s_led:Stmt:=top 4
theorem sc_led:FnScope ["begin", "goal", "long", "turned", "place", "steps"] ["begin", "goal", "long", "turned", "place"] (defScope s_led):=⟨rfl,rfl,rfl,by decide +kernel,rfl,by decide +kernel,by decide +kernel⟩
def spLed:Sp:=fun vs H Q _ => ∃ (b g l:Int) (t:Bool) (p:Int),vs=[.int b,.int g,.int l,.bl t,.int p]∧Q (ledV b g l t p) H
theorem ok_led {f:Addr} {fd:FuncData} (F:Fun K "led" "led" s_led f fd) (M:Txt mg):FnOk P w K mg base CX0 1 f fd ["begin", "goal", "long", "turned", "place"] spLed:=by
 have sc:=sc_led
 refine F.ok sc (fun vs H Q E h => ?_) (fun cdv A outer s H vs Q E hr h => ?_)
 ·obtain ⟨b,g,l,t,p,rfl,_⟩:=h
  rfl
 ·obtain ⟨b,g,l,t,p,rfl,k⟩:=h
  refine ⟨_,(pss_cons (ps_if (pt_not (pt_chain op_le op_lt (pv 0) (pv 4) (pe_op op_add (pv 0) (pv 2)))) (pss_one (ps_ret pe_non)) pss_nil)
   (pss_cons (ps_set (i:=5) sc.nd rfl (Or.inl rfl) (pe_op op_sub (pv 4) (pv 0)))
   (pss_one (ps_ret (pe_ifExp (pt_val (pv 3)) (pe_op op_sub (pe_op op_sub (pe_op op_add (pv 1) (pv 2)) pe_int) (pv 5)) (pe_op op_add (pv 1) (pv 5))))))),?_⟩
  refine ⟨_,rfl,_,rfl,_,_,rfl,rfl,_,rfl,?_⟩
  by_cases e1:b ≤ p
  ·rw [decide_eq_true e1]
   refine iteT ?_
   refine ⟨_,rfl,_,rfl,_,_,rfl,rfl,_,_,rfl,rfl,_,rfl,?_⟩
   by_cases e2:p < b + l
   ·rw [decide_eq_true e2]
    refine iteF ?_
    refine ⟨_,rfl,_,rfl,_,_,rfl,rfl,?_⟩
    refine ⟨_,rfl,_,rfl,?_⟩
    unfold ledV at k
    rw [if_pos ⟨e1,e2⟩] at k
    cases t with
    | true =>
     refine iteT ?_
     exact ⟨_,rfl,_,rfl,_,_,rfl,rfl,_,_,rfl,rfl,_,rfl,_,_,rfl,rfl,k⟩
    | false =>
     refine iteF ?_
     exact ⟨_,rfl,_,rfl,_,_,rfl,rfl,k⟩
   ·rw [decide_eq_false e2]
    refine iteT ?_
    unfold ledV at k
    rw [if_neg (fun z => e2 z.2)] at k
    exact k
  ·rw [decide_eq_false e1]
   refine iteF ?_
   refine ⟨_,rfl,iteT ?_⟩
   unfold ledV at k
   rw [if_neg (fun z => e1 z.1)] at k
   exact k
abbrev s_forth:Stmt:=top 5
theorem sc_forth:FnScope ["pairing", "place", "low", "high", "long", "turned"] ["pairing", "place"] (defScope s_forth):=⟨rfl,rfl,rfl,by decide +kernel,rfl,by decide +kernel,by decide +kernel⟩
def spForth:Sp:=fun vs H Q _ => ∃ (p:Addr) (low high long:Int) (t:Bool) (place:Int),vs=[.ref p,.int place]∧H p=some (.tup [.int low,.int high,.int long,.bl t])∧Q (ledV low high long t place) H
theorem ok_forth {f:Addr} {fd:FuncData} (F:Fun K "forth" "forth" s_forth f fd) (M:Txt mg) (Gled:Kn P w K mg base "led" 1 ["begin", "goal", "long", "turned", "place"] spLed):FnOk P w K mg base CX0 2 f fd ["pairing", "place"] spForth:=by
 have sc:=sc_forth
 refine F.ok sc (fun vs H Q E h => ?_) (fun cdv A outer s H vs Q E hr h => ?_)
 ·obtain ⟨p,low,high,long,t,place,rfl,_⟩:=h
  rfl
 ·obtain ⟨p,low,high,long,t,place,rfl,hp,k⟩:=h
  refine ⟨_,(pss_cons (ps_asg (pv 0) (pg_tup rfl (pgs_cons (pg_name (i:=2) sc.nd rfl (Or.inl rfl)) (pgs_cons (pg_name (i:=3) sc.nd rfl (Or.inl rfl)) (pgs_cons (pg_name (i:=4) sc.nd rfl (Or.inl rfl)) (pgs_cons (pg_name (i:=5) sc.nd rfl (Or.inl rfl)) pgs_nil))))))
   (pss_one (ps_ret (pe_callD Gled hr rfl (pa_Name (pv 2) (pa_Name (pv 3) (pa_Name (pv 4) (pa_Name (pv 5) (pa_Name (pv 1) pa_nil))))))))),?_⟩
  refine ⟨_,rfl,p,_,rfl,SqT.of hp,rfl,_,_,rfl,_,_,rfl,_,_,rfl,_,_,rfl,rfl,?_⟩
  exact ⟨_,rfl,_,rfl,_,rfl,_,rfl,_,rfl,_,_,_,_,_,rfl,k⟩
end
end Toy
namespace L2
open PySem PySem.Spec PyProof.Rows
section
variable {K:PySem.W.Frag} {H:Hp} {Q:VK} {Z:L2.St→Hp→Prop}
def ledW (b g l:Int) (t:Bool) (p:Int):V:=if b ≤ p∧p < b + l then .int (if t=true then g + l - 1 - (p - b) else g + (p - b)) else .non
def spForthW:Sp:=fun vs H Q _ => ∃ (p:Addr) (low high long:Int) (t:Bool) (place:Int),vs=[.ref p,.int place]∧H p=some (.tup [.int low,.int high,.int long,.bl t])∧Q (ledW low high long t place) H
def spLinksW:Sp:=fun vs H Q _ => ∃ (q:Addr) (p:PR) (n:Nat),vs=[.ref q]∧H q=some (.tup (pV p))∧PrW n p∧n ≤ 2500∧∀ (c:Addr) (ps:List V) (H' : Hp),Same H H'→H c=none→H' c=some (.lst ps)→TuL H' ps ((prL p).map pc)→Q (.ref c) H'
structure RmOk (n:Nat) (ps:List PR):Prop where
 n2:n ≤ 2000
 ok:∀ p ∈ ps,PrW n p
 len:ps.length ≤ 64
 mul:ps.length * n ≤ 40000
def RmsK (H:Hp) (n:Nat) (ps:List PR) (Q:VK):Prop:=∀ (c:Addr) (zs:List V) (hs:List (List Nat)) (b' : List Bool) (H' : Hp),Same H H'→H c=none→H' c=some (.lst zs)→LsL H' false zs (hs.map (List.map nc))→LkI n (dirL (psL ps)) n b' hs→(∀ y ∈ zs,∀ a,y = .ref a→H a=none)→Q (.ref c) H'
def spRoomsW:Sp:=fun vs H Q _ => ∃ (a pa pb:Addr) (n:Nat) (ps:List PR) (L:WL2) (ya yb:List V),vs=[.ref a]∧HallAt H a pa pb (n:Int) ps L ya yb∧RmOk n ps∧RmsK H n ps Q
def spLRoomsW:Sp:=fun vs H Q _ => ∃ (pa:Addr) (n:Nat) (ps:List PR) (ya:List V),vs=[nv n,.ref pa]∧H pa=some (.lst ya)∧CpL H ya (ps.map pV)∧RmOk n ps∧RmsK H n ps Q
def spCopW:Sp:=fun vs H Q _ => ∃ (a pa pb:Addr) (n:Int) (ps:List PR) (L:WL2) (ya yb:List V),vs=[.ref a]∧HallAt H a pa pb n ps L ya yb∧∀ (a' pa' pb' : Addr) (H' : Hp),Same H H'→HallAt H' a' pa' pb' n ps L ya yb→Q (.ref a') H'
def spWholeW:Sp:=fun vs H Q _ => ∃ i:Int,vs=[.int i]∧Q (.bl true) H
structure HlW (n:Nat) (ps:List PR) (L:WL2):Prop where
 n2:n ≤ 200
 ok:∀ p ∈ ps,PrW n p
 len:ps.length ≤ 64
 fit:∃ wd:Int,1 ≤ wd∧wd ≤ 24∧FitW wd (n:Int) L
def spHpsW:Sp:=fun vs H Q _ => ∃ (d:Addr) (n:Nat),vs=[.ref d,nv n]∧PurseW H d∧n ≤ 200∧∀ (c:Addr) (ya:List V) (ps:List PR) (H' : Hp),c ≠ d→H' c=some (.lst ya)→CpL H' ya (ps.map pV)→(∀ p ∈ ps,PrW n p)→ps.length ≤ 64→PurseW H' d→ButW d H H'→Q (.ref c) H'
def spHallW:Sp:=fun vs H Q _ => ∃ (d:Addr),vs=[.ref d]∧PurseW H d∧∀ (a pa pb:Addr) (n:Nat) (ps:List PR) (L:WL2) (ya yb:List V) (H' : Hp),a ≠ d→pa ≠ d→pb ≠ d→PurseW H' d→ButW d H H'→HallAt H' a pa pb (n:Int) ps L ya yb→HlW n ps L→Q (.ref a) H'
def spPurseW (K:PySem.W.Frag):Sp:=fun vs H Q _ => ∃ (a:Addr) (ns:List Int) (k:Int),vs=[.ref a,.int k]∧SqL K H a (ns.map V.int)∧0 ≤ k∧k ≤ 1000∧∀ (d:Addr) (H' : Hp),H d=none→PurseW H' d→Same H H'→Q (.ref d) H'
def tHpsG (K:PySem.W.Frag):TS:=(tSeq (tAsg (tOp (rI0 fun i j => V.int (i + j)) (tC (V.int 1)) (tCall spTakeW [] E0 (tCons (tVar 0) (tCons (tCB (fun xs H Q => ∃ i j,xs=[V.int i,V.int j]∧Q (V.int (if j < i then j else i)) H) (tCons (tVar 1) (tCons (tVar 6) tNil))) tNil)))) (gName 7)) (tSeq (tAsg (tCall spTakeW [] E0 (tCons (tVar 0) (tCons (tOp (rI0 fun i j => V.int (i + j)) (tOp (rI0 fun i j => V.int (i - j)) (tVar 1) (tVar 7)) (tC (V.int 1))) tNil))) (gName 8)) (tSeq (tAsg (tOp (rIxL K) (tLst (tCons (tVar 8) (tCons (tCall spTakeW [] E0 (tCons (tVar 0) (tCons (tOp (rI0 fun i j => V.int (i + j)) (tOp (rI0 fun i j => V.int (i - j)) (tVar 1) (tVar 7)) (tC (V.int 1))) tNil))) tNil))) (tCB (fun xs H Q => (∃ i,xs=[V.int i]∧Q (V.int i) H) ∨ ∃ k,xs=[V.bl k]∧Q (V.int (if k=true then 1 else 0)) H) (tCons (tOp (rI0 fun i j => V.bl (decide (j < i))) (tCall spTakeW [] E0 (tCons (tVar 0) (tCons (tC (V.int 8)) tNil))) (tC (V.int 0))) tNil))) (gName 9)) (tDrop (tBM K "list" rAppend (tVar 4) (tCons (tTup (tCons (tCB (fun xs H Q => ∃ i j,xs=[V.int i,V.int j]∧Q (V.int (if j < i then j else i)) H) (tCons (tVar 8) (tCons (tVar 9) tNil))) (tCons (tCB (fun xs H Q => ∃ i j,xs=[V.int i,V.int j]∧Q (V.int (if j > i then j else i)) H) (tCons (tVar 8) (tCons (tVar 9) tNil))) (tCons (tVar 7) (tCons (tOp rEq (tCall spTakeW [] E0 (tCons (tVar 0) (tCons (tC (V.int 2)) tNil))) (tC (V.int 1))) tNil))))) tNil))))))
def tHpsF (K:PySem.W.Frag):TS:=(tSeq (tAsg (tLst tNil) (gName 4)) (tSeq (tFor (iRng1 (tCons (tOp (rI CMul fun i j => V.int (i * j)) (tVar 2) (tCB (fun xs H Q => (∃ i,xs=[V.int i]∧Q (V.int i) H) ∨ ∃ k,xs=[V.bl k]∧Q (V.int (if k=true then 1 else 0)) H) (tCons (tOp (rI0 fun i j => V.bl (decide (j < i))) (tVar 1) (tC (V.int 0))) tNil))) tNil)) (gName 5) (tSeq (tAsg (tOp (rIxL K) (tLst (tCons (tC (V.int 3)) (tCons (tC (V.int 9)) (tCons (tVar 1) (tCons (tOp (rI0 fun i j => V.int (i + j)) (tC (V.int 1)) (tOp (rI CDivL fun i j => V.int (i / j)) (tVar 1) (tC (V.int 2)))) tNil))))) (tCall spTakeW [] E0 (tCons (tVar 0) (tCons (tC (V.int 4)) tNil)))) (gName 6)) (tSeq (tIfS (tTest (tOp (rI0 fun i j => V.bl (decide (j < i))) (tVar 2) (tC (V.int 24)))) (tAsg (tC (V.int 9)) (gName 6)) tNext) (tHpsG K)))) (tRet (tVar 4))))
def tHpsE (K:PySem.W.Frag):TS:=(tSeq (tIfS (tTest (tOp rEq (tVar 3) (tC (V.int 2)))) (tAsg (tC (V.int 64)) (gName 2)) tNext) (tHpsF K))
def tLrW (K:PySem.W.Frag):TS:=(tWhile (tTest (tOp (rI0 fun i j => V.bl (decide (i < j))) (tVar 10) (tCB (fun xs H Q => ∃ p ys,xs=[V.ref p]∧(SqL K H p ys ∨ SqT K H p ys)∧Q (V.int ys.length) H) (tCons (tVar 9) tNil)))) (tSeq (tFor (iList K (tOp (rIxL K) (tVar 2) (tOp (rIxL K) (tVar 9) (tVar 10)))) (gName 11) (tIfS (tNot (tB (tOp (rIxL K) (tVar 6) (tVar 11)))) (tSeq (tAsg (tC (V.bl true)) (gSub (tVar 6) (tVar 11) rSetL)) (tDrop (tBM K "list" rAppend (tVar 9) (tCons (tVar 11) tNil)))) tNext)) (tAsg (tOp (rI0 fun i j => V.int (i + j)) (tVar 10) (tC (V.int 1))) (gName 10))))
def tLrX (K:PySem.W.Frag):TS:=(tSeq (tAsg (tC (V.int 0)) (gName 10)) (tSeq (tLrW K) (tIfS (tTest (tOp (rEqD K fun b => !b) (tVar 9) (tLst tNil))) (tDrop (tBM K "list" rAppend (tVar 7) (tCons (tCB (fun xs H_1 Q => ∃ p ns,xs=[V.ref p]∧SqL K H_1 p (List.map V.int ns)∧ns.length ≤ 3000∧∀ (l:Addr) (ms:List Int),H_1 l=none→ms.Perm ns→List.Pairwise (fun x1 x2 => x1 ≤ x2) ms→Q (V.ref l) (upd H_1 l (HO.lst (List.map V.int ms)))) (tCons (tVar 9) tNil)) tNil))) tNext)))
def tLrF (K:PySem.W.Frag):TS:=(tSeq (tAsg (tCompG 1 (iRng1 (tCons (tVar 0) tNil)) (gName 0) tYes (tC (V.bl false))) (gName 6)) (tSeq (tAsg (tLst tNil) (gName 7)) (tSeq (tFor (iRng1 (tCons (tVar 0) tNil)) (gName 8) (tSeq (tAsg (tLst tNil) (gName 9)) (tSeq (tIfS (tNot (tB (tOp (rIxL K) (tVar 6) (tVar 8)))) (tSeq (tDrop (tBM K "list" rAppend (tVar 9) (tCons (tVar 8) tNil))) (tAsg (tC (V.bl true)) (gSub (tVar 6) (tVar 8) rSetL))) tNext) (tLrX K)))) (tRet (tVar 7)))))
def tLinksW (K:PySem.W.Frag):TS:=tRet (tCompG 1 (iRng2 (tCons (tOp (rIxT K) (tVar 0) (tC (V.int 0))) (tCons (tOp (rI0 fun i j => V.int (i + j)) (tOp (rIxT K) (tVar 0) (tC (V.int 0))) (tOp (rIxT K) (tVar 0) (tC (V.int 2)))) tNil))) (gName 0) tYes (tTup (tCons (tVar 0) (tCons (tCall spForthW [] E0 (tCons (tVar 1) (tCons (tVar 0) tNil))) tNil))))
def tRoomsW (K:PySem.W.Frag):TS:=tSeq (tAsg (tVar 0) (gTup K 3 (gCons (gName 1) (gCons (gName 2) (gCons (gName 3) gNil))))) (tSeq (tIfS (tTest (tOp (rI0 fun i j => V.bl (decide (j < i))) (tVar 1) (tC (V.int 2000)))) (fun x x_1 x_2 => False) tNext) (tRet (tCall spLinkedW [] E0 (tCons (tVar 1) (tCons (tComp2 2 (iList K (tVar 2)) (gName 0) tYes (iList K (tCall spLinksW [] E0 (tCons (tVar 0) tNil))) (gName 1) tYes (tVar 1)) tNil)))))
def tHpsW (K:PySem.W.Frag):TS:=tSeq (tAsg (tCall spTakeW [] E0 (tCons (tVar 0) (tCons (tC (V.int 9)) tNil))) (gName 2)) (tSeq (tAsg (tCall spTakeW [] E0 (tCons (tVar 0) (tCons (tC (V.int 16)) tNil))) (gName 3)) (tSeq (tIfS (tTest (tOp (rI0 fun i j => V.bl (decide (i < j))) (tVar 3) (tC (V.int 2)))) (tAsg (tCall spTakeW [] E0 (tCons (tVar 0) (tCons (tC (V.int 25)) tNil))) (gName 2)) tNext) (tHpsE K)))
def tHallW (K:PySem.W.Frag):TS:=tSeq (tAsg (tOp (rIxL K) (tLst (tCons (tCall spTakeW [] E0 (tCons (tVar 0) (tCons (tC (V.int 61)) tNil))) (tCons (tCall spTakeW [] E0 (tCons (tVar 0) (tCons (tC (V.int 201)) tNil))) tNil))) (tCB (fun xs H Q => (∃ i,xs=[V.int i]∧Q (V.int i) H) ∨ ∃ k,xs=[V.bl k]∧Q (V.int (if k=true then 1 else 0)) H) (tCons (tOp rEq (tCall spTakeW [] E0 (tCons (tVar 0) (tCons (tC (V.int 8)) tNil))) (tC (V.int 5))) tNil))) (gName 1)) (tSeq (tAsg (tCall spHpsW [] E0 (tCons (tVar 0) (tCons (tVar 1) tNil))) (gName 2)) (tRet (tTup (tCons (tVar 1) (tCons (tVar 2) (tCons (tCall spFittedW [] E0 (tCons (tVar 0) (tCons (tCall spWideW [] E0 (tCons (tVar 0) tNil)) (tCons (tVar 1) tNil)))) tNil))))))
def tPairsW (K:PySem.W.Frag):TS:=tSeq (tAsg (tVar 0) (gTup K 4 (gCons (gName 1) (gCons (gName 2) (gCons (gName 3) (gCons (gName 4) gNil)))))) (tSeq (tAsg (tLst tNil) (gName 5)) (tSeq (tFor (iRng1 (tCons (tVar 3) tNil)) (gName 6) (tDrop (tBM K "list" rAppend (tVar 5) (tCons (tTup (tCons (tOp (rI0 fun i j => V.int (i + j)) (tVar 1) (tVar 6)) (tCons (tOp (rIxL K) (tLst (tCons (tOp (rI0 fun i j => V.int (i + j)) (tVar 2) (tVar 6)) (tCons (tOp (rI0 fun i j => V.int (i - j)) (tOp (rI0 fun i j => V.int (i - j)) (tOp (rI0 fun i j => V.int (i + j)) (tVar 2) (tVar 3)) (tC (V.int 1))) (tVar 6)) tNil))) (tCB (fun xs H Q => (∃ i,xs=[V.int i]∧Q (V.int i) H) ∨ ∃ k,xs=[V.bl k]∧Q (V.int (if k=true then 1 else 0)) H) (tCons (tVar 4) tNil))) tNil))) tNil)))) (tRet (tVar 5))))
def tLRoomsW (K:PySem.W.Frag):TS:=tSeq (tAsg (tCompG 1 (iRng1 (tCons (tVar 0) tNil)) (gName 0) tYes (tLst tNil)) (gName 2)) (tSeq (tFor (iList K (tVar 1)) (gName 3) (tFor (iList K (tCall spLinksW [] E0 (tCons (tVar 3) tNil))) (gTup K 2 (gCons (gName 4) (gCons (gName 5) gNil))) (tSeq (tDrop (tBM K "list" rAppend (tOp (rIxL K) (tVar 2) (tVar 4)) (tCons (tVar 5) tNil))) (tDrop (tBM K "list" rAppend (tOp (rIxL K) (tVar 2) (tVar 5)) (tCons (tVar 4) tNil)))))) (tLrF K))
def tCopW (K:PySem.W.Frag):TS:=tRet (tTup (tCons (tOp (rIxT K) (tVar 0) (tC (V.int 0))) (tCons (tCB (fun xs H_1 Q => ∃ p ys,xs=[V.ref p]∧(SqL K H_1 p ys ∨ SqT K H_1 p ys)∧∀ (l:Addr),H_1 l=none→Q (V.ref l) (upd H_1 l (HO.lst ys))) (tCons (tOp (rIxT K) (tVar 0) (tC (V.int 1))) tNil)) (tCons (tCB (fun xs H_1 Q => ∃ p ys,xs=[V.ref p]∧(SqL K H_1 p ys ∨ SqT K H_1 p ys)∧∀ (l:Addr),H_1 l=none→Q (V.ref l) (upd H_1 l (HO.lst ys))) (tCons (tOp (rIxT K) (tVar 0) (tC (V.int 2))) tNil)) tNil))))
end
end L2
namespace L2
open PySem PySem.Spec PyProof.Rows
section
variable {K:PySem.W.Frag} {H:Hp} {Q:VK} {Z:L2.St→Hp→Prop}
structure WalkS (H0 H:Hp) (sn r:Addr) (b:List Bool) (vs:List Nat):Prop where
 old:Bt sn H0 H
 hs:H sn=some (.lst (b.map V.bl))
 hr:H r=some (.lst (vs.map nv))
 rf:H0 r=none
 rs:r ≠ sn
theorem WalkS.mark {H0 H:Hp} {sn r:Addr} {b:List Bool} {vs:List Nat} (h:WalkS H0 H sn r b vs) (g:Nat):WalkS H0 (upd H sn (.lst ((b.set g true).map V.bl))) sn r (b.set g true) vs :=
 ⟨h.old.at,upd_same,by rw [upd_ne h.rs]; exact h.hr,h.rf,h.rs⟩
theorem WalkS.put {H0 H:Hp} {sn r:Addr} {b:List Bool} {vs:List Nat} (h:WalkS H0 H sn r b vs) (ws:List Nat):WalkS H0 (upd H r (.lst (ws.map nv))) sn r b ws :=
 ⟨h.old.nw h.rf,by rw [upd_ne (Ne.symm h.rs)]; exact h.hs,upd_same,h.rf,h.rs⟩
theorem RmI.popF {n:Nat} {D:List (Nat × Nat)} {b0 b:List Bool} {s p:Nat} {vs as:List Nat} (h:RmI n D b0 b s vs (p :: as) none):RmI n D b0 b s vs as (some p)∧p ∈ vs :=
 ⟨⟨h.len,h.seen,h.nd,h.lt,h.new,h.start,h.conn,fun k hk => h.sub k (List.mem_cons_of_mem _ hk),fun k hk ha hp => h.done k hk (fun z => by
  rcases List.mem_cons.mp z with z | z
  ·exact hp (by rw [z])
  ·exact ha z) (by simp)⟩,h.sub p List.mem_cons_self⟩
def muW (n:Nat) (σ:L2.St):Nat:=match (σ[10]? : Option (Option V)) with
 | some (some (V.int a)) => n - a.toNat
 | _ => 0
theorem lwalk_reads {D0:Ends} {H0:Hp} {bd sn r:Addr} {n s:Nat} {zs:List V} {gs:List (List (List Int))} {D:List (Nat × Nat)} {b0:List Bool} {x0 x1 x3 x4 x5 x7 x8 x11:Option V} (hz:H0 bd=some (.lst zs)) (lz:LsL H0 false zs gs) (B:BsI n D gs) (st:WalkS H0 H sn r (b0.set s true) [s]) (hl:b0.length=n) (sl:s < n) (es:b0[s]? = some false) (n63:n ≤ 2500) (nz:∀ y ∈ zs,y ≠ .ref sn) (nb:bd ≠ sn) (rg:∀ u v,(u,v) ∈ D→v < n)
  (k:∀ (a:Int) (x11:Option V) (vs:List Nat) (b' : List Bool) (H' : Hp),WalkS H0 H' sn r b' vs→RmI n D b0 b' s vs [] none→D0.nx [x0,x1,some (.ref bd),x3,x4,x5,some (.ref sn),x7,x8,some (.ref r),some (.int a),x11] H'):tLrW K D0 [x0,x1,some (.ref bd),x3,x4,x5,some (.ref sn),x7,x8,some (.ref r),some (.int 0),x11] H:=by
 refine while_by (fun σ H' => ∃ (a:Nat) (x11:Option V) (b:List Bool) (vs:List Nat),σ=[x0,x1,some (.ref bd),x3,x4,x5,some (.ref sn),x7,x8,some (.ref r),some (.int (a:Int)),x11]∧WalkS H0 H' sn r b vs∧RmI n D b0 b s vs (vs.drop a) none∧a ≤ vs.length) (fun σ H' => muW n σ) ⟨0,_,_,[s],rfl,st,RmI.init hl sl es,Nat.zero_le _⟩ ?_ (fun σ H Q Q' h hc => by obtain ⟨v,e,u,e2,p,ys,e3,e4,i,j,e5,e6,kk,e7,q⟩:=hc; exact ⟨v,e,u,e2,p,ys,e3,e4,i,j,e5,e6,kk,e7,h _ _ q⟩)
 rintro σ H3 ⟨a,x11,b,vs,rfl,st3,I3,av3⟩
 refine ⟨_,rfl,_,rfl,r,_,rfl,.inl (SqL.of st3.hr),_,_,rfl,rfl,_,rfl,?_⟩
 rw [List.length_map]
 by_cases al:a < vs.length
 ·rw [decide_eq_true (show ((a:Nat):Int) < ((vs.length:Nat):Int) by omega)]
  refine iteT ?_
  have ev:vs[a]? = some vs[a]:=List.getElem?_eq_getElem al
  have ed:vs.drop a=vs[a] :: vs.drop (a + 1):=List.drop_eq_getElem_cons al
  rw [ed] at I3
  generalize vs[a]=p at ev ed I3
  obtain ⟨I4,pv⟩:=I3.popF
  have vn:=I4.size
  have pl:p < n:=I4.lt p pv
  obtain ⟨ms,eg,ml,mm⟩:=B.at' p pl
  have zl:zs.length=n:=by rw [lz.1,B.len]
  have ez:zs[p]? = some zs[p]:=List.getElem?_eq_getElem (by omega)
  obtain ⟨lp,xs,ea,hp,ip⟩:=lz.2 p _ _ ez eg
  rw [ea] at ez
  have xe:=it_nv ip
  subst xe
  have lsn:lp ≠ sn:=fun e => nz _ (List.mem_of_getElem? ez) (by rw [e])
  refine ⟨_,rfl,_,rfl,_,rfl,r,_,(a:Int),nv p,rfl,rfl,SqL.of st3.hr,atI_nat (by rw [List.getElem?_map,ev]; rfl),bd,zs,(p:Int),.ref lp,rfl,rfl,SqL.of (st3.old _ _ nb hz),atI_nat ez,?_⟩
  refine ⟨lp,rfl,⟨_,SqL.of (st3.old _ _ lsn hp)⟩,for_list (K:=K) (a:=lp) (xs:=ms.map nv) (fun i σ H' => ∃ (x11:Option V) (b:List Bool) (vs' : List Nat),σ=[x0,x1,some (.ref bd),x3,x4,x5,some (.ref sn),x7,x8,some (.ref r),some (.int (a:Int)),x11]∧WalkS H0 H' sn r b vs'∧RmI n D b0 b s vs' (vs'.drop (a + 1)) (some p)∧p ∈ vs'∧(∀ j ∈ ms.take i,b[j]? = some true)∧a + 1 ≤ vs'.length) ⟨_,b,vs,rfl,st3,I4,pv,fun j hj => (by rw [List.take_zero] at hj; cases hj),al⟩ (fun i σ H' _ h => by obtain ⟨_,_,_,_,s',_⟩:=h; exact SqL.of (s'.old _ _ lsn hp)) ?_ ?_⟩
  ·rintro i y σ H5 hy ⟨x11,b5,vs5,rfl,st5,I5,pv5,tk5,le5⟩
   rw [List.getElem?_map] at hy
   cases em:ms[i]? with
   | none => rw [em] at hy; cases hy
   | some g =>
    rw [em] at hy
    cases hy
    have mg:g ∈ ms:=List.mem_of_getElem? em
    have gD:=(mm g).mp mg
    have gl:g < n:=rg p g gD
    have gb:g < b5.length:=by rw [I5.len]; exact gl
    have ez5:b5[g]? = some b5[g]:=List.getElem?_eq_getElem gb
    cases bg:b5[g] with
    | true =>
     rw [bg] at ez5
     refine ⟨_,rfl,_,rfl,sn,_,(g:Int),.bl true,rfl,rfl,SqL.of st5.hs,bl_at ez5,true,rfl,?_⟩
     refine iteF ?_
     refine ⟨_,b5,vs5,rfl,st5,I5,pv5,fun j hj => ?_,le5⟩
     rw [take_succ' em] at hj
     rcases List.mem_append.mp hj with z | z
     ·exact tk5 j z
     ·rw [List.mem_singleton.mp z]; exact ez5
    | false =>
     rw [bg] at ez5
     refine ⟨_,rfl,_,rfl,sn,_,(g:Int),.bl false,rfl,rfl,SqL.of st5.hs,bl_at ez5,false,rfl,?_⟩
     refine iteT ?_
     refine ⟨_,rfl,_,rfl,sn,_,(g:Int),g,rfl,rfl,st5.hs,by rw [List.length_map,I5.len]; exact ixN_nat gl,?_⟩
     rw [map_set_bl]
     have st6:=st5.mark g
     generalize upd H5 sn (.lst ((b5.set g true).map V.bl))=H6 at st6 ⊢
     have I6:=I5.add pv5 gD gl ez5
     rw [← List.drop_append_of_le_length le5] at I6
     have vz:=I6.size
     rw [List.length_append] at vz
     have vz' : vs5.length + 1 ≤ n:=vz
     refine ⟨_,rfl,.inl ⟨rfl,_,SqL.of st6.hr⟩,_,rfl,r,_,nv g,rfl,rfl,st6.hr,by rw [List.length_map]; exact Nat.lt_of_le_of_lt (show vs5.length ≤ 3000 by omega) (by decide),?_⟩
     have st7:=st6.put (vs5 ++ [g])
     rw [show (vs5 ++ [g]).map nv=vs5.map nv ++ [nv g] by simp] at st7
     refine ⟨_,b5.set g true,vs5 ++ [g],rfl,st7,I6,List.mem_append_left _ pv5,fun j hj => ?_,by rw [List.length_append]; omega⟩
     rw [set_seen (by rw [I5.len]; exact gl)]
     rw [take_succ' em] at hj
     rcases List.mem_append.mp hj with z | z
     ·exact .inr (tk5 j z)
     ·exact .inl (List.mem_singleton.mp z)
  ·rintro σ H5 ⟨x11,b5,vs5,rfl,st5,I5,pv5,tk5,le5⟩
   rw [List.length_map,List.take_of_length_le (Nat.le_refl _)] at tk5
   refine ⟨_,rfl,_,_,rfl,rfl,⟨a + 1,_,b5,vs5,rfl,st5,I5.fin fun j hj => tk5 j ((mm j).mpr hj),le5⟩,?_⟩
   show n - ((a:Int) + 1).toNat < n - ((a:Int)).toNat
   omega
 ·rw [decide_eq_false (show ¬ ((a:Nat):Int) < ((vs.length:Nat):Int) by omega)]
  refine iteF ?_
  rw [List.drop_eq_nil_of_le (by omega)] at I3
  exact k _ _ vs b H3 st3 I3
theorem lwalk0_reads {D0:Ends} {r:Addr} {x0 x1 x2 x3 x4 x5 x6 x7 x8 x11:Option V} (hr:H r=some (.lst [])) (k:D0.nx [x0,x1,x2,x3,x4,x5,x6,x7,x8,some (.ref r),some (.int 0),x11] H):tLrW K D0 [x0,x1,x2,x3,x4,x5,x6,x7,x8,some (.ref r),some (.int 0),x11] H:=by
 refine while_by (fun σ H' => σ=[x0,x1,x2,x3,x4,x5,x6,x7,x8,some (.ref r),some (.int 0),x11]∧H=H') (fun σ H' => 0) ⟨rfl,rfl⟩ ?_ (fun σ H Q Q' h hc => by obtain ⟨v,e,u,e2,p,ys,e3,e4,i,j,e5,e6,kk,e7,q⟩:=hc; exact ⟨v,e,u,e2,p,ys,e3,e4,i,j,e5,e6,kk,e7,h _ _ q⟩)
 rintro σ H3 ⟨rfl,rfl⟩
 exact ⟨_,rfl,_,rfl,r,_,rfl,.inl (SqL.of hr),_,_,rfl,rfl,_,rfl,iteF k⟩
theorem room_di {r:Addr} {vs:List Nat} (h:H r=some (.lst (vs.map nv))):DI K H (.ref r) (.list (vs.map fun m:Nat => .int (m:Int))):=by
 refine .lst (SqL.of h) (by rw [List.length_map,List.length_map]) fun j y d e1 e2 => ?_
 rw [List.getElem?_map] at e1 e2
 cases w:vs[j]? with
 | none => rw [w] at e1; cases e1
 | some m =>
  rw [w] at e1 e2
  cases e1
  cases e2
  exact .int _
theorem room_lay (vs:List Nat):(PyData.list (vs.map fun m:Nat => .int (m:Int))).canLay0=true:=lay_ms vs
theorem room_dep (vs:List Nat):(PyData.list (vs.map fun m:Nat => .int (m:Int))).depth ≤ 60:=by
 show PyData.depthAll (vs.map fun m:Nat => .int (m:Int)) + 1 ≤ 60
 have:=dep_ms vs
 omega
theorem eqv_cons (m:Nat) (vs:List Nat):PyData.eqv (.list ((m :: vs).map fun m:Nat => .int (m:Int))) (.list [])=false:=rfl
theorem eqv_nn:PyData.eqv (.list []) (.list [])=true:=rfl
theorem lrF_reads {H0:Hp} {pa bd:Addr} {n:Nat} {zs:List V} {gs:List (List (List Int))} {L:List (Nat × Nat)} {x3 x4 x5:Option V} (s0:Same H0 H) (hz:H bd=some (.lst zs)) (lz:LsL H false zs gs) (B:BsI n (dirL L) gs) (n2:n ≤ 2000) (rg:∀ p ∈ L,p.1 < n∧p.2 < n)
  (k:∀ (c:Addr) (zs:List V) (hs:List (List Nat)) (b' : List Bool) (H' : Hp),Same H0 H'→H0 c=none→H' c=some (.lst zs)→LsL H' false zs (hs.map (List.map nc))→LkI n (dirL L) n b' hs→(∀ y ∈ zs,∀ a,y = .ref a→H0 a=none)→Q (.ref c) H'):tLrF K { nx:=Z,rt:=Q } [some (nv n),some (.ref pa),some (.ref bd),x3,x4,x5,none,none,none,none,none,none] H:=by
 have sy:∀ u v,(u,v) ∈ dirL L→(v,u) ∈ dirL L:=fun u v h => mem_dirL.mpr ((mem_dirL.mp h).elim .inr .inl)
 have rD:∀ u v,(u,v) ∈ dirL L→v < n:=fun u v h => (mem_dirL.mp h).elim (fun q => (rg _ q).2) fun q => (rg _ q).1
 refine ⟨_,rfl,(n:Int),rfl,by omega,by omega,compRW (lo:=0) (n:=((n:Int)).toNat) (fun i ys H' => ys=(List.replicate i false).map V.bl∧H=H') ⟨rfl,rfl⟩ (by omega) (fun i ys H' h => by rw [h.1,List.length_map,List.length_replicate]; exact Nat.le_refl _) ?_ ?_⟩
 ·rintro i ys H1 pre hpre hi ⟨rfl,rfl⟩
  rcases pre with _ | ⟨q0,_ | ⟨q1,pre⟩⟩
  ·cases hpre
  ·refine ⟨⟨[some _],rfl,rfl⟩,?_⟩
   unfold tYes
   dsimp only
   rw [if_pos (rfl:true=true)]
   exact ⟨by rw [List.replicate_succ',List.map_append]; rfl,rfl⟩
  ·cases hpre
 rintro ys H1 ⟨rfl,rfl⟩ sn hsn
 rw [Int.toNat_natCast]
 have s3:=Same.nw (o:=.lst ((List.replicate n false).map V.bl)) (Same.refl H) hsn
 have fs:(upd H sn (.lst ((List.replicate n false).map V.bl))) sn=some (.lst ((List.replicate n false).map V.bl)):=upd_same
 generalize upd H sn (.lst ((List.replicate n false).map V.bl))=H3 at s3 fs ⊢
 refine ⟨(by show 0 ≤ sizeLine; decide),fun c hc => ?_⟩
 have s4:=Same.nw (o:=.lst []) (Same.refl H3) hc
 have fc:(upd H3 c (.lst [])) c=some (.lst []):=upd_same
 generalize upd H3 c (.lst [])=H4 at s4 fc ⊢
 have s14:Same H H4:=s3.trans s4
 have c1:H c=none:=s3.free hc
 have nzs:=lz.avoid hsn
 have nzc:=lz.avoid c1
 have nbs:bd ≠ sn:=ne_of_none hz hsn
 have nbc:bd ≠ c:=ne_of_none hz c1
 have nsc:sn ≠ c:=ne_of_none fs hc
 have sn0:H0 sn=none:=s0.free hsn
 have c0:H0 c=none:=s0.free c1
 refine ⟨_,rfl,(n:Int),rfl,by omega,by omega,for_range (lo:=0) (n:=((n:Int)).toNat) (fun i σ H' => ∃ (x8 x9 x10 x11:Option V) (b' : List Bool) (ys:List V) (hs:List (List Nat)),σ=[some (nv n),some (.ref pa),some (.ref bd),x3,x4,x5,some (.ref sn),some (.ref c),x8,x9,x10,x11]∧Same H0 H'∧H' bd=some (.lst zs)∧LsL H' false zs gs∧H' sn=some (.lst (b'.map V.bl))∧H' c=some (.lst ys)∧LsL H' false ys (hs.map (List.map nc))∧(∀ y ∈ ys,y ≠ .ref sn∧y ≠ .ref c∧∀ a,y = .ref a→H0 a=none)∧LkI n (dirL L) i b' hs∧hs.length ≤ i) ⟨_,_,_,_,_,[],[],rfl,s0.trans s14,s14 _ _ hz,lz.up s14,s4 _ _ fs,fc,LsL.nil _ _,fun y hy => (by cases hy),LkI.init n _,Nat.le_refl _⟩ ?_ ?_⟩
 ·rintro i σ H5 hi ⟨x8,x9,x10,x11,b5,ys,hs,rfl,s5,hz5,lz5,hs5,hc5,ly5,nv5,I5,hl5⟩
  rw [Int.toNat_natCast] at hi
  rw [Int.zero_add]
  have ib:i < b5.length:=by rw [I5.len]; exact hi
  have eb:b5[i]? = some b5[i]:=List.getElem?_eq_getElem ib
  refine ⟨(by show 0 ≤ sizeLine; decide),fun r hr => ?_⟩
  have s6:=Same.nw (o:=.lst []) (Same.refl H5) hr
  have fr:(upd H5 r (.lst [])) r=some (.lst []):=upd_same
  have nrs:r ≠ sn:=Ne.symm (ne_of_none hs5 hr)
  have nrc:r ≠ c:=Ne.symm (ne_of_none hc5 hr)
  cases bi:b5[i] with
  | true =>
   rw [bi] at eb
   generalize upd H5 r (.lst [])=H6 at s6 fr ⊢
   refine ⟨_,rfl,_,rfl,sn,_,(i:Int),.bl true,rfl,rfl,SqL.of (s6 _ _ hs5),bl_at eb,true,rfl,?_⟩
   refine iteF ?_
   refine lwalk0_reads (K:=K) fr ?_
   refine ⟨_,rfl,(by show 0 ≤ sizeLine; decide),fun l hl => ?_⟩
   have s7:=Same.nw (o:=.lst []) (Same.refl H6) hl
   have fl:(upd H6 l (.lst [])) l=some (.lst []):=upd_same
   generalize upd H6 l (.lst [])=H7 at s7 fl ⊢
   have s57:=s6.trans s7
   refine ⟨_,_,room_di (vs:=[]) (s7 _ _ fr),room_di (vs:=[]) fl,room_lay [],room_lay [],room_dep [],_,rfl,?_⟩
   show if (!PyData.eqv (.list []) (.list []))=true then _ else _
   rw [eqv_nn]
   refine iteF ?_
   exact ⟨_,_,_,_,b5,ys,hs,rfl,s5.trans s57,s57 _ _ hz5,lz5.up s57,s57 _ _ hs5,s57 _ _ hc5,ly5.up s57,nv5,I5.skip hi eb,by omega⟩
  | false =>
   rw [bi] at eb
   refine ⟨_,rfl,_,rfl,sn,_,(i:Int),.bl false,rfl,rfl,SqL.of (s6 _ _ hs5),bl_at eb,false,rfl,?_⟩
   refine iteT ?_
   refine ⟨_,rfl,.inl ⟨rfl,_,SqL.of fr⟩,_,rfl,r,[],_,rfl,rfl,fr,(by show 0 < sizeLine; decide),?_⟩
   have hs6:(upd (upd H5 r (.lst [])) r (.lst ([] ++ [nv i]))) sn=some (.lst (b5.map V.bl)):=by rw [upd_ne (Ne.symm nrs),upd_ne (Ne.symm nrs)]; exact hs5
   refine ⟨_,rfl,_,rfl,sn,_,(i:Int),i,rfl,rfl,hs6,by rw [List.length_map,I5.len]; exact ixN_nat hi,?_⟩
   rw [map_set_bl]
   have st:WalkS H5 (upd (upd (upd H5 r (.lst [])) r (.lst ([] ++ [nv i]))) sn (.lst ((b5.set i true).map V.bl))) sn r (b5.set i true) [i] :=
    ⟨fun q o hq e => by
     have nq:=ne_of_none e hr
     rw [upd_ne hq,upd_ne nq,upd_ne nq]; exact e,upd_same,by rw [upd_ne nrs]; exact upd_same,hr,nrs⟩
   show tLrX K _ _ (upd (upd (upd H5 r (.lst [])) r (.lst ([] ++ [nv i]))) sn (.lst ((b5.set i true).map V.bl)))
   generalize upd (upd (upd H5 r (.lst [])) r (.lst ([] ++ [nv i]))) sn (.lst ((b5.set i true).map V.bl))=H6 at st ⊢
   refine lwalk_reads (K:=K) hz5 lz5 B st I5.len hi eb (by omega) nzs nbs rD fun a y11 vs b7 H7 st7 R7 => ?_
   have vn:vs ≠ []:=fun e => by have:=R7.start; rw [e] at this; cases this
   have vsz:=R7.size
   refine ⟨_,rfl,(by show 0 ≤ sizeLine; decide),fun l hl => ?_⟩
   have s8:=Same.nw (o:=.lst []) (Same.refl H7) hl
   have fl:(upd H7 l (.lst [])) l=some (.lst []):=upd_same
   generalize upd H7 l (.lst [])=H8 at s8 fl ⊢
   refine ⟨_,_,room_di (s8 _ _ st7.hr),room_di (vs:=[]) fl,room_lay vs,room_lay [],room_dep vs,_,rfl,?_⟩
   have en:PyData.eqv (.list (vs.map fun m:Nat => .int (m:Int))) (.list [])=false:=by
    cases vs with
    | nil => exact absurd rfl vn
    | cons m t => exact eqv_cons m t
   show if (!PyData.eqv (.list (vs.map fun m:Nat => .int (m:Int))) (.list []))=true then _ else _
   rw [en]
   refine iteT ?_
   have o8:Bt sn H5 H8:=fun q o hq e => s8 _ _ (st7.old q o hq e)
   have hc8:=o8 _ _ (Ne.symm nsc) hc5
   refine ⟨_,rfl,.inl ⟨rfl,_,SqL.of hc8⟩,_,rfl,r,vs.map fun m:Nat => (m:Int),rfl,?_,?_,fun l2 ms hl2 pm pu => ?_⟩
   ·rw [List.map_map]
    exact SqL.of (s8 _ _ st7.hr)
   ·rw [List.length_map]
    omega
   obtain ⟨ws,e1,e2,e3⟩:=nat_sorted pm pu R7.nd
   rw [e1]
   have s9:=Same.nw (o:=.lst (ws.map nv)) (Same.refl H8) hl2
   have fl2:(upd H8 l2 (.lst (ws.map nv))) l2=some (.lst (ws.map nv)):=upd_same
   have lf:H5 l2=none:=by
    cases z:H5 l2 with
    | none => rfl
    | some o =>
     by_cases e:l2=sn
     ·rw [e,s8 _ _ st7.hs] at hl2; cases hl2
     ·rw [o8 _ _ e z] at hl2; cases hl2
   generalize upd H8 l2 (.lst (ws.map nv))=H9 at s9 fl2 ⊢
   have o9:Bt sn H5 H9:=fun q o hq e => s9 _ _ (o8 q o hq e)
   have hc9:=s9 _ _ hc8
   have hs9:=s9 _ _ (s8 _ _ st7.hs)
   have yl:ys.length ≤ 2500:=by rw [ly5.1,List.length_map]; omega
   refine ⟨c,ys,.ref l2,rfl,rfl,hc9,Nat.lt_of_le_of_lt (show ys.length ≤ 2500 from yl) (by decide),?_⟩
   have s59:Same H0 H9:=fun q o e => o9 q o (ne_of_none e sn0) (s5 q o e)
   have lc:l2 ≠ c:=fun z => by rw [z,hc5] at lf; cases lf
   have ls:l2 ≠ sn:=fun z => by rw [z,hs5] at lf; cases lf
   have lz9:=lz5.bt o9 hs5 nzs
   have ly9:=LsL.snoc (ly5.bt o9 hs5 fun y hy => (nv5 y hy).1) fl2 (nv_it ws)
   have nv9:∀ y ∈ ys ++ [.ref l2],y ≠ .ref sn∧y ≠ .ref c∧∀ a,y = .ref a→H0 a=none:=fun y hy => by
    rcases List.mem_append.mp hy with z | z
    ·exact nv5 y z
    ·rw [List.mem_singleton.mp z]
     exact ⟨fun e => ls (V.ref.inj e),fun e => lc (V.ref.inj e),fun a e => by cases e; exact s5.free lf⟩
   refine ⟨_,_,_,_,b7,ys ++ [.ref l2],hs ++ [ws],rfl,s59.ow c0,by rw [upd_ne nbc]; exact o9 _ _ nbs hz5,lz9.set hc9 nzc,by rw [upd_ne nsc]; exact hs9,upd_same,?_,nv9,I5.room hi R7 e2 e3 sy rD,by rw [List.length_append]; simp; omega⟩
   rw [List.map_append]
   exact ly9.set hc9 fun y hy => (nv9 y hy).2.1
 ·rintro σ H5 ⟨x8,x9,x10,x11,b5,ys,hs,rfl,s5,hz5,lz5,hs5,hc5,ly5,nv5,I5,hl5⟩
  rw [Int.toNat_natCast] at I5
  exact ⟨_,rfl,k c ys hs b5 H5 s5 c0 hc5 ly5 I5 fun y hy => (nv5 y hy).2.2⟩
end
end L2
namespace L2
open PySem PySem.Spec PyProof.Rows
section
variable {K:PySem.W.Frag} {H:Hp} {Q:VK} {Z:L2.St→Hp→Prop}
theorem ways_app {H H' : Hp} {n:Nat} {c:Addr} {zs:List V} {gs:List (List (List Int))} {D:List (Nat × Nat)} {x y:Nat} (nd:zs.Nodup) (zl:zs.length=n) (zc:∀ y ∈ zs,y ≠ .ref c) (fr:∀ y ∈ zs,∀ a,y = .ref a→H a=none) (hx:x < n) (hD:D.length ≤ 90000) (s' : Same H H') (hc' : H' c=some (.lst zs)) (l' : LsL H' false zs gs) (B' : BsI n D gs) :
  ∃ (a:Addr) (ax:List V) (gs' : List (List (List Int))),zs[x]? = some (.ref a)∧H' a=some (.lst ax)∧ax.length < sizeLine∧Same H (upd H' a (.lst (ax ++ [nv y])))∧Tups H' (upd H' a (.lst (ax ++ [nv y])))∧(upd H' a (.lst (ax ++ [nv y]))) c=some (.lst zs)∧LsL (upd H' a (.lst (ax ++ [nv y]))) false zs gs'∧BsI n (D ++ [(x,y)]) gs':=by
 obtain ⟨ms,eg,ml,_⟩:=B'.at' x hx
 have ez:zs[x]? = some zs[x]:=List.getElem?_eq_getElem (by omega)
 obtain ⟨a,ax,ea,ha,ia⟩:=l'.2 x _ _ ez eg
 rw [ea] at ez
 have nac:a ≠ c:=fun z => zc _ (List.mem_of_getElem? ez) (by rw [z])
 have af:H a=none:=fr _ (List.mem_of_getElem? ez) a rfl
 have al:ax.length ≤ 90000:=by rw [ia.1,List.length_map]; omega
 exact ⟨a,ax,_,ez,ha,Nat.lt_of_le_of_lt al (by decide),s'.ow af,Tups.lst (Tups.refl H') ha,by rw [upd_ne (Ne.symm nac)]; exact hc',LsL.put l' nd ez eg ha (.int _),B'.put hx eg⟩
theorem lrooms_reads {pa:Addr} {n:Nat} {ps:List PR} {ya:List V} (ha:H pa=some (.lst ya)) (cp:CpL H ya (ps.map pV)) (ok:RmOk n ps) (k:RmsK H n ps Q):tLRoomsW K { nx:=Z,rt:=Q } [some (nv n),some (.ref pa),none,none,none,none,none,none,none,none,none,none] H:=by
 obtain ⟨n2,okp,pl,pm⟩:=ok
 have e7:((n:Int)).toNat=n:=Int.toNat_natCast n
 have yl:ya.length=ps.length:=by rw [cp.1,List.length_map]
 refine ⟨_,rfl,(n:Int),rfl,by omega,by omega,compRW (lo:=0) (n:=((n:Int)).toNat) (fun i ys H' => LsL H' false ys (List.replicate i [])∧ys.Nodup∧Same H H'∧∀ y ∈ ys,∀ a,y = .ref a→H a=none) ⟨LsL.nil _ _,List.nodup_nil,Same.refl H,fun y hy => (by cases hy)⟩ (by omega) (fun i ys H' h => by rw [h.1.1,List.length_replicate]; exact Nat.le_refl _) ?_ ?_⟩
 ·rintro i ys H1 pre hpre hi ⟨l1,nd1,s1,f1⟩
  rcases pre with _ | ⟨q0,_ | ⟨q1,pre⟩⟩
  ·cases hpre
  ·refine ⟨⟨[some _],rfl,rfl⟩,?_⟩
   unfold tYes
   dsimp only
   rw [if_pos (rfl:true=true)]
   refine ⟨(by show 0 ≤ sizeLine; decide),fun p hp => ?_⟩
   have s2:=Same.nw (o:=.lst []) (Same.refl H1) hp
   refine ⟨?_,?_,s1.trans s2,fun y hy a e => ?_⟩
   ·rw [List.replicate_succ']
    exact LsL.snoc (l1.up s2) upd_same (ItL.nil _ _)
   ·rw [List.nodup_append]
    refine ⟨nd1,by simp,fun y hy z hz e => ?_⟩
    rw [List.mem_singleton.mp hz] at e
    obtain ⟨j,hj⟩:=List.mem_iff_getElem?.mp hy
    have jl:=(List.getElem?_eq_some_iff.mp hj).1
    obtain ⟨a,xs',ea,ha,_⟩:=l1.2 j y _ hj (List.getElem?_eq_getElem (by rw [← l1.1]; exact jl))
    rw [ea] at e
    cases e
    rw [hp] at ha
    cases ha
   ·rcases List.mem_append.mp hy with z | z
    ·exact f1 y z a e
    ·rw [List.mem_singleton.mp z] at e
     cases e
     exact s1.free hp
  ·cases hpre
 rintro zs H1 ⟨l1,nd1,s1,f1⟩ c hc
 rw [e7] at l1
 have s2:=Same.nw (o:=.lst zs) (Same.refl H1) hc
 have fc:(upd H1 c (.lst zs)) c=some (.lst zs):=upd_same
 have cf:H c=none:=s1.free hc
 have zc:∀ y ∈ zs,y ≠ .ref c:=l1.avoid hc
 generalize upd H1 c (.lst zs)=H2 at s2 fc ⊢
 have zl:zs.length=n:=by rw [l1.1,List.length_replicate]
 have s02:=s1.trans s2
 have lim:∀ i,(psL (ps.take i)).length ≤ 40000:=fun i => Nat.le_trans (psL_len (n:=n) fun p hp => okp p (List.mem_of_mem_take hp)) (Nat.le_trans (Nat.mul_le_mul_right n (by rw [List.length_take]; exact Nat.min_le_right _ _)) pm)
 refine ⟨_,rfl,pa,rfl,⟨_,SqL.of (s02 _ _ ha)⟩,for_list (K:=K) (a:=pa) (xs:=ya) (fun i σ H' => ∃ (x3 x4 x5:Option V) (gs:List (List (List Int))),σ=[some (nv n),some (.ref pa),some (.ref c),x3,x4,x5,none,none,none,none,none,none]∧Same H H'∧H' c=some (.lst zs)∧LsL H' false zs gs∧BsI n (dirL (psL (ps.take i))) gs) ⟨_,_,_,List.replicate n [],rfl,s02,fc,l1.up s2,⟨by rw [List.length_replicate],fun j hj => ⟨[],by rw [List.getElem?_replicate,if_pos hj]; rfl,Nat.zero_le _,fun m => by simp [dirL,psL]⟩⟩⟩ (fun i σ H' _ h => by obtain ⟨_,_,_,_,_,s',_⟩:=h; exact SqL.of (s' _ _ ha)) ?_ ?_⟩
 ·rintro i y σ H3 hy ⟨x3,x4,x5,gs,rfl,s3,hc3,l3,B3⟩
  have il:i < ps.length:=by rw [← yl]; exact (List.getElem?_eq_some_iff.mp hy).1
  have ep:ps[i]? = some ps[i]:=List.getElem?_eq_getElem il
  obtain ⟨q,rfl,hq⟩:=cp.2 i y (pV ps[i]) hy (by rw [List.getElem?_map,ep]; rfl)
  have mp:ps[i] ∈ ps:=List.getElem_mem il
  generalize ps[i]=p at ep hq mp
  have l40:=lim (i + 1)
  rw [take_succ' ep,psL_snoc,List.length_append] at l40
  refine ⟨_,rfl,q,p,n,rfl,s3 _ _ hq,okp p mp,by omega,fun e es H4 s4 ef he tE => ⟨e,rfl,⟨_,SqL.of he⟩,?_⟩⟩
  have el:es.length=(prL p).length:=by rw [tE.1,List.length_map]
  have zle:=l3.avoid ef
  have nce:c ≠ e:=ne_of_none hc3 ef
  refine for_list (K:=K) (a:=e) (xs:=es) (fun j σ H' => ∃ (x4 x5:Option V) (gs:List (List (List Int))),σ=[some (nv n),some (.ref pa),some (.ref c),some (.ref q),x4,x5,none,none,none,none,none,none]∧Same H H'∧H' e=some (.lst es)∧TuL H' es ((prL p).map pc)∧H' c=some (.lst zs)∧LsL H' false zs gs∧BsI n (dirL (psL (ps.take i) ++ (prL p).take j)) gs) ⟨_,_,gs,rfl,s3.trans s4,he,tE,s4 _ _ hc3,l3.up s4,by rw [List.take_zero,List.append_nil]; exact B3⟩ (fun j σ H' _ h => by obtain ⟨_,_,_,_,_,h',_⟩:=h; exact SqL.of h') ?_ ?_
  ·rintro j z σ H5 hz ⟨x4,x5,gs5,rfl,s5,he5,t5,hc5,l5,B5⟩
   obtain ⟨u,w,eu,rfl,hw⟩:=t5.take hz
   rw [List.getElem?_map] at eu
   cases eL:(prL p)[j]? with
   | none => rw [eL] at eu; cases eu
   | some v =>
    rw [eL] at eu
    cases eu
    have mv:v ∈ prL p:=List.mem_of_getElem? eL
    have jl:j < (prL p).length:=(List.getElem?_eq_some_iff.mp eL).1
    obtain ⟨r1,r2⟩:=prL_lt (okp p mp) v mv
    have dl:(dirL (psL (ps.take i) ++ (prL p).take j)).length ≤ 80000:=by rw [dirL_len,List.length_append,List.length_take]; omega
    refine ⟨w,_,rfl,SqT.of hw,rfl,_,_,rfl,_,_,rfl,rfl,?_⟩
    obtain ⟨a,ax,gs6,ez,ha6,al,s6,t6,hc6,l6,B6⟩:=ways_app (y:=v.2) nd1 zl zc f1 r1 (by omega) s5 hc5 l5 B5
    have nae:e ≠ a:=fun z => zle _ (List.mem_of_getElem? ez) (by rw [z])
    have he6:(upd H5 a (.lst (ax ++ [nv v.2]))) e=some (.lst es):=by rw [upd_ne nae]; exact he5
    refine ⟨_,rfl,_,rfl,c,zs,_,.ref a,rfl,rfl,SqL.of hc5,atI_nat ez,.inl ⟨rfl,_,SqL.of ha6⟩,_,rfl,a,ax,_,rfl,rfl,ha6,al,?_⟩
    show _
    have hH:upd H5 a (.lst (ax ++ [V.int (v.2:Int)]))=upd H5 a (.lst (ax ++ [nv v.2])):=rfl
    rw [hH]
    have tt6:=t5.up t6
    generalize upd H5 a (.lst (ax ++ [nv v.2]))=H6 at s6 t6 hc6 l6 he6 tt6 ⊢
    obtain ⟨a',ax',gs7,ez',ha7,al',s7,t7,hc7,l7,B7⟩:=ways_app (y:=v.1) nd1 zl zc f1 r2 (by rw [List.length_append]; simp; omega) s6 hc6 l6 B6
    have nae' : e ≠ a':=fun z => zle _ (List.mem_of_getElem? ez') (by rw [z])
    refine ⟨_,rfl,_,rfl,c,zs,_,.ref a',rfl,rfl,SqL.of hc6,atI_nat ez',.inl ⟨rfl,_,SqL.of ha7⟩,_,rfl,a',ax',_,rfl,rfl,ha7,al',?_⟩
    exact ⟨_,_,gs7,rfl,s7,by rw [upd_ne nae']; exact he6,tt6.up t7,hc7,l7,by rw [take_succ' eL,← List.append_assoc,dirL_snoc]; exact B7⟩
  ·rintro σ H5 ⟨x4,x5,gs5,rfl,s5,he5,t5,hc5,l5,B5⟩
   rw [el,List.take_length] at B5
   exact ⟨_,_,_,gs5,rfl,s5,hc5,l5,by rw [take_succ' ep,psL_snoc]; exact B5⟩
 ·rintro σ H3 ⟨x3,x4,x5,gs,rfl,s3,hc3,l3,B3⟩
  rw [yl,List.take_length] at B3
  exact lrF_reads (K:=K) s3 hc3 l3 B3 n2 (psL_lt okp) k
end
end L2
namespace L2
open PySem PySem.Spec PyProof.Rows
section
variable {K:PySem.W.Frag} {H:Hp} {Q:VK} {Z:L2.St→Hp→Prop}
theorem iteB {b:Bool} {A B:Prop} (h:b=false) (x:B):if b=true then A else B:=by
 rw [h]
 exact iteF x
theorem ledW_in {p:PR} {i:Nat} (hi:i < p.2.2.1.toNat):ledW p.1 p.2.1 p.2.2.1 p.2.2.2 (p.1 + (i:Int)) = .int (if p.2.2.2=true then p.2.1 + p.2.2.1 - 1 - (i:Int) else p.2.1 + (i:Int)):=by
 unfold ledW
 rw [if_pos ⟨by omega,by omega⟩,show p.1 + (i:Int) - p.1=(i:Int) by omega]
def prI (p:PR) (i:Nat):List (Nat × Nat):=(List.range i).map (lnk p)
theorem prI_succ (p:PR) (i:Nat):(prI p (i + 1)).map pc=(prI p i).map pc ++ [pc (lnk p i)]:=by
 unfold prI
 rw [List.range_succ,List.map_append,List.map_append]
 rfl
theorem prI_len (p:PR) (i:Nat):((prI p i).map pc).length=i:=by simp [prI]
theorem links_reads {q:Addr} {p:PR} {n:Nat} (hq:H q=some (.tup (pV p))) (hp:PrW n p) (hn:n ≤ 2500) (k:∀ (c:Addr) (ps:List V) (H' : Hp),Same H H'→H c=none→H' c=some (.lst ps)→TuL H' ps ((prL p).map pc)→Q (.ref c) H'):tLinksW K { nx:=Z,rt:=Q } [some (.ref q)] H:=by
 have hp':=hp
 obtain ⟨a0,a1,a2,a3⟩:=hp'
 have el:(p.1 + p.2.2.1 - p.1).toNat=p.2.2.1.toNat:=by rw [show p.1 + p.2.2.1 - p.1=p.2.2.1 by omega]
 refine ⟨_,rfl,q,_,_,.int p.1,rfl,rfl,SqT.of hq,rfl,_,rfl,q,_,_,.int p.1,rfl,rfl,SqT.of hq,rfl,_,rfl,q,_,_,.int p.2.2.1,rfl,rfl,SqT.of hq,rfl,_,_,rfl,rfl,p.1,p.1 + p.2.2.1,rfl,⟨by omega,by omega,by omega,by omega⟩,?_⟩
 rw [el]
 refine compRW (lo:=p.1) (n:=p.2.2.1.toNat) (fun i ys H' => TuL H' ys ((prI p i).map pc)∧Same H H') ⟨TuL.nil _,Same.refl H⟩ (by omega) (fun i ys H' h => by rw [h.1.1,prI_len]; exact Nat.le_refl _) ?_ ?_
 ·rintro i ys H1 pre hpre hi ⟨t1,s1⟩
  rcases pre with _ | ⟨q0,_ | ⟨q1,pre⟩⟩
  ·cases hpre
  ·refine ⟨⟨[some _],rfl,rfl⟩,?_⟩
   unfold tYes
   dsimp only
   rw [if_pos (rfl:true=true)]
   refine ⟨_,rfl,_,rfl,_,rfl,q,p.1,p.2.1,p.2.2.1,p.2.2.2,_,rfl,s1 _ _ hq,?_⟩
   rw [ledW_in hi]
   refine ⟨(by show 2 ≤ sizeLine; decide),fun r hr => ?_⟩
   have s2:=Same.nw (o:=.tup [.int (p.1 + (i:Int)),.int (if p.2.2.2=true then p.2.1 + p.2.2.1 - 1 - (i:Int) else p.2.1 + (i:Int))]) (Same.refl H1) hr
   refine ⟨?_,s1.trans s2⟩
   rw [prI_succ]
   refine TuL.snoc (t1.up s2.tups) ?_
   rw [lnk_pc hp hi]
   exact upd_same
  ·cases hpre
 ·rintro ys H1 ⟨t1,s1⟩ c hc
  have s2:=Same.nw (o:=.lst ys) (Same.refl H1) hc
  exact k c ys _ (s1.trans s2) (s1.free hc) upd_same (t1.up s2.tups)
theorem pairs_reads {q:Addr} {p:PR} {n:Nat} (hq:H q=some (.tup (pV p))) (hp:PrW n p) (hn:n ≤ 2500) (k:∀ (c:Addr) (ps:List V) (H' : Hp),Same H H'→H c=none→H' c=some (.lst ps)→TuL H' ps ((prL p).map pc)→Q (.ref c) H'):tPairsW K { nx:=Z,rt:=Q } [some (.ref q),none,none,none,none,none,none] H:=by
 have hp':=hp
 obtain ⟨a0,a1,a2,a3⟩:=hp'
 refine ⟨_,rfl,q,_,rfl,SqT.of hq,rfl,_,_,rfl,_,_,rfl,_,_,rfl,_,_,rfl,rfl,?_⟩
 refine ⟨(by show 0 ≤ sizeLine; decide),fun c hc => ?_⟩
 have s0:=Same.nw (o:=.lst []) (Same.refl H) hc
 have hc0:(upd H c (.lst [])) c=some (.lst []):=upd_same
 generalize upd H c (.lst [])=H0 at s0 hc0 ⊢
 refine ⟨_,rfl,p.2.2.1,rfl,by omega,by omega,for_range (lo:=0) (n:=p.2.2.1.toNat) (fun i σ H' => ∃ (x6:Option V) (ys:List V),σ=[some (.ref q),some (.int p.1),some (.int p.2.1),some (.int p.2.2.1),some (.bl p.2.2.2),some (.ref c),x6]∧Same H H'∧H' c=some (.lst ys)∧TuL H' ys ((prI p i).map pc)) ⟨_,[],rfl,s0,hc0,TuL.nil _⟩ ?_ ?_⟩
 ·rintro i σ H1 hi ⟨x6,ys,rfl,s1,hc1,t1⟩
  have yl:ys.length ≤ 2500:=by rw [t1.1,prI_len]; omega
  refine ⟨_,rfl,.inl ⟨rfl,_,SqL.of hc1⟩,_,rfl,_,rfl,_,_,rfl,rfl,_,rfl,_,rfl,_,_,rfl,rfl,_,rfl,_,rfl,_,_,rfl,rfl,_,_,rfl,rfl,_,rfl,_,_,rfl,rfl,(by show 2 ≤ sizeLine; decide),fun l hl => ⟨_,rfl,.inr ⟨_,rfl,?_⟩⟩⟩
  have s2:=Same.nw (o:=.lst [.int (p.2.1 + (0 + (i:Int))),.int (p.2.1 + p.2.2.1 - 1 - (0 + (i:Int)))]) (Same.refl H1) hl
  have hl2:(upd H1 l (.lst [.int (p.2.1 + (0 + (i:Int))),.int (p.2.1 + p.2.2.1 - 1 - (0 + (i:Int)))])) l=some (.lst [.int (p.2.1 + (0 + (i:Int))),.int (p.2.1 + p.2.2.1 - 1 - (0 + (i:Int)))]):=upd_same
  generalize upd H1 l (.lst [.int (p.2.1 + (0 + (i:Int))),.int (p.2.1 + p.2.2.1 - 1 - (0 + (i:Int)))])=H2 at s2 hl2 ⊢
  have ea:atI [V.int (p.2.1 + (0 + (i:Int))),.int (p.2.1 + p.2.2.1 - 1 - (0 + (i:Int)))] (if p.2.2.2=true then 1 else 0)=some (.int (if p.2.2.2=true then p.2.1 + p.2.2.1 - 1 - (i:Int) else p.2.1 + (i:Int))):=by
   rw [Int.zero_add]
   cases p.2.2.2 <;> rfl
  refine ⟨l,_,_,_,rfl,rfl,SqL.of hl2,ea,(by show 2 ≤ sizeLine; decide),fun r hr => ?_⟩
  rw [Int.zero_add]
  have s3:=Same.nw (o:=.tup [.int (p.1 + (i:Int)),.int (if p.2.2.2=true then p.2.1 + p.2.2.1 - 1 - (i:Int) else p.2.1 + (i:Int))]) (Same.refl H2) hr
  have hr3:(upd H2 r (.tup [.int (p.1 + (i:Int)),.int (if p.2.2.2=true then p.2.1 + p.2.2.1 - 1 - (i:Int) else p.2.1 + (i:Int))])) r=some (.tup [.int (p.1 + (i:Int)),.int (if p.2.2.2=true then p.2.1 + p.2.2.1 - 1 - (i:Int) else p.2.1 + (i:Int))]):=upd_same
  generalize upd H2 r (.tup [.int (p.1 + (i:Int)),.int (if p.2.2.2=true then p.2.1 + p.2.2.1 - 1 - (i:Int) else p.2.1 + (i:Int))])=H3 at s3 hr3 ⊢
  have s13:=s2.trans s3
  have hc3:=s13 _ _ hc1
  refine ⟨c,ys,_,rfl,rfl,hc3,Nat.lt_of_le_of_lt yl (by decide),?_⟩
  refine ⟨_,ys ++ [.ref r],rfl,(s1.trans s13).ow hc,upd_same,?_⟩
  rw [prI_succ]
  refine TuL.up (TuL.snoc (t1.up s13.tups) ?_) (Tups.lst (Tups.refl H3) hc3)
  rw [lnk_pc hp hi]
  exact hr3
 ·rintro σ H1 ⟨x6,ys,rfl,s1,hc1,t1⟩
  exact ⟨_,rfl,k c ys H1 s1 hc hc1 t1⟩
theorem rooms_reads {a pa pb:Addr} {n:Nat} {ps:List PR} {L:WL2} {ya yb:List V} (x:HallAt H a pa pb (n:Int) ps L ya yb) (ok:RmOk n ps) (k:RmsK H n ps Q):tRoomsW K { nx:=Z,rt:=Q } [some (.ref a),none,none,none] H:=by
 obtain ⟨n2,okp,pl,pm⟩:=ok
 refine ⟨_,rfl,a,_,rfl,SqT.of x.h,rfl,_,_,rfl,_,_,rfl,_,_,rfl,rfl,?_⟩
 refine ⟨_,rfl,_,_,rfl,rfl,_,rfl,ite2 (fun e => absurd (of_decide_eq_true e) (by omega)) (fun e => ?_)⟩
 refine ⟨_,rfl,_,rfl,pa,rfl,⟨_,SqL.of x.ha⟩,comp2LT (K:=K) (a:=pa) (xs:=ya) (fun i ys H' => Same H H'∧TuL H' ys ((psL (ps.take i)).map pc)) ⟨Same.refl H,TuL.nil _⟩ (fun i ys H' _ h => SqL.of (h.1 _ _ x.ha)) ?_ ?_⟩
 ·rintro i y ys H1 pre hpre hy ⟨s1,t1⟩
  have il:i < ps.length:=by rw [← x.len]; exact (List.getElem?_eq_some_iff.mp hy).1
  have ep:ps[i]? = some ps[i]:=List.getElem?_eq_getElem il
  obtain ⟨q,eq,hq⟩:=x.at ep
  rw [eq] at hy
  cases hy
  have mp:ps[i] ∈ ps:=List.getElem_mem il
  generalize ps[i]=p at ep hq mp
  have tl:(psL (ps.take i)).length ≤ 40000:=Nat.le_trans (psL_len (n:=n) fun p hp => okp p (List.mem_of_mem_take hp)) (Nat.le_trans (Nat.mul_le_mul_right n (by rw [List.length_take]; exact Nat.min_le_right _ _)) pm)
  have yl:ys.length ≤ 40000:=by rw [t1.1,List.length_map]; exact tl
  rcases pre with _ | ⟨q0,_ | ⟨q1,_ | ⟨q2,pre⟩⟩⟩
  ·cases hpre
  ·cases hpre
  ·refine ⟨⟨[some _,q1],rfl,rfl⟩,?_⟩
   unfold tYes
   dsimp only
   rw [if_pos (rfl:true=true)]
   refine ⟨_,rfl,q,p,n,rfl,s1 _ _ hq,okp p mp,by omega,fun c zs H2 s2 cf hc tL => ⟨c,rfl,⟨_,SqL.of hc⟩,compILW (K:=K) (a:=c) (xs:=zs) (fun j ys' σ' H' => H2=H'∧(∃ pre' : L2.St,σ' = pre' ++ [some (.ref a),some (.int (n:Int)),some (.ref pa),some (.ref pb)]∧pre'.length=2)∧ys' = ys ++ zs.take j) ⟨rfl,⟨[some _,q1],rfl,rfl⟩,by simp⟩ ?_ ?_ ?_ ?_⟩⟩
   ·rintro j ys' σ' H' ⟨rfl,_,rfl⟩
    have zl:zs.length ≤ n:=by
     rw [tL.1,List.length_map,prL_len]
     obtain ⟨b0,b1,b2,b3⟩:=okp p mp
     omega
    rw [List.length_append,List.length_take]
    omega
   ·rintro j ys' σ' H' _ ⟨rfl,_,_⟩
    exact SqL.of hc
   ·rintro j z ys' σ' H' hz ⟨rfl,⟨pre',eσ,pl'⟩,rfl⟩
    rcases pre' with _ | ⟨r0,_ | ⟨r1,_ | ⟨r2,pre'⟩⟩⟩
    ·cases pl'
    ·cases pl'
    ·rw [eσ]
     refine ⟨⟨[r0,some z],rfl,rfl⟩,?_⟩
     dsimp only
     rw [if_pos (rfl:true=true)]
     exact ⟨_,rfl,rfl,⟨[r0,some z],rfl,rfl⟩,by rw [take_succ' hz,List.append_assoc]⟩
    ·cases pl'
   ·rintro ys' σ' H' ⟨rfl,_,rfl⟩
    rw [List.take_length]
    refine ⟨s1.trans s2,?_⟩
    rw [take_succ' ep,psL_snoc,List.map_append]
    exact ((TuL.it (t1.up s2.tups)).append (TuL.it tL)).tu
  ·cases hpre
 ·rintro ys H1 ⟨s1,t1⟩ D hD
  rw [x.len,List.take_length] at t1
  have s2:=Same.nw (o:=.lst ys) (Same.refl H1) hD
  have s02:=s1.trans s2
  refine ⟨D,n,ys,psL ps,rfl,upd_same,t1.up s2.tups,by omega,Nat.le_trans (psL_len okp) pm,psL_lt okp,fun c zs hs b' H' s cf hc l lk fr => ?_⟩
  exact k c zs hs b' H' (s02.trans s) (s02.free cf) hc l lk fun y hy b e => s02.free (fr y hy b e)
theorem cop_reads {a pa pb:Addr} {n:Int} {ps:List PR} {L:WL2} {ya yb:List V} (x:HallAt H a pa pb n ps L ya yb) (k:∀ (a' pa' pb' : Addr) (H' : Hp),Same H H'→HallAt H' a' pa' pb' n ps L ya yb→Q (.ref a') H'):tCopW K { nx:=Z,rt:=Q } [some (.ref a)] H:=by
 refine ⟨_,rfl,a,_,_,_,rfl,rfl,SqT.of x.h,rfl,_,rfl,a,_,_,_,rfl,rfl,SqT.of x.h,rfl,pa,ya,rfl,.inl (SqL.of x.ha),fun p1 h1 => ?_⟩
 have s1:=Same.nw (o:=.lst ya) (Same.refl H) h1
 have f1:(upd H p1 (.lst ya)) p1=some (.lst ya):=upd_same
 generalize upd H p1 (.lst ya)=H1 at s1 f1 ⊢
 refine ⟨_,rfl,a,_,_,_,rfl,rfl,SqT.of (s1 _ _ x.h),rfl,pb,yb,rfl,.inl (SqL.of (s1 _ _ x.hb)),fun p2 h2 => ?_⟩
 have s2:=Same.nw (o:=.lst yb) (Same.refl H1) h2
 have f2:(upd H1 p2 (.lst yb)) p2=some (.lst yb):=upd_same
 generalize upd H1 p2 (.lst yb)=H2 at s2 f2 ⊢
 refine ⟨(by show 3 ≤ sizeLine; decide),fun r hr => ?_⟩
 have s3:=Same.nw (o:=.tup [.int n,.ref p1,.ref p2]) (Same.refl H2) hr
 have st:=s1.trans (s2.trans s3)
 exact k r p1 p2 _ st ⟨upd_same,(s2.trans s3) _ _ f1,x.ca.up st.tups,s3 _ _ f2,x.wb.up st.tups⟩
end
end L2
namespace L2
open PySem PySem.Spec PyProof.Rows
section
variable {K:PySem.W.Frag} {H:Hp} {Q:VK} {Z:L2.St→Hp→Prop}
theorem min2_le {a b n:Int} (h1:a ≤ n) (h2:b ≤ n):(if b > a then b else a) ≤ n:=by split <;> omega
theorem hpsG_reads {D:Ends} {H0:Hp} {d c:Addr} {n:Nat} {rm m:Int} {x3 x5 x7 x8 x9:Option V} {ya:List V} {ps:List PR} (P:PurseW H d) (B:ButW d H0 H) (fc:H0 c=none) (ncd:c ≠ d) (hc:H c=some (.lst ya)) (cp:CpL H ya (ps.map pV)) (n0:0 < n) (n2:n ≤ 200) (r1:1 ≤ rm) (pl:ps.length ≤ 64)
  (k:∀ (x7 x8 x9:Option V) (ya' : List V) (p:PR) (H' : Hp),PurseW H' d→ButW d H0 H'→H' c=some (.lst ya')→CpL H' ya' ((ps ++ [p]).map pV)→PrW n p→D.nx [some (.ref d),some (.int (n:Int)),some (.int m),x3,some (.ref c),x5,some (.int rm),x7,x8,x9] H'):tHpsG K D [some (.ref d),some (.int (n:Int)),some (.int m),x3,some (.ref c),x5,some (.int rm),x7,x8,x9] H:=by
 have mp:0 < (if rm < (n:Int) then rm else (n:Int)):=by split <;> omega
 have ml:(if rm < (n:Int) then rm else (n:Int)) ≤ 200:=by split <;> omega
 have mn:(if rm < (n:Int) then rm else (n:Int)) ≤ (n:Int):=by split <;> omega
 refine ⟨_,rfl,_,rfl,_,rfl,_,_,rfl,d,_,rfl,P,mp,Int.lt_of_le_of_lt ml (by decide),fun r H1 r0 r1 P1 B1 => ⟨_,_,rfl,rfl,?_⟩⟩
 have lr:1 + r ≤ (n:Int):=by omega
 refine ⟨_,rfl,_,rfl,_,rfl,_,_,rfl,rfl,_,_,rfl,rfl,d,_,rfl,P1,by omega,Int.lt_of_le_of_lt (show _ ≤ (300:Int) by omega) (by decide),fun one H2 o0 o1 P2 B2 => ?_⟩
 refine ⟨_,rfl,_,rfl,_,rfl,_,rfl,_,_,rfl,rfl,_,_,rfl,rfl,d,_,rfl,P2,by omega,Int.lt_of_le_of_lt (show _ ≤ (300:Int) by omega) (by decide),fun tw H3 t0 t1 P3 B3 => ⟨(by show 2 ≤ sizeLine; decide),fun l hl => ?_⟩⟩
 have nl:=P3.ne hl
 refine ⟨_,rfl,d,8,rfl,P3.new hl,by decide,by decide,fun t H4 u0 u1 P4 B4 => ⟨_,_,rfl,rfl,.inr ⟨_,rfl,?_⟩⟩⟩
 have hl4:=B4 l _ upd_same nl
 have B34:ButW d H3 H4:=((ButW.refl d H3).new hl).trans B4
 have Bt4:ButW d H H4:=((B1.trans B2).trans B3).trans B34
 have key:∃ o:Int,atI [V.int one,V.int tw] (if decide (0 < t)=true then 1 else 0)=some (.int o)∧0 ≤ o∧o + (1 + r) ≤ (n:Int):=by
  cases decide (0 < t) with
  | true => exact ⟨tw,rfl,t0,by omega⟩
  | false => exact ⟨one,rfl,o0,by omega⟩
 obtain ⟨o,ea,p0,p1⟩:=key
 refine ⟨l,_,_,_,rfl,rfl,SqL.of hl4,ea,?_⟩
 have hc4:=Bt4 _ _ hc ncd
 have cp4:=cp.up (Bt4.tups P)
 refine ⟨_,rfl,.inl ⟨rfl,_,SqL.of hc4⟩,_,rfl,_,rfl,_,_,rfl,_,rfl,_,rfl,_,_,rfl,_,rfl,_,rfl,d,2,rfl,P4,by decide,by decide,fun t2 H5 v0 v1 P5 B5 => ⟨rfl,(by show 4 ≤ sizeLine; decide),fun q hq => ?_⟩⟩
 have hc5:=B5 _ _ hc4 ncd
 have cp5:=cp4.up (B5.tups P4)
 have pw:PrW n (if o < one then o else one,if o > one then o else one,1 + r,decide (V.int t2=V.int 1)):=⟨by dsimp only; split <;> omega,by dsimp only; split <;> split <;> omega,by dsimp only; omega,by
  dsimp only
  have:=min2_le (a:=one) (b:=o) (n:=(n:Int) - (1 + r)) (by omega) (by omega)
  omega⟩
 have fq:(upd H5 q (.tup (pV (if o < one then o else one,if o > one then o else one,1 + r,decide (V.int t2=V.int 1))))) q=some (.tup (pV (if o < one then o else one,if o > one then o else one,1 + r,decide (V.int t2=V.int 1)))):=upd_same
 have s6:=Same.nw (o:=.tup (pV (if o < one then o else one,if o > one then o else one,1 + r,decide (V.int t2=V.int 1)))) (Same.refl H5) hq
 have P6:=P5.new (o:=.tup (pV (if o < one then o else one,if o > one then o else one,1 + r,decide (V.int t2=V.int 1)))) hq
 dsimp only [tNil]
 show rAppend (V.ref c) [V.ref q] (upd H5 q (.tup (pV (if o < one then o else one,if o > one then o else one,1 + r,decide (V.int t2=V.int 1))))) _
 generalize (if o < one then o else one,if o > one then o else one,1 + r,decide (V.int t2=V.int 1))=p at pw fq s6 P6 ⊢
 generalize upd H5 q (.tup (pV p))=H6 at fq s6 P6 ⊢
 have hc6:=s6 _ _ hc5
 have yl:ya.length ≤ 64:=by rw [cp.1,List.length_map]; exact pl
 refine ⟨c,ya,_,rfl,rfl,hc6,Nat.lt_of_le_of_lt yl (by decide),?_⟩
 refine k _ _ _ (ya ++ [.ref q]) p _ (P6.at ncd) (((B.trans (Bt4.trans B5)).same s6).own fc) upd_same ?_ pw
 rw [List.map_append]
 exact CpL.up (CpL.snoc (cp5.up s6.tups) fq) (Tups.lst (Tups.refl H6) hc6)
theorem hpsF_reads {d:Addr} {n:Nat} {m:Int} {x3:Option V} (P:PurseW H d) (n2:n ≤ 200) (m0:0 ≤ m) (m1:m ≤ 64) (k:∀ (c:Addr) (ya:List V) (ps:List PR) (H' : Hp),c ≠ d→H' c=some (.lst ya)→CpL H' ya (ps.map pV)→(∀ p ∈ ps,PrW n p)→ps.length ≤ 64→PurseW H' d→ButW d H H'→Q (.ref c) H'):tHpsF K { nx:=Z,rt:=Q } [some (.ref d),some (nv n),some (.int m),x3,none,none,none,none,none,none] H:=by
 refine ⟨(by show 0 ≤ sizeLine; decide),fun c hc => ?_⟩
 have ncd:=P.ne hc
 have P0:=P.new (o:=.lst []) hc
 have B0:=(ButW.refl d H).new (o:=.lst []) hc
 have hc0:(upd H c (.lst [])) c=some (.lst []):=upd_same
 generalize upd H c (.lst [])=H0 at P0 B0 hc0 ⊢
 have hb:(m * (if decide ((0:Int) < (n:Int))=true then 1 else 0)).toNat ≤ 64∧-(2 ^ 62) ≤ m * (if decide ((0:Int) < (n:Int))=true then (1:Int) else 0)∧m * (if decide ((0:Int) < (n:Int))=true then (1:Int) else 0) < 2 ^ 62∧(0 < (m * (if decide ((0:Int) < (n:Int))=true then 1 else 0)).toNat→0 < n):=by
  by_cases c0:(0:Int) < (n:Int)
  ·rw [decide_eq_true c0,if_pos rfl]
   omega
  ·rw [decide_eq_false c0,if_neg (by decide)]
   omega
 obtain ⟨h64,hb1,hb2,hn0⟩:=hb
 refine ⟨_,rfl,_,rfl,_,_,rfl,rfl,.inr ⟨_,rfl,_,_,rfl,rfl,.inl ⟨by omega,by omega⟩,_,rfl,hb1,hb2,?_⟩⟩
 generalize (m * (if decide ((0:Int) < (n:Int))=true then 1 else 0)).toNat=N at h64 hn0 ⊢
 refine for_range (lo:=0) (n:=N) (fun i σ H' => ∃ (x5 x6 x7 x8 x9:Option V) (ya:List V) (ps:List PR),σ=[some (.ref d),some (nv n),some (.int m),x3,some (.ref c),x5,x6,x7,x8,x9]∧PurseW H' d∧ButW d H H'∧H' c=some (.lst ya)∧CpL H' ya (ps.map pV)∧(∀ p ∈ ps,PrW n p)∧ps.length=i) ⟨_,_,_,_,_,[],[],rfl,P0,B0,hc0,CpL.nil _,fun p hp => (by cases hp),rfl⟩ ?_ ?_
 ·rintro i σ H1 hi ⟨x5,x6,x7,x8,x9,ya,ps,rfl,P1,B1,hc1,cp1,ok1,l1⟩
  have n0:=hn0 (by omega)
  refine ⟨_,rfl,_,rfl,_,_,rfl,rfl,⟨by decide,by decide⟩,_,_,rfl,rfl,(by show 4 ≤ sizeLine; decide),fun l hl => ?_⟩
  have nl:=P1.ne hl
  refine ⟨_,rfl,d,4,rfl,P1.new hl,by decide,by decide,fun r H2 r0 r1 P2 B2 => ?_⟩
  have hl2:=B2 l _ upd_same nl
  have B12:ButW d H1 H2:=((ButW.refl d H1).new hl).trans B2
  have key:∃ rm:Int,atI [V.int 3,V.int 9,V.int (n:Int),V.int (1 + (n:Int) / 2)] r=some (.int rm)∧1 ≤ rm:=by
   have hr:r=0 ∨ r=1 ∨ r=2 ∨ r=3:=by omega
   rcases hr with rfl | rfl | rfl | rfl
   ·exact ⟨3,rfl,by decide⟩
   ·exact ⟨9,rfl,by decide⟩
   ·exact ⟨(n:Int),rfl,by omega⟩
   ·exact ⟨1 + (n:Int) / 2,rfl,by omega⟩
  obtain ⟨rm,ea,rp⟩:=key
  refine ⟨l,_,_,_,rfl,rfl,SqL.of hl2,ea,?_⟩
  have fin:∀ rm:Int,1 ≤ rm→∀ D:Ends,(∀ σ H',(∃ (x5 x6 x7 x8 x9:Option V) (ya:List V) (ps:List PR),σ=[some (.ref d),some (nv n),some (.int m),x3,some (.ref c),x5,x6,x7,x8,x9]∧PurseW H' d∧ButW d H H'∧H' c=some (.lst ya)∧CpL H' ya (ps.map pV)∧(∀ p ∈ ps,PrW n p)∧ps.length=i + 1)→D.nx σ H')→tHpsG K D [some (.ref d),some (.int (n:Int)),some (.int m),x3,some (.ref c),some (.int (0 + (i:Int))),some (.int rm),x7,x8,x9] H2:=fun rm rp D kd => by
   refine hpsG_reads (K:=K) (D:=D) (H0:=H) (ps:=ps) (rm:=rm) (m:=m) P2 (B1.trans B12) hc ncd (B12 _ _ hc1 ncd) (cp1.up (B12.tups P1)) n0 n2 rp (by omega) fun x7 x8 x9 ya' p H' P' B' h' cp' pw => ?_
   refine kd _ _ ⟨_,_,_,_,_,ya',ps ++ [p],rfl,P',B',h',cp',fun z hz => ?_,by rw [List.length_append,l1]; rfl⟩
   rcases List.mem_append.mp hz with z' | z'
   ·exact ok1 z z'
   ·rw [List.mem_singleton.mp z']; exact pw
  refine ⟨_,rfl,_,_,rfl,rfl,_,rfl,ite2 (fun e => ?_) (fun e => ?_)⟩
  ·exact fin 9 (by decide) _ fun σ H' h => h
  ·exact fin rm rp _ fun σ H' h => h
 ·rintro σ H1 ⟨x5,x6,x7,x8,x9,ya,ps,rfl,P1,B1,hc1,cp1,ok1,l1⟩
  exact ⟨_,rfl,k c ya ps H1 ncd hc1 cp1 ok1 (by omega) P1 B1⟩
theorem hps_reads {d:Addr} {n:Nat} (P:PurseW H d) (n2:n ≤ 200) (k:∀ (c:Addr) (ya:List V) (ps:List PR) (H' : Hp),c ≠ d→H' c=some (.lst ya)→CpL H' ya (ps.map pV)→(∀ p ∈ ps,PrW n p)→ps.length ≤ 64→PurseW H' d→ButW d H H'→Q (.ref c) H'):tHpsW K { nx:=Z,rt:=Q } [some (.ref d),some (nv n),none,none,none,none,none,none,none,none] H:=by
 refine ⟨_,rfl,d,9,rfl,P,by decide,by decide,fun m H1 m0 m1 P1 B1 => ?_⟩
 refine ⟨_,rfl,d,16,rfl,P1,by decide,by decide,fun w H2 w0 w1 P2 B2 => ?_⟩
 have B02:=B1.trans B2
 have fin:∀ (m:Int) (H2:Hp),0 ≤ m→m ≤ 24→PurseW H2 d→ButW d H H2→tHpsE K { nx:=Z,rt:=Q } [some (.ref d),some (nv n),some (.int m),some (.int w),none,none,none,none,none,none] H2:=fun m H2 m0 m1 P2 B2 => by
  refine ⟨_,rfl,rfl,_,rfl,ite2 (fun e => ?_) (fun e => ?_)⟩
  ·exact hpsF_reads (K:=K) P2 n2 (by decide) (by decide) fun c ya ps H' a1 a2 a3 a4 a5 a6 a7 => k c ya ps H' a1 a2 a3 a4 a5 a6 (B2.trans a7)
  ·exact hpsF_reads (K:=K) P2 n2 m0 (by omega) fun c ya ps H' a1 a2 a3 a4 a5 a6 a7 => k c ya ps H' a1 a2 a3 a4 a5 a6 (B2.trans a7)
 refine ⟨_,rfl,_,_,rfl,rfl,_,rfl,ite2 (fun e => ?_) (fun e => ?_)⟩
 ·exact ⟨_,rfl,d,25,rfl,P2,by decide,by decide,fun m' H3 u0 u1 P3 B3 => fin m' H3 u0 (by omega) P3 (B02.trans B3)⟩
 ·exact fin m H2 m0 (by omega) P2 B02
theorem hall_reads {d:Addr} (P:PurseW H d) (k:∀ (a pa pb:Addr) (n:Nat) (ps:List PR) (L:WL2) (ya yb:List V) (H' : Hp),a ≠ d→pa ≠ d→pb ≠ d→PurseW H' d→ButW d H H'→HallAt H' a pa pb (n:Int) ps L ya yb→HlW n ps L→Q (.ref a) H'):tHallW K { nx:=Z,rt:=Q } [some (.ref d),none,none] H:=by
 refine ⟨_,rfl,d,61,rfl,P,by decide,by decide,fun u H1 u0 u1 P1 B1 => ?_⟩
 refine ⟨_,rfl,d,201,rfl,P1,by decide,by decide,fun v H2 v0 v1 P2 B2 => ⟨(by show 2 ≤ sizeLine; decide),fun l hl => ?_⟩⟩
 have nl:=P2.ne hl
 refine ⟨_,rfl,d,8,rfl,P2.new hl,by decide,by decide,fun t H3 t0 t1 P3 B3 => ⟨rfl,.inr ⟨_,rfl,?_⟩⟩⟩
 have hl3:=B3 l _ upd_same nl
 have B03:ButW d H H3:=((B1.trans B2).new hl).trans B3
 have key:∃ n:Nat,atI [V.int u,V.int v] (if decide (V.int t=V.int 5)=true then 1 else 0)=some (nv n)∧n ≤ 200:=by
  cases decide (V.int t=V.int 5) with
  | true => exact ⟨v.toNat,by show some (V.int v)=some (V.int ((v.toNat:Nat):Int)); rw [Int.toNat_of_nonneg v0],by omega⟩
  | false => exact ⟨u.toNat,by show some (V.int u)=some (V.int ((u.toNat:Nat):Int)); rw [Int.toNat_of_nonneg u0],by omega⟩
 obtain ⟨n,ea,n2⟩:=key
 refine ⟨l,_,_,_,rfl,rfl,SqL.of hl3,ea,?_⟩
 refine ⟨_,rfl,_,rfl,d,n,rfl,P3,n2,fun c ya ps H4 cd hc cp ok pl P4 B4 => ?_⟩
 refine ⟨_,rfl,_,rfl,_,rfl,_,rfl,d,rfl,P4,fun wd H5 w1 w2 P5 B5 => ⟨_,rfl,d,wd,(n:Int),rfl,P5,w1,w2,by omega,Int.lt_of_le_of_lt (show (n:Int) ≤ 200 by omega) (by decide),fun b yb L H6 bd hb wg ft P6 B6 => ⟨(by show 3 ≤ sizeLine; decide),fun a ha => ?_⟩⟩⟩
 have B46:=B5.trans B6
 have s7:=Same.nw (o:=.tup [nv n,.ref c,.ref b]) (Same.refl H6) ha
 refine k a c b n ps L ya yb _ (P6.ne ha) cd bd (P6.new ha) (((B03.trans B4).trans B46).same s7) ⟨upd_same,s7 _ _ (B46 _ _ hc cd),(cp.up (B46.tups P4)).up s7.tups,s7 _ _ hb,wg.up s7.tups⟩ ⟨n2,ok,pl,wd,w1,w2,ft⟩
end
end L2
namespace L2
open PySem PySem.Spec PyProof.Rows
section
variable {K:PySem.W.Frag} {H:Hp} {Q:VK} {Z:L2.St→Hp→Prop}
theorem flat_ge {α:Type} : ∀ {hs:List (List α)},(∀ h ∈ hs,h ≠ [])→hs.length ≤ hs.flatten.length
 | [],_ => Nat.le_refl _
 | h :: hs,ne => by
  rw [List.length_cons,List.flatten_cons,List.length_append]
  have:=flat_ge fun g hg => ne g (List.mem_cons_of_mem _ hg)
  have:=List.length_pos_iff.mpr (ne h List.mem_cons_self)
  omega
theorem flat_mem {α:Type} : ∀ {hs:List (List α)} {h:List α},h ∈ hs→h.length ≤ hs.flatten.length
 | [],_,hh => by cases hh
 | g :: hs,h,hh => by
  rw [List.flatten_cons,List.length_append]
  rcases List.mem_cons.mp hh with e | e
  ·rw [e]; omega
  ·have:=flat_mem e; omega
theorem lk_lens {n:Nat} {D:List (Nat × Nat)} {b:List Bool} {hs:List (List Nat)} (h:LkI n D n b hs):hs.length ≤ n∧∀ g ∈ hs,g.length ≤ n:=by
 have fl:hs.flatten.length ≤ n:=by
  have:=nodup_leN (m:=List.range n) h.nd fun x hx => List.mem_range.mpr (h.lt x hx)
  rwa [List.length_range] at this
 exact ⟨Nat.le_trans (flat_ge h.pt.ne) fl,fun g hg => Nat.le_trans (flat_mem hg) fl⟩
end
end L2
namespace L2
open PySem PySem.Spec PyProof.Rows
section
variable {K:PySem.W.Frag} {H:Hp} {Q:VK} {Z:L2.St→Hp→Prop}
def zpl (u v:List Int):List Int:=List.zipWith (· + ·) u v
theorem zpl_len {u v:List Int} (h:u.length=v.length):(zpl u v).length=u.length:=by unfold zpl; rw [List.length_zipWith]; omega
def spSowW:Sp:=fun vs H Q _ => ∃ (a b:Addr) (u v:List Int),vs=[.ref a,.ref b]∧H a=some (.tup (u.map V.int))∧H b=some (.tup (v.map V.int))∧u.length=v.length∧u.length ≤ 24∧∀ (c:Addr) (H' : Hp),Same H H'→H' c=some (.tup ((zpl u v).map V.int))→Q (.ref c) H'
def wpl (L:WL2):List (List Int):=(L.map fun e => List.replicate e.1.toNat e.2).flatten
theorem wpl_snoc (L:WL2) (e:Int × List Int):wpl (L ++ [e])=wpl L ++ List.replicate e.1.toNat e.2:=by simp [wpl]
theorem wpl_len:∀ {L:WL2},(∀ e ∈ L,0 ≤ e.1)→((wpl L).length:Int)=tot L
 | [],_ => rfl
 | e :: L,h => by
  have e1:wpl (e :: L)=List.replicate e.1.toNat e.2 ++ wpl L:=by simp [wpl]
  rw [e1,List.length_append,List.length_replicate,tot_cons]
  have:=wpl_len fun x hx => h x (List.mem_cons_of_mem _ hx)
  have:=h e List.mem_cons_self
  omega
theorem wpl_mem {L:WL2} {u:List Int} (h:u ∈ wpl L):∃ e ∈ L,u=e.2:=by
 obtain ⟨l,hl,hu⟩:=List.mem_flatten.mp h
 obtain ⟨e,he,rfl⟩:=List.mem_map.mp hl
 exact ⟨e,he,(List.mem_replicate.mp hu).2⟩
def PlOk (wd:Nat) (W:List (List Int)):Prop:=wd ≤ 24∧∀ u ∈ W,u.length=wd
def rstep (W:List (List Int)) (a:List Int) (m:Nat):List Int:=zpl a (W.getD m [])
def rsum (W:List (List Int)):List Nat→List Int
 | [] => []
 | x :: t => t.foldl (rstep W) (W.getD x [])
theorem getD_len {wd:Nat} {W:List (List Int)} (h:PlOk wd W) {m:Nat} (hm:m < W.length):(W.getD m []).length=wd:=by
 rw [List.getD_eq_getElem?_getD,List.getElem?_eq_getElem hm]
 exact h.2 _ (List.getElem_mem hm)
theorem fold_len {wd:Nat} {W:List (List Int)} (h:PlOk wd W):∀ {t:List Nat} {a:List Int},a.length=wd→(∀ m ∈ t,m < W.length)→(t.foldl (rstep W) a).length=wd
 | [],a,ha,_ => ha
 | m :: t,a,ha,ht => by
  rw [List.foldl_cons]
  refine fold_len h ?_ fun k hk => ht k (List.mem_cons_of_mem _ hk)
  unfold rstep
  rw [zpl_len (by rw [ha,getD_len h (ht m List.mem_cons_self)])]
  exact ha
def spWofW:Sp:=fun vs H Q _ => ∃ (r p:Addr) (h:List Nat) (ps:List V) (W:List (List Int)) (wd:Nat),vs=[.ref r,.ref p]∧H r=some (.lst (h.map nv))∧H p=some (.lst ps)∧TuL H ps W∧PlOk wd W∧h ≠ []∧(∀ m ∈ h,m < W.length)∧∀ (c:Addr) (H' : Hp),Same H H'→H' c=some (.tup ((rsum W h).map V.int))→Q (.ref c) H'
def dkS (ks:List (List Int × Int)) (e:Int × List Int):List (List Int × Int):=putI ks e.2 (getI ks e.2 + e.1)
def dkF (W:WL2):List (List Int × Int):=W.foldl dkS []
theorem dkF_snoc (W:WL2) (e:Int × List Int):dkF (W ++ [e])=dkS (dkF W) e:=by unfold dkF; rw [List.foldl_append]; rfl
theorem dkF_take {W:WL2} {i:Nat} {e:Int × List Int} (h:W[i]? = some e):dkF (W.take (i + 1))=dkS (dkF (W.take i)) e:=by rw [take_succ' h,dkF_snoc]
theorem dkF_is (W:WL2):DIs W (dkF W):=by
 have key:∀ i,DIs (W.take i) (dkF (W.take i)):=by
  intro i
  induction i with
  | zero => exact DIs.nil
  | succ i ih =>
   cases e:W[i]? with
   | none =>
    have:W.length ≤ i:=List.getElem?_eq_none_iff.mp e
    rw [List.take_of_length_le (by omega)]
    rw [List.take_of_length_le (by omega)] at ih
    exact ih
   | some x =>
    rw [dkF_take e,take_succ' e]
    exact ih.put x
 have:=key W.length
 rw [List.take_length] at this
 exact this
def SrO (ws ks:List (List Int × Int)):Prop:=ws.Perm ks∧ws.Pairwise (fun x y => lexB y.1 x.1=false)
theorem SrO.uni {ws us ks:List (List Int × Int)} (h:SrO ws ks) (g:SrO us ks) (nd:(ks.map (·.1)).Nodup):ws=us:=by
 have st:∀ {l:List (List Int × Int)},SrO l ks→l.Pairwise fun x y => lexB y.1 x.1=false∧x.1 ≠ y.1:=fun {l} s => by
  have n1:(l.map (·.1)).Nodup:=(s.1.map (·.1)).nodup_iff.mpr nd
  exact s.2.and (List.pairwise_map.mp n1)
 exact perm_uniS (r:=fun x y => lexB y.1 x.1=false∧x.1 ≠ y.1) (fun x y a b => a.2 (lexB_tot b.1 a.1)) ws us (h.1.trans g.1.symm) (st h) (st g)
def spSortsW:Sp:=fun vs H Q _ => ∃ (a:Addr) (xs:List V) (W:WL2),vs=[.ref a]∧H a=some (.lst xs)∧Wg H xs W∧W.length ≤ 900∧∀ (l:Addr) (ps:List V) (ws:List (List Int × Int)) (H' : Hp),H l=none→H' l=some (.lst ps)→PrL H' ps ws→SrO ws (dkF W)→Same H H'→Q (.ref l) H'
def rws (L:WL2) (hs:List (List Nat)):WL2:=hs.map fun h => (1,rsum (wpl L) h)
structure SwOk (n:Nat) (ps:List PR) (L:WL2):Prop where
 rm:RmOk n ps
 n2:n ≤ 900
 wd:∃ wd:Nat,PlOk wd (wpl L)
 pos:∀ e ∈ L,0 ≤ e.1
 tot:tot L=(n:Int)
 len:L.length ≤ 900
def SwK (H:Hp) (n:Nat) (ps:List PR) (L:WL2) (Q:VK):Prop:=∀ (l:Addr) (zs:List V) (ws:List (List Int × Int)) (hs:List (List Nat)) (b:List Bool) (H' : Hp),Same H H'→H l=none→H' l=some (.lst zs)→PrL H' zs ws→LkI n (dirL (psL ps)) n b hs→SrO ws (dkF (rws L hs))→Q (.ref l) H'
def spSwW:Sp:=fun vs H Q _ => ∃ (a pa pb:Addr) (n:Nat) (ps:List PR) (L:WL2) (ya yb:List V),vs=[.ref a]∧HallAt H a pa pb (n:Int) ps L ya yb∧SwOk n ps L∧SwK H n ps L Q
def spLSortsW:Sp:=spSwW
def spKinds20:Sp:=fun vs H Q _ => ∃ (c:Addr) (zs:List V) (ws:List (List Int × Int)),vs=[.ref c]∧H c=some (.lst zs)∧PrL H zs ws∧(∀ e ∈ ws,e.1.length ≤ 900)∧∀ H',Same H H'→Q (.bl true) H'
def tSow20 (K:PySem.W.Frag):TS:=tRet (tCB (fun xs H_1 Q => ∃ p ys,xs=[V.ref p]∧((SqL K H_1 p ys∧∀ (l:Addr),H_1 l=none→Q (V.ref l) (upd H_1 l (HO.tup ys))) ∨ SqT K H_1 p ys∧Q (V.ref p) H_1)) (tCons (tCompG 2 (iZipT K (tCons (tVar 0) (tCons (tVar 1) tNil))) (gTup K 2 (gCons (gName 0) (gCons (gName 1) gNil))) tYes (tOp (rI0 fun i j => V.int (i + j)) (tVar 0) (tVar 1))) tNil))
def tSorts20 (K:PySem.W.Frag):TS:=tSeq (tAsg tDNewT (gName 1)) (tSeq (tFor (iList K (tVar 0)) (gTup K 2 (gCons (gName 2) (gCons (gName 3) gNil))) (sDPut (tVar 1) (tVar 3) (tOp (rI0 fun i j => V.int (i + j)) (tDGet2 (tVar 1) (tVar 3) (tC (V.int 0))) (tVar 2)))) (tRet (tCB (fun xs H Q => ∃ v d ks,xs=[V.ref v]∧H v=some (HO.ext (IView v d))∧H d=some (HO.dT (List.map (fun k => (List.map Sum.inl k.fst,V.int k.snd)) ks))∧ks.length ≤ 1000∧∀ (l:Addr) (ps:List V) (ws:List (List Int × Int)) (H' : Hp),H l=none→(∀ (b:Addr) (o:HO),H b=some o→H' b=some o)→H' l=some (HO.lst ps)→PrL H' ps ws→ws.Perm ks→List.Pairwise (fun x y => lexB y.fst x.fst=false) ws→Q (V.ref l) H') (tCons (tDItems (tVar 1)) tNil))))
def tWof20 (K:PySem.W.Frag):TS:=tSeq (tAsg (tOp (rIxL K) (tVar 1) (tOp (rIxL K) (tVar 0) (tC (V.int 0)))) (gName 2)) (tSeq (tFor (iList K (tSl (rSlL K) (tVar 0) (tPart (tC (V.int 1))) tNoPart)) (gName 3) (tAsg (tCall spSowW [] E0 (tCons (tVar 2) (tCons (tOp (rIxL K) (tVar 1) (tVar 3)) tNil))) (gName 2))) (tRet (tVar 2)))
def tSw20 (K:PySem.W.Frag):TS:=tSeq (tAsg (tCall spRoomsW [] E0 (tCons (tVar 0) tNil)) (gName 1)) (tSeq (tAsg (tLst tNil) (gName 2)) (tSeq (tFor (iList K (tOp (rIxT K) (tVar 0) (tC (V.int 2)))) (gTup K 2 (gCons (gName 3) (gCons (gName 4) gNil))) (tDrop (tBM K "list" rExtend (tVar 2) (tCons (tOp rRep (tLst (tCons (tVar 4) tNil)) (tVar 3)) tNil)))) (tRet (tCall spSortsW [] E0 (tCons (tCompG 1 (iList K (tVar 1)) (gName 0) tYes (tTup (tCons (tC (V.int 1)) (tCons (tCall spWofW [] E0 (tCons (tVar 0) (tCons (tVar 3) tNil))) tNil)))) tNil)))))
def tLsE (K:PySem.W.Frag):TS:=(tRet (tCB (fun xs H_1 Q => ∃ p ys us,xs=[V.ref p]∧SqL K H_1 p ys∧PrL H_1 ys us∧us.length ≤ 1000∧(List.map (fun x => x.fst) us).Nodup∧∀ (l:Addr) (zs:List V) (ws:List (List Int × Int)),H_1 l=none→PrL H_1 zs ws→ws.Perm us→List.Pairwise (fun x y => lexB y.fst x.fst=false) ws→Q (V.ref l) (upd H_1 l (HO.lst zs))) (tCons (tCompG 1 (iDictT (tVar 4)) (gName 0) tYes (tTup (tCons (tVar 0) (tCons (tDGet (tVar 5) (tVar 0)) tNil)))) tNil)))
def tLsB (K:PySem.W.Frag):TS:=(tSeq (tAsg (tOp (rIxL K) (tVar 1) (tOp (rIxL K) (tVar 5) (tC (V.int 0)))) (gName 6)) (tSeq (tFor (iList K (tSl (rSlL K) (tVar 5) (tPart (tC (V.int 1))) tNoPart)) (gName 7) (tAsg (tCall spSowW [] E0 (tCons (tVar 6) (tCons (tOp (rIxL K) (tVar 1) (tVar 7)) tNil))) (gName 6))) (sDPut (tVar 4) (tVar 6) (tOp (rI0 fun i j => V.int (i + j)) (tDGet2 (tVar 4) (tVar 6) (tC (V.int 0))) (tC (V.int 1))))))
def tLsD (K:PySem.W.Frag):TS:=(tSeq (tAsg tDNewT (gName 4)) (tSeq (tFor (iList K (tCall spLRoomsW [] E0 (tCons (tOp (rIxT K) (tVar 0) (tC (V.int 0))) (tCons (tOp (rIxT K) (tVar 0) (tC (V.int 1))) tNil)))) (gName 5) (tLsB K)) (tLsE K)))
def tLSorts20 (K:PySem.W.Frag):TS:=tSeq (tAsg (tLst tNil) (gName 1)) (tSeq (tFor (iList K (tOp (rIxT K) (tVar 0) (tC (V.int 2)))) (gTup K 2 (gCons (gName 2) (gCons (gName 3) gNil))) (tAsg (tOp rCat (tVar 1) (tOp rRep (tLst (tCons (tVar 3) tNil)) (tVar 2))) (gName 1))) (tLsD K))
def tKinds20 (K:PySem.W.Frag):TS:=tSeq (tIfS (tNot (tB (tCB (fun xs H Q => ∃ x t b,xs=[x,V.ty "list"]∧TyOf K H x t∧W.kitOne K t (Value.type "list")=some b∧Q (V.bl b) H) (tCons (tVar 0) (tCons (tC (V.ty "list")) tNil))))) (tRet (tC (V.bl false))) tNext) (tSeq (tFor (iList K (tVar 0)) (gName 1) (tSeq (tIfS (tOr (tNot (tB (tCB (fun xs H Q => ∃ x t b,xs=[x,V.ty "tuple"]∧TyOf K H x t∧W.kitOne K t (Value.type "tuple")=some b∧Q (V.bl b) H) (tCons (tVar 1) (tCons (tC (V.ty "tuple")) tNil))))) (tOr (tTest (tOp rNe (tCB (fun xs H Q => ∃ p ys,xs=[V.ref p]∧(SqL K H p ys ∨ SqT K H p ys)∧Q (V.int ys.length) H) (tCons (tVar 1) tNil)) (tC (V.int 2)))) (tOr (tNot (tB (tCB (fun xs H Q => ∃ x t b,xs=[x,V.ty "tuple"]∧TyOf K H x t∧W.kitOne K t (Value.type "tuple")=some b∧Q (V.bl b) H) (tCons (tOp (rIxT K) (tVar 1) (tC (V.int 0))) (tCons (tC (V.ty "tuple")) tNil))))) (tNot (tB (tCall spWholeW [] E0 (tCons (tOp (rIxT K) (tVar 1) (tC (V.int 1))) tNil))))))) (tRet (tC (V.bl false))) tNext) (tIfS (tNot (tB (tCB (fun xs H_1 Q => ∃ p bs,xs=[V.ref p]∧SqL K H_1 p (List.map V.bl bs)∧Q (V.bl (bs.all id)) H_1) (tCons (tCompG 1 (iTup K (tOp (rIxT K) (tVar 1) (tC (V.int 0)))) (gName 0) tYes (tCall spWholeW [] E0 (tCons (tVar 0) tNil))) tNil)))) (tRet (tC (V.bl false))) tNext))) (tRet (tC (V.bl true))))
def tLaw20 (K:PySem.W.Frag):TS:=tSeq (tFor (iRng1 (tCons (tOp (rI0 fun i j => V.int (i + j)) (tC (V.int 1)) (tCB (fun xs H Q => ∃ i j,xs=[V.int i,V.int j]∧Q (V.int (if j < i then j else i)) H) (tCons (tC (V.int 3)) (tCons (tCB (fun xs H Q => ∃ p ys,xs=[V.ref p]∧(SqL K H p ys ∨ SqT K H p ys)∧Q (V.int ys.length) H) (tCons (tVar 0) tNil)) tNil)))) tNil)) (gName 1) (tSeq (tAsg (tCall spHallW [] E0 (tCons (tCall (spPurseW K) [] E0 (tCons (tVar 0) (tCons (tVar 1) tNil))) tNil)) (gName 2)) (tSeq (tAsg (tCall spCopW [] E0 (tCons (tVar 2) tNil)) (gName 3)) (tSeq (tAsg (tCall spLSortsW [] E0 (tCons (tVar 2) tNil)) (gName 4)) (tFor (iRng1 (tCons (tC (V.int 2)) tNil)) (gName 5) (tSeq (tAsg (tCall spSwW [] E0 (tCons (tVar 3) tNil)) (gName 6)) (tSeq (tIfS (tOr (tNot (tB (tCall spKinds20 [] E0 (tCons (tVar 6) tNil)))) (tOr (tTest (tOp (rEqD K fun b => !b) (tVar 6) (tVar 4))) (tTest (tOp (rEqD K fun b => !b) (tVar 3) (tVar 2))))) (tRet (tC (V.bl false))) tNext) (tDrop (tBM K "list" rAppend (tVar 6) (tCons (tC V.non) tNil)))))))))) (tRet (tC (V.bl true)))
end
end L2
namespace L2
open PySem PySem.Spec PyProof.Rows
section
variable {K:PySem.W.Frag} {H:Hp} {Q:VK} {Z:L2.St→Hp→Prop}
theorem sow_reads {a b:Addr} {u v:List Int} (ha:H a=some (.tup (u.map V.int))) (hb:H b=some (.tup (v.map V.int))) (el:u.length=v.length) (l24:u.length ≤ 24) (k:∀ (c:Addr) (H' : Hp),Same H H'→H' c=some (.tup ((zpl u v).map V.int))→Q (.ref c) H'):tSow20 K { nx:=Z,rt:=Q } [some (.ref a),some (.ref b)] H:=by
 refine ⟨_,rfl,_,rfl,a,b,rfl,⟨_,SqT.of ha⟩,⟨_,SqT.of hb⟩,compZT (K:=K) (a:=a) (b:=b) (xs:=u.map V.int) (ys:=v.map V.int) (n:=u.length) (fun i zs H' => zs=((zpl u v).take i).map V.int∧Same H H') ⟨rfl,Same.refl H⟩ (by rw [List.length_map,List.length_map]; omega) (by omega) (fun i zs H' h => by rw [h.1,List.length_map,List.length_take]; exact Nat.min_le_left _ _) (fun i zs H' _ h => ⟨SqT.of (h.2 _ _ ha),SqT.of (h.2 _ _ hb)⟩) ?_ ?_⟩
 ·rintro i x y zs H1 pre p hpre hx hy ⟨rfl,s1⟩ hp
  rw [List.getElem?_map] at hx hy
  cases ex:u[i]? with
  | none => rw [ex] at hx; cases hx
  | some xi =>
   cases ey:v[i]? with
   | none => rw [ey] at hy; cases hy
   | some yi =>
    rw [ex] at hx
    rw [ey] at hy
    cases hx
    cases hy
    rcases pre with _ | ⟨q0,_ | ⟨q1,_ | ⟨q2,pre⟩⟩⟩
    ·cases hpre
    ·cases hpre
    ·refine ⟨p,_,rfl,SqT.of upd_same,rfl,_,_,rfl,_,_,rfl,rfl,⟨[some _,some _],rfl,rfl⟩,?_⟩
     unfold tYes
     dsimp only
     rw [if_pos (rfl:true=true)]
     refine ⟨_,rfl,_,rfl,_,_,rfl,rfl,?_,s1.nw hp⟩
     have ez:(zpl u v)[i]? = some (xi + yi):=by unfold zpl; rw [List.getElem?_zipWith,ex,ey]
     rw [take_succ' ez,List.map_append]
     rfl
    ·cases hpre
 ·rintro zs H1 ⟨rfl,s1⟩ D hD
  rw [List.take_of_length_le (by rw [zpl_len el]; exact Nat.le_refl _)]
  refine ⟨D,_,rfl,.inl ⟨SqL.of upd_same,fun l hl => ?_⟩⟩
  exact k l _ ((s1.nw hD).nw hl) upd_same
theorem cut1 (x:V) (xs:List V):cutV (x :: xs) (some 1) none=xs:=by
 have:=cut_from (x :: xs) (k:=1) (by simp)
 exact this
theorem wof_reads {r p:Addr} {h:List Nat} {ps:List V} {W:List (List Int)} {wd:Nat} (hr:H r=some (.lst (h.map nv))) (hp:H p=some (.lst ps)) (tp:TuL H ps W) (ok:PlOk wd W) (hne:h ≠ []) (hm:∀ m ∈ h,m < W.length) (k:∀ (c:Addr) (H' : Hp),Same H H'→H' c=some (.tup ((rsum W h).map V.int))→Q (.ref c) H'):tWof20 K { nx:=Z,rt:=Q } [some (.ref r),some (.ref p),none,none] H:=by
 cases h with
 | nil => exact absurd rfl hne
 | cons x t =>
  have at' : ∀ {H' : Hp},Same H H'→∀ m,m < W.length→∃ a:Addr,ps[m]? = some (.ref a)∧H' a=some (.tup ((W.getD m []).map V.int)):=fun {H'} s m ml => by
   have e:W[m]? = some (W.getD m []):=by rw [List.getD_eq_getElem?_getD,List.getElem?_eq_getElem ml]; rfl
   obtain ⟨a,h1,h2⟩:=(tp.up s.tups).get e
   exact ⟨a,h2,h1⟩
  have hx:=hm x List.mem_cons_self
  obtain ⟨a0,e0,h0⟩:=at' (Same.refl H) x hx
  refine ⟨_,rfl,_,rfl,r,_,0,nv x,rfl,rfl,SqL.of hr,atI_nat (j:=0) rfl,p,ps,(x:Int),.ref a0,rfl,rfl,SqL.of hp,atI_nat e0,?_⟩
  refine ⟨_,rfl,1,rfl,r,_,rfl,SqL.of hr,fun q hq => ?_⟩
  rw [List.map_cons,cut1]
  have s1:=Same.nw (o:=.lst (t.map nv)) (Same.refl H) hq
  have fq:(upd H q (.lst (t.map nv))) q=some (.lst (t.map nv)):=upd_same
  generalize upd H q (.lst (t.map nv))=H1 at s1 fq ⊢
  refine ⟨q,rfl,⟨_,SqL.of fq⟩,for_list (K:=K) (a:=q) (xs:=t.map nv) (fun i σ H' => ∃ (x3:Option V) (c:Addr),σ=[some (.ref r),some (.ref p),some (.ref c),x3]∧Same H H'∧H' q=some (.lst (t.map nv))∧H' c=some (.tup (((t.take i).foldl (rstep W) (W.getD x [])).map V.int))) ⟨_,a0,rfl,s1,fq,s1 _ _ h0⟩ (fun i σ H' _ h => by obtain ⟨_,_,_,_,h',_⟩:=h; exact SqL.of h') ?_ ?_⟩
  ·rintro i y σ H2 hy ⟨x3,c,rfl,s2,fq2,hc2⟩
   rw [List.getElem?_map] at hy
   cases em:t[i]? with
   | none => rw [em] at hy; cases hy
   | some m =>
    rw [em] at hy
    cases hy
    have ml:=hm m (List.mem_cons_of_mem _ (List.mem_of_getElem? em))
    obtain ⟨am,e1,h1⟩:=at' s2 m ml
    have l1:((t.take i).foldl (rstep W) (W.getD x [])).length=wd:=fold_len ok (getD_len ok hx) fun z hz => hm z (List.mem_cons_of_mem _ (List.mem_of_mem_take hz))
    have l2:=getD_len ok ml
    have w24:=ok.1
    refine ⟨_,rfl,_,rfl,_,rfl,p,ps,(m:Int),.ref am,rfl,rfl,SqL.of (s2 _ _ hp),atI_nat e1,c,am,_,_,rfl,hc2,h1,by rw [l1,l2],by omega,fun c' H3 s3 hc3 => ?_⟩
    refine ⟨_,c',rfl,s2.trans s3,s3 _ _ fq2,?_⟩
    rw [take_succ' em,List.foldl_append]
    exact hc3
  ·rintro σ H2 ⟨x3,c,rfl,s2,fq2,hc2⟩
   rw [List.length_map,List.take_length] at hc2
   exact ⟨_,rfl,k c H2 s2 hc2⟩
theorem sorts_reads {a:Addr} {xs:List V} {W:WL2} (ha:H a=some (.lst xs)) (g:Wg H xs W) (wl:W.length ≤ 900) (k:∀ (l:Addr) (ps:List V) (ws:List (List Int × Int)) (H' : Hp),H l=none→H' l=some (.lst ps)→PrL H' ps ws→SrO ws (dkF W)→Same H H'→Q (.ref l) H'):tSorts20 K { nx:=Z,rt:=Q } [some (.ref a),none,none,none] H:=by
 refine fun d fd0 => ?_
 have s1:=Same.nw (o:=.dT []) (Same.refl H) fd0
 have hd1:(upd H d (.dT [])) d=some (.dT (([]:List (List Int × Int)).map emb)):=upd_same
 generalize upd H d (.dT [])=H1 at s1 hd1 ⊢
 refine ⟨_,rfl,a,rfl,⟨_,SqL.of (s1 _ _ ha)⟩,for_list (K:=K) (a:=a) (xs:=xs) (fun i σ H' => ∃ (x2 x3:Option V),σ=[some (.ref a),some (.ref d),x2,x3]∧H' d=some (.dT ((dkF (W.take i)).map emb))∧Same H H') ⟨_,_,rfl,hd1,s1⟩ (fun i σ H' _ h => by obtain ⟨_,_,_,_,z⟩:=h; exact SqL.of (z _ _ ha)) ?_ ?_⟩
 ·rintro i x σ H2 hx ⟨x2,x3,rfl,hd2,s2⟩
  obtain ⟨e,he,q,wq,rfl,hq,hw⟩:=(g.up s2.tups).at' hx
  have hw' : H2 wq=some (.tup ((e.2.map Sum.inl).map kV)):=by rw [List.map_map]; exact hw
  have kl:(dkF (W.take i)).length ≤ 1000:=by have:=(dkF_is (W.take i)).len; rw [List.length_take] at this; omega
  refine ⟨q,_,rfl,SqT.of hq,rfl,_,_,rfl,_,_,rfl,rfl,?_⟩
  refine ⟨_,rfl,d,rfl,.inr ⟨_,.inl hd2⟩,_,rfl,_,DGet.t (k:=e.2.map Sum.inl) hd2 hw',_,rfl,getI (dkF (W.take i)) e.2,e.1,val_emb (dkF (W.take i)) e.2,rfl,_,rfl,_,rfl,d,_,rfl,DPut.t (k:=e.2.map Sum.inl) hd2 hw' (Nat.lt_of_le_of_lt (by rw [List.length_map]; exact kl:((dkF (W.take i)).map emb).length ≤ 1000) (by decide)),?_⟩
  refine ⟨_,_,rfl,?_,Same.ow s2 fd0⟩
  rw [upd_same,dkF_take he]
  exact congrArg (fun z => some (HO.dT z)) (put_emb (dkF (W.take i)) e.2 (getI (dkF (W.take i)) e.2 + e.1))
 ·rintro σ H2 ⟨x2,x3,rfl,hd2,s2⟩
  rw [List.take_of_length_le (by rw [g.1]; exact Nat.le_refl _)] at hd2
  have kl:=(dkF_is W).len
  refine ⟨_,rfl,d,_,rfl,hd2,fun v hv => ⟨v,d,dkF W,rfl,upd_same,?_,by omega,fun l ps ws H' f1 old h2 pr pm sr => ?_⟩⟩
  ·rw [upd_ne (ne_of_none hd2 hv)]
   exact hd2
  ·have s3:=Same.nw (o:=.ext (IView v d)) s2 hv
   exact k l ps ws H' (s3.free f1) h2 pr ⟨pm,sr⟩ (s3.trans fun b o q => old b o q)
theorem TuL.rep {H:Hp} {a:Addr} {u:List Int} (h:H a=some (.tup (u.map V.int))):∀ n:Nat,TuL H (List.replicate n (.ref a)) (List.replicate n u)
 | 0 => TuL.nil _
 | n + 1 => by
  rw [List.replicate_succ',List.replicate_succ']
  exact TuL.snoc (TuL.rep h n) h
theorem TuL.app {H:Hp} {xs ys:List V} {us vs:List (List Int)} (h:TuL H xs us) (k:TuL H ys vs):TuL H (xs ++ ys) (us ++ vs):=((TuL.it h).append (TuL.it k)).tu
theorem tot_take {L:WL2} (pos:∀ e ∈ L,0 ≤ e.1) (i:Nat):0 ≤ tot (L.take i)∧tot (L.take i) ≤ tot L:=by
 have nn:∀ {M:WL2},(∀ e ∈ M,0 ≤ e.1)→0 ≤ tot M:=by
  intro M
  induction M with
  | nil => intro _; exact Int.le_refl _
  | cons e M ih =>
   intro h
   rw [tot_cons]
   have:=ih fun x hx => h x (List.mem_cons_of_mem _ hx)
   have:=h e List.mem_cons_self
   omega
 have e:tot L=tot (L.take i) + tot (L.drop i):=by rw [← tot_append,List.take_append_drop]
 have a1:=nn (M:=L.take i) fun x hx => pos x (List.mem_of_mem_take hx)
 have a2:=nn (M:=L.drop i) fun x hx => pos x (List.mem_of_mem_drop hx)
 omega
theorem sw_reads {a pa pb:Addr} {n:Nat} {ps:List PR} {L:WL2} {ya yb:List V} (x:HallAt H a pa pb (n:Int) ps L ya yb) (ok:SwOk n ps L) (k:SwK H n ps L Q):tSw20 K { nx:=Z,rt:=Q } [some (.ref a),none,none,none,none] H:=by
 obtain ⟨rm,n9,⟨wd,pok⟩,pos,tt,ll⟩:=ok
 refine ⟨_,rfl,a,pa,pb,n,ps,L,ya,yb,rfl,x,rm,fun c zs hs b' H1 s1 cf hc lz lk fr => ?_⟩
 have lens:=lk_lens lk
 refine ⟨(by show 0 ≤ sizeLine; decide),fun p hp => ?_⟩
 have s2:=Same.nw (o:=.lst []) (Same.refl H1) hp
 have fp:(upd H1 p (.lst [])) p=some (.lst []):=upd_same
 generalize upd H1 p (.lst [])=H2 at s2 fp ⊢
 have x2:=(x.up s1).up s2
 have p1:H1 p=none:=hp
 refine ⟨_,rfl,a,_,_,_,rfl,rfl,SqT.of x2.h,rfl,pb,rfl,⟨_,SqL.of x2.hb⟩,for_list (K:=K) (a:=pb) (xs:=yb) (fun i σ H' => ∃ (x3 x4:Option V) (qs:List V),σ=[some (.ref a),some (.ref c),some (.ref p),x3,x4]∧Same H1 H'∧H' p=some (.lst qs)∧TuL H' qs (wpl (L.take i))) ⟨_,_,[],rfl,s2,fp,TuL.nil _⟩ (fun i σ H' _ h => by obtain ⟨_,_,_,_,s',_⟩:=h; exact SqL.of (s' _ _ ((x.up s1).hb))) ?_ ?_⟩
 ·rintro i y σ H3 hy ⟨x3,x4,qs,rfl,s3,hp3,t3⟩
  obtain ⟨e,he,q,w,rfl,hq,hw⟩:=((x.up s1).wb.up s3.tups).at' hy
  have me:=List.mem_of_getElem? he
  have ql:(qs.length:Int) ≤ n:=by
   rw [t3.1,wpl_len fun z hz => pos z (List.mem_of_mem_take hz)]
   have:=(tot_take pos i).2
   omega
  have el:e.1 ≤ (n:Int):=by
   have h1:=tot_succ he
   have h2:=(tot_take pos i).1
   have h3:=(tot_take pos (i + 1)).2
   omega
  have e0:=pos e me
  refine ⟨q,_,rfl,SqT.of hq,rfl,_,_,rfl,_,_,rfl,rfl,?_⟩
  refine ⟨_,rfl,.inl ⟨rfl,_,SqL.of hp3⟩,_,rfl,(by show 1 ≤ sizeLine; decide),fun l hl => ?_⟩
  have s4:=Same.nw (o:=.lst [.ref w]) (Same.refl H3) hl
  have fl:(upd H3 l (.lst [.ref w])) l=some (.lst [.ref w]):=upd_same
  generalize upd H3 l (.lst [.ref w])=H4 at s4 fl ⊢
  refine ⟨_,rfl,l,e.1,[.ref w],rfl,rfl,fl,by omega,by omega,Nat.le_trans (show [V.ref w].length * e.1.toNat ≤ 1000 by simp; omega) (by decide),fun m hm => ?_⟩
  rw [rep_one]
  have s5:=Same.nw (o:=.lst (List.replicate e.1.toNat (.ref w))) (Same.refl H4) hm
  have fm:(upd H4 m (.lst (List.replicate e.1.toNat (.ref w)))) m=some (.lst (List.replicate e.1.toNat (.ref w))):=upd_same
  generalize upd H4 m (.lst (List.replicate e.1.toNat (.ref w)))=H5 at s5 fm ⊢
  have s35:=s4.trans s5
  have hp5:=s35 _ _ hp3
  refine ⟨p,m,qs,_,rfl,rfl,hp5,fm,Nat.le_trans (show qs.length + (List.replicate e.1.toNat (V.ref w)).length ≤ 2000 by rw [List.length_replicate]; omega) (by decide),?_⟩
  refine ⟨_,_,qs ++ List.replicate e.1.toNat (.ref w),rfl,(s3.trans s35).ow p1,upd_same,?_⟩
  rw [take_succ' he,wpl_snoc]
  exact TuL.up (TuL.app (t3.up s35.tups) (TuL.rep (s35 _ _ hw) _)) (Tups.lst (Tups.refl H5) hp5)
 ·rintro σ H3 ⟨x3,x4,qs,rfl,s3,hp3,t3⟩
  rw [show yb.length=L.length from x.wb.1,List.take_length] at t3
  have wl:(wpl L).length=n:=by have:=wpl_len pos; omega
  have lz3:=lz.up s3
  have zl:zs.length=hs.length:=by rw [lz.1,List.length_map]
  refine ⟨_,rfl,c,rfl,⟨_,SqL.of (s3 _ _ hc)⟩,compLW (K:=K) (a:=c) (xs:=zs) (fun i ys H' => Wg H' ys (rws L (hs.take i))∧Same H3 H') ⟨Wg.nil _,Same.refl H3⟩ (by omega) (fun i ys H' h => by rw [h.1.1]; unfold rws; rw [List.length_map,List.length_take]; exact Nat.min_le_left _ _) (fun i ys H' _ h => SqL.of (h.2 _ _ (s3 _ _ hc))) ?_ ?_⟩
  ·rintro i y ys H4 pre hpre hy ⟨w4,s4⟩
   have il:i < hs.length:=by rw [← zl]; exact (List.getElem?_eq_some_iff.mp hy).1
   have eh:hs[i]? = some hs[i]:=List.getElem?_eq_getElem il
   obtain ⟨r,xs,rfl,hr,it⟩:=(lz3.up s4).2 i y (hs[i].map nc) hy (by rw [List.getElem?_map,eh]; rfl)
   have xe:=it_nv it
   subst xe
   have mh:hs[i] ∈ hs:=List.getElem_mem il
   generalize hs[i]=h at eh hr it mh
   rcases pre with _ | ⟨q0,_ | ⟨q1,pre⟩⟩
   ·cases hpre
   ·refine ⟨⟨[some _],rfl,rfl⟩,?_⟩
    unfold tYes
    dsimp only
    rw [if_pos (rfl:true=true)]
    refine ⟨_,rfl,_,rfl,r,p,h,qs,wpl L,wd,rfl,hr,s4 _ _ hp3,t3.up s4.tups,pok,lk.pt.ne h mh,fun m hm => by rw [wl]; exact lk.lt m (List.mem_flatten.mpr ⟨h,mh,hm⟩),fun w H5 s5 hw => ⟨(by show 2 ≤ sizeLine; decide),fun q hq => ?_⟩⟩
    have s6:=Same.nw (o:=.tup [.int 1,.ref w]) (Same.refl H5) hq
    refine ⟨?_,s4.trans (s5.trans s6)⟩
    have e2:rws L (hs.take (i + 1))=rws L (hs.take i) ++ [(1,rsum (wpl L) h)]:=by unfold rws; rw [take_succ' eh,List.map_append]; rfl
    rw [e2]
    exact Wg.snoc (w4.up (s5.trans s6).tups) ⟨q,w,rfl,upd_same,s6 _ _ hw⟩
   ·cases hpre
  ·rintro ys H4 ⟨w4,s4⟩ D hD
   rw [zl,List.take_length] at w4
   have s5:=Same.nw (o:=.lst ys) (Same.refl H4) hD
   have l9:(rws L hs).length ≤ 900:=by unfold rws; rw [List.length_map]; omega
   refine ⟨D,ys,rws L hs,rfl,upd_same,w4.up s5.tups,l9,fun l zs2 ws H' f1 h2 pr so s6 => ?_⟩
   have st:=s1.trans (s3.trans (s4.trans s5))
   exact k l zs2 ws hs b' H' (st.trans s6) (st.free f1) h2 pr lk so
end
end L2
namespace L2
open PySem PySem.Spec PyProof.Rows
section
variable {K:PySem.W.Frag} {H:Hp} {Q:VK} {Z:L2.St→Hp→Prop}
theorem val_at {ks:List (List Int × Int)} (nd:(ks.map (·.1)).Nodup) {i:Nat} {e:List Int × Int} (h:ks[i]? = some e):valV (ks.map emb) (e.1.map Sum.inl)=some (V.int e.2):=by
 induction ks generalizing i with
 | nil => cases h
 | cons k ks ih =>
  rw [List.map_cons] at nd
  rw [List.map_cons]
  have ek:=emb_key k e.1
  cases i with
  | zero =>
   rw [List.getElem?_cons_zero] at h
   cases h
   rw [valV_pos (of_decide_eq_true (by rw [ek]; exact decide_eq_true rfl))]
   rfl
  | succ i =>
   rw [List.getElem?_cons_succ] at h
   have q : ¬ k.1=e.1:=fun z => (List.nodup_cons.mp nd).1 (by rw [z]; exact List.mem_map.mpr ⟨e,List.mem_of_getElem? h,rfl⟩)
   rw [valV_neg (of_decide_eq_false (by rw [ek]; exact decide_eq_false q))]
   exact ih (List.nodup_cons.mp nd).2 h
theorem PrL.upT {H H' : Hp} {ys:List V} {S:List (List Int × Int)} (h:PrL H ys S) (t:Tups H H'):PrL H' ys S:=⟨h.1,fun i y e h1 h2 => by
 obtain ⟨q,w,e1,e2,e3⟩:=h.2 i y e h1 h2
 exact ⟨q,w,e1,t _ _ e2,t _ _ e3⟩⟩
theorem PrL.snocT {H:Hp} {ys:List V} {S:List (List Int × Int)} {q w:Addr} {e:List Int × Int} (h:PrL H ys S) (hq:H q=some (.tup [.ref w,.int e.2])) (hw:H w=some (.tup (e.1.map V.int))):PrL H (ys ++ [.ref q]) (S ++ [e]):=by
 refine ⟨by rw [List.length_append,List.length_append,h.1]; rfl,fun i y u h1 h2 => ?_⟩
 by_cases il:i < ys.length
 ·rw [List.getElem?_append_left il] at h1
  rw [List.getElem?_append_left (by rw [← h.1]; exact il)] at h2
  exact h.2 i y u h1 h2
 ·rw [List.getElem?_append_right (by omega)] at h1
  rw [List.getElem?_append_right (by rw [← h.1]; omega),← h.1] at h2
  cases z:i - ys.length with
  | zero =>
   rw [z] at h1 h2
   cases h1
   cases h2
   exact ⟨q,w,rfl,hq,hw⟩
  | succ j =>
   rw [z] at h1
   cases h1
theorem Bt.tupsD {d:Addr} {H H' : Hp} {kvs:List (List Key × V)} (h:Bt d H H') (hd:H d=some (.dT kvs)):Tups H H':=fun b ys e => h b _ (fun z => by rw [z,hd] at e; cases e) e
theorem Bt.trans' {d:Addr} {H H1 H2:Hp} (a:Bt d H H1) (b:Bt d H1 H2):Bt d H H2:=fun c o n e => b c o n (a c o n e)
theorem Bt.same' {d:Addr} {H H1 H2:Hp} (a:Bt d H H1) (b:Same H1 H2):Bt d H H2:=fun c o n e => b c o (a c o n e)
theorem lsB_reads {D:Ends} {a p d r:Addr} {x2 x3 x6 x7:Option V} {h:List Nat} {qs:List V} {W:List (List Int)} {wd:Nat} {ks:List (List Int × Int)} (hr:H r=some (.lst (h.map nv))) (hp:H p=some (.lst qs)) (tp:TuL H qs W) (ok:PlOk wd W) (hne:h ≠ []) (hm:∀ m ∈ h,m < W.length) (hd:H d=some (.dT (ks.map emb))) (kl:ks.length ≤ 1000)
  (k:∀ (x6 x7:Option V) (H' : Hp),Bt d H H'→H' d=some (.dT ((dkS ks (1,rsum W h)).map emb))→D.nx [some (.ref a),some (.ref p),x2,x3,some (.ref d),some (.ref r),x6,x7] H'):tLsB K D [some (.ref a),some (.ref p),x2,x3,some (.ref d),some (.ref r),x6,x7] H:=by
 cases h with
 | nil => exact absurd rfl hne
 | cons x t =>
  have at' : ∀ {H' : Hp},Same H H'→∀ m,m < W.length→∃ a:Addr,qs[m]? = some (.ref a)∧H' a=some (.tup ((W.getD m []).map V.int)):=fun {H'} s m ml => by
   have e:W[m]? = some (W.getD m []):=by rw [List.getD_eq_getElem?_getD,List.getElem?_eq_getElem ml]; rfl
   obtain ⟨a,h1,h2⟩:=(tp.up s.tups).get e
   exact ⟨a,h2,h1⟩
  have hx:=hm x List.mem_cons_self
  obtain ⟨a0,e0,h0⟩:=at' (Same.refl H) x hx
  refine ⟨_,rfl,_,rfl,r,_,0,nv x,rfl,rfl,SqL.of hr,atI_nat (j:=0) rfl,p,qs,(x:Int),.ref a0,rfl,rfl,SqL.of hp,atI_nat e0,?_⟩
  refine ⟨_,rfl,1,rfl,r,_,rfl,SqL.of hr,fun q hq => ?_⟩
  rw [List.map_cons,cut1]
  have s1:=Same.nw (o:=.lst (t.map nv)) (Same.refl H) hq
  have fq:(upd H q (.lst (t.map nv))) q=some (.lst (t.map nv)):=upd_same
  generalize upd H q (.lst (t.map nv))=H1 at s1 fq ⊢
  refine ⟨q,rfl,⟨_,SqL.of fq⟩,for_list (K:=K) (a:=q) (xs:=t.map nv) (fun i σ H' => ∃ (x7:Option V) (c:Addr),σ=[some (.ref a),some (.ref p),x2,x3,some (.ref d),some (.ref r),some (.ref c),x7]∧Same H H'∧H' q=some (.lst (t.map nv))∧H' c=some (.tup (((t.take i).foldl (rstep W) (W.getD x [])).map V.int))) ⟨_,a0,rfl,s1,fq,s1 _ _ h0⟩ (fun i σ H' _ h => by obtain ⟨_,_,_,_,h',_⟩:=h; exact SqL.of h') ?_ ?_⟩
  ·rintro i y σ H2 hy ⟨x3,c,rfl,s2,fq2,hc2⟩
   rw [List.getElem?_map] at hy
   cases em:t[i]? with
   | none => rw [em] at hy; cases hy
   | some m =>
    rw [em] at hy
    cases hy
    have ml:=hm m (List.mem_cons_of_mem _ (List.mem_of_getElem? em))
    obtain ⟨am,e1,h1⟩:=at' s2 m ml
    have l1:((t.take i).foldl (rstep W) (W.getD x [])).length=wd:=fold_len ok (getD_len ok hx) fun z hz => hm z (List.mem_cons_of_mem _ (List.mem_of_mem_take hz))
    have l2:=getD_len ok ml
    have w24:=ok.1
    refine ⟨_,rfl,_,rfl,_,rfl,p,qs,(m:Int),.ref am,rfl,rfl,SqL.of (s2 _ _ hp),atI_nat e1,c,am,_,_,rfl,hc2,h1,by rw [l1,l2],by omega,fun c' H3 s3 hc3 => ?_⟩
    refine ⟨_,c',rfl,s2.trans s3,s3 _ _ fq2,?_⟩
    rw [take_succ' em,List.foldl_append]
    exact hc3
  ·rintro σ H2 ⟨x7,c,rfl,s2,fq2,hc2⟩
   rw [List.length_map,List.take_length] at hc2
   have hd2:=s2 _ _ hd
   have hw' : H2 c=some (.tup (((rsum W (x :: t)).map Sum.inl).map kV)):=by rw [List.map_map]; exact hc2
   refine ⟨_,rfl,d,rfl,.inr ⟨_,.inl hd2⟩,_,rfl,_,DGet.t (k:=(rsum W (x :: t)).map Sum.inl) hd2 hw',getI ks (rsum W (x :: t)),1,val_emb ks (rsum W (x :: t)),rfl,_,rfl,_,rfl,d,_,rfl,DPut.t (k:=(rsum W (x :: t)).map Sum.inl) hd2 hw' (Nat.lt_of_le_of_lt (by rw [List.length_map]; exact kl:(ks.map emb).length ≤ 1000) (by decide)),?_⟩
   refine k _ _ _ (fun b o nb e => by rw [upd_ne nb]; exact s2 _ _ e) ?_
   rw [upd_same]
   exact congrArg (fun z => some (HO.dT z)) (put_emb ks (rsum W (x :: t)) (getI ks (rsum W (x :: t)) + 1))
theorem lsE_reads {a d:Addr} {x1 x2 x3 x5 x6 x7:Option V} {ks:List (List Int × Int)} (hd:H d=some (.dT (ks.map emb))) (nd:(ks.map (·.1)).Nodup) (kl:ks.length ≤ 1000) (k:∀ (l:Addr) (zs:List V) (ws:List (List Int × Int)) (H' : Hp),Bt d H H'→H l=none→H' l=some (.lst zs)→PrL H' zs ws→SrO ws ks→Q (.ref l) H'):tLsE K { nx:=Z,rt:=Q } [some (.ref a),x1,x2,x3,some (.ref d),x5,x6,x7] H:=by
 refine ⟨_,rfl,d,_,rfl,hd,fun o => ?_⟩
 have b1:Bt d H (upd H d (.frz o (.dT (ks.map emb)))):=fun b u n e => by rw [upd_ne n]; exact e
 have f1:(upd H d (.frz o (.dT (ks.map emb)))) d=some (.frz o (.dT (ks.map emb))):=upd_same
 generalize upd H d (.frz o (.dT (ks.map emb)))=H1 at b1 f1 ⊢
 refine compDT (d:=d) (o:=o) (kvs:=ks.map emb) (fun i ys H' => PrL H' ys (ks.take i)∧Same H1 H') ⟨⟨rfl,fun i y e h => by cases h⟩,Same.refl H1⟩ (by rw [List.length_map]; exact kl) (fun i ys H' h => by rw [h.1.1,List.length_take]; exact Nat.min_le_left _ _) (fun i ys H' _ h => h.2 _ _ f1) ?_ ?_
 ·rintro i k0 v b ys H2 pre hpre hkv hb ⟨p2,s2⟩
  rw [List.getElem?_map] at hkv
  cases ek:ks[i]? with
  | none => rw [ek] at hkv; cases hkv
  | some e =>
   rw [ek] at hkv
   cases hkv
   have hb' : H2 b=some (.tup (e.1.map V.int)):=by
    have:H2 b=some (.tup ((e.1.map Sum.inl).map kV)):=hb
    rw [List.map_map] at this
    exact this
   rcases pre with _ | ⟨q0,_ | ⟨q1,pre⟩⟩
   ·cases hpre
   ·refine ⟨⟨[some _],rfl,rfl⟩,?_⟩
    unfold tYes
    dsimp only
    rw [if_pos (rfl:true=true)]
    refine ⟨_,rfl,_,rfl,_,rfl,d,.int e.2,rfl,.inr ⟨ks.map emb,e.1.map Sum.inl,b,.inr ⟨o,s2 _ _ f1⟩,rfl,hb,(val_at nd ek).symm⟩,(by show 2 ≤ sizeLine; decide),fun q hq => ?_⟩
    have s3:=Same.nw (o:=.tup [.ref b,.int e.2]) (Same.refl H2) hq
    refine ⟨?_,s2.trans s3⟩
    rw [take_succ' ek]
    exact PrL.snocT (p2.upT s3.tups) upd_same (s3 _ _ hb')
   ·cases hpre
 ·rintro ys H2 ⟨p2,s2⟩ D hD
  rw [List.length_map,List.take_length] at p2
  have s3:=Same.nw (o:=.lst ys) (Same.refl H2) hD
  refine ⟨D,ys,ks,rfl,SqL.of upd_same,p2.upT s3.tups,kl,nd,fun l zs ws hl pr pm sr => ?_⟩
  have s4:=Same.nw (o:=.lst zs) (Same.refl (upd H2 D (.lst ys))) hl
  have st:=s2.trans (s3.trans s4)
  have lf:H l=none:=by
   cases z:H l with
   | none => rfl
   | some u =>
    by_cases e:l=d
    ·rw [e,s3 _ _ (s2 _ _ f1)] at hl; cases hl
    ·rw [s3 _ _ (s2 _ _ (b1 _ _ e z))] at hl; cases hl
  exact k l zs ws _ (b1.same' st) lf upd_same (pr.upT s4.tups) ⟨pm,sr⟩
theorem lsD_reads {H0:Hp} {a pa pb p:Addr} {x2 x3:Option V} {n:Nat} {ps:List PR} {L:WL2} {ya yb qs:List V} {wd:Nat} (s0:Same H0 H) (x:HallAt H a pa pb (n:Int) ps L ya yb) (rm:RmOk n ps) (n9:n ≤ 900) (pok:PlOk wd (wpl L)) (wl:(wpl L).length=n) (hp:H p=some (.lst qs)) (tp:TuL H qs (wpl L))
  (k:SwK H0 n ps L Q):tLsD K { nx:=Z,rt:=Q } [some (.ref a),some (.ref p),x2,x3,none,none,none,none] H:=by
 refine fun d fd0 => ?_
 have s1:=Same.nw (o:=.dT []) (Same.refl H) fd0
 have hd1:(upd H d (.dT [])) d=some (.dT (([]:List (List Int × Int)).map emb)):=upd_same
 generalize upd H d (.dT [])=H1 at s1 hd1 ⊢
 have x1:=x.up s1
 refine ⟨_,rfl,a,_,_,_,rfl,rfl,SqT.of x1.h,rfl,_,rfl,a,_,_,_,rfl,rfl,SqT.of x1.h,rfl,pa,n,ps,ya,rfl,x1.ha,x1.ca,rm,fun c zs hs b' H2 s2 cf hc lz lk fr => ⟨c,rfl,⟨_,SqL.of hc⟩,?_⟩⟩
 have lens:=lk_lens lk
 have zl:zs.length=hs.length:=by rw [lz.1,List.length_map]
 have hd2:=s2 _ _ hd1
 have ncd:c ≠ d:=fun z => by rw [z,hd2] at hc; cases hc
 have npd:p ≠ d:=ne_of_none hp fd0
 have s12:=s1.trans s2
 refine for_list (K:=K) (a:=c) (xs:=zs) (fun i σ H' => ∃ (x5 x6 x7:Option V),σ=[some (.ref a),some (.ref p),x2,x3,some (.ref d),x5,x6,x7]∧H' d=some (.dT ((dkF (rws L (hs.take i))).map emb))∧Bt d H2 H') ⟨_,_,_,rfl,hd2,fun _ _ _ e => e⟩ (fun i σ H' _ h => by obtain ⟨_,_,_,_,_,z⟩:=h; exact SqL.of (z _ _ ncd hc)) ?_ ?_
 ·rintro i y σ H3 hy ⟨x5,x6,x7,rfl,hd3,b3⟩
  have il:i < hs.length:=by rw [← zl]; exact (List.getElem?_eq_some_iff.mp hy).1
  have eh:hs[i]? = some hs[i]:=List.getElem?_eq_getElem il
  obtain ⟨r,xs,rfl,hr,it⟩:=lz.2 i y (hs[i].map nc) hy (by rw [List.getElem?_map,eh]; rfl)
  have xe:=it_nv it
  subst xe
  have mh:hs[i] ∈ hs:=List.getElem_mem il
  generalize hs[i]=h at eh hr it mh
  have nrd:r ≠ d:=fun z => by rw [z,hd2] at hr; cases hr
  have t3:=b3.tupsD hd2
  have kl:(dkF (rws L (hs.take i))).length ≤ 1000:=by
   have:=(dkF_is (rws L (hs.take i))).len
   unfold rws at this
   rw [List.length_map,List.length_take] at this
   unfold rws
   omega
  refine lsB_reads (K:=K) (b3 _ _ nrd hr) (b3 _ _ npd (s12 _ _ hp)) ((tp.up s12.tups).up t3) pok (lk.pt.ne h mh) (fun m hm => by rw [wl]; exact lk.lt m (List.mem_flatten.mpr ⟨h,mh,hm⟩)) hd3 kl fun x6 x7 H4 b4 hd4 => ?_
  refine ⟨_,_,_,rfl,?_,b3.trans' b4⟩
  have e2:rws L (hs.take (i + 1))=rws L (hs.take i) ++ [(1,rsum (wpl L) h)]:=by unfold rws; rw [take_succ' eh,List.map_append]; rfl
  rw [e2,dkF_snoc]
  exact hd4
 ·rintro σ H3 ⟨x5,x6,x7,rfl,hd3,b3⟩
  rw [zl,List.take_length] at hd3
  have I:=dkF_is (rws L hs)
  have kl:(dkF (rws L hs)).length ≤ 1000:=by
   have:=I.len
   unfold rws at this
   rw [List.length_map] at this
   unfold rws
   omega
  refine lsE_reads (K:=K) hd3 I.nd kl fun l zs2 ws H4 b4 lf hl pr so => ?_
  have b24:=b3.trans' b4
  have s04:Same H0 H4:=fun b o e => b24 b o (ne_of_none (s0 _ _ e) fd0) (s12 _ _ (s0 _ _ e))
  have l0:H0 l=none:=by
   cases z:H0 l with
   | none => rfl
   | some u => rw [b3 _ _ (ne_of_none (s0 _ _ z) fd0) (s12 _ _ (s0 _ _ z))] at lf; cases lf
  exact k l zs2 ws hs b' H4 s04 l0 hl pr lk so
theorem lsorts_reads {a pa pb:Addr} {n:Nat} {ps:List PR} {L:WL2} {ya yb:List V} (x:HallAt H a pa pb (n:Int) ps L ya yb) (ok:SwOk n ps L) (k:SwK H n ps L Q):tLSorts20 K { nx:=Z,rt:=Q } [some (.ref a),none,none,none,none,none,none,none] H:=by
 obtain ⟨rm,n9,⟨wd,pok⟩,pos,tt,ll⟩:=ok
 refine ⟨(by show 0 ≤ sizeLine; decide),fun p hp => ?_⟩
 have s2:=Same.nw (o:=.lst []) (Same.refl H) hp
 have fp:(upd H p (.lst [])) p=some (.lst []):=upd_same
 generalize upd H p (.lst [])=H2 at s2 fp ⊢
 have x2:=x.up s2
 refine ⟨_,rfl,a,_,_,_,rfl,rfl,SqT.of x2.h,rfl,pb,rfl,⟨_,SqL.of x2.hb⟩,for_list (K:=K) (a:=pb) (xs:=yb) (fun i σ H' => ∃ (x3 x4:Option V) (p:Addr) (qs:List V),σ=[some (.ref a),some (.ref p),x3,x4,none,none,none,none]∧Same H H'∧H' p=some (.lst qs)∧TuL H' qs (wpl (L.take i))) ⟨_,_,p,[],rfl,s2,fp,TuL.nil _⟩ (fun i σ H' _ h => by obtain ⟨_,_,_,_,_,s',_⟩:=h; exact SqL.of (s' _ _ x.hb)) ?_ ?_⟩
 ·rintro i y σ H3 hy ⟨x3,x4,p,qs,rfl,s3,hp3,t3⟩
  obtain ⟨e,he,q,w,rfl,hq,hw⟩:=(x.wb.up s3.tups).at' hy
  have me:=List.mem_of_getElem? he
  have ql:(qs.length:Int) ≤ n:=by
   rw [t3.1,wpl_len fun z hz => pos z (List.mem_of_mem_take hz)]
   have:=(tot_take pos i).2
   omega
  have el:e.1 ≤ (n:Int):=by
   have h1:=tot_succ he
   have h2:=(tot_take pos i).1
   have h3:=(tot_take pos (i + 1)).2
   omega
  have e0:=pos e me
  refine ⟨q,_,rfl,SqT.of hq,rfl,_,_,rfl,_,_,rfl,rfl,?_⟩
  refine ⟨_,rfl,_,rfl,(by show 1 ≤ sizeLine; decide),fun l hl => ?_⟩
  have s4:=Same.nw (o:=.lst [.ref w]) (Same.refl H3) hl
  have fl:(upd H3 l (.lst [.ref w])) l=some (.lst [.ref w]):=upd_same
  generalize upd H3 l (.lst [.ref w])=H4 at s4 fl ⊢
  refine ⟨_,rfl,l,e.1,[.ref w],rfl,rfl,fl,by omega,by omega,Nat.le_trans (show [V.ref w].length * e.1.toNat ≤ 1000 by simp; omega) (by decide),fun m hm => ?_⟩
  rw [rep_one]
  have s5:=Same.nw (o:=.lst (List.replicate e.1.toNat (.ref w))) (Same.refl H4) hm
  have fm:(upd H4 m (.lst (List.replicate e.1.toNat (.ref w)))) m=some (.lst (List.replicate e.1.toNat (.ref w))):=upd_same
  generalize upd H4 m (.lst (List.replicate e.1.toNat (.ref w)))=H5 at s5 fm ⊢
  have s35:=s4.trans s5
  have hp5:=s35 _ _ hp3
  refine ⟨p,m,qs,_,rfl,rfl,hp5,fm,Nat.le_trans (show qs.length + (List.replicate e.1.toNat (V.ref w)).length ≤ 2000 by rw [List.length_replicate]; omega) (by decide),fun g hg => ?_⟩
  have s6:=Same.nw (o:=.lst (qs ++ List.replicate e.1.toNat (.ref w))) (Same.refl H5) hg
  refine ⟨_,_,g,qs ++ List.replicate e.1.toNat (.ref w),rfl,(s3.trans s35).trans s6,upd_same,?_⟩
  rw [take_succ' he,wpl_snoc]
  exact TuL.up (TuL.app (t3.up s35.tups) (TuL.rep (s35 _ _ hw) _)) s6.tups
 ·rintro σ H3 ⟨x3,x4,p,qs,rfl,s3,hp3,t3⟩
  rw [show yb.length=L.length from x.wb.1,List.take_length] at t3
  have wl:(wpl L).length=n:=by have:=wpl_len pos; omega
  exact lsD_reads (K:=K) s3 (x.up s3) rm n9 pok wl hp3 t3 k
end
end L2
namespace L2
open PySem PySem.Spec PyProof.Rows
section
variable {K:PySem.W.Frag} {H:Hp} {Q:VK} {Z:L2.St→Hp→Prop}
theorem kinds20_reads {c:Addr} {zs:List V} {ws:List (List Int × Int)} (hc:H c=some (.lst zs)) (pr:PrL H zs ws) (wl:∀ e ∈ ws,e.1.length ≤ 900) (k:∀ H',Same H H'→Q (.bl true) H'):tKinds20 K { nx:=Z,rt:=Q } [some (.ref c),none] H:=by
 refine ⟨_,rfl,.ref c,_,_,rfl,TyOf.lst hc,kit_ll,true,rfl,iteF ?_⟩
 refine ⟨_,rfl,c,rfl,⟨_,SqL.of hc⟩,for_list (K:=K) (a:=c) (xs:=zs) (fun i σ H' => ∃ x1:Option V,σ=[some (.ref c),x1]∧Same H H') ⟨_,rfl,Same.refl H⟩ (fun i σ H' _ h => by obtain ⟨_,_,s'⟩:=h; exact SqL.of (s' _ _ hc)) ?_ ?_⟩
 ·rintro i y σ H2 hy ⟨x1,rfl,s2⟩
  have il:i < ws.length:=by rw [← pr.1]; exact (List.getElem?_eq_some_iff.mp hy).1
  obtain ⟨q,w,rfl,hq,hw⟩:=(pr.upT s2.tups).2 i y ws[i] hy (List.getElem?_eq_getElem il)
  have el:=wl _ (List.getElem_mem il)
  generalize ws[i]=e at hq hw el
  refine ⟨_,rfl,.ref q,_,_,rfl,TyOf.tup hq,kit_tt,true,rfl,iteF ?_⟩
  refine ⟨_,rfl,q,_,rfl,.inr (SqT.of hq),rfl,_,rfl,iteB rfl ?_⟩
  refine ⟨_,rfl,q,_,_,.ref w,rfl,rfl,SqT.of hq,rfl,.ref w,_,_,rfl,TyOf.tup hw,kit_tt,true,rfl,iteF ?_⟩
  refine ⟨_,rfl,q,_,_,.int e.2,rfl,rfl,SqT.of hq,rfl,e.2,rfl,true,rfl,iteF ?_⟩
  refine ⟨_,rfl,q,_,_,.ref w,rfl,rfl,SqT.of hq,rfl,w,rfl,⟨_,SqT.of hw⟩,compTW (K:=K) (a:=w) (xs:=e.1.map V.int) (fun i ys H' => ys=(List.replicate i true).map V.bl∧H2=H') ⟨rfl,rfl⟩ (by rw [List.length_map]; omega) (fun i ys H' h => by rw [h.1,List.length_map,List.length_replicate]; exact Nat.le_refl _) (fun i ys H' _ h => by rw [← h.2]; exact SqT.of hw) ?_ ?_⟩
  ·rintro j z ys H3 pre hpre hz ⟨rfl,rfl⟩
   rcases pre with _ | ⟨q0,_ | ⟨q1,pre⟩⟩
   ·cases hpre
   ·refine ⟨⟨[some _],rfl,rfl⟩,?_⟩
    unfold tYes
    dsimp only
    rw [if_pos (rfl:true=true)]
    rw [List.getElem?_map] at hz
    cases em:e.1[j]? with
    | none => rw [em] at hz; cases hz
    | some m =>
     rw [em] at hz
     cases hz
     exact ⟨_,rfl,m,rfl,by rw [List.replicate_succ',List.map_append]; rfl,rfl⟩
   ·cases hpre
  ·rintro ys H3 ⟨rfl,rfl⟩ D hD
   refine ⟨D,List.replicate (e.1.map V.int).length true,rfl,SqL.of upd_same,_,rfl,iteB (by simp) ?_⟩
   exact ⟨_,rfl,s2.nw hD⟩
 ·rintro σ H2 ⟨x1,rfl,s2⟩
  exact k H2 s2
theorem PrL.diT {H:Hp} {p:Addr} {ys:List V} {S:List (List Int × Int)} (h:PrL H ys S) (hp:SqL K H p ys):DI K H (.ref p) (dSrt S):=SrL.di (show SrL H ys S from h) hp
theorem dkS_mem {ks:List (List Int × Int)} {e:Int × List Int} {p:List Int→Prop} (h:∀ k ∈ ks,p k.1) (he:p e.2):∀ k ∈ dkS ks e,p k.1:=fun k hk => by
 unfold dkS putI at hk
 split at hk
 ·obtain ⟨k',hk',rfl⟩:=List.mem_map.mp hk
  split
  ·exact h k' hk'
  ·exact h k' hk'
 ·rcases List.mem_append.mp hk with z | z
  ·exact h k z
  ·rw [List.mem_singleton.mp z]; exact he
theorem dkF_all {p:List Int→Prop} : ∀ {W:WL2},(∀ e ∈ W,p e.2)→∀ k ∈ dkF W,p k.1:=by
 have key:∀ (W:WL2) (ks:List (List Int × Int)),(∀ e ∈ W,p e.2)→(∀ k ∈ ks,p k.1)→∀ k ∈ W.foldl dkS ks,p k.1:=by
  intro W
  induction W with
  | nil => intro ks _ h; exact h
  | cons e W ih =>
   intro ks hw hk
   rw [List.foldl_cons]
   exact ih _ (fun x hx => hw x (List.mem_cons_of_mem _ hx)) (dkS_mem hk (hw e List.mem_cons_self))
 intro W hw
 exact key W [] hw fun k hk => by cases hk
theorem lay_dSrt (S:List (List Int × Int)):(dSrt S).canLay0=true:=lay_srts S
theorem dep_dSrt (S:List (List Int × Int)):(dSrt S).depth ≤ 60:=by
 have key:∀ S:List (List Int × Int),PyData.depthAll (S.map fun e => .tuple [dT e.1,.int e.2]) ≤ 2:=by
  intro S
  induction S with
  | nil => exact Nat.zero_le _
  | cons e S ih =>
   show max (max (dT e.1).depth (max 0 0) + 1) (PyData.depthAll (S.map fun e => .tuple [dT e.1,.int e.2])) ≤ 2
   rw [dep_dT]
   omega
 show PyData.depthAll (S.map fun e => .tuple [dT e.1,.int e.2]) + 1 ≤ 60
 have:=key S
 omega
theorem eqv_dSrt (S:List (List Int × Int)):PyData.eqv (dSrt S) (dSrt S)=true:=SeqAt.eqv_refl _ (lay_dSrt S)
theorem swOk_of {n:Nat} {ps:List PR} {L:WL2} (w:HlW n ps L):SwOk n ps L:=by
 obtain ⟨wd,w1,w2,f⟩:=w.fit
 have n2:=w.n2
 exact ⟨⟨by omega,w.ok,w.len,Nat.le_trans (Nat.mul_le_mul w.len w.n2) (by decide)⟩,by omega,⟨wd.toNat,by omega,fun u hu => by
  obtain ⟨e,he,rfl⟩:=wpl_mem hu
  exact f.nrm.wid e he⟩,fun e he => by have:=f.nrm.pos e he; omega,f.sum,by have:=f.len; omega⟩
theorem law20_reads {a:Addr} {ns:List Int} (hS:SqL K H a (ns.map V.int)) (k:∀ H',Q (.bl true) H'):tLaw20 K { nx:=Z,rt:=Q } [some (.ref a),none,none,none,none,none,none] H:=by
 refine ⟨_,rfl,a,_,rfl,.inl hS,3,_,rfl,1,_,rfl,rfl,_,rfl,?_,?_,?_⟩
 ·split <;> omega
 ·split <;> omega
 have hn:(1 + (if (((ns.map V.int).length:Nat):Int) < 3 then (((ns.map V.int).length:Nat):Int) else 3)).toNat ≤ 4:=by split <;> omega
 generalize (1 + (if (((ns.map V.int).length:Nat):Int) < 3 then (((ns.map V.int).length:Nat):Int) else 3)).toNat=N at hn ⊢
 refine for_range (fun i σ H' => ∃ x1 x2 x3 x4 x5 x6:Option V,σ=[some (.ref a),x1,x2,x3,x4,x5,x6]∧Same H H') ⟨_,_,_,_,_,_,rfl,Same.refl _⟩ ?_ ?_
 ·rintro i σ H1 hi ⟨x1,x2,x3,x4,x5,x6,rfl,s1⟩
  dsimp only [gName]
  refine ⟨_,rfl,_,rfl,a,ns,_,rfl,Same.seq s1 hS,by omega,by omega,fun d H2 fd P2 s2 => ⟨d,rfl,P2,fun h pa pb n ps L ya yb H3 _ _ _ P3 B3 x w => ?_⟩⟩
  have s13:Same H1 H3:=Same.butW s2 fd B3
  have ok:=swOk_of w
  obtain ⟨wd,pok⟩:=ok.wd
  refine ⟨_,rfl,h,pa,pb,(n:Int),ps,L,ya,yb,rfl,x,fun h' pa' pb' H4 s4 x' => ?_⟩
  refine ⟨_,rfl,h,pa,pb,n,ps,L,ya,yb,rfl,x.up s4,ok,fun c zs ws hs b5 H5 s5 cf hc pr lk so => ?_⟩
  have x5':=(x.up s4).up s5
  have y5':=x'.up s5
  refine ⟨2,rfl,by decide,by decide,for_range (n:=2) (fun j σ H' => ∃ x5 x6:Option V,σ=[some (.ref a),some (.int (0 + (i:Int))),some (.ref h),some (.ref h'),some (.ref c),x5,x6]∧Same H5 H') ⟨_,_,rfl,Same.refl _⟩ ?_ ?_⟩
  ·rintro j σ H6 hj ⟨u5,u6,rfl,s6⟩
   dsimp only [gName]
   refine ⟨_,rfl,h',pa',pb',n,ps,L,ya,yb,rfl,y5'.up s6,ok,fun c' zs' ws' hs' b7 H7 s7 cf' hc' pr' lk' so' => ?_⟩
   have eh:=lk_uni lk' lk
   subst eh
   have ew:=so'.uni so (dkF_is (rws L hs')).nd
   subst ew
   have wpn:(wpl L).length=n:=by have:=wpl_len ok.pos; have:=ok.tot; omega
   have wl:∀ e ∈ ws',e.1.length ≤ 900:=fun e he => by
    refine dkF_all (p:=fun u => u.length ≤ 900) (W:=rws L hs') (fun z hz => ?_) e (so.1.mem_iff.mp he)
    obtain ⟨g,hg,rfl⟩:=List.mem_map.mp hz
    show (rsum (wpl L) g).length ≤ 900
    have gm:∀ m ∈ g,m < (wpl L).length:=fun m hm => by rw [wpn]; exact lk.lt m (List.mem_flatten.mpr ⟨g,hg,hm⟩)
    cases g with
    | nil => exact absurd rfl (lk.pt.ne _ hg)
    | cons y t =>
     have:(rsum (wpl L) (y :: t)).length=wd:=fold_len pok (getD_len pok (gm y List.mem_cons_self)) fun m hm => gm m (List.mem_cons_of_mem _ hm)
     rw [this]
     have:=pok.1
     omega
   refine ⟨_,rfl,c',zs',ws',rfl,hc',pr',wl,fun H8 s8 => ⟨true,rfl,iteF ?_⟩⟩
   have s57:=s6.trans s7
   have s58:=s57.trans s8
   refine ⟨_,rfl,_,rfl,_,_,(pr'.upT s8.tups).diT (SqL.of (s8 _ _ hc')),(pr.upT s58.tups).diT (SqL.of (s58 _ _ hc)),lay_dSrt _,lay_dSrt _,dep_dSrt _,_,rfl,iteB (by rw [eqv_dSrt]; rfl) ?_⟩
   refine ⟨_,rfl,_,rfl,_,_,(y5'.up s58).di,(x5'.up s58).di,lay_dHall _ _ _,lay_dHall _ _ _,dep_dHall _ _ _,_,rfl,iteB (by rw [SeqAt.eqv_refl _ (lay_dHall _ _ _)]; rfl) ?_⟩
   have hc8:=s8 _ _ hc'
   have zl:zs'.length ≤ 1000:=by
    rw [pr'.1,so.1.length_eq]
    have h1:=(dkF_is (rws L hs')).len
    have h2:=(lk_lens lk).1
    have n2:=w.n2
    have h3:(rws L hs').length=hs'.length:=by unfold rws; rw [List.length_map]
    omega
   refine ⟨_,rfl,.inl ⟨rfl,_,SqL.of hc8⟩,c',zs',_,rfl,rfl,hc8,Nat.lt_of_le_of_lt zl (by decide),?_⟩
   exact ⟨_,_,rfl,s6.trans ((s7.trans s8).ow cf')⟩
  ·rintro σ H6 ⟨u5,u6,rfl,s6⟩
   exact ⟨_,_,_,_,_,_,rfl,((s1.trans s13).trans s4).trans (s5.trans s6)⟩
 ·rintro σ H1 ⟨x1,x2,x3,x4,x5,x6,rfl,s1⟩
  exact k H1
end
end L2
namespace Toy
open PySem L2 PyProof.Rows
section
variable {P:Program} {w:World} {K:PySem.W.Frag} {mg:Str→Option Value} {base:Heap}
abbrev s__law_whole:Stmt:=top 34
theorem sc__law_whole:FnScope ["_law_thing"] ["_law_thing"] (defScope s__law_whole):=⟨rfl,rfl,rfl,by decide +kernel,rfl,by decide +kernel,by decide +kernel⟩
def spWholeL:Sp:=fun vs H Q _ => ∃ i:Int,vs=[.int i]∧Q (.bl true) H
theorem ok_wholeL {f:Addr} {fd:FuncData} (F:Fun K "_law_whole" "_law_whole" s__law_whole f fd) (M:Txt mg):FnOk P w K mg base CX0 1 f fd ["_law_thing"] spWholeL:=by
 have sc:=sc__law_whole
 refine F.ok sc (fun vs H Q E h => ?_) (fun cdv A outer s H vs Q E hr h => ?_)
 ·obtain ⟨i,rfl,_⟩:=h
  rfl
 ·obtain ⟨i,rfl,k⟩:=h
  refine ⟨_,(pss_one (ps_ret (pe_and (pe_callB (call_isinstK (T := "int") (K:=K)) (by rfl) M.isinstance boot_isinstance (pa_Name (pv 0) (pa_Name (pe_bltn (v:=.ty "int") rfl M.int boot_int rfl) pa_nil))) (pe_one (pe_not (pe_callB (call_isinstK (T := "bool") (K:=K)) (by rfl) M.isinstance boot_isinstance (pa_Name (pv 0) (pa_Name (pe_bltn (v:=.ty "bool") rfl M.bool boot_bool rfl) pa_nil)))))))),?_⟩
  refine ⟨_,rfl,V.int i,_,_,rfl,TyOf.int _,kit_ii,_,rfl,iteT ?_⟩
  exact ⟨_,rfl,V.int i,_,_,rfl,TyOf.int _,kit_ib,_,rfl,k⟩
end
end Toy
namespace Toy
open PySem L2 PyProof.Rows
section
variable {P:Program} {w:World} {K:PySem.W.Frag} {mg:Str→Option Value} {base:Heap}
abbrev s_beside_each:Stmt:=top 11
theorem sc_beside_each:FnScope ["n", "links", "beside", "one", "other"] ["n", "links"] (defScope s_beside_each):=⟨rfl,rfl,rfl,by decide +kernel,rfl,by decide +kernel,by decide +kernel⟩
set_option maxHeartbeats 4000000 in
theorem ok_beside {f:Addr} {fd:FuncData} (F:Fun K "beside_each" "beside_each" s_beside_each f fd) (M:Txt mg):FnOk P w K mg base CX0 1 f fd ["n", "links"] spBesideW:=by
 have sc:=sc_beside_each
 refine F.ok sc (fun vs H Q E h => ?_) (fun cdv A outer s H vs Q E hr h => ?_)
 ·obtain ⟨b,n,ps,L,rfl,_⟩:=h
  rfl
 ·obtain ⟨b,n,ps,L,rfl,hb,tL,h1,h2,h3,k⟩:=h
  refine ⟨_,(pss_cons (ps_compG (xs:=["place"]) (Nb:=["n", "links", "beside", "one", "other"]) (pg_name (i:=2) sc.nd rfl (Or.inl rfl)) rfl rfl (pi_range1 rfl M.range (pa_Name (pv 0) pa_nil)) rfl (by show ∀ p ∈ (List.zip ["n", "links", "beside", "one", "other"] ["n", "links", "beside", "one", "other"]:List (Str × Str)),_; decide +kernel) (by decide +kernel) (fun cl C s₂ H₂ fp => (pg_name (i:=0) (by show List.Nodup (["place", "n", "links", "beside", "one", "other"]:List Str); decide +kernel) rfl (Or.inl (lookup_relabel_local rfl)) (Or.inr (lookup_relabel_local rfl)))) (fun cl C s₂ H₂ fp => pif_nil) (fun cl C s₂ H₂ fp => (pe_lst pa_nil)) (by decide +kernel) rfl (by decide +kernel) (by show ∀ y ∈ (_:List (Str × NameKind)),y.2=NameKind.free→(defScope s_beside_each).names.lookup y.1=some .cell; decide +kernel))
   (pss_cons (ps_for PassesOwn.never rfl (pi_list (pv 1)) (pg_tup rfl (pgs_cons (pg_name (i:=3) sc.nd rfl (Or.inl rfl)) (pgs_cons (pg_name (i:=4) sc.nd rfl (Or.inl rfl)) pgs_nil)))
   (pss_cons (ps_expr (pe_bm PySem.F.plainAttrs_list PySem.F.slot_list_append PySem.F.type_list_append mt_append (pe_ix (ix_listK (K:=K)) (pv 2) (pv 3) (fun _ _ => rfl)) (pa_Name (pv 4) pa_nil)))
   (pss_one (ps_expr (pe_bm PySem.F.plainAttrs_list PySem.F.slot_list_append PySem.F.type_list_append mt_append (pe_ix (ix_listK (K:=K)) (pv 2) (pv 4) (fun _ _ => rfl)) (pa_Name (pv 3) pa_nil))))))
   (pss_one (ps_ret (pv 2))))),?_⟩
  exact besideW_reads (K:=K) hb tL h1 h2 h3 k
abbrev s_room_from:Stmt:=top 12
theorem sc_room_from:FnScope ["start", "beside", "is_seen", "room", "ahead", "place", "goal"] ["start", "beside", "is_seen"] (defScope s_room_from):=⟨rfl,rfl,rfl,by decide +kernel,rfl,by decide +kernel,by decide +kernel⟩
set_option maxHeartbeats 4000000 in
theorem ok_room {f:Addr} {fd:FuncData} (F:Fun K "room_from" "room_from" s_room_from f fd) (M:Txt mg):FnOk P w K mg base CX0 1 f fd ["start", "beside", "is_seen"] spRoomW:=by
 have sc:=sc_room_from
 refine F.ok sc (fun vs H Q E h => ?_) (fun cdv A outer s H vs Q E hr h => ?_)
 ·obtain ⟨bd,sn,n,i,zs,gs,D,b0,rfl,_⟩:=h
  rfl
 ·obtain ⟨bd,sn,n,i,zs,gs,D,b0,rfl,h1,h2,h3,h4,h5,h6,h7,h8,h9,h10,h11,k⟩:=h
  refine ⟨_,(pss_cons (ps_asg pe_bl (pg_sub (pv 2) (pv 0) set_list))
   (pss_cons (ps_set (i:=3) sc.nd rfl (Or.inl rfl) (pe_lst (pa_Name (pv 0) pa_nil)))
   (pss_cons (ps_set (i:=4) sc.nd rfl (Or.inl rfl) (pe_lst (pa_Name (pv 0) pa_nil)))
   (pss_cons (ps_while PassesOwn.never (pt_truth (pv 4) (fun _ => rfl)) (pss_cons (ps_set (i:=5) sc.nd rfl (Or.inl rfl) (pe_bm0 PySem.F.plainAttrs_list PySem.F.slot_list_pop PySem.F.type_list_pop mt_pop (pv 4)))
   (pss_one (ps_for PassesOwn.never rfl (pi_list (pe_ix (ix_listK (K:=K)) (pv 1) (pv 5) (fun _ _ => rfl))) (pg_name (i:=6) sc.nd rfl (Or.inl rfl))
   (pss_one (ps_if (pt_not (pt_val (pe_ix (ix_listK (K:=K)) (pv 2) (pv 6) (fun _ _ => rfl)))) (pss_cons (ps_asg pe_bl (pg_sub (pv 2) (pv 6) set_list))
   (pss_cons (ps_expr (pe_bm PySem.F.plainAttrs_list PySem.F.slot_list_append PySem.F.type_list_append mt_append (pv 3) (pa_Name (pv 6) pa_nil)))
   (pss_one (ps_expr (pe_bm PySem.F.plainAttrs_list PySem.F.slot_list_append PySem.F.type_list_append mt_append (pv 4) (pa_Name (pv 6) pa_nil)))))) pss_nil))))))
   (pss_one (ps_ret (pe_callB call_sortedW (by rfl) M.sorted boot_sorted (pa_Name (pv 3) pa_nil)))))))),?_⟩
  exact roomW_reads (K:=K) h1 h2 h3 h4 h5 h6 h7 h8 h9 h10 h11 k
abbrev s_linked:Stmt:=top 13
theorem sc_linked:FnScope ["n", "links", "beside", "is_seen", "found", "place"] ["n", "links"] (defScope s_linked):=⟨rfl,rfl,rfl,by decide +kernel,rfl,by decide +kernel,by decide +kernel⟩
set_option maxHeartbeats 4000000 in
theorem ok_linked {f:Addr} {fd:FuncData} (F:Fun K "linked" "linked" s_linked f fd) (M:Txt mg) (Gbeside_each:Kn P w K mg base "beside_each" 1 ["n", "links"] spBesideW) (Groom_from:Kn P w K mg base "room_from" 1 ["start", "beside", "is_seen"] spRoomW):FnOk P w K mg base CX0 2 f fd ["n", "links"] spLinkedW:=by
 have sc:=sc_linked
 refine F.ok sc (fun vs H Q E h => ?_) (fun cdv A outer s H vs Q E hr h => ?_)
 ·obtain ⟨b,n,ps,L,rfl,_⟩:=h
  rfl
 ·obtain ⟨b,n,ps,L,rfl,hb,tL,h1,h2,h3,k⟩:=h
  refine ⟨_,(pss_cons (ps_set (i:=2) sc.nd rfl (Or.inl rfl) (pe_callD Gbeside_each hr rfl (pa_Name (pv 0) (pa_Name (pv 1) pa_nil))))
   (pss_cons (ps_set (i:=3) sc.nd rfl (Or.inl rfl) (pe_op op_rep (pe_lst (pa_Constant pe_bl pa_nil)) (pv 0)))
   (pss_cons (ps_set (i:=4) sc.nd rfl (Or.inl rfl) (pe_lst pa_nil))
   (pss_cons (ps_for PassesOwn.never rfl (pi_range1 rfl M.range (pa_Name (pv 0) pa_nil)) (pg_name (i:=5) sc.nd rfl (Or.inl rfl))
   (pss_one (ps_if (pt_not (pt_val (pe_ix (ix_listK (K:=K)) (pv 3) (pv 5) (fun _ _ => rfl)))) (pss_one (ps_expr (pe_bm PySem.F.plainAttrs_list PySem.F.slot_list_append PySem.F.type_list_append mt_append (pv 4) (pa_Call (pe_callD Groom_from hr rfl (pa_Name (pv 5) (pa_Name (pv 2) (pa_Name (pv 3) pa_nil)))) pa_nil)))) pss_nil)))
   (pss_one (ps_ret (pv 4))))))),?_⟩
  exact linkedW_reads (K:=K) hb tL h1 h2 h3 k
abbrev s_links_of:Stmt:=top 14
theorem sc_links_of:FnScope ["pairing"] ["pairing"] (defScope s_links_of):=⟨rfl,rfl,rfl,by decide +kernel,rfl,by decide +kernel,by decide +kernel⟩
set_option maxHeartbeats 4000000 in
theorem ok_links {f:Addr} {fd:FuncData} (F:Fun K "links_of" "links_of" s_links_of f fd) (M:Txt mg) (Gforth:Kn P w K mg base "forth" 2 ["pairing", "place"] spForth):FnOk P w K mg base CX0 3 f fd ["pairing"] spLinksW:=by
 have sc:=sc_links_of
 refine F.ok sc (fun vs H Q E h => ?_) (fun cdv A outer s H vs Q E hr h => ?_)
 ·obtain ⟨q,p,n,rfl,_⟩:=h
  rfl
 ·obtain ⟨q,p,n,rfl,h1,h2,h3,k⟩:=h
  refine ⟨_,(pss_one (ps_ret (pe_compG (xs:=["place"]) (Nb:=["pairing"]) rfl (pi_range2 rfl M.range (pa_Subscript (pe_ix (ix_tupK (K:=K)) (pv 0) pe_int (fun _ _ => rfl)) (pa_BinOp (pe_op op_add (pe_ix (ix_tupK (K:=K)) (pv 0) pe_int (fun _ _ => rfl)) (pe_ix (ix_tupK (K:=K)) (pv 0) pe_int (fun _ _ => rfl))) pa_nil))) rfl (by show ∀ p ∈ (List.zip ["pairing"] ["pairing"]:List (Str × Str)),_; decide +kernel) (by decide +kernel) (fun cl C s₂ H₂ fp => (pg_name (i:=0) (by show List.Nodup (["place", "pairing"]:List Str); decide +kernel) rfl (Or.inl (lookup_relabel_local rfl)) (Or.inr (lookup_relabel_local rfl)))) (fun cl C s₂ H₂ fp => pif_nil) (fun cl C s₂ H₂ fp => (pe_tup (pa_o2 (pv 0) (pe_callD Gforth hr rfl (pa_Name (pv 1) (pa_Name (pv 0) pa_nil))) pa_nil))) (by decide +kernel) rfl (by decide +kernel) (by show ∀ y ∈ (_:List (Str × NameKind)),y.2=NameKind.free→(defScope s_links_of).names.lookup y.1=some .cell; decide +kernel)))),?_⟩
  exact links_reads (K:=K) h1 h2 h3 k
abbrev s_rooms:Stmt:=top 15
theorem sc_rooms:FnScope ["hall", "n", "pairings", "weighing"] ["hall"] (defScope s_rooms):=⟨rfl,rfl,rfl,by decide +kernel,rfl,by decide +kernel,by decide +kernel⟩
set_option maxHeartbeats 4000000 in
theorem ok_rooms {f:Addr} {fd:FuncData} (F:Fun K "rooms" "rooms" s_rooms f fd) (M:Txt mg) (Glinked:Kn P w K mg base "linked" 2 ["n", "links"] spLinkedW) (Glinks_of:Kn P w K mg base "links_of" 3 ["pairing"] spLinksW) (B:Gb mg):FnOk P w K mg base CX0 4 f fd ["hall"] spRoomsW:=by
 have sc:=sc_rooms
 refine F.ok sc (fun vs H Q E h => ?_) (fun cdv A outer s H vs Q E hr h => ?_)
 ·obtain ⟨a,pa,pb,n,ps,L,ya,yb,rfl,_⟩:=h
  rfl
 ·obtain ⟨a,pa,pb,n,ps,L,ya,yb,rfl,x,hk,k⟩:=h
  obtain ⟨tmp,hmp⟩:=B.mp
  refine ⟨_,(pss_cons (ps_asg (pv 0) (pg_tup rfl (pgs_cons (pg_name (i:=1) sc.nd rfl (Or.inl rfl)) (pgs_cons (pg_name (i:=2) sc.nd rfl (Or.inl rfl)) (pgs_cons (pg_name (i:=3) sc.nd rfl (Or.inl rfl)) pgs_nil)))))
   (pss_cons (ps_if (pt_cmpR op_gt (pv 1) (pe_glob (v:=.int 2000) rfl hmp ⟨_,rfl⟩) (nomark _)) pss_dead pss_nil)
   (pss_one (ps_ret (pe_callD Glinked hr rfl (pa_Name (pv 1) (pa_cons (pe_comp2 (xs:=["pairing", "link"]) (Nb:=["hall", "n", "pairings", "weighing"]) rfl (pi_list (pv 2)) rfl (by show ∀ p ∈ (List.zip ["hall", "n", "pairings", "weighing"] ["hall", "n", "pairings", "weighing"]:List (Str × Str)),_; decide +kernel) (by decide +kernel) (fun cl C s₂ H₂ fp => (pg_name (i:=0) (by show List.Nodup (["pairing", "link", "hall", "n", "pairings", "weighing"]:List Str); decide +kernel) rfl (Or.inl (lookup_relabel_local rfl)) (Or.inr (lookup_relabel_local rfl)))) (fun cl C s₂ H₂ fp => pif_nil) (fun cl C s₂ H₂ fp => (pi_listK (K:=K) (pe_callD Glinks_of hr rfl (pa_Name (pv 0) pa_nil)))) (fun cl C s₂ H₂ fp => (pg_name (i:=1) (by show List.Nodup (["pairing", "link", "hall", "n", "pairings", "weighing"]:List Str); decide +kernel) rfl (Or.inl (lookup_relabel_local rfl)) (Or.inr (lookup_relabel_local rfl)))) (fun cl C s₂ H₂ fp => pif_nil) (fun cl C s₂ H₂ fp => (pv 1)) (by decide +kernel) rfl (by decide +kernel) (by show ∀ y ∈ (_:List (Str × NameKind)),y.2=NameKind.free→(defScope s_rooms).names.lookup y.1=some .cell; decide +kernel)) pa_nil))))))),?_⟩
  exact rooms_reads (K:=K) x hk k
abbrev s__law_hall_pairings:Stmt:=top 27
theorem sc__law_hall_pairings:FnScope ["_law_draw", "_law_n", "_law_most", "_law_way", "_law_found", "_law_k", "_law_room", "_law_long", "_law_one", "_law_other"] ["_law_draw", "_law_n"] (defScope s__law_hall_pairings):=⟨rfl,rfl,rfl,by decide +kernel,rfl,by decide +kernel,by decide +kernel⟩
set_option maxHeartbeats 8000000 in
theorem ok_hps {f:Addr} {fd:FuncData} (F:Fun K "_law_hall_pairings" "_law_hall_pairings" s__law_hall_pairings f fd) (M:Txt mg) (G_law_take:Kn P w K mg base "_law_take" 1 ["_law_draw", "_law_many"] spTake):FnOk P w K mg base CX0 2 f fd ["_law_draw", "_law_n"] spHpsW:=by
 have sc:=sc__law_hall_pairings
 refine F.ok sc (fun vs H Q E h => ?_) (fun cdv A outer s H vs Q E hr h => ?_)
 ·obtain ⟨d,n,rfl,_⟩:=h
  rfl
 ·obtain ⟨d,n,rfl,hP,n2,k⟩:=h
  refine ⟨_,(pss_cons (ps_set (i:=2) sc.nd rfl (Or.inl rfl) (pe_callD G_law_take hr rfl (pa_Name (pv 0) (pa_Constant pe_int pa_nil))))
   (pss_cons (ps_set (i:=3) sc.nd rfl (Or.inl rfl) (pe_callD G_law_take hr rfl (pa_Name (pv 0) (pa_Constant pe_int pa_nil))))
   (pss_cons (ps_if (pt_cmpR op_lt (pv 3) pe_int (nomark _)) (pss_one (ps_set (i:=2) sc.nd rfl (Or.inl rfl) (pe_callD G_law_take hr rfl (pa_Name (pv 0) (pa_Constant pe_int pa_nil))))) pss_nil)
   (pss_cons (ps_if (pt_cmpR op_eq (pv 3) pe_int (nomark _)) (pss_one (ps_set (i:=2) sc.nd rfl (Or.inl rfl) pe_int)) pss_nil)
   (pss_cons (ps_set (i:=4) sc.nd rfl (Or.inl rfl) (pe_lst pa_nil))
   (pss_cons (ps_for PassesOwn.never rfl (pi_range1 rfl M.range (pa_BinOp (pe_op op_mul (pv 2) (pe_callTy call_int1 (by rfl) M.int boot_int (pa_cons (pe_cmpR op_gt (pv 1) pe_int (nomark _)) pa_nil))) pa_nil)) (pg_name (i:=5) sc.nd rfl (Or.inl rfl))
   (pss_cons (ps_set (i:=6) sc.nd rfl (Or.inl rfl) (pe_ix (ix_listK (K:=K)) (pe_lst (pa_o4 pe_int pe_int (pv 1) (pe_op op_add pe_int (pe_op op_fdivL (pv 1) pe_int)) pa_nil)) (pe_callD G_law_take hr rfl (pa_Name (pv 0) (pa_Constant pe_int pa_nil))) (fun _ _ => rfl)) sw_sub)
   (pss_cons (ps_if (pt_cmpR op_gt (pv 2) pe_int (nomark _)) (pss_one (ps_set (i:=6) sc.nd rfl (Or.inl rfl) pe_int)) pss_nil)
   (pss_cons (ps_set (i:=7) sc.nd rfl (Or.inl rfl) (pe_op op_add pe_int (pe_callD G_law_take hr rfl (pa_Name (pv 0) (pa_Call (pe_callB (call_min2 rfl) (by rfl) M.min boot_min (pa_Name (pv 1) (pa_Name (pv 6) pa_nil))) pa_nil)))))
   (pss_cons (ps_set (i:=8) sc.nd rfl (Or.inl rfl) (pe_callD G_law_take hr rfl (pa_Name (pv 0) (pa_BinOp (pe_op op_add (pe_op op_sub (pv 1) (pv 7)) pe_int) pa_nil))))
   (pss_cons (ps_set (i:=9) sc.nd rfl (Or.inl rfl) (pe_ix (ix_listK (K:=K)) (pe_lst (pa_o2 (pv 8) (pe_callD G_law_take hr rfl (pa_Name (pv 0) (pa_BinOp (pe_op op_add (pe_op op_sub (pv 1) (pv 7)) pe_int) pa_nil))) pa_nil)) (pe_callTy call_int1 (by rfl) M.int boot_int (pa_cons (pe_cmpR op_gt (pe_callD G_law_take hr rfl (pa_Name (pv 0) (pa_Constant pe_int pa_nil))) pe_int (nomark _)) pa_nil)) (fun _ _ => rfl)) sw_sub)
   (pss_one (ps_expr (pe_bm PySem.F.plainAttrs_list PySem.F.slot_list_append PySem.F.type_list_append mt_append (pv 4) (pa_Tuple (pe_tup (pa_o4 (pe_callB (call_min2 rfl) (by rfl) M.min boot_min (pa_Name (pv 8) (pa_Name (pv 9) pa_nil))) (pe_callB (call_max2 rfl) (by rfl) M.max boot_max (pa_Name (pv 8) (pa_Name (pv 9) pa_nil))) (pv 7) (pe_cmpR op_eq (pe_callD G_law_take hr rfl (pa_Name (pv 0) (pa_Constant pe_int pa_nil))) pe_int (nomark _)) pa_nil)) pa_nil))))))))))
   (pss_one (ps_ret (pv 4))))))))),?_⟩
  exact hps_reads (K:=K) hP n2 k
abbrev s__law_hall:Stmt:=top 28
theorem sc__law_hall:FnScope ["_law_draw", "_law_n", "_law_pairings"] ["_law_draw"] (defScope s__law_hall):=⟨rfl,rfl,rfl,by decide +kernel,rfl,by decide +kernel,by decide +kernel⟩
set_option maxHeartbeats 8000000 in
theorem ok_hall {f:Addr} {fd:FuncData} (F:Fun K "_law_hall" "_law_hall" s__law_hall f fd) (M:Txt mg) (G_law_take:Kn P w K mg base "_law_take" 1 ["_law_draw", "_law_many"] spTake) (G_law_hall_pairings:Kn P w K mg base "_law_hall_pairings" 2 ["_law_draw", "_law_n"] spHpsW) (G_law_fitted:Kn P w K mg base "_law_fitted" 4 ["_law_draw", "_law_wide_here", "_law_long"] spFitted) (G_law_wide:Kn P w K mg base "_law_wide" 2 ["_law_draw"] spWide):FnOk P w K mg base CX0 5 f fd ["_law_draw"] spHallW:=by
 have sc:=sc__law_hall
 refine F.ok sc (fun vs H Q E h => ?_) (fun cdv A outer s H vs Q E hr h => ?_)
 ·obtain ⟨d,rfl,_⟩:=h
  rfl
 ·obtain ⟨d,rfl,hP,k⟩:=h
  refine ⟨_,(pss_cons (ps_set (i:=1) sc.nd rfl (Or.inl rfl) (pe_ix (ix_listK (K:=K)) (pe_lst (pa_o2 (pe_callD G_law_take hr rfl (pa_Name (pv 0) (pa_Constant pe_int pa_nil))) (pe_callD G_law_take hr rfl (pa_Name (pv 0) (pa_Constant pe_int pa_nil))) pa_nil)) (pe_callTy call_int1 (by rfl) M.int boot_int (pa_cons (pe_cmpR op_eq (pe_callD G_law_take hr rfl (pa_Name (pv 0) (pa_Constant pe_int pa_nil))) pe_int (nomark _)) pa_nil)) (fun _ _ => rfl)) sw_sub)
   (pss_cons (ps_set (i:=2) sc.nd rfl (Or.inl rfl) (pe_callD G_law_hall_pairings hr rfl (pa_Name (pv 0) (pa_Name (pv 1) pa_nil))))
   (pss_one (ps_ret (pe_tup (pa_o3 (pv 1) (pv 2) (pe_callD G_law_fitted hr rfl (pa_Name (pv 0) (pa_Call (pe_callD G_law_wide hr rfl (pa_Name (pv 0) pa_nil)) (pa_Name (pv 1) pa_nil)))) pa_nil)))))),?_⟩
  exact hall_reads (K:=K) hP k
abbrev s__law_pairs:Stmt:=top 29
theorem sc__law_pairs:FnScope ["_law_pairing", "_law_low", "_law_high", "_law_long", "_law_turned", "_law_found", "_law_i"] ["_law_pairing"] (defScope s__law_pairs):=⟨rfl,rfl,rfl,by decide +kernel,rfl,by decide +kernel,by decide +kernel⟩
set_option maxHeartbeats 4000000 in
theorem ok_pairs {f:Addr} {fd:FuncData} (F:Fun K "_law_pairs" "_law_pairs" s__law_pairs f fd) (M:Txt mg):FnOk P w K mg base CX0 1 f fd ["_law_pairing"] spLinksW:=by
 have sc:=sc__law_pairs
 refine F.ok sc (fun vs H Q E h => ?_) (fun cdv A outer s H vs Q E hr h => ?_)
 ·obtain ⟨q,p,n,rfl,_⟩:=h
  rfl
 ·obtain ⟨q,p,n,rfl,h1,h2,h3,k⟩:=h
  refine ⟨_,(pss_cons (ps_asg (pv 0) (pg_tup rfl (pgs_cons (pg_name (i:=1) sc.nd rfl (Or.inl rfl)) (pgs_cons (pg_name (i:=2) sc.nd rfl (Or.inl rfl)) (pgs_cons (pg_name (i:=3) sc.nd rfl (Or.inl rfl)) (pgs_cons (pg_name (i:=4) sc.nd rfl (Or.inl rfl)) pgs_nil))))))
   (pss_cons (ps_set (i:=5) sc.nd rfl (Or.inl rfl) (pe_lst pa_nil))
   (pss_cons (ps_for PassesOwn.never rfl (pi_range1 rfl M.range (pa_Name (pv 3) pa_nil)) (pg_name (i:=6) sc.nd rfl (Or.inl rfl))
   (pss_one (ps_expr (pe_bm PySem.F.plainAttrs_list PySem.F.slot_list_append PySem.F.type_list_append mt_append (pv 5) (pa_Tuple (pe_tup (pa_o2 (pe_op op_add (pv 1) (pv 6)) (pe_ix (ix_listK (K:=K)) (pe_lst (pa_o2 (pe_op op_add (pv 2) (pv 6)) (pe_op op_sub (pe_op op_sub (pe_op op_add (pv 2) (pv 3)) pe_int) (pv 6)) pa_nil)) (pe_callTy call_int1 (by rfl) M.int boot_int (pa_Name (pv 4) pa_nil)) (fun _ _ => rfl)) pa_nil)) pa_nil)))))
   (pss_one (ps_ret (pv 5)))))),?_⟩
  exact pairs_reads (K:=K) h1 h2 h3 k
abbrev s__law_rooms:Stmt:=top 30
theorem sc__law_rooms:FnScope ["_law_n", "_law_pairings", "_law_ways", "_law_pairing", "_law_here", "_law_there", "_law_met", "_law_found", "_law_place", "_law_room", "_law_at", "_law_other"] ["_law_n", "_law_pairings"] (defScope s__law_rooms):=⟨rfl,rfl,rfl,by decide +kernel,rfl,by decide +kernel,by decide +kernel⟩
set_option maxHeartbeats 8000000 in
theorem ok_lrooms {f:Addr} {fd:FuncData} (F:Fun K "_law_rooms" "_law_rooms" s__law_rooms f fd) (M:Txt mg) (G_law_pairs:Kn P w K mg base "_law_pairs" 1 ["_law_pairing"] spLinksW):FnOk P w K mg base CX0 2 f fd ["_law_n", "_law_pairings"] spLRoomsW:=by
 have sc:=sc__law_rooms
 refine F.ok sc (fun vs H Q E h => ?_) (fun cdv A outer s H vs Q E hr h => ?_)
 ·obtain ⟨pa,n,ps,ya,rfl,_⟩:=h
  rfl
 ·obtain ⟨pa,n,ps,ya,rfl,ha,cp,hk,k⟩:=h
  refine ⟨_,(pss_cons (ps_compG (xs:=["_law_place"]) (Nb:=["_law_n", "_law_pairings", "_law_ways", "_law_pairing", "_law_here", "_law_there", "_law_met", "_law_found", "", "_law_room", "_law_at", "_law_other"]) (pg_name (i:=2) sc.nd rfl (Or.inl rfl)) rfl rfl (pi_range1 rfl M.range (pa_Name (pv 0) pa_nil)) rfl (by show ∀ p ∈ (List.zip ["_law_n", "_law_pairings", "_law_ways", "_law_pairing", "_law_here", "_law_there", "_law_met", "_law_found", "", "_law_room", "_law_at", "_law_other"] ["_law_n", "_law_pairings", "_law_ways", "_law_pairing", "_law_here", "_law_there", "_law_met", "_law_found", "_law_place", "_law_room", "_law_at", "_law_other"]:List (Str × Str)),_; decide +kernel) (by decide +kernel) (fun cl C s₂ H₂ fp => (pg_name (i:=0) (by show List.Nodup (["_law_place", "_law_n", "_law_pairings", "_law_ways", "_law_pairing", "_law_here", "_law_there", "_law_met", "_law_found", "", "_law_room", "_law_at", "_law_other"]:List Str); decide +kernel) rfl (Or.inl (lookup_relabel_local rfl)) (Or.inr (lookup_relabel_local rfl)))) (fun cl C s₂ H₂ fp => pif_nil) (fun cl C s₂ H₂ fp => (pe_lst pa_nil)) (by decide +kernel) rfl (by decide +kernel) (by show ∀ y ∈ (_:List (Str × NameKind)),y.2=NameKind.free→(defScope s__law_rooms).names.lookup y.1=some .cell; decide +kernel))
   (pss_cons (ps_for PassesOwn.never rfl (pi_list (pv 1)) (pg_name (i:=3) sc.nd rfl (Or.inl rfl))
   (pss_one (ps_for PassesOwn.never rfl (pi_list (pe_callD G_law_pairs hr rfl (pa_Name (pv 3) pa_nil))) (pg_tup rfl (pgs_cons (pg_name (i:=4) sc.nd rfl (Or.inl rfl)) (pgs_cons (pg_name (i:=5) sc.nd rfl (Or.inl rfl)) pgs_nil)))
   (pss_cons (ps_expr (pe_bm PySem.F.plainAttrs_list PySem.F.slot_list_append PySem.F.type_list_append mt_append (pe_ix (ix_listK (K:=K)) (pv 2) (pv 4) (fun _ _ => rfl)) (pa_Name (pv 5) pa_nil)))
   (pss_one (ps_expr (pe_bm PySem.F.plainAttrs_list PySem.F.slot_list_append PySem.F.type_list_append mt_append (pe_ix (ix_listK (K:=K)) (pv 2) (pv 5) (fun _ _ => rfl)) (pa_Name (pv 4) pa_nil))))))))
   (pss_cons (ps_compG (xs:=["_law_place"]) (Nb:=["_law_n", "_law_pairings", "_law_ways", "_law_pairing", "_law_here", "_law_there", "_law_met", "_law_found", "", "_law_room", "_law_at", "_law_other"]) (pg_name (i:=6) sc.nd rfl (Or.inl rfl)) rfl rfl (pi_range1 rfl M.range (pa_Name (pv 0) pa_nil)) rfl (by show ∀ p ∈ (List.zip ["_law_n", "_law_pairings", "_law_ways", "_law_pairing", "_law_here", "_law_there", "_law_met", "_law_found", "", "_law_room", "_law_at", "_law_other"] ["_law_n", "_law_pairings", "_law_ways", "_law_pairing", "_law_here", "_law_there", "_law_met", "_law_found", "_law_place", "_law_room", "_law_at", "_law_other"]:List (Str × Str)),_; decide +kernel) (by decide +kernel) (fun cl C s₂ H₂ fp => (pg_name (i:=0) (by show List.Nodup (["_law_place", "_law_n", "_law_pairings", "_law_ways", "_law_pairing", "_law_here", "_law_there", "_law_met", "_law_found", "", "_law_room", "_law_at", "_law_other"]:List Str); decide +kernel) rfl (Or.inl (lookup_relabel_local rfl)) (Or.inr (lookup_relabel_local rfl)))) (fun cl C s₂ H₂ fp => pif_nil) (fun cl C s₂ H₂ fp => pe_bl) (by decide +kernel) rfl (by decide +kernel) (by show ∀ y ∈ (_:List (Str × NameKind)),y.2=NameKind.free→(defScope s__law_rooms).names.lookup y.1=some .cell; decide +kernel))
   (pss_cons (ps_set (i:=7) sc.nd rfl (Or.inl rfl) (pe_lst pa_nil))
   (pss_cons (ps_for PassesOwn.never rfl (pi_range1 rfl M.range (pa_Name (pv 0) pa_nil)) (pg_name (i:=8) sc.nd rfl (Or.inl rfl))
   (pss_cons (ps_set (i:=9) sc.nd rfl (Or.inl rfl) (pe_lst pa_nil))
   (pss_cons (ps_if (pt_not (pt_val (pe_ix (ix_listK (K:=K)) (pv 6) (pv 8) (fun _ _ => rfl)))) (pss_cons (ps_expr (pe_bm PySem.F.plainAttrs_list PySem.F.slot_list_append PySem.F.type_list_append mt_append (pv 9) (pa_Name (pv 8) pa_nil)))
   (pss_one (ps_asg pe_bl (pg_sub (pv 6) (pv 8) set_list)))) pss_nil)
   (pss_cons (ps_set (i:=10) sc.nd rfl (Or.inl rfl) pe_int)
   (pss_cons (ps_while PassesOwn.never (pt_cmpR op_lt (pv 10) (pe_callB (call_lenK (K:=K)) (by rfl) M.len PySem.boot_len (pa_Name (pv 9) pa_nil)) (nomark _)) (pss_cons (ps_for PassesOwn.never rfl (pi_list (pe_ix (ix_listK (K:=K)) (pv 2) (pe_ix (ix_listK (K:=K)) (pv 9) (pv 10) (fun _ _ => rfl)) (fun _ _ => rfl))) (pg_name (i:=11) sc.nd rfl (Or.inl rfl))
   (pss_one (ps_if (pt_not (pt_val (pe_ix (ix_listK (K:=K)) (pv 6) (pv 11) (fun _ _ => rfl)))) (pss_cons (ps_asg pe_bl (pg_sub (pv 6) (pv 11) set_list))
   (pss_one (ps_expr (pe_bm PySem.F.plainAttrs_list PySem.F.slot_list_append PySem.F.type_list_append mt_append (pv 9) (pa_Name (pv 11) pa_nil))))) pss_nil)))
   (pss_one (ps_set (i:=10) sc.nd rfl (Or.inl rfl) (pe_op op_add (pv 10) pe_int)))))
   (pss_one (ps_if (pt_cmpR (op_neD hr) (pv 9) (pe_lst pa_nil) (nomark _)) (pss_one (ps_expr (pe_bm PySem.F.plainAttrs_list PySem.F.slot_list_append PySem.F.type_list_append mt_append (pv 7) (pa_Call (pe_callB call_sortedW (by rfl) M.sorted boot_sorted (pa_Name (pv 9) pa_nil)) pa_nil)))) pss_nil)))))))
   (pss_one (ps_ret (pv 7)))))))),?_⟩
  exact lrooms_reads (K:=K) ha cp hk k
abbrev s__law_copied:Stmt:=top 33
theorem sc__law_copied:FnScope ["_law_hall_here"] ["_law_hall_here"] (defScope s__law_copied):=⟨rfl,rfl,rfl,by decide +kernel,rfl,by decide +kernel,by decide +kernel⟩
set_option maxHeartbeats 4000000 in
theorem ok_copied {f:Addr} {fd:FuncData} (F:Fun K "_law_copied" "_law_copied" s__law_copied f fd) (M:Txt mg):FnOk P w K mg base CX0 1 f fd ["_law_hall_here"] spCopW:=by
 have sc:=sc__law_copied
 refine F.ok sc (fun vs H Q E h => ?_) (fun cdv A outer s H vs Q E hr h => ?_)
 ·obtain ⟨a,pa,pb,n,ps,L,ya,yb,rfl,_⟩:=h
  rfl
 ·obtain ⟨a,pa,pb,n,ps,L,ya,yb,rfl,x,k⟩:=h
  refine ⟨_,(pss_one (ps_ret (pe_tup (pa_o3 (pe_ix (ix_tupK (K:=K)) (pv 0) pe_int (fun _ _ => rfl)) (pe_callTy call_list_of (by rfl) M.list boot_list (pa_Subscript (pe_ix (ix_tupK (K:=K)) (pv 0) pe_int (fun _ _ => rfl)) pa_nil)) (pe_callTy call_list_of (by rfl) M.list boot_list (pa_Subscript (pe_ix (ix_tupK (K:=K)) (pv 0) pe_int (fun _ _ => rfl)) pa_nil)) pa_nil)))),?_⟩
  exact cop_reads (K:=K) x k
abbrev s_sum_of_weights:Stmt:=top 7
theorem sc_sum_of_weights:FnScope ["one", "other"] ["one", "other"] (defScope s_sum_of_weights):=⟨rfl,rfl,rfl,by decide +kernel,rfl,by decide +kernel,by decide +kernel⟩
set_option maxHeartbeats 4000000 in
theorem ok_sow {f:Addr} {fd:FuncData} (F:Fun K "sum_of_weights" "sum_of_weights" s_sum_of_weights f fd) (M:Txt mg) (B:Gb mg):FnOk P w K mg base CX0 1 f fd ["one", "other"] spSowW:=by
 have sc:=sc_sum_of_weights
 refine F.ok sc (fun vs H Q E h => ?_) (fun cdv A outer s H vs Q E hr h => ?_)
 ·obtain ⟨a,b,u,v,rfl,_⟩:=h
  rfl
 ·obtain ⟨a,b,u,v,rfl,h1,h2,h3,h4,k⟩:=h
  obtain ⟨tmp,hmp⟩:=B.mp
  refine ⟨_,(pss_one (ps_ret (pe_callTy call_tuple_of (by rfl) M.tuple boot_tuple (pa_cons (pe_compG (xs:=["weight", "more"]) (Nb:=["one", "other"]) rfl (pi_zipT rfl B.zp (pa_Name (pv 0) (pa_Name (pv 1) pa_nil))) rfl (by show ∀ p ∈ (List.zip ["one", "other"] ["one", "other"]:List (Str × Str)),_; decide +kernel) (by decide +kernel) (fun cl C s₂ H₂ fp => (pg_tupK (K:=K) (n:=2) rfl (pgs_cons (pg_name (i:=0) (by show List.Nodup (["weight", "more", "one", "other"]:List Str); decide +kernel) rfl (Or.inl (lookup_relabel_local rfl)) (Or.inr (lookup_relabel_local rfl))) (pgs_cons (pg_name (i:=1) (by show List.Nodup (["weight", "more", "one", "other"]:List Str); decide +kernel) rfl (Or.inl (lookup_relabel_local rfl)) (Or.inr (lookup_relabel_local rfl))) pgs_nil)))) (fun cl C s₂ H₂ fp => pif_nil) (fun cl C s₂ H₂ fp => (pe_op op_add (pv 0) (pv 1))) (by decide +kernel) rfl (by decide +kernel) (by show ∀ y ∈ (_:List (Str × NameKind)),y.2=NameKind.free→(defScope s_sum_of_weights).names.lookup y.1=some .cell; decide +kernel)) pa_nil)))),?_⟩
  exact sow_reads (K:=K) h1 h2 h3 h4 k
abbrev s_sorts:Stmt:=top 8
theorem sc_sorts:FnScope ["weighing", "manys", "many", "weights"] ["weighing"] (defScope s_sorts):=⟨rfl,rfl,rfl,by decide +kernel,rfl,by decide +kernel,by decide +kernel⟩
set_option maxHeartbeats 4000000 in
theorem ok_sorts {f:Addr} {fd:FuncData} (F:Fun K "sorts" "sorts" s_sorts f fd) (M:Txt mg):FnOk P w K mg base CX0 1 f fd ["weighing"] spSortsW:=by
 have sc:=sc_sorts
 refine F.ok sc (fun vs H Q E h => ?_) (fun cdv A outer s H vs Q E hr h => ?_)
 ·obtain ⟨a,xs,W,rfl,_⟩:=h
  rfl
 ·obtain ⟨a,xs,W,rfl,h1,h2,h3,k⟩:=h
  refine ⟨_,(pss_cons (ps_set (i:=1) sc.nd rfl (Or.inl rfl) pe_dnewT)
   (pss_cons (ps_for PassesOwn.never rfl (pi_list (pv 0)) (pg_tup rfl (pgs_cons (pg_name (i:=2) sc.nd rfl (Or.inl rfl)) (pgs_cons (pg_name (i:=3) sc.nd rfl (Or.inl rfl)) pgs_nil)))
   (pss_one (ps_dput (hu_of hr) (pv 1) (pv 3) (pe_op op_add (pe_dget2 (hu_of hr) (pv 1) (pv 3) pe_int ⟨rfl,rfl,rfl,rfl⟩) (pv 2)) rfl)))
   (pss_one (ps_ret (pe_callB (call_sortedIW hr) (by rfl) M.sorted boot_sorted (pa_Call (pe_ditems (pv 1)) pa_nil)))))),?_⟩
  exact sorts_reads (K:=K) h1 h2 h3 k
abbrev s_weights_of:Stmt:=top 16
theorem sc_weights_of:FnScope ["room", "places", "weights", "place"] ["room", "places"] (defScope s_weights_of):=⟨rfl,rfl,rfl,by decide +kernel,rfl,by decide +kernel,by decide +kernel⟩
set_option maxHeartbeats 4000000 in
theorem ok_wof {f:Addr} {fd:FuncData} (F:Fun K "weights_of" "weights_of" s_weights_of f fd) (M:Txt mg) (Gsum_of_weights:Kn P w K mg base "sum_of_weights" 1 ["one", "other"] spSowW):FnOk P w K mg base CX0 2 f fd ["room", "places"] spWofW:=by
 have sc:=sc_weights_of
 refine F.ok sc (fun vs H Q E h => ?_) (fun cdv A outer s H vs Q E hr h => ?_)
 ·obtain ⟨r,p,h,ps,W,wd,rfl,_⟩:=h
  rfl
 ·obtain ⟨r,p,h,ps,W,wd,rfl,h1,h2,h3,h4,h5,h6,k⟩:=h
  refine ⟨_,(pss_cons (ps_set (i:=2) sc.nd rfl (Or.inl rfl) (pe_ix (ix_listK (K:=K)) (pv 1) (pe_ix (ix_listK (K:=K)) (pv 0) pe_int (fun _ _ => rfl)) (fun _ _ => rfl)) sw_sub)
   (pss_cons (ps_for PassesOwn.never rfl (pi_list (pe_slice sl_list (pv 0) (po_some pe_int) po_none)) (pg_name (i:=3) sc.nd rfl (Or.inl rfl))
   (pss_one (ps_set (i:=2) sc.nd rfl (Or.inl rfl) (pe_callD Gsum_of_weights hr rfl (pa_Name (pv 2) (pa_Subscript (pe_ix (ix_listK (K:=K)) (pv 1) (pv 3) (fun _ _ => rfl)) pa_nil))))))
   (pss_one (ps_ret (pv 2))))),?_⟩
  exact wof_reads (K:=K) h1 h2 h3 h4 h5 h6 k
abbrev s_sorts_walked:Stmt:=top 17
theorem sc_sorts_walked:FnScope ["hall", "found", "places", "many", "weights"] ["hall"] (defScope s_sorts_walked):=⟨rfl,rfl,rfl,by decide +kernel,rfl,by decide +kernel,by decide +kernel⟩
set_option maxHeartbeats 8000000 in
theorem ok_sw {f:Addr} {fd:FuncData} (F:Fun K "sorts_walked" "sorts_walked" s_sorts_walked f fd) (M:Txt mg) (Grooms:Kn P w K mg base "rooms" 4 ["hall"] spRoomsW) (Gsorts:Kn P w K mg base "sorts" 1 ["weighing"] spSortsW) (Gweights_of:Kn P w K mg base "weights_of" 2 ["room", "places"] spWofW):FnOk P w K mg base CX0 5 f fd ["hall"] spSwW:=by
 have sc:=sc_sorts_walked
 refine F.ok sc (fun vs H Q E h => ?_) (fun cdv A outer s H vs Q E hr h => ?_)
 ·obtain ⟨a,pa,pb,n,ps,L,ya,yb,rfl,_⟩:=h
  rfl
 ·obtain ⟨a,pa,pb,n,ps,L,ya,yb,rfl,x,hk,k⟩:=h
  refine ⟨_,(pss_cons (ps_set (i:=1) sc.nd rfl (Or.inl rfl) (pe_callD Grooms hr rfl (pa_Name (pv 0) pa_nil)))
   (pss_cons (ps_set (i:=2) sc.nd rfl (Or.inr rfl) (pe_lst pa_nil))
   (pss_cons (ps_for PassesOwn.never rfl (pi_list (pe_ix (ix_tupK (K:=K)) (pv 0) pe_int (fun _ _ => rfl))) (pg_tup rfl (pgs_cons (pg_name (i:=3) sc.nd rfl (Or.inl rfl)) (pgs_cons (pg_name (i:=4) sc.nd rfl (Or.inl rfl)) pgs_nil)))
   (pss_one (ps_expr (pe_bm PySem.F.plainAttrs_list PySem.F.slot_list_extend PySem.F.type_list_extend mt_extend (pv 2) (pa_BinOp (pe_op op_rep (pe_lst (pa_Name (pv 4) pa_nil)) (pv 3)) pa_nil)))))
   (pss_one (ps_ret (pe_callD Gsorts hr rfl (pa_cons (pe_compG (xs:=["room"]) (Nb:=["hall", "found", "places", "many", "weights"]) rfl (pi_list (pv 1)) rfl (by show ∀ p ∈ (List.zip ["hall", "found", "places", "many", "weights"] ["hall", "found", "places", "many", "weights"]:List (Str × Str)),_; decide +kernel) (by decide +kernel) (fun cl C s₂ H₂ fp => (pg_name (i:=0) (by show List.Nodup (["room", "hall", "found", "places", "many", "weights"]:List Str); decide +kernel) rfl (Or.inl (lookup_relabel_local rfl)) (Or.inr (lookup_relabel_local rfl)))) (fun cl C s₂ H₂ fp => pif_nil) (fun cl C s₂ H₂ fp => (pe_tup (pa_o2 pe_int (pe_callD Gweights_of hr rfl (pa_Name (pv 0) (pa_Name (pv 3) pa_nil))) pa_nil))) (by decide +kernel) rfl (by decide +kernel) (by show ∀ y ∈ (_:List (Str × NameKind)),y.2=NameKind.free→(defScope s_sorts_walked).names.lookup y.1=some .cell; decide +kernel)) pa_nil))))))),?_⟩
  exact sw_reads (K:=K) x hk k
abbrev s__law_plus:Stmt:=top 31
theorem sc__law_plus:FnScope ["_law_one", "_law_other"] ["_law_one", "_law_other"] (defScope s__law_plus):=⟨rfl,rfl,rfl,by decide +kernel,rfl,by decide +kernel,by decide +kernel⟩
set_option maxHeartbeats 4000000 in
theorem ok_plus {f:Addr} {fd:FuncData} (F:Fun K "_law_plus" "_law_plus" s__law_plus f fd) (M:Txt mg) (B:Gb mg):FnOk P w K mg base CX0 1 f fd ["_law_one", "_law_other"] spSowW:=by
 have sc:=sc__law_plus
 refine F.ok sc (fun vs H Q E h => ?_) (fun cdv A outer s H vs Q E hr h => ?_)
 ·obtain ⟨a,b,u,v,rfl,_⟩:=h
  rfl
 ·obtain ⟨a,b,u,v,rfl,h1,h2,h3,h4,k⟩:=h
  obtain ⟨tmp,hmp⟩:=B.mp
  refine ⟨_,(pss_one (ps_ret (pe_callTy call_tuple_of (by rfl) M.tuple boot_tuple (pa_cons (pe_compG (xs:=["_law_a", "_law_b"]) (Nb:=["_law_one", "_law_other"]) rfl (pi_zipT rfl B.zp (pa_Name (pv 0) (pa_Name (pv 1) pa_nil))) rfl (by show ∀ p ∈ (List.zip ["_law_one", "_law_other"] ["_law_one", "_law_other"]:List (Str × Str)),_; decide +kernel) (by decide +kernel) (fun cl C s₂ H₂ fp => (pg_tupK (K:=K) (n:=2) rfl (pgs_cons (pg_name (i:=0) (by show List.Nodup (["_law_a", "_law_b", "_law_one", "_law_other"]:List Str); decide +kernel) rfl (Or.inl (lookup_relabel_local rfl)) (Or.inr (lookup_relabel_local rfl))) (pgs_cons (pg_name (i:=1) (by show List.Nodup (["_law_a", "_law_b", "_law_one", "_law_other"]:List Str); decide +kernel) rfl (Or.inl (lookup_relabel_local rfl)) (Or.inr (lookup_relabel_local rfl))) pgs_nil)))) (fun cl C s₂ H₂ fp => pif_nil) (fun cl C s₂ H₂ fp => (pe_op op_add (pv 0) (pv 1))) (by decide +kernel) rfl (by decide +kernel) (by show ∀ y ∈ (_:List (Str × NameKind)),y.2=NameKind.free→(defScope s__law_plus).names.lookup y.1=some .cell; decide +kernel)) pa_nil)))),?_⟩
  exact sow_reads (K:=K) h1 h2 h3 h4 k
abbrev s__law_sorts:Stmt:=top 32
theorem sc__law_sorts:FnScope ["_law_hall_here", "_law_weights_here", "_law_many", "_law_some", "_law_come", "_law_room", "_law_total", "_law_place"] ["_law_hall_here"] (defScope s__law_sorts):=⟨rfl,rfl,rfl,by decide +kernel,rfl,by decide +kernel,by decide +kernel⟩
set_option maxHeartbeats 8000000 in
theorem ok_lsorts {f:Addr} {fd:FuncData} (F:Fun K "_law_sorts" "_law_sorts" s__law_sorts f fd) (M:Txt mg) (G_law_rooms:Kn P w K mg base "_law_rooms" 2 ["_law_n", "_law_pairings"] spLRoomsW) (G_law_plus:Kn P w K mg base "_law_plus" 1 ["_law_one", "_law_other"] spSowW):FnOk P w K mg base CX0 3 f fd ["_law_hall_here"] spLSortsW:=by
 have sc:=sc__law_sorts
 refine F.ok sc (fun vs H Q E h => ?_) (fun cdv A outer s H vs Q E hr h => ?_)
 ·obtain ⟨a,pa,pb,n,ps,L,ya,yb,rfl,_⟩:=h
  rfl
 ·obtain ⟨a,pa,pb,n,ps,L,ya,yb,rfl,x,hk,k⟩:=h
  refine ⟨_,(pss_cons (ps_set (i:=1) sc.nd rfl (Or.inl rfl) (pe_lst pa_nil))
   (pss_cons (ps_for PassesOwn.never rfl (pi_list (pe_ix (ix_tupK (K:=K)) (pv 0) pe_int (fun _ _ => rfl))) (pg_tup rfl (pgs_cons (pg_name (i:=2) sc.nd rfl (Or.inl rfl)) (pgs_cons (pg_name (i:=3) sc.nd rfl (Or.inl rfl)) pgs_nil)))
   (pss_one (ps_set (i:=1) sc.nd rfl (Or.inl rfl) (pe_op op_cat (pv 1) (pe_op op_rep (pe_lst (pa_Name (pv 3) pa_nil)) (pv 2))))))
   (pss_cons (ps_set (i:=4) sc.nd rfl (Or.inr rfl) pe_dnewT)
   (pss_cons (ps_for PassesOwn.never rfl (pi_list (pe_callD G_law_rooms hr rfl (pa_Subscript (pe_ix (ix_tupK (K:=K)) (pv 0) pe_int (fun _ _ => rfl)) (pa_Subscript (pe_ix (ix_tupK (K:=K)) (pv 0) pe_int (fun _ _ => rfl)) pa_nil)))) (pg_name (i:=5) sc.nd rfl (Or.inl rfl))
   (pss_cons (ps_set (i:=6) sc.nd rfl (Or.inl rfl) (pe_ix (ix_listK (K:=K)) (pv 1) (pe_ix (ix_listK (K:=K)) (pv 5) pe_int (fun _ _ => rfl)) (fun _ _ => rfl)) sw_sub)
   (pss_cons (ps_for PassesOwn.never rfl (pi_list (pe_slice sl_list (pv 5) (po_some pe_int) po_none)) (pg_name (i:=7) sc.nd rfl (Or.inl rfl))
   (pss_one (ps_set (i:=6) sc.nd rfl (Or.inl rfl) (pe_callD G_law_plus hr rfl (pa_Name (pv 6) (pa_Subscript (pe_ix (ix_listK (K:=K)) (pv 1) (pv 7) (fun _ _ => rfl)) pa_nil))))))
   (pss_one (ps_dput (hu_of hr) (pv 4) (pv 6) (pe_op op_add (pe_dget2 (hu_of hr) (pv 4) (pv 6) pe_int ⟨rfl,rfl,rfl,rfl⟩) pe_int) rfl)))))
   (pss_one (ps_ret (pe_callB (call_sortedPW hr) (by rfl) M.sorted boot_sorted (pa_cons (pe_compG (xs:=["_law_total"]) (Nb:=["_law_hall_here", "_law_weights_here", "_law_many", "_law_some", "_law_come", "_law_room", "", "_law_place"]) rfl (pi_dictT (pv 4)) rfl (by show ∀ p ∈ (List.zip ["_law_hall_here", "_law_weights_here", "_law_many", "_law_some", "_law_come", "_law_room", "", "_law_place"] ["_law_hall_here", "_law_weights_here", "_law_many", "_law_some", "_law_come", "_law_room", "_law_total", "_law_place"]:List (Str × Str)),_; decide +kernel) (by decide +kernel) (fun cl C s₂ H₂ fp => (pg_name (i:=0) (by show List.Nodup (["_law_total", "_law_hall_here", "_law_weights_here", "_law_many", "_law_some", "_law_come", "_law_room", "", "_law_place"]:List Str); decide +kernel) rfl (Or.inl (lookup_relabel_local rfl)) (Or.inr (lookup_relabel_local rfl)))) (fun cl C s₂ H₂ fp => pif_nil) (fun cl C s₂ H₂ fp => (pe_tup (pa_o2 (pv 0) (pe_dget (hu_of hr) (pv 5) (pv 0) (fun _ _ => rfl)) pa_nil))) (by decide +kernel) rfl (by decide +kernel) (by show ∀ y ∈ (_:List (Str × NameKind)),y.2=NameKind.free→(defScope s__law_sorts).names.lookup y.1=some .cell; decide +kernel)) pa_nil)))))))),?_⟩
  exact lsorts_reads (K:=K) x hk k
abbrev s__law_kinds:Stmt:=top 35
theorem sc__law_kinds:FnScope ["_law_told", "_law_one"] ["_law_told"] (defScope s__law_kinds):=⟨rfl,rfl,rfl,by decide +kernel,rfl,by decide +kernel,by decide +kernel⟩
set_option maxHeartbeats 4000000 in
theorem ok_kinds {f:Addr} {fd:FuncData} (F:Fun K "_law_kinds" "_law_kinds" s__law_kinds f fd) (M:Txt mg) (G_law_whole:Kn P w K mg base "_law_whole" 1 ["_law_thing"] spWholeL):FnOk P w K mg base CX0 2 f fd ["_law_told"] spKinds20:=by
 have sc:=sc__law_kinds
 refine F.ok sc (fun vs H Q E h => ?_) (fun cdv A outer s H vs Q E hr h => ?_)
 ·obtain ⟨c,zs,ws,rfl,_⟩:=h
  rfl
 ·obtain ⟨c,zs,ws,rfl,h1,h2,h3,k⟩:=h
  refine ⟨_,(pss_cons (ps_if (pt_not (pt_val (pe_callB (call_isinstK (T := "list") (K:=K)) (by rfl) M.isinstance boot_isinstance (pa_Name (pv 0) (pa_Name (pe_bltn (v:=.ty "list") rfl M.list boot_list rfl) pa_nil))))) (pss_one (ps_ret pe_bl)) pss_nil)
   (pss_cons (ps_for PassesOwn.never rfl (pi_list (pv 0)) (pg_name (i:=1) sc.nd rfl (Or.inl rfl))
   (pss_cons (ps_if (PW.pt (pw_or (pt_not (pt_val (pe_callB (call_isinstK (T := "tuple") (K:=K)) (by rfl) M.isinstance boot_isinstance (pa_Name (pv 1) (pa_Name (pe_bltn (v:=.ty "tuple") rfl M.tuple boot_tuple rfl) pa_nil))))) (pw_or (pt_cmpR op_ne (pe_callB (call_lenK (K:=K)) (by rfl) M.len PySem.boot_len (pa_Name (pv 1) pa_nil)) pe_int (nomark _)) (pw_or (pt_not (pt_val (pe_callB (call_isinstK (T := "tuple") (K:=K)) (by rfl) M.isinstance boot_isinstance (pa_Subscript (pe_ix (ix_tupK (K:=K)) (pv 1) pe_int (fun _ _ => rfl)) (pa_Name (pe_bltn (v:=.ty "tuple") rfl M.tuple boot_tuple rfl) pa_nil))))) (pw_or1 (pt_not (pt_val (pe_callD G_law_whole hr rfl (pa_Subscript (pe_ix (ix_tupK (K:=K)) (pv 1) pe_int (fun _ _ => rfl)) pa_nil))))))))) (pss_one (ps_ret pe_bl)) pss_nil)
   (pss_one (ps_if (pt_not (pt_val (pe_callB (call_all rfl) (by rfl) M.all boot_all (pa_cons (pe_compG (xs:=["_law_figure"]) (Nb:=["_law_told", "_law_one"]) rfl (pi_tup (pe_ix (ix_tupK (K:=K)) (pv 1) pe_int (fun _ _ => rfl))) rfl (by show ∀ p ∈ (List.zip ["_law_told", "_law_one"] ["_law_told", "_law_one"]:List (Str × Str)),_; decide +kernel) (by decide +kernel) (fun cl C s₂ H₂ fp => (pg_name (i:=0) (by show List.Nodup (["_law_figure", "_law_told", "_law_one"]:List Str); decide +kernel) rfl (Or.inl (lookup_relabel_local rfl)) (Or.inr (lookup_relabel_local rfl)))) (fun cl C s₂ H₂ fp => pif_nil) (fun cl C s₂ H₂ fp => (pe_callD G_law_whole hr rfl (pa_Name (pv 0) pa_nil))) (by decide +kernel) rfl (by decide +kernel) (by show ∀ y ∈ (_:List (Str × NameKind)),y.2=NameKind.free→(defScope s__law_kinds).names.lookup y.1=some .cell; decide +kernel)) pa_nil)))) (pss_one (ps_ret pe_bl)) pss_nil))))
   (pss_one (ps_ret pe_bl)))),?_⟩
  exact kinds20_reads (K:=K) h1 h2 h3 k
end
end Toy
namespace Toy
open PySem L2 PyProof.Rows
section
variable {P:Program} {w:World} {K:PySem.W.Frag} {mg:Str→Option Value} {base:Heap}
def spLaw (K:PySem.W.Frag):Sp:=fun vs H Q _ => ∃ (a:Addr) (ns:List Int),vs=[.ref a]∧SqL K H a (ns.map V.int)∧ns.length ≤ 63∧∀ H',Q (.bl true) H'
abbrev s_law:Stmt:=top 36
theorem sc_law:FnScope ["_law_script", "_law_k", "_law_hall_here", "_law_handed", "_law_due", "_law_turn", "_law_told"] ["_law_script"] (defScope s_law):=⟨rfl,rfl,rfl,by decide +kernel,rfl,by decide +kernel,by decide +kernel⟩
set_option maxHeartbeats 8000000 in
theorem ok_law {f:Addr} {fd:FuncData} (F:Fun K "law" "law" s_law f fd) (M:Txt mg) (G_law_purse:Kn P w K mg base "_law_purse" 2 ["_law_script", "_law_at"] (spPurse K)) (G_law_hall:Kn P w K mg base "_law_hall" 5 ["_law_draw"] spHallW) (G_law_copied:Kn P w K mg base "_law_copied" 1 ["_law_hall_here"] spCopW) (G_law_sorts:Kn P w K mg base "_law_sorts" 3 ["_law_hall_here"] spLSortsW) (Gsorts_walked:Kn P w K mg base "sorts_walked" 5 ["hall"] spSwW) (G_law_kinds:Kn P w K mg base "_law_kinds" 2 ["_law_told"] spKinds20):FnOk P w K mg base CX0 6 f fd ["_law_script"] (spLaw K):=by
 have sc:=sc_law
 refine F.ok sc (fun vs H Q E h => ?_) (fun cdv A outer s H vs Q E hr h => ?_)
 ·obtain ⟨a,ns,rfl,_⟩:=h
  rfl
 ·obtain ⟨a,ns,rfl,hS,hl,k⟩:=h
  refine ⟨_,(pss_cons (ps_for PassesOwn.never rfl (pi_range1 rfl M.range (pa_BinOp (pe_op op_add pe_int (pe_callB (call_min2 rfl) (by rfl) M.min boot_min (pa_Constant pe_int (pa_Call (pe_callB (call_lenK (K:=K)) (by rfl) M.len PySem.boot_len (pa_Name (pv 0) pa_nil)) pa_nil)))) pa_nil)) (pg_name (i:=1) sc.nd rfl (Or.inl rfl))
   (pss_cons (ps_set (i:=2) sc.nd rfl (Or.inl rfl) (pe_callD G_law_hall hr rfl (pa_Call (pe_callD G_law_purse hr rfl (pa_Name (pv 0) (pa_Name (pv 1) pa_nil))) pa_nil)))
   (pss_cons (ps_set (i:=3) sc.nd rfl (Or.inl rfl) (pe_callD G_law_copied hr rfl (pa_Name (pv 2) pa_nil)))
   (pss_cons (ps_set (i:=4) sc.nd rfl (Or.inl rfl) (pe_callD G_law_sorts hr rfl (pa_Name (pv 2) pa_nil)))
   (pss_one (ps_for PassesOwn.never rfl (pi_range1 rfl M.range (pa_Constant pe_int pa_nil)) (pg_name (i:=5) sc.nd rfl (Or.inl rfl))
   (pss_cons (ps_set (i:=6) sc.nd rfl (Or.inl rfl) (pe_callD Gsorts_walked hr rfl (pa_Name (pv 3) pa_nil)))
   (pss_cons (ps_if (PW.pt (pw_or (pt_not (pt_val (pe_callD G_law_kinds hr rfl (pa_Name (pv 6) pa_nil)))) (pw_or (pt_cmpR (op_neD hr) (pv 6) (pv 4) (nomark _)) (pw_or1 (pt_cmpR (op_neD hr) (pv 3) (pv 2) (nomark _)))))) (pss_one (ps_ret pe_bl)) pss_nil)
   (pss_one (ps_expr (pe_bm PySem.F.plainAttrs_list PySem.F.slot_list_append PySem.F.type_list_append mt_append (pv 6) (pa_Constant pe_non pa_nil))))))))))))
   (pss_one (ps_ret pe_bl))),?_⟩
  exact law20_reads (K:=K) hS k
end
theorem all_mk {l:PySem.W.OpenLaw} {w:World} {K:PySem.W.Frag} {h:Heap} {mg:Str→Option Value} {fa f0 f1 f2 f3 f4 f5 f6 f7 f8 f9 f10 f11 f12 f13 f14 f15 f16 f17 f18 f19 f20 f21 f22 f23 f24 f25 f26 f27 f28:Addr} {tg_MOST_PLACES:Tok} (X:K.In h) (G:h.Ns mainGlobals mg) (hfa:mg "law" = some (.ref fa))
  {od0 an0 od1 an1 od2 an2 od3 an3 od4 an4 od5 an5 od6 an6 od7 an7 od8 an8 od9 an9 od10 an10 od11 an11 od12 an12 od13 an13 od14 an14 od15 an15 od16 an16 od17 an17 od18 an18 od19 an19 od20 an20 od21 an21 od22 an22 od23 an23 od24 an24 od25 an25 od26 an26 od27 an27 od28 an28:Option Addr} {sl0 sl1 sl2 sl3 sl4 sl5 sl6 sl7 sl8 sl9 sl10 sl11 sl12 sl13 sl14 sl15 sl16 sl17 sl18 sl19 sl20 sl21 sl22 sl23 sl24 sl25 sl26 sl27 sl28:Array (Option Value)} {oc0 kV0 dc0 pm0 cd0 ct0 oc1 kV1 dc1 pm1 cd1 ct1 oc2 kV2 dc2 pm2 cd2 ct2 oc3 kV3 dc3 pm3 cd3 ct3 oc4 kV4 dc4 pm4 cd4 ct4 oc5 kV5 dc5 pm5 cd5 ct5 oc6 kV6 dc6 pm6 cd6 ct6 oc7 kV7 dc7 pm7 cd7 ct7 oc8 kV8 dc8 pm8 cd8 ct8 oc9 kV9 dc9 pm9 cd9 ct9 oc10 kV10 dc10 pm10 cd10 ct10 oc11 kV11 dc11 pm11 cd11 ct11 oc12 kV12 dc12 pm12 cd12 ct12 oc13 kV13 dc13 pm13 cd13 ct13 oc14 kV14 dc14 pm14 cd14 ct14 oc15 kV15 dc15 pm15 cd15 ct15 oc16 kV16 dc16 pm16 cd16 ct16 oc17 kV17 dc17 pm17 cd17 ct17 oc18 kV18 dc18 pm18 cd18 ct18 oc19 kV19 dc19 pm19 cd19 ct19 oc20 kV20 dc20 pm20 cd20 ct20 oc21 kV21 dc21 pm21 cd21 ct21 oc22 kV22 dc22 pm22 cd22 ct22 oc23 kV23 dc23 pm23 cd23 ct23 oc24 kV24 dc24 pm24 cd24 ct24 oc25 kV25 dc25 pm25 cd25 ct25 oc26 kV26 dc26 pm26 cd26 ct26 oc27 kV27 dc27 pm27 cd27 ct27 oc28 kV28 dc28 pm28 cd28 ct28:Value}
  (a0:PySem.W.nsIn K mainGlobals "led" = some (some (.ref f0))) (l0:K.lookup f0=some ⟨oc0,od0,.func (PySem.W.fnOf "led" "led" (defArgs s_led) (defBody s_led) (defScope s_led) .none kV0 dc0 pm0 an0 cd0 ct0),sl0⟩) (c0:PySem.W.codeIn K cd0 "led" = true) (k0:PySem.W.keepIn K (.ref f0)=true)
  (a1:PySem.W.nsIn K mainGlobals "forth" = some (some (.ref f1))) (l1:K.lookup f1=some ⟨oc1,od1,.func (PySem.W.fnOf "forth" "forth" (defArgs s_forth) (defBody s_forth) (defScope s_forth) .none kV1 dc1 pm1 an1 cd1 ct1),sl1⟩) (c1:PySem.W.codeIn K cd1 "forth" = true) (k1:PySem.W.keepIn K (.ref f1)=true)
  (a2:PySem.W.nsIn K mainGlobals "sum_of_weights" = some (some (.ref f2))) (l2:K.lookup f2=some ⟨oc2,od2,.func (PySem.W.fnOf "sum_of_weights" "sum_of_weights" (defArgs s_sum_of_weights) (defBody s_sum_of_weights) (defScope s_sum_of_weights) .none kV2 dc2 pm2 an2 cd2 ct2),sl2⟩) (c2:PySem.W.codeIn K cd2 "sum_of_weights" = true) (k2:PySem.W.keepIn K (.ref f2)=true)
  (a3:PySem.W.nsIn K mainGlobals "sorts" = some (some (.ref f3))) (l3:K.lookup f3=some ⟨oc3,od3,.func (PySem.W.fnOf "sorts" "sorts" (defArgs s_sorts) (defBody s_sorts) (defScope s_sorts) .none kV3 dc3 pm3 an3 cd3 ct3),sl3⟩) (c3:PySem.W.codeIn K cd3 "sorts" = true) (k3:PySem.W.keepIn K (.ref f3)=true)
  (a4:PySem.W.nsIn K mainGlobals "beside_each" = some (some (.ref f4))) (l4:K.lookup f4=some ⟨oc4,od4,.func (PySem.W.fnOf "beside_each" "beside_each" (defArgs s_beside_each) (defBody s_beside_each) (defScope s_beside_each) .none kV4 dc4 pm4 an4 cd4 ct4),sl4⟩) (c4:PySem.W.codeIn K cd4 "beside_each" = true) (k4:PySem.W.keepIn K (.ref f4)=true)
  (a5:PySem.W.nsIn K mainGlobals "room_from" = some (some (.ref f5))) (l5:K.lookup f5=some ⟨oc5,od5,.func (PySem.W.fnOf "room_from" "room_from" (defArgs s_room_from) (defBody s_room_from) (defScope s_room_from) .none kV5 dc5 pm5 an5 cd5 ct5),sl5⟩) (c5:PySem.W.codeIn K cd5 "room_from" = true) (k5:PySem.W.keepIn K (.ref f5)=true)
  (a6:PySem.W.nsIn K mainGlobals "linked" = some (some (.ref f6))) (l6:K.lookup f6=some ⟨oc6,od6,.func (PySem.W.fnOf "linked" "linked" (defArgs s_linked) (defBody s_linked) (defScope s_linked) .none kV6 dc6 pm6 an6 cd6 ct6),sl6⟩) (c6:PySem.W.codeIn K cd6 "linked" = true) (k6:PySem.W.keepIn K (.ref f6)=true)
  (a7:PySem.W.nsIn K mainGlobals "links_of" = some (some (.ref f7))) (l7:K.lookup f7=some ⟨oc7,od7,.func (PySem.W.fnOf "links_of" "links_of" (defArgs s_links_of) (defBody s_links_of) (defScope s_links_of) .none kV7 dc7 pm7 an7 cd7 ct7),sl7⟩) (c7:PySem.W.codeIn K cd7 "links_of" = true) (k7:PySem.W.keepIn K (.ref f7)=true)
  (a8:PySem.W.nsIn K mainGlobals "rooms" = some (some (.ref f8))) (l8:K.lookup f8=some ⟨oc8,od8,.func (PySem.W.fnOf "rooms" "rooms" (defArgs s_rooms) (defBody s_rooms) (defScope s_rooms) .none kV8 dc8 pm8 an8 cd8 ct8),sl8⟩) (c8:PySem.W.codeIn K cd8 "rooms" = true) (k8:PySem.W.keepIn K (.ref f8)=true)
  (a9:PySem.W.nsIn K mainGlobals "weights_of" = some (some (.ref f9))) (l9:K.lookup f9=some ⟨oc9,od9,.func (PySem.W.fnOf "weights_of" "weights_of" (defArgs s_weights_of) (defBody s_weights_of) (defScope s_weights_of) .none kV9 dc9 pm9 an9 cd9 ct9),sl9⟩) (c9:PySem.W.codeIn K cd9 "weights_of" = true) (k9:PySem.W.keepIn K (.ref f9)=true)
  (a10:PySem.W.nsIn K mainGlobals "sorts_walked" = some (some (.ref f10))) (l10:K.lookup f10=some ⟨oc10,od10,.func (PySem.W.fnOf "sorts_walked" "sorts_walked" (defArgs s_sorts_walked) (defBody s_sorts_walked) (defScope s_sorts_walked) .none kV10 dc10 pm10 an10 cd10 ct10),sl10⟩) (c10:PySem.W.codeIn K cd10 "sorts_walked" = true) (k10:PySem.W.keepIn K (.ref f10)=true)
  (a11:PySem.W.nsIn K mainGlobals "_law_cell_at" = some (some (.ref f11))) (l11:K.lookup f11=some ⟨oc11,od11,.func (PySem.W.fnOf "_law_cell_at" "_law_cell_at" (defArgs s__law_cell_at) (defBody s__law_cell_at) (defScope s__law_cell_at) .none kV11 dc11 pm11 an11 cd11 ct11),sl11⟩) (c11:PySem.W.codeIn K cd11 "_law_cell_at" = true) (k11:PySem.W.keepIn K (.ref f11)=true)
  (a12:PySem.W.nsIn K mainGlobals "_law_purse" = some (some (.ref f12))) (l12:K.lookup f12=some ⟨oc12,od12,.func (PySem.W.fnOf "_law_purse" "_law_purse" (defArgs s__law_purse) (defBody s__law_purse) (defScope s__law_purse) .none kV12 dc12 pm12 an12 cd12 ct12),sl12⟩) (c12:PySem.W.codeIn K cd12 "_law_purse" = true) (k12:PySem.W.keepIn K (.ref f12)=true)
  (a13:PySem.W.nsIn K mainGlobals "_law_take" = some (some (.ref f13))) (l13:K.lookup f13=some ⟨oc13,od13,.func (PySem.W.fnOf "_law_take" "_law_take" (defArgs s__law_take) (defBody s__law_take) (defScope s__law_take) .none kV13 dc13 pm13 an13 cd13 ct13),sl13⟩) (c13:PySem.W.codeIn K cd13 "_law_take" = true) (k13:PySem.W.keepIn K (.ref f13)=true)
  (a14:PySem.W.nsIn K mainGlobals "_law_number" = some (some (.ref f14))) (l14:K.lookup f14=some ⟨oc14,od14,.func (PySem.W.fnOf "_law_number" "_law_number" (defArgs s__law_number) (defBody s__law_number) (defScope s__law_number) .none kV14 dc14 pm14 an14 cd14 ct14),sl14⟩) (c14:PySem.W.codeIn K cd14 "_law_number" = true) (k14:PySem.W.keepIn K (.ref f14)=true)
  (a15:PySem.W.nsIn K mainGlobals "_law_weights" = some (some (.ref f15))) (l15:K.lookup f15=some ⟨oc15,od15,.func (PySem.W.fnOf "_law_weights" "_law_weights" (defArgs s__law_weights) (defBody s__law_weights) (defScope s__law_weights) .none kV15 dc15 pm15 an15 cd15 ct15),sl15⟩) (c15:PySem.W.codeIn K cd15 "_law_weights" = true) (k15:PySem.W.keepIn K (.ref f15)=true)
  (a16:PySem.W.nsIn K mainGlobals "_law_shape" = some (some (.ref f16))) (l16:K.lookup f16=some ⟨oc16,od16,.func (PySem.W.fnOf "_law_shape" "_law_shape" (defArgs s__law_shape) (defBody s__law_shape) (defScope s__law_shape) .none kV16 dc16 pm16 an16 cd16 ct16),sl16⟩) (c16:PySem.W.codeIn K cd16 "_law_shape" = true) (k16:PySem.W.keepIn K (.ref f16)=true)
  (a17:PySem.W.nsIn K mainGlobals "_law_wide" = some (some (.ref f17))) (l17:K.lookup f17=some ⟨oc17,od17,.func (PySem.W.fnOf "_law_wide" "_law_wide" (defArgs s__law_wide) (defBody s__law_wide) (defScope s__law_wide) .none kV17 dc17 pm17 an17 cd17 ct17),sl17⟩) (c17:PySem.W.codeIn K cd17 "_law_wide" = true) (k17:PySem.W.keepIn K (.ref f17)=true)
  (a18:PySem.W.nsIn K mainGlobals "_law_fitted" = some (some (.ref f18))) (l18:K.lookup f18=some ⟨oc18,od18,.func (PySem.W.fnOf "_law_fitted" "_law_fitted" (defArgs s__law_fitted) (defBody s__law_fitted) (defScope s__law_fitted) .none kV18 dc18 pm18 an18 cd18 ct18),sl18⟩) (c18:PySem.W.codeIn K cd18 "_law_fitted" = true) (k18:PySem.W.keepIn K (.ref f18)=true)
  (a19:PySem.W.nsIn K mainGlobals "_law_hall_pairings" = some (some (.ref f19))) (l19:K.lookup f19=some ⟨oc19,od19,.func (PySem.W.fnOf "_law_hall_pairings" "_law_hall_pairings" (defArgs s__law_hall_pairings) (defBody s__law_hall_pairings) (defScope s__law_hall_pairings) .none kV19 dc19 pm19 an19 cd19 ct19),sl19⟩) (c19:PySem.W.codeIn K cd19 "_law_hall_pairings" = true) (k19:PySem.W.keepIn K (.ref f19)=true)
  (a20:PySem.W.nsIn K mainGlobals "_law_hall" = some (some (.ref f20))) (l20:K.lookup f20=some ⟨oc20,od20,.func (PySem.W.fnOf "_law_hall" "_law_hall" (defArgs s__law_hall) (defBody s__law_hall) (defScope s__law_hall) .none kV20 dc20 pm20 an20 cd20 ct20),sl20⟩) (c20:PySem.W.codeIn K cd20 "_law_hall" = true) (k20:PySem.W.keepIn K (.ref f20)=true)
  (a21:PySem.W.nsIn K mainGlobals "_law_pairs" = some (some (.ref f21))) (l21:K.lookup f21=some ⟨oc21,od21,.func (PySem.W.fnOf "_law_pairs" "_law_pairs" (defArgs s__law_pairs) (defBody s__law_pairs) (defScope s__law_pairs) .none kV21 dc21 pm21 an21 cd21 ct21),sl21⟩) (c21:PySem.W.codeIn K cd21 "_law_pairs" = true) (k21:PySem.W.keepIn K (.ref f21)=true)
  (a22:PySem.W.nsIn K mainGlobals "_law_rooms" = some (some (.ref f22))) (l22:K.lookup f22=some ⟨oc22,od22,.func (PySem.W.fnOf "_law_rooms" "_law_rooms" (defArgs s__law_rooms) (defBody s__law_rooms) (defScope s__law_rooms) .none kV22 dc22 pm22 an22 cd22 ct22),sl22⟩) (c22:PySem.W.codeIn K cd22 "_law_rooms" = true) (k22:PySem.W.keepIn K (.ref f22)=true)
  (a23:PySem.W.nsIn K mainGlobals "_law_plus" = some (some (.ref f23))) (l23:K.lookup f23=some ⟨oc23,od23,.func (PySem.W.fnOf "_law_plus" "_law_plus" (defArgs s__law_plus) (defBody s__law_plus) (defScope s__law_plus) .none kV23 dc23 pm23 an23 cd23 ct23),sl23⟩) (c23:PySem.W.codeIn K cd23 "_law_plus" = true) (k23:PySem.W.keepIn K (.ref f23)=true)
  (a24:PySem.W.nsIn K mainGlobals "_law_sorts" = some (some (.ref f24))) (l24:K.lookup f24=some ⟨oc24,od24,.func (PySem.W.fnOf "_law_sorts" "_law_sorts" (defArgs s__law_sorts) (defBody s__law_sorts) (defScope s__law_sorts) .none kV24 dc24 pm24 an24 cd24 ct24),sl24⟩) (c24:PySem.W.codeIn K cd24 "_law_sorts" = true) (k24:PySem.W.keepIn K (.ref f24)=true)
  (a25:PySem.W.nsIn K mainGlobals "_law_copied" = some (some (.ref f25))) (l25:K.lookup f25=some ⟨oc25,od25,.func (PySem.W.fnOf "_law_copied" "_law_copied" (defArgs s__law_copied) (defBody s__law_copied) (defScope s__law_copied) .none kV25 dc25 pm25 an25 cd25 ct25),sl25⟩) (c25:PySem.W.codeIn K cd25 "_law_copied" = true) (k25:PySem.W.keepIn K (.ref f25)=true)
  (a26:PySem.W.nsIn K mainGlobals "_law_whole" = some (some (.ref f26))) (l26:K.lookup f26=some ⟨oc26,od26,.func (PySem.W.fnOf "_law_whole" "_law_whole" (defArgs s__law_whole) (defBody s__law_whole) (defScope s__law_whole) .none kV26 dc26 pm26 an26 cd26 ct26),sl26⟩) (c26:PySem.W.codeIn K cd26 "_law_whole" = true) (k26:PySem.W.keepIn K (.ref f26)=true)
  (a27:PySem.W.nsIn K mainGlobals "_law_kinds" = some (some (.ref f27))) (l27:K.lookup f27=some ⟨oc27,od27,.func (PySem.W.fnOf "_law_kinds" "_law_kinds" (defArgs s__law_kinds) (defBody s__law_kinds) (defScope s__law_kinds) .none kV27 dc27 pm27 an27 cd27 ct27),sl27⟩) (c27:PySem.W.codeIn K cd27 "_law_kinds" = true) (k27:PySem.W.keepIn K (.ref f27)=true)
  (a28:PySem.W.nsIn K mainGlobals "law" = some (some (.ref f28))) (l28:K.lookup f28=some ⟨oc28,od28,.func (PySem.W.fnOf "law" "law" (defArgs s_law) (defBody s_law) (defScope s_law) .none kV28 dc28 pm28 an28 cd28 ct28),sl28⟩) (c28:PySem.W.codeIn K cd28 "law" = true) (k28:PySem.W.keepIn K (.ref f28)=true)
  (g_MOST_PLACES:PySem.W.nsIn K mainGlobals "MOST_PLACES" = some (some (.int 2000 tg_MOST_PLACES)))
  (g_zip:PySem.W.nsIn K mainGlobals "zip" = some none)
  (g_set:PySem.W.nsIn K mainGlobals "set" = some none)
  (z_len:PySem.W.nsIn K mainGlobals "len" = some none) (z_range:PySem.W.nsIn K mainGlobals "range" = some none) (z_min:PySem.W.nsIn K mainGlobals "min" = some none) (z_max:PySem.W.nsIn K mainGlobals "max" = some none) (z_isinstance:PySem.W.nsIn K mainGlobals "isinstance" = some none) (z_bool:PySem.W.nsIn K mainGlobals "bool" = some none) (z_int:PySem.W.nsIn K mainGlobals "int" = some none) (z_tuple:PySem.W.nsIn K mainGlobals "tuple" = some none) (z_list:PySem.W.nsIn K mainGlobals "list" = some none) (z_str:PySem.W.nsIn K mainGlobals "str" = some none) (z_all:PySem.W.nsIn K mainGlobals "all" = some none) (z_sum:PySem.W.nsIn K mainGlobals "sum" = some none) (z_sorted:PySem.W.nsIn K mainGlobals "sorted" = some none) :
  ∃ fd:FuncData,(∀ (s:Shared) (v:Value),BindsTo s fd ⟨[v],[]⟩ [("_law_script",v)])∧∀ base:Heap,K.In base→base.Ns mainGlobals mg→FnOk l.prog w K mg base CX0 6 fa fd ["_law_script"] (spLaw K):=by
 have e:=hfa.symm.trans (PySem.W.mg_of X G a28)
 cases e
 have M:Txt mg:=⟨PySem.W.mg_none_of X G z_len,PySem.W.mg_none_of X G z_range,PySem.W.mg_none_of X G z_min,PySem.W.mg_none_of X G z_max,PySem.W.mg_none_of X G z_isinstance,PySem.W.mg_none_of X G z_bool,PySem.W.mg_none_of X G z_int,PySem.W.mg_none_of X G z_tuple,PySem.W.mg_none_of X G z_list,PySem.W.mg_none_of X G z_str,PySem.W.mg_none_of X G z_all,PySem.W.mg_none_of X G z_sum,PySem.W.mg_none_of X G z_sorted⟩
 have GB:Gb mg:=⟨⟨_,PySem.W.mg_of X G g_MOST_PLACES⟩,PySem.W.mg_none_of X G g_zip,PySem.W.mg_none_of X G g_set⟩
 have F0:=fun_mk (st:=s_led) l0 c0 k0
 have b0:=F0.binds (ps:=["begin", "goal", "long", "turned", "place"]) fun _ _ _ _ _ _ us hl => match us,hl with | [_,_,_,_,_],_ => rfl
 have F1:=fun_mk (st:=s_forth) l1 c1 k1
 have b1:=F1.binds (ps:=["pairing", "place"]) fun _ _ _ _ _ _ us hl => match us,hl with | [_,_],_ => rfl
 have F2:=fun_mk (st:=s_sum_of_weights) l2 c2 k2
 have b2:=F2.binds (ps:=["one", "other"]) fun _ _ _ _ _ _ us hl => match us,hl with | [_,_],_ => rfl
 have F3:=fun_mk (st:=s_sorts) l3 c3 k3
 have b3:=F3.binds (ps:=["weighing"]) fun _ _ _ _ _ _ us hl => match us,hl with | [_],_ => rfl
 have F4:=fun_mk (st:=s_beside_each) l4 c4 k4
 have b4:=F4.binds (ps:=["n", "links"]) fun _ _ _ _ _ _ us hl => match us,hl with | [_,_],_ => rfl
 have F5:=fun_mk (st:=s_room_from) l5 c5 k5
 have b5:=F5.binds (ps:=["start", "beside", "is_seen"]) fun _ _ _ _ _ _ us hl => match us,hl with | [_,_,_],_ => rfl
 have F6:=fun_mk (st:=s_linked) l6 c6 k6
 have b6:=F6.binds (ps:=["n", "links"]) fun _ _ _ _ _ _ us hl => match us,hl with | [_,_],_ => rfl
 have F7:=fun_mk (st:=s_links_of) l7 c7 k7
 have b7:=F7.binds (ps:=["pairing"]) fun _ _ _ _ _ _ us hl => match us,hl with | [_],_ => rfl
 have F8:=fun_mk (st:=s_rooms) l8 c8 k8
 have b8:=F8.binds (ps:=["hall"]) fun _ _ _ _ _ _ us hl => match us,hl with | [_],_ => rfl
 have F9:=fun_mk (st:=s_weights_of) l9 c9 k9
 have b9:=F9.binds (ps:=["room", "places"]) fun _ _ _ _ _ _ us hl => match us,hl with | [_,_],_ => rfl
 have F10:=fun_mk (st:=s_sorts_walked) l10 c10 k10
 have b10:=F10.binds (ps:=["hall"]) fun _ _ _ _ _ _ us hl => match us,hl with | [_],_ => rfl
 have F11:=fun_mk (st:=s__law_cell_at) l11 c11 k11
 have b11:=F11.binds (ps:=["_law_script", "_law_k"]) fun _ _ _ _ _ _ us hl => match us,hl with | [_,_],_ => rfl
 have F12:=fun_mk (st:=s__law_purse) l12 c12 k12
 have b12:=F12.binds (ps:=["_law_script", "_law_at"]) fun _ _ _ _ _ _ us hl => match us,hl with | [_,_],_ => rfl
 have F13:=fun_mk (st:=s__law_take) l13 c13 k13
 have b13:=F13.binds (ps:=["_law_draw", "_law_many"]) fun _ _ _ _ _ _ us hl => match us,hl with | [_,_],_ => rfl
 have F14:=fun_mk (st:=s__law_number) l14 c14 k14
 have b14:=F14.binds (ps:=["_law_draw"]) fun _ _ _ _ _ _ us hl => match us,hl with | [_],_ => rfl
 have F15:=fun_mk (st:=s__law_weights) l15 c15 k15
 have b15:=F15.binds (ps:=["_law_draw", "_law_wide_here"]) fun _ _ _ _ _ _ us hl => match us,hl with | [_,_],_ => rfl
 have F16:=fun_mk (st:=s__law_shape) l16 c16 k16
 have b16:=F16.binds (ps:=["_law_pieces"]) fun _ _ _ _ _ _ us hl => match us,hl with | [_],_ => rfl
 have F17:=fun_mk (st:=s__law_wide) l17 c17 k17
 have b17:=F17.binds (ps:=["_law_draw"]) fun _ _ _ _ _ _ us hl => match us,hl with | [_],_ => rfl
 have F18:=fun_mk (st:=s__law_fitted) l18 c18 k18
 have b18:=F18.binds (ps:=["_law_draw", "_law_wide_here", "_law_long"]) fun _ _ _ _ _ _ us hl => match us,hl with | [_,_,_],_ => rfl
 have F19:=fun_mk (st:=s__law_hall_pairings) l19 c19 k19
 have b19:=F19.binds (ps:=["_law_draw", "_law_n"]) fun _ _ _ _ _ _ us hl => match us,hl with | [_,_],_ => rfl
 have F20:=fun_mk (st:=s__law_hall) l20 c20 k20
 have b20:=F20.binds (ps:=["_law_draw"]) fun _ _ _ _ _ _ us hl => match us,hl with | [_],_ => rfl
 have F21:=fun_mk (st:=s__law_pairs) l21 c21 k21
 have b21:=F21.binds (ps:=["_law_pairing"]) fun _ _ _ _ _ _ us hl => match us,hl with | [_],_ => rfl
 have F22:=fun_mk (st:=s__law_rooms) l22 c22 k22
 have b22:=F22.binds (ps:=["_law_n", "_law_pairings"]) fun _ _ _ _ _ _ us hl => match us,hl with | [_,_],_ => rfl
 have F23:=fun_mk (st:=s__law_plus) l23 c23 k23
 have b23:=F23.binds (ps:=["_law_one", "_law_other"]) fun _ _ _ _ _ _ us hl => match us,hl with | [_,_],_ => rfl
 have F24:=fun_mk (st:=s__law_sorts) l24 c24 k24
 have b24:=F24.binds (ps:=["_law_hall_here"]) fun _ _ _ _ _ _ us hl => match us,hl with | [_],_ => rfl
 have F25:=fun_mk (st:=s__law_copied) l25 c25 k25
 have b25:=F25.binds (ps:=["_law_hall_here"]) fun _ _ _ _ _ _ us hl => match us,hl with | [_],_ => rfl
 have F26:=fun_mk (st:=s__law_whole) l26 c26 k26
 have b26:=F26.binds (ps:=["_law_thing"]) fun _ _ _ _ _ _ us hl => match us,hl with | [_],_ => rfl
 have F27:=fun_mk (st:=s__law_kinds) l27 c27 k27
 have b27:=F27.binds (ps:=["_law_told"]) fun _ _ _ _ _ _ us hl => match us,hl with | [_],_ => rfl
 have F28:=fun_mk (st:=s_law) l28 c28 k28
 refine ⟨PySem.W.fnOf "law" "law" (defArgs s_law) (defBody s_law) (defScope s_law) .none kV28 dc28 pm28 an28 cd28 ct28,fun s v => .of_eq rfl,fun base _ _ => ?_⟩
 have G_law_cell_at:Kn l.prog w K mg base "_law_cell_at" _ ["_law_script", "_law_k"] _:=⟨⟨f11,_,ok_cell F11 M ,PySem.W.mg_of X G a11,k11,b11⟩⟩
 have G_law_purse:Kn l.prog w K mg base "_law_purse" _ ["_law_script", "_law_at"] _:=⟨⟨f12,_,ok_purse F12 M G_law_cell_at,PySem.W.mg_of X G a12,k12,b12⟩⟩
 have G_law_take:Kn l.prog w K mg base "_law_take" _ ["_law_draw", "_law_many"] _:=⟨⟨f13,_,ok_take F13 M ,PySem.W.mg_of X G a13,k13,b13⟩⟩
 have G_law_number:Kn l.prog w K mg base "_law_number" _ ["_law_draw"] _:=⟨⟨f14,_,ok_number F14 M G_law_take,PySem.W.mg_of X G a14,k14,b14⟩⟩
 have G_law_weights:Kn l.prog w K mg base "_law_weights" _ ["_law_draw", "_law_wide_here"] _:=⟨⟨f15,_,ok_weights F15 M G_law_number,PySem.W.mg_of X G a15,k15,b15⟩⟩
 have G_law_shape:Kn l.prog w K mg base "_law_shape" _ ["_law_pieces"] _:=⟨⟨f16,_,ok_shape F16 M ,PySem.W.mg_of X G a16,k16,b16⟩⟩
 have G_law_wide:Kn l.prog w K mg base "_law_wide" _ ["_law_draw"] _:=⟨⟨f17,_,ok_wide F17 M G_law_take,PySem.W.mg_of X G a17,k17,b17⟩⟩
 have G_law_fitted:Kn l.prog w K mg base "_law_fitted" _ ["_law_draw", "_law_wide_here", "_law_long"] _:=⟨⟨f18,_,ok_fitted F18 M G_law_take G_law_weights G_law_shape GB,PySem.W.mg_of X G a18,k18,b18⟩⟩
 have Gled:Kn l.prog w K mg base "led" _ ["begin", "goal", "long", "turned", "place"] _:=⟨⟨f0,_,ok_led F0 M ,PySem.W.mg_of X G a0,k0,b0⟩⟩
 have Gforth:Kn l.prog w K mg base "forth" _ ["pairing", "place"] _:=⟨⟨f1,_,ok_forth F1 M Gled,PySem.W.mg_of X G a1,k1,b1⟩⟩
 have Gbeside_each:Kn l.prog w K mg base "beside_each" _ ["n", "links"] _:=⟨⟨f4,_,ok_beside F4 M ,PySem.W.mg_of X G a4,k4,b4⟩⟩
 have Groom_from:Kn l.prog w K mg base "room_from" _ ["start", "beside", "is_seen"] _:=⟨⟨f5,_,ok_room F5 M ,PySem.W.mg_of X G a5,k5,b5⟩⟩
 have Glinked:Kn l.prog w K mg base "linked" _ ["n", "links"] _:=⟨⟨f6,_,ok_linked F6 M Gbeside_each Groom_from,PySem.W.mg_of X G a6,k6,b6⟩⟩
 have Glinks_of:Kn l.prog w K mg base "links_of" _ ["pairing"] _:=⟨⟨f7,_,ok_links F7 M Gforth,PySem.W.mg_of X G a7,k7,b7⟩⟩
 have Grooms:Kn l.prog w K mg base "rooms" _ ["hall"] _:=⟨⟨f8,_,ok_rooms F8 M Glinked Glinks_of GB,PySem.W.mg_of X G a8,k8,b8⟩⟩
 have Gsum_of_weights:Kn l.prog w K mg base "sum_of_weights" _ ["one", "other"] _:=⟨⟨f2,_,ok_sow F2 M GB,PySem.W.mg_of X G a2,k2,b2⟩⟩
 have Gsorts:Kn l.prog w K mg base "sorts" _ ["weighing"] _:=⟨⟨f3,_,ok_sorts F3 M ,PySem.W.mg_of X G a3,k3,b3⟩⟩
 have Gweights_of:Kn l.prog w K mg base "weights_of" _ ["room", "places"] _:=⟨⟨f9,_,ok_wof F9 M Gsum_of_weights,PySem.W.mg_of X G a9,k9,b9⟩⟩
 have Gsorts_walked:Kn l.prog w K mg base "sorts_walked" _ ["hall"] _:=⟨⟨f10,_,ok_sw F10 M Grooms Gsorts Gweights_of,PySem.W.mg_of X G a10,k10,b10⟩⟩
 have G_law_hall_pairings:Kn l.prog w K mg base "_law_hall_pairings" _ ["_law_draw", "_law_n"] _:=⟨⟨f19,_,ok_hps F19 M G_law_take,PySem.W.mg_of X G a19,k19,b19⟩⟩
 have G_law_hall:Kn l.prog w K mg base "_law_hall" _ ["_law_draw"] _:=⟨⟨f20,_,ok_hall F20 M G_law_take G_law_hall_pairings G_law_fitted G_law_wide,PySem.W.mg_of X G a20,k20,b20⟩⟩
 have G_law_pairs:Kn l.prog w K mg base "_law_pairs" _ ["_law_pairing"] _:=⟨⟨f21,_,ok_pairs F21 M ,PySem.W.mg_of X G a21,k21,b21⟩⟩
 have G_law_rooms:Kn l.prog w K mg base "_law_rooms" _ ["_law_n", "_law_pairings"] _:=⟨⟨f22,_,ok_lrooms F22 M G_law_pairs,PySem.W.mg_of X G a22,k22,b22⟩⟩
 have G_law_copied:Kn l.prog w K mg base "_law_copied" _ ["_law_hall_here"] _:=⟨⟨f25,_,ok_copied F25 M ,PySem.W.mg_of X G a25,k25,b25⟩⟩
 have G_law_whole:Kn l.prog w K mg base "_law_whole" _ ["_law_thing"] _:=⟨⟨f26,_,ok_wholeL F26 M ,PySem.W.mg_of X G a26,k26,b26⟩⟩
 have G_law_plus:Kn l.prog w K mg base "_law_plus" _ ["_law_one", "_law_other"] _:=⟨⟨f23,_,ok_plus F23 M GB,PySem.W.mg_of X G a23,k23,b23⟩⟩
 have G_law_sorts:Kn l.prog w K mg base "_law_sorts" _ ["_law_hall_here"] _:=⟨⟨f24,_,ok_lsorts F24 M G_law_rooms G_law_plus,PySem.W.mg_of X G a24,k24,b24⟩⟩
 have G_law_kinds:Kn l.prog w K mg base "_law_kinds" _ ["_law_told"] _:=⟨⟨f27,_,ok_kinds F27 M G_law_whole,PySem.W.mg_of X G a27,k27,b27⟩⟩
 exact ok_law F28 M G_law_purse G_law_hall G_law_copied G_law_sorts Gsorts_walked G_law_kinds
theorem walk {l:PySem.W.OpenLaw} {q:Program} {loose:List Str} {XP:(Str→Option Value)→Heap→Prop} {YP:World→Heap→Prop} {d:DefRec} {K:Params→PySem.W.Frag} (hn:l.most=some 63) (hdf:d.params.defaults=[])
  (hY:∀ (w:World) (h:Heap),YP w h→(K w.params).In h)
  (F:∀ (w:World) (mg:Str→Option Value) (fa:Addr) (h:Heap),(K w.params).In h→h.Ns mainGlobals mg→mg d.name=some (.ref fa) →
   ∃ fd:FuncData,(∀ (s:Shared) (u:Value),BindsTo s fd ⟨[u],[]⟩ [("_law_script",u)])∧∀ base:Heap,(K w.params).In base→base.Ns mainGlobals mg→FnOk l.prog w (K w.params) mg base CX0 6 fa fd ["_law_script"] (spLaw (K w.params))) :
  PySem.W.WalkO q loose XP YP l.row.toRowW d [] (fun f vs => PySem.call f vs) :=
 L2.walk_of (n:=63) (k:=6) (x := "_law_script") (CX:=fun _ => CX0) (sp:=fun w => spLaw (K w.params)) hn (by decide) hdf ⟨rfl,by decide,by decide,rfl⟩ hY F (fun _ _ a ns hl _ hS => ⟨a,ns,rfl,hS,hl,fun _ => rfl⟩) fun _ _ _ _ _ z => z
end Toy
open PySem PySem.W PyProof.Rows
set_option maxRecDepth 100000 in
set_option maxHeartbeats 0 in
theorem PySem.Challenge.cw_farcords_k20_sorts_walked_holds : PySem.Challenge.rw_farcords_k20_sorts_walked.Holds := by
 w_on; o_law; k_head; (case hw => w_witness2)
 k_fill
 refine Toy.walk (l:=PySem.Challenge.rw_farcords_k20_sorts_walked) rfl rfl (fun w h Y => PySem.W.kIn_of Y) ?F
 case F =>
  intro w mg fa h KX G hmg
  refine' Toy.all_mk KX G hmg ?a0 ?l0 ?c0 ?k0 ?a1 ?l1 ?c1 ?k1 ?a2 ?l2 ?c2 ?k2 ?a3 ?l3 ?c3 ?k3 ?a4 ?l4 ?c4 ?k4 ?a5 ?l5 ?c5 ?k5 ?a6 ?l6 ?c6 ?k6 ?a7 ?l7 ?c7 ?k7 ?a8 ?l8 ?c8 ?k8 ?a9 ?l9 ?c9 ?k9 ?a10 ?l10 ?c10 ?k10 ?a11 ?l11 ?c11 ?k11 ?a12 ?l12 ?c12 ?k12 ?a13 ?l13 ?c13 ?k13 ?a14 ?l14 ?c14 ?k14 ?a15 ?l15 ?c15 ?k15 ?a16 ?l16 ?c16 ?k16 ?a17 ?l17 ?c17 ?k17 ?a18 ?l18 ?c18 ?k18 ?a19 ?l19 ?c19 ?k19 ?a20 ?l20 ?c20 ?k20 ?a21 ?l21 ?c21 ?k21 ?a22 ?l22 ?c22 ?k22 ?a23 ?l23 ?c23 ?k23 ?a24 ?l24 ?c24 ?k24 ?a25 ?l25 ?c25 ?k25 ?a26 ?l26 ?c26 ?k26 ?a27 ?l27 ?c27 ?k27 ?a28 ?l28 ?c28 ?k28 ?g_MOST_PLACES ?g_zip ?g_set ?z_len ?z_range ?z_min ?z_max ?z_isinstance ?z_bool ?z_int ?z_tuple ?z_list ?z_str ?z_all ?z_sum ?z_sorted
  (case a0 => k_is)
  (case l0 => k_is)
  (case c0 => k_is)
  (case k0 => k_is)
  (case a1 => k_is)
  (case l1 => k_is)
  (case c1 => k_is)
  (case k1 => k_is)
  (case a2 => k_is)
  (case l2 => k_is)
  (case c2 => k_is)
  (case k2 => k_is)
  (case a3 => k_is)
  (case l3 => k_is)
  (case c3 => k_is)
  (case k3 => k_is)
  (case a4 => k_is)
  (case l4 => k_is)
  (case c4 => k_is)
  (case k4 => k_is)
  (case a5 => k_is)
  (case l5 => k_is)
  (case c5 => k_is)
  (case k5 => k_is)
  (case a6 => k_is)
  (case l6 => k_is)
  (case c6 => k_is)
  (case k6 => k_is)
  (case a7 => k_is)
  (case l7 => k_is)
  (case c7 => k_is)
  (case k7 => k_is)
  (case a8 => k_is)
  (case l8 => k_is)
  (case c8 => k_is)
  (case k8 => k_is)
  (case a9 => k_is)
  (case l9 => k_is)
  (case c9 => k_is)
  (case k9 => k_is)
  (case a10 => k_is)
  (case l10 => k_is)
  (case c10 => k_is)
  (case k10 => k_is)
  (case a11 => k_is)
  (case l11 => k_is)
  (case c11 => k_is)
  (case k11 => k_is)
  (case a12 => k_is)
  (case l12 => k_is)
  (case c12 => k_is)
  (case k12 => k_is)
  (case a13 => k_is)
  (case l13 => k_is)
  (case c13 => k_is)
  (case k13 => k_is)
  (case a14 => k_is)
  (case l14 => k_is)
  (case c14 => k_is)
  (case k14 => k_is)
  (case a15 => k_is)
  (case l15 => k_is)
  (case c15 => k_is)
  (case k15 => k_is)
  (case a16 => k_is)
  (case l16 => k_is)
  (case c16 => k_is)
  (case k16 => k_is)
  (case a17 => k_is)
  (case l17 => k_is)
  (case c17 => k_is)
  (case k17 => k_is)
  (case a18 => k_is)
  (case l18 => k_is)
  (case c18 => k_is)
  (case k18 => k_is)
  (case a19 => k_is)
  (case l19 => k_is)
  (case c19 => k_is)
  (case k19 => k_is)
  (case a20 => k_is)
  (case l20 => k_is)
  (case c20 => k_is)
  (case k20 => k_is)
  (case a21 => k_is)
  (case l21 => k_is)
  (case c21 => k_is)
  (case k21 => k_is)
  (case a22 => k_is)
  (case l22 => k_is)
  (case c22 => k_is)
  (case k22 => k_is)
  (case a23 => k_is)
  (case l23 => k_is)
  (case c23 => k_is)
  (case k23 => k_is)
  (case a24 => k_is)
  (case l24 => k_is)
  (case c24 => k_is)
  (case k24 => k_is)
  (case a25 => k_is)
  (case l25 => k_is)
  (case c25 => k_is)
  (case k25 => k_is)
  (case a26 => k_is)
  (case l26 => k_is)
  (case c26 => k_is)
  (case k26 => k_is)
  (case a27 => k_is)
  (case l27 => k_is)
  (case c27 => k_is)
  (case k27 => k_is)
  (case a28 => k_is)
  (case l28 => k_is)
  (case c28 => k_is)
  (case k28 => k_is)
  (case g_MOST_PLACES => k_is)
  (case g_zip => k_is)
  (case g_set => k_is)
  (case z_len => k_is)
  (case z_range => k_is)
  (case z_min => k_is)
  (case z_max => k_is)
  (case z_isinstance => k_is)
  (case z_bool => k_is)
  (case z_int => k_is)
  (case z_tuple => k_is)
  (case z_list => k_is)
  (case z_str => k_is)
  (case z_all => k_is)
  (case z_sum => k_is)
  (case z_sorted => k_is)
#print axioms PySem.Challenge.cw_farcords_k20_sorts_walked_holds
