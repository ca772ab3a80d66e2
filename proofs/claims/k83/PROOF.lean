import PyProof.Rows.All
import Wide.All
import OpenK.AllK
import Wide.FinOn
import Lean
import PyProof.EqAt
import PyProof.EqKinds
import PyProof.TupleCall
import PyProof.NeData
import PyProof.SumAny
import PyProof.ReprRoads
import PyProof.CallStr
import PyProof.ReprLen
import PyProof.Rows.StrDigitsNeg
import PyProof.Rows.StrJoinMade
import KE.KRevIter
import PyProof.JoinWalk
import PyProof.CollectIter
import PyProof.SliceStr2
import PyProof.Rows.FStr
import PyProof.Rows.RuleDivmod
import PyProof.Rows.StrWeight2
import PyProof.StrBlock2
import KE.KxWritten
import PyProof.Rows.ZipGen
import KE.KIntText
import PyProof.ListRange
import PyProof.TupleOfSeq
import PyProof.SetScanFacts
import PyProof.SetKind
import PyProof.Rows.SetFrom
import PyProof.SetRoads
import PyProof.Rows.SortShell
import PyProof.ListMulRoad
import PyProof.ListMulAny
import PyProof.FactsAll.tuple
import PyProof.RulesAssignMore
import PyProof.ZipIter
import PyProof.TupleIter
import PyProof.EnumFor
import PyProof.EnumMake
import PyProof.FitsBits
import KE.KDictList
import PyProof.Rows.SortShellK
import PyProof.TupleKey
import KE.KItemsList
import KE.KSortTup
import PyProof.Rows.ListMulR
import PyProof.FactsAll.list_2
import PyProof.FactsAll.list_4
import PyProof.Rows.BitMore
import PyProof.WalkInts
import PyProof.ListIndex
import PyProof.ExcArgsOwn
import PyProof.ExcAttrAll.ValueError
import PyProof.ExcBaseAll.ValueError
import PyProof.P3Eq
import PyProof.P3In
import PyProof.Rows.FinIter
import PySem.Challenge.RW_farcords_k83_rows_read
def PySem.W.Fast.tw4274820214763729262:Unit:=()
def PySem.W.Fast.tw14946923864576476558:Unit:=()
def PySem.W.Fast.tw13472835162753949998:Unit:=()
def PySem.W.Fast.tw3693518547137862670:Unit:=()
def PySem.W.Fast.tw4412556672184002478:Unit:=()
def PySem.W.Fast.tw13535774367944475310:Unit:=()
def PySem.W.Fast.tw13584922674611901166:Unit:=()
def PySem.W.Fast.tw16965325053104455:Unit:=()
def PySem.W.Fast.tw1738420503836879399:Unit:=()
def PySem.W.Fast.tw2833731415972283399:Unit:=()
def PySem.W.Fast.tw17941018611394444231:Unit:=()
def PySem.W.Fast.tw5784078450296022780:Unit:=()
def PySem.W.Fast.tw2324971139806571452:Unit:=()
def PySem.W.Fast.tw14045643571777916380:Unit:=()
def PySem.W.Fast.tw1684435185926603004:Unit:=()
def PySem.W.Fast.tw5131675897995180476:Unit:=()
def PySem.W.Fast.tw17024451555611841980:Unit:=()
def PySem.W.Fast.tw15472103834919341205:Unit:=()
def PySem.W.Fast.tw3401407979820672245:Unit:=()
def PySem.W.Fast.tw1621574714030351541:Unit:=()
def PySem.W.Fast.tw9969995083110299509:Unit:=()
def PySem.W.Fast.tw11539387391856472885:Unit:=()
def PySem.W.Fast.tw6710937494659071541:Unit:=()
def PySem.W.Fast.tw8506879185895645973:Unit:=()
def PySem.W.Fast.tw73710392796497653:Unit:=()
def PySem.W.Fast.tw10064607325799205237:Unit:=()
def PySem.W.Fast.tw2418580246097623573:Unit:=()
def PySem.W.Fast.tw15371489686479384842:Unit:=()
def PySem.W.Fast.tw2850919117045002:Unit:=()
def PySem.W.Fast.tw3179945156961334378:Unit:=()
def PySem.W.Fast.tw470018953289352522:Unit:=()
def PySem.W.Fast.tw230920506632921162:Unit:=()
def PySem.W.Fast.tw4071691284858564202:Unit:=()
def PySem.W.Fast.tw17152662734561496586:Unit:=()
def PySem.W.Fast.tw5222399523796965834:Unit:=()
def PySem.W.Fast.tw14879253085920545235:Unit:=()
def PySem.W.Fast.tw6107704842709436371:Unit:=()
def PySem.W.Fast.tw2669821338187398904:Unit:=()
def PySem.W.Fast.tw18101530656195438456:Unit:=()
def PySem.W.Fast.tw13318205709333359960:Unit:=()
def PySem.W.Fast.tw6097384291650951992:Unit:=()
def PySem.W.Fast.tw4085415290238723896:Unit:=()
def PySem.W.Fast.tw5109729099171970072:Unit:=()
def PySem.W.Fast.tw12135407440026381665:Unit:=()
def PySem.W.Fast.tw7625756198592539969:Unit:=()
def PySem.W.Fast.tw4133822330256519489:Unit:=()
def PySem.W.Fast.tw6010012257147275233:Unit:=()
def PySem.W.Fast.tw8427390330680865761:Unit:=()
def PySem.W.Fast.tw13259007354731693217:Unit:=()
def PySem.W.Fast.tw6553033172411444289:Unit:=()
def PySem.W.Fast.tw11939796996985188033:Unit:=()
def PySem.W.Fast.tw3056275697214355126:Unit:=()
def PySem.W.Fast.tw1552641235071882550:Unit:=()
def PySem.W.Fast.tw2633710910799869238:Unit:=()
def PySem.W.Fast.tw16727598929154370774:Unit:=()
def PySem.W.Fast.tw12504150057986983279:Unit:=()
def PySem.W.Fast.tw14248839338675415055:Unit:=()
def PySem.W.Fast.tw12516980671313333231:Unit:=()
def PySem.W.Fast.tw1458960024401920207:Unit:=()
def PySem.W.Fast.tw4647325461034476591:Unit:=()
def PySem.W.Fast.tw14852265537802878735:Unit:=()
def PySem.W.Fast.tw12638831253818482479:Unit:=()
def PySem.W.Fast.tw10952337278945549007:Unit:=()
def PySem.W.Fast.tw8485802786548441647:Unit:=()
def PySem.W.Fast.tw17904930575497827887:Unit:=()
def PySem.W.Fast.tw12749984037868984879:Unit:=()
def PySem.W.Fast.tw6096610959488556303:Unit:=()
def PySem.W.Fast.tw16756215515528701380:Unit:=()
def PySem.W.Fast.tw1433569111218834500:Unit:=()
def PySem.W.Fast.tw2829141224546194244:Unit:=()
def PySem.W.Fast.tw7611656508364760772:Unit:=()
def PySem.W.Fast.tw8828752961567312413:Unit:=()
def PySem.W.Fast.tw10093074703332075261:Unit:=()
def PySem.W.Fast.tw12124348775711799645:Unit:=()
def PySem.W.Fast.tw15191373353291635741:Unit:=()
def PySem.W.Fast.tw10403764169494894749:Unit:=()
def PySem.W.Fast.tw15544955441995255794:Unit:=()
def PySem.W.Fast.tw12056317823370782354:Unit:=()
def PySem.W.Fast.tw2844556577209231634:Unit:=()
def PySem.W.Fast.tw6568395104636216594:Unit:=()
def PySem.W.Fast.tw16638285561178544306:Unit:=()
def PySem.W.Fast.tw16366318904088085650:Unit:=()
def PySem.W.Fast.tw8577601703415403378:Unit:=()
def PySem.W.Fast.tw13028268119464149778:Unit:=()
def PySem.W.Fast.tw5351080850862052059:Unit:=()
def PySem.W.Fast.tw13333083424861860379:Unit:=()
def PySem.W.Fast.tw10722528756233015675:Unit:=()
def PySem.W.Fast.tw13504705837039106043:Unit:=()
def PySem.W.Fast.tw8224624000569783099:Unit:=()
def PySem.W.Fast.tw4668743624273867840:Unit:=()
def PySem.W.Fast.tw13221621748707806112:Unit:=()
def PySem.W.Fast.tw11490931486667669536:Unit:=()
def PySem.W.Fast.tw1391290583833950089:Unit:=()
def PySem.W.Fast.tw2055533996233186025:Unit:=()
def PySem.W.Fast.tw15410405420156048937:Unit:=()
def PySem.W.Fast.tw7037349540791424393:Unit:=()
def PySem.W.Fast.tw8002899149536844073:Unit:=()
def PySem.W.Fast.tw13198368408700488030:Unit:=()
def PySem.W.Fast.tw3064210033218407614:Unit:=()
def PySem.W.Fast.tw17581047111422488734:Unit:=()
def PySem.W.Fast.tw9030659780181509822:Unit:=()
def PySem.W.Fast.tw9162781346418300606:Unit:=()
def PySem.W.Fast.tw16701242476502325150:Unit:=()
def PySem.W.Fast.tw3453880790822655614:Unit:=()
def PySem.W.Fast.tw14586993923585183454:Unit:=()
def PySem.W.Fast.tw7201004923014565399:Unit:=()
def PySem.W.Fast.tw12460463577885593431:Unit:=()
def PySem.W.Fast.tw15351452151859497292:Unit:=()
def PySem.W.Fast.tw1251690016055985573:Unit:=()
def PySem.W.Fast.tw8143741295808799141:Unit:=()
def PySem.W.Fast.tw6166039914301007909:Unit:=()
def PySem.W.Fast.tw6262077427339566245:Unit:=()
def PySem.W.Fast.tw9233048996666949477:Unit:=()
def PySem.W.Fast.tw1016404754056265157:Unit:=()
def PySem.W.Fast.tw14725109377503608186:Unit:=()
def PySem.W.Fast.tw1733137147823130810:Unit:=()
def PySem.W.Fast.tw12492336367344601722:Unit:=()
def PySem.W.Fast.tw5628811127719614170:Unit:=()
def PySem.W.Fast.tw9047792016183162298:Unit:=()
def PySem.W.Fast.tw14287826415828956611:Unit:=()
def PySem.W.Fast.tw16017753225581562979:Unit:=()
def PySem.W.Fast.tw17573625616507442243:Unit:=()
def PySem.W.Fast.tw10087577726060079171:Unit:=()
def PySem.W.Fast.tw11363321483485983971:Unit:=()
def PySem.W.Fast.tw9735147564418586819:Unit:=()
def PySem.W.Fast.tw10471599109420387523:Unit:=()
def PySem.W.Fast.tw16417734480875563939:Unit:=()
def PySem.W.Fast.tw11767286669902345155:Unit:=()
def PySem.W.Fast.tw4205912337595456227:Unit:=()
def PySem.W.Fast.tw2262075957743437219:Unit:=()
def PySem.W.Fast.tw17811674439422157347:Unit:=()
def PySem.W.Fast.tw1533982997084734216:Unit:=()
def PySem.W.Fast.tw13012723389835976072:Unit:=()
def PySem.W.Fast.tw14571134297270892072:Unit:=()
def PySem.W.Fast.tw17634505421145290088:Unit:=()
def PySem.W.Fast.tw1905850869917770952:Unit:=()
def PySem.W.Fast.tw14718755898201944849:Unit:=()
def PySem.W.Fast.tw3362255584797913553:Unit:=()
def PySem.W.Fast.tw323458232393559505:Unit:=()
def PySem.W.Fast.tw16728615463607473841:Unit:=()
def PySem.W.Fast.tw9602291809751910801:Unit:=()
def PySem.W.Fast.tw15094154983972399025:Unit:=()
def PySem.W.Fast.tw16619329661571632689:Unit:=()
def PySem.W.Fast.tw16719830657037429190:Unit:=()
def PySem.W.Fast.tw10981898471409815910:Unit:=()
def PySem.W.Fast.tw1964330677495852806:Unit:=()
def PySem.W.Fast.tw873921673394796831:Unit:=()
def PySem.W.Fast.tw172828703578080628:Unit:=()
def PySem.W.Fast.tw11810836236188734516:Unit:=()
def PySem.W.Fast.tw15732403398843093844:Unit:=()
def PySem.W.Fast.tw4700373568838263444:Unit:=()
def PySem.W.Fast.tw15696009767905499828:Unit:=()
def PySem.W.Fast.tw13838186164247883437:Unit:=()
def PySem.W.Fast.tw14862841281720542509:Unit:=()
def PySem.W.Fast.tw7874444066908584589:Unit:=()
def PySem.W.Fast.tw13861515046404049506:Unit:=()
def PySem.W.Fast.tw17899614694075583298:Unit:=()
def PySem.W.Fast.tw6106179151516560930:Unit:=()
def PySem.W.Fast.tw2947136048334971618:Unit:=()
def PySem.W.Fast.tw6440229358806623874:Unit:=()
def PySem.W.Fast.tw5069444997489116450:Unit:=()
def PySem.W.Fast.tw9352661742489315330:Unit:=()
def PySem.W.Fast.tw13823286884366052194:Unit:=()
def PySem.W.Fast.tw8029542775359787499:Unit:=()
def PySem.W.Fast.tw7264597797035859403:Unit:=()
def PySem.W.Fast.tw12416217392275233067:Unit:=()
def PySem.W.Fast.tw645088485324321803:Unit:=()
def PySem.W.Fast.tw7572211338109068395:Unit:=()
def PySem.W.Fast.tw550326661721727883:Unit:=()
def PySem.W.Fast.tw14692136440327658283:Unit:=()
def PySem.W.Fast.tw9597991128654449072:Unit:=()
def PySem.W.Fast.tw11299601159672251600:Unit:=()
def PySem.W.Fast.tw5538371238262095760:Unit:=()
def PySem.W.Fast.tw15051054232562121840:Unit:=()
def PySem.W.Fast.tw16035370286447658000:Unit:=()
def PySem.W.Fast.tw16103247901693891504:Unit:=()
def PySem.W.Fast.tw13510655267828198256:Unit:=()
def PySem.W.Fast.tw14480477303115865584:Unit:=()
def PySem.W.Fast.tw8836711467542137552:Unit:=()
def PySem.W.Fast.tw8012315713032808633:Unit:=()
def PySem.W.Fast.tw14215604684791403705:Unit:=()
def PySem.W.Fast.tw1637839507378429849:Unit:=()
def PySem.W.Fast.tw671308501721967129:Unit:=()
def PySem.W.Fast.tw4260720377251700089:Unit:=()
set_option Elab.async false
set_option linter.all false
set_option maxRecDepth 100000
namespace L2
open PySem PySem.Spec PyProof.Rows
abbrev Key:=Sum Int Str
def keyIs:Key→Value→Bool
 | .inl k,v => Value.isInt k v
 | .inr x,v => Value.isStrOf x v
def keyH (w:World):Key→Int
 | .inl k => hashInt k
 | .inr x => hashStr w x
theorem keyIs_shape:∀ {k:Key} {v:Value},keyIs k v=true→(∃ i t,k=Sum.inl i∧v=Value.int i t) ∨ (∃ x t,k=Sum.inr x∧v=Value.str x t)
 | .inl i,v,h => by
  obtain ⟨t,e⟩:=Value.isInt_shape (k:=i) (v:=v) h
  exact .inl ⟨i,t,rfl,e⟩
 | .inr x,v,h => by
  obtain ⟨t,e⟩:=Value.isStrOf_shape (x:=x) (v:=v) h
  exact .inr ⟨x,t,rfl,e⟩
theorem key_ll (a b:Int):decide ((Sum.inl a:Key)=Sum.inl b)=(a == b):=by
 by_cases e:a=b
 ·subst e; simp
 ·have h : ¬ (Sum.inl a:Key)=Sum.inl b:=fun q => e (Sum.inl.inj q)
  rw [decide_eq_false h]
  exact (beq_eq_false_iff_ne.mpr e).symm
theorem key_rr (a b:Str):decide ((Sum.inr a:Key)=Sum.inr b)=decide (a=b):=by
 by_cases e:a=b
 ·subst e; simp
 ·have h : ¬ (Sum.inr a:Key)=Sum.inr b:=fun q => e (Sum.inr.inj q)
  rw [decide_eq_false h,decide_eq_false e]
theorem key_lr (a:Int) (b:Str):decide ((Sum.inl a:Key)=Sum.inr b)=false:=decide_eq_false (fun q => nomatch q)
theorem key_rl (a:Str) (b:Int):decide ((Sum.inr a:Key)=Sum.inl b)=false:=decide_eq_false (fun q => nomatch q)
def mixKind (prog:Program) (w:World):PySem.KeyKind prog w Key where
 is:=keyIs
 hash:=keyH w
 inj:=fun v a b ha hb => by
  rcases keyIs_shape ha with ⟨i,t,rfl,rfl⟩ | ⟨x,t,rfl,rfl⟩
  ·rcases keyIs_shape hb with ⟨j,u,rfl,e⟩ | ⟨y,u,rfl,e⟩
   ·injection e with e1 _; rw [e1]
   ·exact nomatch e
  ·rcases keyIs_shape hb with ⟨j,u,rfl,e⟩ | ⟨y,u,rfl,e⟩
   ·exact nomatch e
   ·injection e with e1 _; rw [e1]
 byValue:=fun k v h => by
  rcases keyIs_shape h with ⟨i,t,rfl,rfl⟩ | ⟨x,t,rfl,rfl⟩ <;> rfl
 pyHash:=fun hv h => by
  rcases keyIs_shape hv with ⟨i,t,rfl,rfl⟩ | ⟨x,t,rfl,rfl⟩
  ·exact wpAny_pyHash_int h
  ·exact wpAny_pyHash_str h
 eqBool:=fun hu hv h => by
  rcases keyIs_shape hu with ⟨i,t,rfl,rfl⟩ | ⟨x,t,rfl,rfl⟩
  ·rcases keyIs_shape hv with ⟨j,u,rfl,rfl⟩ | ⟨y,u,rfl,rfl⟩
   ·rw [key_ll] at h; exact wpAny_eqBool_int h
   ·rw [key_lr] at h; exact SeqAt.EqAt.int_str i t y u _ _ _ _ h
  ·rcases keyIs_shape hv with ⟨j,u,rfl,rfl⟩ | ⟨y,u,rfl,rfl⟩
   ·rw [key_rl] at h; exact SeqAt.EqAt.str_int x t j u _ _ _ _ h
   ·rw [key_rr] at h; exact wpAny_eqBool_str h
 «strs»:=fun k x t v h => by
  rcases keyIs_shape h with ⟨i,u,rfl,e⟩ | ⟨y,u,rfl,e⟩
  ·exact nomatch e
  ·injection e with e1 _
   subst e1
   cases v <;> rfl
end L2
namespace L2
open PySem PySem.Spec PyProof.Rows
inductive V where
 | non | bl (b:Bool) | int (i:Int) | str (x:Str) | byt (b:Array UInt8) | flt (b:UInt64) | ref (a:Addr) | ty (n:String)
 deriving DecidableEq
def RelV:V→Value→Prop
 | .non,u => u=Value.none
 | .bl b,u => u=Value.bool b
 | .int i,u => ∃ t,u=Value.int i t
 | .str x,u => ∃ t,u=Value.str x t
 | .byt b,u => ∃ t,u=Value.bytes b t
 | .flt b,u => ∃ t,u=Value.float b t
 | .ref a,u => u=Value.ref a
 | .ty n,u => u=Value.type n
abbrev Vals:List V→List Value→Prop:=Paired RelV
theorem Vals.length {xs:List V} {us:List Value} (r:Vals xs us):xs.length=us.length:=Paired.length r
theorem Vals.get:∀ {xs:List V} {us:List Value} {i:Nat} {x:V},Vals xs us→xs[i]? = some x→∃ u,us[i]? = some u∧RelV x u
 | _,_,_,_,.nil,e => by simp at e
 | _,_,0,_,.cons r _,e => by simp at e; subst e; exact ⟨_,rfl,r⟩
 | _,_,i + 1,x,.cons _ t,e => by
  obtain ⟨u,h1,h2⟩:=Vals.get (i:=i) (x:=x) t (by simpa using e)
  exact ⟨u,by simpa using h1,h2⟩
theorem Vals.set {x:V} {u:Value} (r:RelV x u):∀ {xs:List V} {us:List Value} (i:Nat),Vals xs us→Vals (xs.set i x) (us.set i u)
 | _,_,_,.nil => .nil
 | _,_,0,.cons _ t => .cons r t
 | _,_,i + 1,.cons q t => .cons q (Vals.set r i t)
theorem Vals.append:∀ {xs ys:List V} {us ws:List Value},Vals xs us→Vals ys ws→Vals (xs ++ ys) (us ++ ws)
 | _,_,_,_,.nil,s => s
 | _,_,_,_,.cons r t,s => .cons r (Vals.append t s)
theorem Vals.take:∀ {xs:List V} {us:List Value} (n:Nat),Vals xs us→Vals (xs.take n) (us.take n)
 | _,_,0,_ => .nil
 | _,_,_ + 1,.nil => .nil
 | _,_,n + 1,.cons r t => .cons r (Vals.take n t)
theorem Vals.drop:∀ {xs:List V} {us:List Value} (n:Nat),Vals xs us→Vals (xs.drop n) (us.drop n)
 | _,_,0,r => r
 | _,_,_ + 1,.nil => .nil
 | _,_,n + 1,.cons _ t => Vals.drop n t
def RelO:Option V→Option Value→Prop
 | some v,some u => RelV v u
 | none,none => True
 | _,_ => False
def KV {κ:Type} : List (κ × V)→List (κ × Value)→Prop:=Paired fun (p:κ × V) (q:κ × Value) => p.1=q.1∧RelV p.2 q.2
def kV:Key→V
 | .inl i => .int i
 | .inr x => .str x
inductive HO where
 | lst (xs:List V)
 | tup (xs:List V)
 | dK (kvs:List (Key × V)) | dT (kvs:List (List Key × V))
 | set (S:Int→Bool) (n:Nat)
 | ins (C dx:Addr) (fs:List (Str × V))
 | own (x:Addr)
 | xd (fs:List (Str × V))
 | met (f x:Addr)
 | rng (lo hi:Int)
 | frz (o:Obj) (u:HO)
 | tbl (ps:Array Value)
 | ext (φ:Heap→Prop)
abbrev Hp:=Addr→Option HO
def upd (H:Hp) (a:Addr) (o:HO):Hp:=fun b => if b=a then some o else H b
theorem upd_same {H:Hp} {a:Addr} {o:HO} : upd H a o a=some o:=by unfold upd; rw [if_pos rfl]
theorem upd_ne {H:Hp} {a b:Addr} {o:HO} (h:b ≠ a):upd H a o b=H b:=by unfold upd; rw [if_neg h]
theorem ne_of_none {H:Hp} {a b:Addr} {o:HO} (h:H a=some o) (h' : H b=none):a ≠ b:=by
 intro e; subst e; rw [h] at h'; cases h'
section
variable (P:Program) (w:World)
def ObjOk (H:Hp) (h:Heap) (a:Addr):HO→Prop
 | .lst xs => xs.length ≤ sizeLine∧∃ (its:List Value) (n:Nat),Vals xs its∧h.get? a=some { cls:=.type "list",data:=.seq its.toArray n }
 | .tup xs => xs.length ≤ sizeLine∧∃ its:List Value,Vals xs its∧IsTup h a its.toArray
 | .dK kvs => kvs.length ≤ sizeLine∧(a == sysModules)=false∧∃ vs,KV kvs vs∧h.DictOf (mixKind P w) a vs
 | .dT kvs => kvs.length ≤ sizeLine∧(a == sysModules)=false∧∃ xs:List (List Key × Addr × Value),
   Paired (fun (p:List Key × V) (q:List Key × Addr × Value) => p.1=q.1∧H q.2.1=some (.tup (p.1.map kV))∧RelV p.2 q.2.2) kvs xs ∧
   ∃ o es ep,h.get? a=some o∧o.ExactDict∧o.data = .dict es ep∧es.toList=xs.map (entryOfKey (tupleKind (mixKind P w)))∧(xs.map (·.1)).Nodup
 | .set S n => h.SetOf (intKind P w) a S n
 | .ins C dx fs => H dx=some (.own a)∧fs.length ≤ 1000∧dx ≠ a∧h.get? a=some (PySem.W.instObj C dx) ∧
   ∃ mA,h.Ns1 dx mA∧(∀ f,RelO (fs.lookup f) (mA f))∧PySem.Within mA (fs.map (·.1))
 | .own _ => ∃ o,h.get? a=some o
 | .xd fs => ∃ mA,h.Ns1 a mA∧∀ f,RelO (fs.lookup f) (mA f)
 | .rng lo hi => ∃ t u v,h.get? a=some { cls:=.type "range",data:=.fields #[.int lo t,.int hi u,.int 1 v] }
 | .frz o u => h.get? a=some o∧ObjOk H h a u
 | .tbl ps => h.get? a=some { cls:=.none,data:=.fields ps }
 | .met f x => h.get? a=some (PySem.W.methodObj (.ref f) (.ref x))
 | .ext φ => φ h∧(∃ o,h.get? a=some o)∧∀ h1 h2:Heap,φ h1→(∀ o,h1.get? a=some o→h2.get? a=some o)→φ h2
def HOk (H:Hp) (h:Heap):Prop:=∀ a o,H a=some o→ObjOk P w H h a o
end
section
variable {P:Program} {w:World} {H H' : Hp} {h h' : Heap} {a:Addr} {o:HO}
theorem ObjOk.lt (x:ObjOk P w H h a o):a < h.objs.size:=by
 cases o with
 | lst xs => obtain ⟨_,_,_,_,e⟩:=x; exact Heap.lt_size e
 | tup xs => obtain ⟨_,_,_,p⟩:=x; exact p.lt
 | dK kvs => obtain ⟨_,_,_,_,o,_,_,e,_⟩:=x; exact Heap.lt_size e
 | dT kvs => obtain ⟨_,_,_,_,o,_,_,e,_⟩:=x; exact Heap.lt_size e
 | set S n => obtain ⟨o,_,_,_,e,_⟩:=x; exact Heap.lt_size e
 | ins C dx fs => obtain ⟨_,_,_,e,_⟩:=x; exact Heap.lt_size e
 | own y => obtain ⟨_,e⟩:=x; exact Heap.lt_size e
 | xd fs => obtain ⟨_,⟨_,_,_,e,_⟩,_⟩:=x; exact Heap.lt_size e
 | rng lo hi => obtain ⟨_,_,_,e⟩:=x; exact Heap.lt_size e
 | frz ob u => obtain ⟨e,_⟩:=x; exact Heap.lt_size e
 | tbl ps => exact Heap.lt_size (show h.get? a=some _ from x)
 | met f y => exact Heap.lt_size (show h.get? a=some _ from x)
 | ext φ => obtain ⟨_,⟨_,e⟩,_⟩:=x; exact Heap.lt_size e
theorem Paired.mapP {α β:Type} {F G:α→β→Prop} : ∀ {l₁:List α} {l₂:List β},Paired F l₁ l₂→(∀ a b,F a b→G a b)→Paired G l₁ l₂
 | _,_,.nil,_ => .nil
 | _,_,.cons r t,f => .cons (f _ _ r) (Paired.mapP t f)
theorem ObjOk.stay (x:ObjOk P w H h a o) (k:∀ b u,(b=a ∨ H b=some (.own a))→h.get? b=some u→h'.get? b=some u)
  (ho:∀ b,H b=some (.own a)→H' b=some (.own a)) (ht:∀ b xs,H b=some (.tup xs)→H' b=some (.tup xs)):ObjOk P w H' h' a o:=by
 induction o with
 | lst xs => obtain ⟨z,its,n,r,e⟩:=x; exact ⟨z,its,n,r,k _ _ (.inl rfl) e⟩
 | tup xs => obtain ⟨z,its,r,ob,e,c⟩:=x; exact ⟨z,its,r,ob,k _ _ (.inl rfl) e,c⟩
 | dK kvs => obtain ⟨z,y,vs,r,ob,es,ep,e,c⟩:=x; exact ⟨z,y,vs,r,ob,es,ep,k _ _ (.inl rfl) e,c⟩
 | dT kvs =>
  obtain ⟨z,y,xs,r,ob,es,ep,e,c⟩:=x
  exact ⟨z,y,xs,Paired.mapP r fun p q z => ⟨z.1,ht _ _ z.2.1,z.2.2⟩,ob,es,ep,k _ _ (.inl rfl) e,c⟩
 | set S n => obtain ⟨ob,es,ep,t,e,c⟩:=x; exact ⟨ob,es,ep,t,k _ _ (.inl rfl) e,c⟩
 | ins C dx fs =>
  obtain ⟨d,z,ne,e,mA,⟨od,es,ep,e2,c⟩,r⟩:=x
  exact ⟨ho _ d,z,ne,k _ _ (.inl rfl) e,mA,⟨od,es,ep,k _ _ (.inr d) e2,c⟩,r⟩
 | own y => obtain ⟨ob,e⟩:=x; exact ⟨ob,k _ _ (.inl rfl) e⟩
 | xd fs => obtain ⟨mA,⟨od,es,ep,e,c⟩,r⟩:=x; exact ⟨mA,⟨od,es,ep,k _ _ (.inl rfl) e,c⟩,r⟩
 | rng lo hi => obtain ⟨t,u,v,e⟩:=x; exact ⟨t,u,v,k _ _ (.inl rfl) e⟩
 | frz ob u ih => obtain ⟨e,q⟩:=x; exact ⟨k _ _ (.inl rfl) e,ih q⟩
 | tbl ps =>
  have e:h.get? a=some { cls:=.none,data:=.fields ps }:=x
  show h'.get? a=some { cls:=.none,data:=.fields ps }
  exact k a _ (.inl rfl) e
 | met f y =>
  have e:h.get? a=some (PySem.W.methodObj (.ref f) (.ref y)):=x
  show h'.get? a=some (PySem.W.methodObj (.ref f) (.ref y))
  exact k a _ (.inl rfl) e
 | ext φ => obtain ⟨p,⟨o,e⟩,st⟩:=x; exact ⟨st _ _ p fun o q => k _ _ (.inl rfl) q,⟨o,k _ _ (.inl rfl) e⟩,st⟩
theorem HOk.lt (x:HOk P w H h) (e:H a=some o):a < h.objs.size:=(x a o e).lt
theorem HOk.fresh (x:HOk P w H h) (e:h.objs.size ≤ a):H a=none:=by
 cases q:H a with
 | none => rfl
 | some u => exact absurd (Nat.lt_of_lt_of_le (x.lt q) e) (Nat.lt_irrefl _)
theorem HOk.kept (x:HOk P w H h) (k:∀ b u,h.get? b=some u→h'.get? b=some u):HOk P w H h':=fun a o e =>
 (x a o e).stay (fun b u _ q => k b u q) (fun _ q => q) fun _ _ q => q
theorem HOk.laid (x:HOk P w H h) (k:∀ b u,h.get? b=some u→h'.get? b=some u) (hp:h.objs.size ≤ a) (new:ObjOk P w (upd H a o) h' a o):HOk P w (upd H a o) h':=fun b u e => by
 have hn:=x.fresh hp
 by_cases hb:b=a
 ·subst hb; rw [upd_same] at e; cases e; exact new
 ·rw [upd_ne hb] at e
  exact (x b u e).stay (fun c v _ q => k c v q) (fun c q => by rw [upd_ne (ne_of_none q hn)]; exact q) fun c xs q => by rw [upd_ne (ne_of_none q hn)]; exact q
end
def Rd (H:Hp) (a:Addr) (u:HO):Prop:=H a=some u ∨ ∃ o,H a=some (.frz o u)
theorem Rd.ok {P:Program} {w:World} {H:Hp} {h:Heap} {a:Addr} {u:HO} (r:Rd H a u) (x:HOk P w H h):ObjOk P w H h a u:=by
 rcases r with r | ⟨o,r⟩
 ·exact x a u r
 ·obtain ⟨_,q⟩:=x a _ r
  exact q
def Mut:Option HO→Prop
 | some (.lst _) => True
 | some (.dK _) => True
 | some (.dT _) => True
 | some (.set _ _) => True
 | some (.ins _ _ _) => True
 | some (.ext _) => True
 | _ => False
section
variable {P:Program} {w:World} {H:Hp} {h h' : Heap} {x e:Addr} {o' : HO}
theorem HOk.write (ok:HOk P w H h) (mu:Mut (H x)) (he:e=x ∨ H e=some (.own x)) (k:∀ b u,b ≠ e→h.get? b=some u→h'.get? b=some u) (heo:∃ u,h'.get? e=some u)
  (new:ObjOk P w (upd H x o') h' x o'):HOk P w (upd H x o') h':=fun b u q => by
 have nown:∀ c y,H c=some (.own y)→c ≠ x:=fun c y r z => by subst z; rw [r] at mu; exact mu
 have ntup:∀ c xs,H c=some (.tup xs)→c ≠ x:=fun c xs r z => by subst z; rw [r] at mu; exact mu
 by_cases hb:b=x
 ·subst hb; rw [upd_same] at q; cases q; exact new
 ·rw [upd_ne hb] at q
  by_cases hbe:b=e
  ·have q' : H b=some (.own x):=by
    rcases he with z | z
    ·exact absurd (hbe.trans z) hb
    ·rw [hbe]; exact z
   rw [q] at q'; cases q'
   obtain ⟨v,hv⟩:=heo
   exact ⟨v,by rw [hbe]; exact hv⟩
  ·refine (ok b u q).stay (fun c v hc r => k c v ?_ r) (fun c r => by rw [upd_ne (nown c b r)]; exact r) fun c xs r => by rw [upd_ne (ntup c xs r)]; exact r
   rcases hc with rfl | hc
   ·exact hbe
   ·rintro rfl
    rcases he with z | z
    ·exact nown c b hc z
    ·rw [hc] at z; cases z; exact hb rfl
end
structure Un (fs ex:List Addr) (H H' : Hp) (h h' : Heap):Prop where
 keep:∀ b o,h.get? b=some o→H b=none→b ∉ fs→b ∉ ex→h'.get? b=some o
 slot:∀ b o,h.get? b=some o→H b=none→b ∈ fs→b ∉ ex→∃ sl,h'.get? b=some { o with slots:=sl }
 free:∀ b o,h.get? b=some o→H b=none→b ∉ ex→H' b=none
 there:∀ b o,h.get? b=some o→b ∉ ex→∃ o',h'.get? b=some o'
 tups:∀ b xs,H b=some (.tup xs)→H' b=some (.tup xs)
 frzs:∀ b o u,H b=some (.frz o u)→H' b=some (.frz o u)
 tbls:∀ b ps,H b=some (.tbl ps)→∃ more,H' b=some (.tbl (ps ++ more))
section
variable {fs fs' ex ex' : List Addr} {H H1 H2:Hp} {h h1 h2 h' : Heap} {a x e:Addr} {o:HO}
theorem Un.any (u:Un fs ex H H1 h h1) {b:Addr} {ob:Obj} (q:h.get? b=some ob) (n:H b=none) (hx:b ∉ ex):∃ sl,h1.get? b=some { ob with slots:=sl }:=by
 by_cases hb:b ∈ fs
 ·exact u.slot b ob q n hb hx
 ·exact ⟨ob.slots,u.keep b ob q n hb hx⟩
theorem Un.kept (k:∀ b u,h.get? b=some u→h'.get? b=some u):Un fs ex H H h h' :=
 ⟨fun b ob q _ _ _ => k b ob q,fun b ob q _ _ _ => ⟨ob.slots,k b ob q⟩,fun _ _ _ n _ => n,fun b ob q _ => ⟨ob,k b ob q⟩,fun _ _ q => q,fun _ _ _ q => q,fun _ ps q => ⟨#[],by rw [q]; simp⟩⟩
theorem Un.refl:Un fs ex H H h h:=Un.kept fun _ _ q => q
theorem Un.laid (k:∀ b u,h.get? b=some u→h'.get? b=some u) (hp:h.objs.size ≤ a) (hn:H a=none):Un fs ex H (upd H a o) h h' where
 keep:=fun b u q _ _ _ => k b u q
 slot:=fun b u q _ _ _ => ⟨u.slots,k b u q⟩
 free:=fun b u q n _ => by rw [upd_ne (Nat.ne_of_lt (Nat.lt_of_lt_of_le (Heap.lt_size q) hp))]; exact n
 there:=fun b u q _ => ⟨u,k b u q⟩
 tups:=fun b xs q => by rw [upd_ne (ne_of_none q hn)]; exact q
 frzs:=fun b u xs q => by rw [upd_ne (ne_of_none q hn)]; exact q
 tbls:=fun b ps q => ⟨#[],by rw [upd_ne (ne_of_none q hn),q]; simp⟩
theorem Un.write (mu:Mut (H x)) (he:e=x ∨ H e=some (.own x)) (k:∀ b u,b ≠ e→h.get? b=some u→h'.get? b=some u) (heo:∃ u,h'.get? e=some u):Un fs ex H (upd H x o) h h':=by
 have hx:∀ b,H b=none→b ≠ x:=fun b n z => by subst z; rw [n] at mu; exact mu
 have hb:∀ b,H b=none→b ≠ e:=fun b n z => by
  subst z
  rcases he with r | r
  ·exact hx b n r
  ·rw [n] at r; cases r
 have hm:∀ b u,H b=some u→¬ Mut (some u)→b ≠ x:=fun b u q nm z => by subst z; rw [q] at mu; exact nm mu
 refine ⟨fun b u q n _ _ => k b u (hb b n) q,fun b u q n _ _ => ⟨u.slots,k b u (hb b n) q⟩,fun b u q n _ => by rw [upd_ne (hx b n)]; exact n,fun b u q _ => ?_,
  fun b xs q => by rw [upd_ne (hm b _ q fun z => z)]; exact q,fun b u xs q => by rw [upd_ne (hm b _ q fun z => z)]; exact q,fun b ps q => ⟨#[],by rw [upd_ne (hm b _ q fun z => z),q]; simp⟩⟩
 by_cases hbe:b=e
 ·subst hbe; exact heo
 ·exact ⟨u,k b u hbe q⟩
end
def trk (h:Heap) (H:Hp):List Addr:=(List.range h.objs.size).filter fun a => (H a).isSome
def hidT (h:Heap) (H:Hp):Heap:=PySem.W.hideAll h (trk h H)
theorem hidT_size (h:Heap) (H:Hp):(hidT h H).objs.size=h.objs.size:=PySem.W.hideAll_size _ _
theorem hidT_get {h:Heap} {H:Hp} {b:Addr} {o:Obj} (e:h.get? b=some o) (n:H b=none):(hidT h H).get? b=some o :=
 PySem.W.hideAll_get _ e fun hm => by
  have q:(H b).isSome=true:=(List.mem_filter.mp hm).2
  rw [n] at q; simp at q
theorem of_hidT {h:Heap} {H:Hp} {b:Addr} {o:Obj} (e:(hidT h H).get? b=some o):h.get? b=some o∧H b=none:=by
 have e' : h.get? b=some o:=PySem.W.of_hideAll (trk h H) e
 refine ⟨e',?_⟩
 cases q:H b with
 | none => rfl
 | some x =>
  have hm:b ∈ trk h H:=List.mem_filter.mpr ⟨List.mem_range.mpr (Heap.lt_size e'),by simp [q]⟩
  have z:(hidT h H).get? b=none:=PySem.W.hideAll_none (trk h H) hm
  rw [z] at e; cases e
def allNews (g h:Heap) (L:Addr):List (Addr × Obj):=(List.range h.objs.size).filterMap fun a => if a=L ∨ (g.get? a).isSome=true then none else (h.get? a).map fun o => (a,o)
def rest (g h:Heap) (L d:Addr):List (Addr × Obj):=(allNews g h L).filter fun p => decide (p.1 ≠ d)
end L2
namespace L2
open PySem PySem.Spec PyProof.Rows
structure Mod (K:PySem.W.Frag) (mg:Str→Option Value) (base:Heap):Prop where
 kin:K.In base
 glob:base.Ns mainGlobals mg
 blt:∃ mb,base.Ns builtinsNs mb∧∀ x:Str,x ≠ "__name__" → mb x=bootBuiltins x
 nolimit:base.NoLimit
structure Cx where
 prog:Program
 w:World
 K:PySem.W.Frag
 mg:Str→Option Value
 base:Heap
 A:Around
 N:List Str
 s₀:Shared
 H₀:Hp
 env:Env
 outer:List Env
 stack:List Env
 ex:List Addr
 fn:Str→Bool
 calm:Bool
 pn:List (Addr × Obj)
 xe:Value→Shared→Prop
def frs (l:List Env):List Addr:=l.filterMap (·.frame)
abbrev Cx.fs (X:Cx):List Addr:=frs X.outer
def Vis (sc:Scope) (x:Str):Prop:=sc.names.lookup x=some .local ∨ sc.names.lookup x=some .cell ∨ sc.names.lookup x=some .free
def Loc (sc:Scope) (x:Str):Prop:=sc.names.lookup x=some .local ∨ sc.names.lookup x=some .cell
def Look (env:Env) (h:Heap) (m:Str→Option Value) (x:Str) (u:Value):Prop :=
 (env.kindOf x=some .local∧m x=some u) ∨ ((env.kindOf x=some .cell ∨ env.kindOf x=some .free)∧∃ c,env.cells.lookup x=some c∧h.IsCell c (some u))
structure Cx.Ok (X:Cx):Prop where
 mod:Mod X.K X.mg X.base
 kind:X.env.scope.kind = .function
 glob:X.env.globals=mainGlobals
 blt:X.env.builtins=builtinsNs
 above:X.s₀.heap.objs.size ≤ X.env.locals
 inj:∀ x y c,X.env.cells.lookup x=some c→X.env.cells.lookup y=some c→x=y
 has:∀ x,(X.env.kindOf x=some .cell ∨ X.env.kindOf x=some .free)→∃ c,X.env.cells.lookup x=some c
 cab:∀ x c,X.fn x=true→X.env.cells.lookup x=some c→X.s₀.heap.objs.size ≤ c
 hd:X.calm=true→X.A.handled=none
 frames:X.A.frames=some X.stack
 stk:X.stack=X.outer ∨ (X.stack=X.env :: X.outer∧X.env.frame=some X.env.locals)
 exf:∀ b ∈ X.ex,b ≠ X.env.locals∧∀ x c,X.env.cells.lookup x=some c→c ≠ b
 bs:∀ b o,X.base.get? b=some o→X.s₀.heap.get? b=some o∧X.H₀ b=none
 bsz:X.base.objs.size ≤ X.s₀.heap.objs.size
 noex:∀ b o,X.base.get? b=some o→b ∉ X.ex
 exfs:∀ b ∈ X.ex,b ∉ X.fs
 funs:X.s₀.heap.FunFrames X.base X.outer
 frf:∀ b ∈ X.fs,X.H₀ b=none
structure Inv (X:Cx) (pins:List (Addr × Obj)) (σ:List (Option V)) (H:Hp) (s:Shared):Prop where
 ok:X.Ok
 os:s.os=X.s₀.os
 bare:AllBare s.gens
 base:Un X.fs X.ex X.H₀ H X.s₀.heap s.heap
 loc:∃ m,s.heap.Ns X.env.locals m∧∀ (i:Nat) (x:Str) (v:V),X.N[i]? = some x→σ[i]? = some (some v)→Vis X.env.scope x→∃ u,RelV v u∧Look X.env s.heap m x u
 cell:∀ x c,X.env.cells.lookup x=some c→∃ v,s.heap.IsCell c v
 free:H X.env.locals=none
 freeC:∀ x c,X.env.cells.lookup x=some c→H c=none
 pin:∀ p ∈ X.pn ++ pins,s.heap.get? p.1=some p.2∧H p.1=none∧p.1 ≠ X.env.locals∧p.1 ∉ X.fs∧∀ v,p.2.data ≠ .cell v
 hok:HOk X.prog X.w H s.heap
 len:σ.length=X.N.length
section
variable {X:Cx} {pins:List (Addr × Obj)} {σ:List (Option V)} {H H' : Hp} {s:Shared} {h' : Heap}
theorem Cx.Ok.nofr (ok:X.Ok) {b:Addr} {o:Obj} (e:X.base.get? b=some o):b ∉ X.fs:=fun hb => by
 have:=(ok.funs.mem hb).1
 rw [e] at this; cases this
theorem Inv.bs (I:Inv X pins σ H s):∀ b o,X.base.get? b=some o→s.heap.get? b=some o∧H b=none:=fun b o e =>
 ⟨I.base.keep b o (I.ok.bs b o e).1 (I.ok.bs b o e).2 (I.ok.nofr e) (I.ok.noex b o e),I.base.free b o (I.ok.bs b o e).1 (I.ok.bs b o e).2 (I.ok.noex b o e)⟩
theorem Inv.bk (I:Inv X pins σ H s):∀ b o,X.base.get? b=some o→s.heap.get? b=some o:=fun b o e => (I.bs b o e).1
theorem Inv.mod (I:Inv X pins σ H s):Mod X.K X.mg X.base:=I.ok.mod
theorem Inv.kIn (I:Inv X pins σ H s):X.K.In s.heap:=I.ok.mod.kin.keeps I.bk
theorem Inv.lt (I:Inv X pins σ H s):X.env.locals < s.heap.objs.size:=let ⟨_,hn,_⟩:=I.loc; hn.lt
theorem Inv.sz (I:Inv X pins σ H s):X.s₀.heap.objs.size ≤ s.heap.objs.size:=Nat.le_trans I.ok.above (Nat.le_of_lt I.lt)
theorem Inv.nofs (I:Inv X pins σ H s) {a:Addr} (h:s.heap.objs.size ≤ a):a ∉ X.fs:=fun hb => by
 obtain ⟨_,o,ho,_⟩:=I.ok.funs.mem hb
 exact absurd (Nat.lt_of_lt_of_le (Heap.lt_size ho) (Nat.le_trans I.sz h)) (Nat.lt_irrefl _)
theorem Inv.cne (I:Inv X pins σ H s):∀ x c,X.env.cells.lookup x=some c→c ≠ X.env.locals:=fun x c e z => by
 obtain ⟨v,o,ho,hd⟩:=I.cell x c e
 obtain ⟨m,⟨o',es,ep,ho',hd',_⟩,_⟩:=I.loc
 rw [z,ho'] at ho; cases ho; rw [hd'] at hd; cases hd
theorem Inv.funs (I:Inv X pins σ H s):s.heap.FunFrames X.base X.outer:=by
 have all:∀ (l:List Env),(∀ b ∈ frs l,b ∈ X.fs)→X.s₀.heap.FunFrames X.base l→s.heap.FunFrames X.base l:=by
  intro l
  induction l with
  | nil => intro _ _; trivial
  | cons env r ih =>
   intro hs hl
   obtain ⟨hk,⟨L,o,hf,hn,ho,hd⟩,hr⟩:=hl
   have hL:L ∈ X.fs:=hs L (by unfold frs; rw [List.filterMap_cons,hf]; exact List.mem_cons_self)
   obtain ⟨sl,e⟩:=I.base.slot L o ho (I.ok.frf L hL) hL fun z => I.ok.exfs L z hL
   exact ⟨hk,⟨L,_,hf,hn,e,hd⟩,ih (fun b hb => hs b (by unfold frs; rw [List.filterMap_cons,hf]; exact List.mem_cons_of_mem _ hb)) hr⟩
 exact all X.outer (fun _ hb => hb) I.ok.funs
theorem Inv.stack (I:Inv X pins σ H s):s.heap.FunFrames X.base X.stack:=by
 rcases I.ok.stk with e | ⟨e,hf⟩
 ·rw [e]; exact I.funs
 ·rw [e]
  obtain ⟨m,hn,_⟩:=I.loc
  refine .cons (by rw [I.ok.kind]; decide) hf hn ?_ I.funs
  exact Heap.get?_none_of_le (Nat.le_trans I.ok.bsz I.ok.above)
theorem Inv.stkSub (I:Inv X pins σ H s):∀ b ∈ frs X.stack,b ∈ X.env.locals :: X.fs:=fun b hb => by
 rcases I.ok.stk with e | ⟨e,hf⟩
 ·rw [e] at hb; exact List.mem_cons_of_mem _ hb
 ·rw [e] at hb
  unfold frs at hb
  rw [List.filterMap_cons,hf] at hb
  exact hb
theorem Inv.stkFree (I:Inv X pins σ H s):∀ b ∈ frs X.stack,H b=none:=fun b hb => by
 rcases List.mem_cons.mp (I.stkSub b hb) with e | hb
 ·rw [e]; exact I.free
 ·obtain ⟨_,o,ho,_⟩:=I.ok.funs.mem hb
  exact I.base.free b o ho (I.ok.frf b hb) fun z => I.ok.exfs b z hb
theorem Inv.step {g' : Array GenState} {t' : Nat} {d' : Drawn} {ch:List Addr} (I:Inv X pins σ H s)
  (hch:∀ b ∈ ch,(b ∈ X.ex ∨ X.s₀.heap.objs.size ≤ b)∧b ≠ X.env.locals∧(∀ x c,X.env.cells.lookup x=some c→c ≠ b)∧∀ p ∈ X.pn ++ pins,p.1 ≠ b)
  (keep:∀ b o,b ≠ X.env.locals→b ∉ X.fs→b ∉ ch→s.heap.get? b=some o→H b=none→h'.get? b=some o)
  (slot:∀ b o,b ≠ X.env.locals→b ∈ X.fs→b ∉ ch→s.heap.get? b=some o→H b=none→∃ sl,h'.get? b=some { o with slots:=sl }) (free:∀ b o,b ∉ ch→s.heap.get? b=some o→H b=none→H' b=none)
  (there:∀ b o,b ∉ ch→s.heap.get? b=some o→∃ o',h'.get? b=some o')
  (tups:∀ b xs,H b=some (.tup xs)→H' b=some (.tup xs)) (frzs:∀ b o u,H b=some (.frz o u)→H' b=some (.frz o u)) (tbls:∀ b ps,H b=some (.tbl ps)→∃ more,H' b=some (.tbl (ps ++ more)))
  (ns:∀ m,s.heap.Ns X.env.locals m→h'.Ns X.env.locals m) (hok:HOk X.prog X.w H' h') (hg:AllBare g') :
  Inv X pins σ H' { s with heap:=h',gens:=g',drawn:=d',toks:=t' }:=by
 have neL:∀ b o,X.s₀.heap.get? b=some o→b ≠ X.env.locals:=fun b o e => Nat.ne_of_lt (Nat.lt_of_lt_of_le (Heap.lt_size e) I.ok.above)
 have neC:∀ b o,X.s₀.heap.get? b=some o→b ∉ X.ex→b ∉ ch:=fun b o e hx hb => by
  rcases (hch b hb).1 with z | z
  ·exact hx z
  ·exact absurd (Nat.lt_of_lt_of_le (Heap.lt_size e) z) (Nat.lt_irrefl _)
 have cellK:∀ x c,X.env.cells.lookup x=some c→∀ v,s.heap.IsCell c v→h'.IsCell c v:=fun x c e v ⟨o,ho,hd⟩ => by
  have nch:c ∉ ch:=fun z => (hch c z).2.2.1 x c e rfl
  by_cases hc:c ∈ X.fs
  ·obtain ⟨sl,q⟩:=slot c o (I.cne x c e) hc nch ho (I.freeC x c e)
   exact ⟨_,q,hd⟩
  ·exact ⟨o,keep c o (I.cne x c e) hc nch ho (I.freeC x c e),hd⟩
 refine ⟨I.ok,I.os,hg,⟨fun b o e n hb hx => ?_,fun b o e n hb hx => ?_,fun b o e n hx => ?_,fun b o e hx => ?_,fun b xs e => tups b xs (I.base.tups b xs e),fun b o xs e => frzs b o xs (I.base.frzs b o xs e),fun b ps e => ?_⟩,?_,fun x c e => ?_,?_,fun x c e => ?_,fun p hp => ?_,hok,I.len⟩
 ·exact keep b o (neL b o e) hb (neC b o e hx) (I.base.keep b o e n hb hx) (I.base.free b o e n hx)
 ·obtain ⟨sl,e1⟩:=I.base.slot b o e n hb hx
  obtain ⟨sl',e2⟩:=slot b _ (neL b o e) hb (neC b o e hx) e1 (I.base.free b o e n hx)
  exact ⟨sl',e2⟩
 ·obtain ⟨o',e1⟩:=I.base.there b o e hx
  exact free b o' (neC b o e hx) e1 (I.base.free b o e n hx)
 ·obtain ⟨o',e1⟩:=I.base.there b o e hx
  exact there b o' (neC b o e hx) e1
 ·obtain ⟨m1,e1⟩:=I.base.tbls b ps e
  obtain ⟨m2,e2⟩:=tbls b _ e1
  exact ⟨m1 ++ m2,by rw [e2,Array.append_assoc]⟩
 ·obtain ⟨m,hn,hl⟩:=I.loc
  refine ⟨m,ns m hn,fun i x v e1 e2 e3 => ?_⟩
  obtain ⟨u,r,l⟩:=hl i x v e1 e2 e3
  refine ⟨u,r,?_⟩
  rcases l with l | ⟨k,c,e,z⟩
  ·exact .inl l
  ·exact .inr ⟨k,c,e,cellK x c e _ z⟩
 ·obtain ⟨v,z⟩:=I.cell x c e
  exact ⟨v,cellK x c e v z⟩
 ·obtain ⟨m,⟨o,_,_,ho,_⟩,_⟩:=I.loc
  exact free _ o (fun z => (hch _ z).2.1 rfl) ho I.free
 ·obtain ⟨v,o,ho,hd⟩:=I.cell x c e
  exact free c o (fun z => (hch c z).2.2.1 x c e rfl) ho (I.freeC x c e)
 ·obtain ⟨e,n,ne,nf,d⟩:=I.pin p hp
  have nch:p.1 ∉ ch:=fun z => (hch p.1 z).2.2.2 p hp rfl
  exact ⟨keep p.1 p.2 ne nf nch e n,free p.1 p.2 nch e n,ne,nf,d⟩
theorem Inv.un {t' : Nat} (I:Inv X pins σ H s) (u:Un X.fs [] H H' s.heap h') (hok:HOk X.prog X.w H' h'):Inv X pins σ H' { s with heap:=h',toks:=t' }:=by
 obtain ⟨m,⟨o,es,ep,ho,r⟩,_⟩:=id I.loc
 obtain ⟨sl,hL⟩:=u.any ho I.free (by simp)
 exact I.step (g':=s.gens) (d':=s.drawn) (ch:=[]) (fun _ z => nomatch z) (fun b o _ hb _ e n => u.keep b o e n hb (by simp)) (fun b o _ hb _ e n => u.slot b o e n hb (by simp)) (fun b o _ e n => u.free b o e n (by simp)) (fun b o _ e => u.there b o e (by simp)) u.tups u.frzs u.tbls (fun m' hm => by
  obtain ⟨o',es',ep',ho',r'⟩:=hm
  rw [ho] at ho'; cases ho'
  exact ⟨_,es',ep',hL,r'⟩) hok I.bare
theorem Inv.call {g' : Array GenState} {t' : Nat} {d' : Drawn} {ch:List Addr} (I:Inv X pins σ H s) (u:Un (frs X.stack) ch H H' s.heap h') (hok:HOk X.prog X.w H' h') (hg:AllBare g')
  (hch:∀ b ∈ ch,(b ∈ X.ex ∨ X.s₀.heap.objs.size ≤ b)∧b ≠ X.env.locals∧(∀ x c,X.env.cells.lookup x=some c→c ≠ b)∧∀ p ∈ X.pn ++ pins,p.1 ≠ b) :
  Inv X pins σ H' { s with heap:=h',gens:=g',drawn:=d',toks:=t' }:=by
 obtain ⟨m,⟨o,es,ep,ho,r⟩,_⟩:=id I.loc
 obtain ⟨sl,hL⟩:=u.any ho I.free fun z => (hch _ z).2.1 rfl
 exact I.step (ch:=ch) hch (fun b o hL hb hc e n => u.keep b o e n (fun z => (List.mem_cons.mp (I.stkSub b z)).elim hL hb) hc) (fun b o _ _ hc e n => u.any e n hc) (fun b o hc e n => u.free b o e n hc) (fun b o hc e => u.there b o e hc) u.tups u.frzs u.tbls (fun m' hm => by
  obtain ⟨o',es',ep',ho',r'⟩:=hm
  rw [ho] at ho'; cases ho'
  exact ⟨_,es',ep',hL,r'⟩) hok hg
theorem Inv.turned {t' : Nat} {it:Addr} (I:Inv X pins σ H s) (k:∀ b o,b ≠ it→s.heap.get? b=some o→h'.get? b=some o) (hn:H it=none) (hL:it ≠ X.env.locals)
  (h1:it ∈ X.ex ∨ X.s₀.heap.objs.size ≤ it) (h2:∀ x c,X.env.cells.lookup x=some c→c ≠ it) (h3:∀ p ∈ X.pn ++ pins,p.1 ≠ it):Inv X pins σ H { s with heap:=h',toks:=t' }:=by
 have nit:∀ b u,H b=some u→b ≠ it:=fun b u e z => by rw [z,hn] at e; cases e
 refine I.step (g':=s.gens) (d':=s.drawn) (ch:=[it]) (fun b hb => ?_) (fun b o _ _ hc e _ => k b o (fun z => hc (by simp [z])) e) (fun b o _ _ hc e _ => ⟨o.slots,k b o (fun z => hc (by simp [z])) e⟩) (fun _ _ _ _ n => n)
  (fun b o hc e => ⟨o,k b o (fun z => hc (by simp [z])) e⟩) (fun _ _ e => e) (fun _ _ _ e => e) (fun b ps e => ⟨#[],by rw [e]; simp⟩) (fun m hm => ?_) (fun b u e => ?_) I.bare
 ·have e:b=it:=by simpa using hb
  subst e
  exact ⟨h1,hL,h2,h3⟩
 ·obtain ⟨o,es,ep,ho,r⟩:=hm
  exact ⟨o,es,ep,k _ o (Ne.symm hL) ho,r⟩
 ·refine (I.hok b u e).stay (fun c v hc q => k c v ?_ q) (fun _ q => q) fun _ _ q => q
  rcases hc with z | z
  ·rw [z]; exact nit b u e
  ·exact nit c _ z
theorem Inv.tok (I:Inv X pins σ H s) (t:Nat):Inv X pins σ H { s with toks:=t }:=I.un (h':=s.heap) (t':=t) Un.refl I.hok
theorem Inv.kept {t' : Nat} (I:Inv X pins σ H s) (k:∀ b u,s.heap.get? b=some u→h'.get? b=some u):Inv X pins σ H { s with heap:=h',toks:=t' }:=I.un (Un.kept k) (I.hok.kept k)
theorem Inv.laid {a:Addr} {o:HO} {t' : Nat} (I:Inv X pins σ H s) (k:∀ b u,s.heap.get? b=some u→h'.get? b=some u) (hp:s.heap.objs.size ≤ a) (new:ObjOk X.prog X.w (upd H a o) h' a o) :
  Inv X pins σ (upd H a o) { s with heap:=h',toks:=t' }:=I.un (Un.laid k hp (I.hok.fresh hp)) (I.hok.laid k hp new)
theorem Inv.write {x e:Addr} {o:HO} {t' : Nat} (I:Inv X pins σ H s) (mu:Mut (H x)) (he:e=x ∨ H e=some (.own x)) (k:∀ b u,b ≠ e→s.heap.get? b=some u→h'.get? b=some u) (heo:∃ u,h'.get? e=some u)
  (new:ObjOk X.prog X.w (upd H x o) h' x o):Inv X pins σ (upd H x o) { s with heap:=h',toks:=t' }:=I.un (Un.write mu he k heo) (I.hok.write mu he k heo new)
theorem Inv.pins_of {pins' : List (Addr × Obj)} (I:Inv X pins σ H s) (h:∀ p ∈ pins',s.heap.get? p.1=some p.2∧H p.1=none∧p.1 ≠ X.env.locals∧p.1 ∉ X.fs∧∀ v,p.2.data ≠ .cell v):Inv X pins' σ H s :=
 ⟨I.ok,I.os,I.bare,I.base,I.loc,I.cell,I.free,I.freeC,fun p hp => (List.mem_append.mp hp).elim (fun z => I.pin p (List.mem_append_left _ z)) (h p),I.hok,I.len⟩
theorem nodup_ix {N:List Str} (hN:N.Nodup) {i j:Nat} {x:Str} (a:N[i]? = some x) (b:N[j]? = some x):i=j:=by
 obtain ⟨h1,e1⟩:=List.getElem?_eq_some_iff.mp a
 obtain ⟨h2,e2⟩:=List.getElem?_eq_some_iff.mp b
 exact (List.getElem_inj hN).mp (e1.trans e2.symm)
theorem store_ok2 {M:Model} {A:Around} {E:Value→Shared→Prop} {i:Nat} {x:Str} {v:V} {u:Value} {Q:Unit→Shared→Prop} (I:Inv X pins σ H s) (hN:X.N.Nodup) (hi:X.N[i]? = some x) (hx:Loc X.env.scope x) (r:RelV v u)
  (h:∀ s',Inv X pins (σ.set i (some v)) H s'→(∃ a,Heap.SameBut a s.heap s'.heap∧(a=X.env.locals ∨ X.env.cells.lookup x=some a))→Q () s') (hf:X.fn x=true ∨ X.env.scope.names.lookup x=some .local:=by first | exact .inl rfl | exact .inr rfl | assumption):wpAny M A (storeName X.env x u) Q E s:=by
 obtain ⟨m,hn,hl⟩:=id I.loc
 have hcls:(X.env.scope.kind == .class || (X.env.scope.kind == .module && X.env.locals != X.env.globals))=false:=by rw [I.ok.kind]; rfl
 have hiσ:i < σ.length:=by rw [I.len]; exact (List.getElem?_eq_some_iff.mp hi).1
 have cne:=I.cne
 have tracked:∀ {a:Addr} {h' : Heap},(∃ o,s.heap.get? a=some o∧H a=none)→Heap.SameBut a s.heap h'→HOk X.prog X.w H h':=fun {a h'} ha hs b ob e => by
  obtain ⟨_,_,hfree⟩:=ha
  refine (I.hok b ob e).stay (fun c w' hc q => (hs.2 c ?_).trans q) (fun _ q => q) fun _ _ q => q
  rintro rfl
  rcases hc with rfl | hc
  ·rw [hfree] at e; cases e
  ·rw [hfree] at hc; cases hc
 rcases hx with hk | hk
 ·refine wpAny_storeName_local hk hn (fun h' hn' hs => ?_) hcls
  obtain ⟨oL,_,_,hoL,_⟩:=id hn
  refine h _ ⟨I.ok,I.os,I.bare,⟨fun b o e n hb hx => ?_,fun b o e n hb hx => ?_,I.base.free,fun b o e hx => ?_,I.base.tups,I.base.frzs,I.base.tbls⟩,⟨_,hn',fun j y v' e1 e2 e3 => ?_⟩,fun y c e => ?_,I.free,I.freeC,fun p hp => ?_,tracked ⟨oL,hoL,I.free⟩ hs,by simpa using I.len⟩ ⟨_,hs,.inl rfl⟩
  ·exact (hs.2 b (Nat.ne_of_lt (Nat.lt_of_lt_of_le (Heap.lt_size e) I.ok.above))).trans (I.base.keep b o e n hb hx)
  ·obtain ⟨sl,e1⟩:=I.base.slot b o e n hb hx
   exact ⟨sl,(hs.2 b (Nat.ne_of_lt (Nat.lt_of_lt_of_le (Heap.lt_size e) I.ok.above))).trans e1⟩
  ·obtain ⟨o',e1⟩:=I.base.there b o e hx
   exact ⟨o',(hs.2 b (Nat.ne_of_lt (Nat.lt_of_lt_of_le (Heap.lt_size e) I.ok.above))).trans e1⟩
  ·by_cases hj:j=i
   ·subst hj
    rw [hi] at e1; cases e1
    rw [List.getElem?_set_self hiσ] at e2
    cases e2
    exact ⟨u,r,.inl ⟨hk,by simp⟩⟩
   ·rw [List.getElem?_set_ne (Ne.symm hj)] at e2
    obtain ⟨u',r',q⟩:=hl j y v' e1 e2 e3
    refine ⟨u',r',?_⟩
    rcases q with ⟨k,e⟩ | ⟨k,c,e,z⟩
    ·refine .inl ⟨k,?_⟩
     have:y ≠ x:=fun e => hj (nodup_ix hN e1 (e ▸ hi))
     simp [this,e]
    ·exact .inr ⟨k,c,e,z.sameBut hs (cne y c e)⟩
  ·obtain ⟨w',z⟩:=I.cell y c e
   exact ⟨w',z.sameBut hs (cne y c e)⟩
  ·obtain ⟨e,n,ne,nf,d⟩:=I.pin p hp
   exact ⟨(hs.2 p.1 ne).trans e,n,ne,nf,d⟩
 ·have hfn:X.fn x=true:=by
   rcases hf with z | z
   ·exact z
   ·rw [z] at hk; cases hk
  obtain ⟨c,hc⟩:=I.ok.has x (.inl hk)
  obtain ⟨w',z⟩:=I.cell x c hc
  refine wpAny_storeName_cell I.ok.kind hk hc z (fun h' hc' hs => ?_)
  obtain ⟨oc,hoc,hocd⟩:=id z
  refine h { s with heap:=h' } ⟨I.ok,I.os,I.bare,⟨fun b o e n hb hx => ?_,fun b o e n hb hx => ?_,I.base.free,fun b o e hx => ?_,I.base.tups,I.base.frzs,I.base.tbls⟩,⟨m,hn.sameBut hs (Ne.symm (cne x c hc)),fun j y v' e1 e2 e3 => ?_⟩,fun y c' e => ?_,I.free,I.freeC,fun p hp => ?_,tracked ⟨oc,hoc,I.freeC x c hc⟩ hs,by simpa using I.len⟩ ⟨c,hs,.inr hc⟩
  ·exact (hs.2 b (Nat.ne_of_lt (Nat.lt_of_lt_of_le (Heap.lt_size e) (I.ok.cab x c hfn hc)))).trans (I.base.keep b o e n hb hx)
  ·obtain ⟨sl,e1⟩:=I.base.slot b o e n hb hx
   exact ⟨sl,(hs.2 b (Nat.ne_of_lt (Nat.lt_of_lt_of_le (Heap.lt_size e) (I.ok.cab x c hfn hc)))).trans e1⟩
  ·obtain ⟨o',e1⟩:=I.base.there b o e hx
   exact ⟨o',(hs.2 b (Nat.ne_of_lt (Nat.lt_of_lt_of_le (Heap.lt_size e) (I.ok.cab x c hfn hc)))).trans e1⟩
  ·by_cases hj:j=i
   ·subst hj
    rw [hi] at e1; cases e1
    rw [List.getElem?_set_self hiσ] at e2
    cases e2
    exact ⟨u,r,.inr ⟨.inl hk,c,hc,hc'⟩⟩
   ·rw [List.getElem?_set_ne (Ne.symm hj)] at e2
    obtain ⟨u',r',q⟩:=hl j y v' e1 e2 e3
    refine ⟨u',r',?_⟩
    rcases q with q | ⟨k,c',e,z'⟩
    ·exact .inl q
    ·refine .inr ⟨k,c',e,z'.sameBut hs ?_⟩
     rintro rfl
     exact hj (nodup_ix hN e1 (I.ok.inj _ _ _ e hc ▸ hi))
  ·by_cases hcc:c' = c
   ·subst hcc; exact ⟨_,hc'⟩
   ·obtain ⟨w2,z2⟩:=I.cell y c' e
    exact ⟨w2,z2.sameBut hs hcc⟩
  ·obtain ⟨e,n,ne,nf,d⟩:=I.pin p hp
   refine ⟨(hs.2 p.1 ?_).trans e,n,ne,nf,d⟩
   intro q
   rw [q,hoc] at e
   have q' : oc=p.2:=Option.some.inj e
   exact d w' (by rw [← q']; exact hocd)
theorem store_ok {M:Model} {A:Around} {E:Value→Shared→Prop} {i:Nat} {x:Str} {v:V} {u:Value} {Q:Unit→Shared→Prop} (I:Inv X pins σ H s) (hN:X.N.Nodup) (hi:X.N[i]? = some x) (hx:Loc X.env.scope x) (r:RelV v u)
  (h:∀ s',Inv X pins (σ.set i (some v)) H s'→Q () s') (hf:X.fn x=true ∨ X.env.scope.names.lookup x=some .local:=by first | exact .inl rfl | exact .inr rfl | assumption):wpAny M A (storeName X.env x u) Q E s :=
 store_ok2 I hN hi hx r (fun s' I' _ => h s' I') hf
theorem Inv.call' {s' : Shared} {ch:List Addr} (I:Inv X pins σ H s) (ho:s'.os=s.os) (u:Un (frs X.stack) ch H H' s.heap s'.heap) (hok:HOk X.prog X.w H' s'.heap) (hg:AllBare s'.gens)
  (hch:∀ b ∈ ch,(b ∈ X.ex ∨ X.s₀.heap.objs.size ≤ b)∧b ≠ X.env.locals∧(∀ x c,X.env.cells.lookup x=some c→c ≠ b)∧∀ p ∈ X.pn ++ pins,p.1 ≠ b):Inv X pins σ H' s':=by
 obtain ⟨h',g',d',t',o'⟩:=s'
 have e:o' = s.os:=ho
 subst e
 exact I.call (g':=g') (t':=t') (d':=d') u hok hg hch
end
abbrev XK:=Value→Option Addr→Hp→Prop
abbrev St:=List (Option V)
abbrev VK:=V→Hp→Prop
abbrev TE:=St→Hp→VK→Prop
abbrev TT:=St→Hp→(Bool→Hp→Prop)→Prop
abbrev TA:=St→Hp→(List V→Hp→Prop)→Prop
structure Ends where
 nx:St→Hp→Prop
 rt:VK
 bk:St→Hp→Prop:=fun _ _ => False
 ct:St→Hp→Prop:=fun _ _ => False
abbrev TS:=Ends→St→Hp→Prop
def EP (X:Cx) (pins:List (Addr × Obj)) (σ:St) (Q:VK) (u:Value) (s' : Shared):Prop:=∃ v H',Inv X pins σ H' s'∧RelV v u∧Q v H'
def TP (X:Cx) (pins:List (Addr × Obj)) (σ:St) (Q:Bool→Hp→Prop) (b:Bool) (s' : Shared):Prop:=∃ H',Inv X pins σ H' s'∧Q b H'
def AP (X:Cx) (pins:List (Addr × Obj)) (σ:St) (Q:List V→Hp→Prop) (us:List Value) (s' : Shared):Prop:=∃ vs H',Inv X pins σ H' s'∧Vals vs us∧Q vs H'
def SP (X:Cx) (pins:List (Addr × Obj)) (D:Ends) (f:Flow) (s' : Shared):Prop :=
 match f with
 | .next => ∃ σ' H',Inv X pins σ' H' s'∧D.nx σ' H'
 | .brk => ∃ σ' H',Inv X pins σ' H' s'∧D.bk σ' H'
 | .cont => ∃ σ' H',Inv X pins σ' H' s'∧D.ct σ' H'
 | .ret u => ∃ v σ' H',Inv X pins σ' H' s'∧RelV v u∧D.rt v H'
def PE (X:Cx) (e:Expr) (t:TE):Prop :=
 ∀ (pins:List (Addr × Obj)) (s:Shared) (σ:St) (H:Hp) (Q:VK),Inv X pins σ H s→t σ H Q→wpAny (model X.prog X.w) X.A (eval e X.env) (EP X pins σ Q) X.xe s
def PT (X:Cx) (e:Expr) (t:TT):Prop :=
 ∀ (pins:List (Addr × Obj)) (s:Shared) (σ:St) (H:Hp) (Q:Bool→Hp→Prop),Inv X pins σ H s→t σ H Q→wpAny (model X.prog X.w) X.A (isTrue e X.env (eval e X.env)) (TP X pins σ Q) X.xe s
def PW (X:Cx) (e:Expr) (t:TT):Prop :=
 ∀ (whole:Sem Value) (pins:List (Addr × Obj)) (s:Shared) (σ:St) (H:Hp) (Q:Bool→Hp→Prop),Inv X pins σ H s→t σ H Q→wpAny (model X.prog X.w) X.A (isTrue e X.env whole) (TP X pins σ Q) X.xe s
theorem PW.pt {X:Cx} {e:Expr} {t:TT} (h:PW X e t):PT X e t:=h _
def PA (X:Cx) (es:List Expr) (t:TA):Prop :=
 ∀ (pos:PySem.Pos) (pins:List (Addr × Obj)) (s:Shared) (σ:St) (H:Hp) (Q:List V→Hp→Prop),Inv X pins σ H s→t σ H Q→wpAny (model X.prog X.w) X.A (spliced (backTo pos (starEach es X.env))) (AP X pins σ Q) X.xe s
def PS (X:Cx) (st:Stmt) (t:TS):Prop :=
 ∀ (pins:List (Addr × Obj)) (s:Shared) (σ:St) (H:Hp) (D:Ends),Inv X pins σ H s→t D σ H→wpAny (model X.prog X.w) X.A (exec st X.env) (SP X pins D) X.xe s
def PSs (X:Cx) (st:List Stmt) (t:TS):Prop :=
 ∀ (pins:List (Addr × Obj)) (s:Shared) (σ:St) (H:Hp) (D:Ends),Inv X pins σ H s→t D σ H→wpAny (model X.prog X.w) X.A (execs st X.env) (SP X pins D) X.xe s
theorem thn {α:Type} {t:Sem α} {Q Q' : α→Shared→Prop} {M:Model} {A:Around} {E:Value→Shared→Prop} {s:Shared} (h:wpAny M A t Q E s) (hQ:∀ a s,Q a s→Q' a s):wpAny M A t Q' E s:=wpAny_mono h hQ fun _ _ x => x
end L2
namespace L2
open PySem PySem.Spec PyProof.Rows
section
variable {X:Cx}
def tVar (i:Nat):TE:=fun σ H Q => ∃ v,σ[i]? = some (some v)∧Q v H
def tC (v:V):TE:=fun _ H Q => Q v H
theorem pe_var {i:Nat} {x:Str} {pos:PySem.Pos} (hN:X.N[i]? = some x) (hv:Vis X.env.scope x) (hd:(x == ("__debug__" : Str))=false:=by decide) (hcd:(x == ("__classdict__" : Str))=false:=by decide):PE X (.Name x pos) (tVar i):=by
 intro pins s σ H Q I h
 obtain ⟨v,e,h⟩:=h
 obtain ⟨m,hn,hl⟩:=I.loc
 obtain ⟨u,r,l⟩:=hl i x v hN e hv
 have fin:EP X pins σ Q u s:=⟨v,H,I,r,h⟩
 rcases l with ⟨hk,hm⟩ | ⟨hk,c,hc,hcell⟩
 ·exact wpAny_Name (wpAny_loadName_local I.ok.kind hk hn hm fin) hd
 ·rcases hk with hk | hk
  ·exact wpAny_Name (wpAny_loadName_cell I.ok.kind hk hc hcell fin) hd
  ·exact wpAny_Name (wpAny_loadName_free I.ok.kind hk hc hcell fin hcd) hd
theorem pe_int {i j pos} : PE X (.Constant (.int i) j pos) (tC (.int i)):=fun _ _ _ H _ I h => wpAny_Constant_int ⟨.int i,H,I.tok _,⟨_,rfl⟩,h⟩
theorem pe_bl {b j pos} : PE X (.Constant (.bool b) j pos) (tC (.bl b)):=fun _ _ _ H _ I h => Constant_bool ⟨.bl b,H,I,rfl,h⟩
theorem pe_non {j pos} : PE X (.Constant .none j pos) (tC .non):=fun _ _ _ H _ I h => Constant_none ⟨.non,H,I,rfl,h⟩
theorem pe_str {x j pos} : PE X (.Constant (.str x) j pos) (tC (.str x)):=fun _ _ _ H _ I h => Calls.Constant_str ⟨.str x,H,I.tok _,⟨_,rfl⟩,h⟩
def Gl (X:Cx) (x:Str):Prop:=X.env.kindOf x=some .globalImplicit
theorem ld_glob {E:Value→Shared→Prop} {pins:List (Addr × Obj)} {s:Shared} {σ:St} {H:Hp} {x:Str} {u:Value} {pos:PySem.Pos} {Q:Value→Shared→Prop} (I:Inv X pins σ H s) (hg:Gl X x) (hm:X.mg x=some u) (h:Q u s)
  (hd:(x == ("__debug__" : Str))=false:=by decide):wpAny (model X.prog X.w) X.A (eval (.Name x pos) X.env) Q E s :=
 Calls.Name_function_global I.ok.kind hg (Calls.loadGlobal_global (by rw [I.ok.glob]; exact I.mod.glob.keeps I.bk) hm h) hd
theorem ld_blt {E:Value→Shared→Prop} {pins:List (Addr × Obj)} {s:Shared} {σ:St} {H:Hp} {x:Str} {u:Value} {pos:PySem.Pos} {Q:Value→Shared→Prop} (I:Inv X pins σ H s) (hg:Gl X x) (hm:X.mg x=none) (hv:bootBuiltins x=some u) (h:Q u s)
  (hn:x ≠ "__name__" := by decide) (hd:(x == ("__debug__" : Str))=false:=by decide):wpAny (model X.prog X.w) X.A (eval (.Name x pos) X.env) Q E s:=by
 obtain ⟨mb,h1,h2⟩:=I.mod.blt
 exact Calls.Name_function_global I.ok.kind hg (Calls.loadGlobal_builtin (by rw [I.ok.glob]; exact I.mod.glob.keeps I.bk) hm (by rw [I.ok.blt]; exact h1.keeps I.bk) ((h2 x hn).trans hv) h) hd
theorem pe_glob {x:Str} {v:V} {u:Value} {pos:PySem.Pos} (hg:Gl X x) (hm:X.mg x=some u) (r:RelV v u) (hd:(x == ("__debug__" : Str))=false:=by decide):PE X (.Name x pos) (tC v) :=
 fun _ _ _ H _ I h => ld_glob I hg hm ⟨v,H,I,r,h⟩ hd
theorem pe_bltn {x:Str} {v:V} {u:Value} {pos:PySem.Pos} (hg:Gl X x) (hm:X.mg x=none) (hv:bootBuiltins x=some u) (r:RelV v u) (hn:x ≠ "__name__" := by decide) (hd:(x == ("__debug__" : Str))=false:=by decide):PE X (.Name x pos) (tC v) :=
 fun _ _ _ H _ I h => ld_blt I hg hm hv ⟨v,H,I,r,h⟩ hn hd
variable {a b:Expr} {ta tb:TE} {pos:PySem.Pos}
def PC (X:Cx) (op:CmpOp) (a b:Expr) (t:TE):Prop :=
 ∀ (pins:List (Addr × Obj)) (s:Shared) (σ:St) (H:Hp) (Q:VK),Inv X pins σ H s→t σ H Q →
  wpAny (model X.prog X.w) X.A (eval a X.env) (fun v s₁ => wpAny (model X.prog X.w) X.A (eval b X.env) (fun u s₂ => wpAny (model X.prog X.w) X.A (compareOp op v u) (EP X pins σ Q) X.xe s₂) X.xe s₁) X.xe s
theorem nobehind (b:Expr) {op:CmpOp} (h:op ≠ .In) (h2:op ≠ .NotIn):behindInMarks op b=false:=by
 have e1:(op == CmpOp.In)=false:=by cases op <;> first | rfl | exact absurd rfl h
 have e2:(op == CmpOp.NotIn)=false:=by cases op <;> first | rfl | exact absurd rfl h2
 cases b <;> simp [behindInMarks,e1,e2]
def tIsN (ta:TE):TE:=fun σ H Q => ta σ H fun x H1 => Q (.bl (decide (x = .non))) H1
theorem RelV.none_iff {x:V} {v:Value} (r:RelV x v):(v == Value.none)=decide (x = .non):=by
 cases x with
 | non => cases r; rfl
 | bl _ => cases r; rfl
 | int _ => obtain ⟨t,rfl⟩:=r; rfl
 | str _ => obtain ⟨t,rfl⟩:=r; rfl
 | byt _ => obtain ⟨t,rfl⟩:=r; rfl
 | flt _ => obtain ⟨t,rfl⟩:=r; rfl
 | ref _ => cases r; rfl
 | ty _ => cases r; rfl
theorem pc_isN {j pos'} (ha:PE X a ta):PC X .Is a (.Constant .none j pos') (tIsN ta):=by
 intro pins s σ H Q I h
 refine thn (ha pins s σ H _ I h) fun v s1 ⟨x,H1,I1,r1,q1⟩ => ?_
 exact Constant_none (is_none_gen ⟨.bl _,H1,I1,by rw [r1.none_iff]; rfl,q1⟩)
def tB (t:TE):TT:=fun σ H Q => t σ H fun x H1 => ∃ c,x = .bl c∧Q c H1
theorem pt_cmp {op:CmpOp} {t:TE} (h:PC X op a b t) (h1:behindInMarks op b=false:=by first | exact nobehind _ (by decide) (by decide) | rfl):PT X (.Compare a [op] [b] pos) (tB t):=by
 intro pins s σ H Q I hw
 refine wpAny_isTrue_Compare1 (thn (h pins s σ H _ I hw) fun v s1 h1 => thn h1 fun u s2 h2 => thn h2 fun c s3 ⟨x,H1,I1,r1,q1⟩ => ?_) h1
 obtain ⟨d,rfl,q⟩:=q1
 cases r1
 exact wpAny_truthy_bool ⟨H1,I1,q⟩
theorem pt_val {e:Expr} {t:TE} (h:PE X e t) (he:∀ whole,isTrue e X.env whole=(do let v ← whole; standAt e.pos; holding [v] (truthy v)):=by intro _; rfl):PT X e (tB t):=by
 intro pins s σ H Q I hw
 refine isTrue_plain (thn (h pins s σ H _ I hw) fun v s1 ⟨x,H1,I1,r1,q1⟩ => ?_) (he _)
 obtain ⟨d,rfl,q⟩:=q1
 cases r1
 exact wpAny_truthy_bool ⟨H1,I1,q⟩
variable {tA tB' : TT} {rest:List Expr}
def tAnd (t u:TT):TT:=fun σ H Q => t σ H fun c H1 => if c=true then u σ H1 Q else Q false H1
def tOr (t u:TT):TT:=fun σ H Q => t σ H fun c H1 => if c=true then Q true H1 else u σ H1 Q
def tNot (t:TT):TT:=fun σ H Q => t σ H fun c H1 => Q (!c) H1
theorem pw_and1 (ha:PT X a tA):PW X (.BoolOp .And [a] pos) tA:=by
 intro wh pins s σ H Q I h
 refine isTrue_and (thn (ha pins s σ H Q I h) fun c s1 e => ?_)
 cases c with
 | true => exact isTrue_and_nil e
 | false => exact e
theorem pw_or1 (ha:PT X a tA):PW X (.BoolOp .Or [a] pos) tA:=by
 intro wh pins s σ H Q I h
 refine isTrue_or (thn (ha pins s σ H Q I h) fun c s1 e => ?_)
 cases c with
 | false => exact isTrue_or_nil e
 | true => exact e
theorem pw_and (ha:PT X a tA) (hb:PW X (.BoolOp .And (b :: rest) pos) tB'):PW X (.BoolOp .And (a :: b :: rest) pos) (tAnd tA tB'):=by
 intro wh pins s σ H Q I h
 refine isTrue_and (thn (ha pins s σ H _ I h) fun c s1 ⟨H1,I1,q1⟩ => ?_)
 cases c with
 | true => exact hb wh pins s1 σ H1 Q I1 q1
 | false => exact ⟨H1,I1,q1⟩
theorem pw_or (ha:PT X a tA) (hb:PW X (.BoolOp .Or (b :: rest) pos) tB'):PW X (.BoolOp .Or (a :: b :: rest) pos) (tOr tA tB'):=by
 intro wh pins s σ H Q I h
 refine isTrue_or (thn (ha pins s σ H _ I h) fun c s1 ⟨H1,I1,q1⟩ => ?_)
 cases c with
 | true => exact ⟨H1,I1,q1⟩
 | false => exact hb wh pins s1 σ H1 Q I1 q1
theorem pt_not (ha:PT X a tA):PT X (.UnaryOp .Not a pos) (tNot tA):=by
 intro pins s σ H Q I h
 exact isTrue_not (ha pins s σ H (fun c H1 => Q (!c) H1) I h)
def tAndV (ta tb:TE):TE:=fun σ H Q => ta σ H fun x H1 => ∃ c,x = .bl c∧if c=true then tb σ H1 Q else Q (.bl false) H1
def tOrV (ta tb:TE):TE:=fun σ H Q => ta σ H fun x H1 => ∃ c,x = .bl c∧if c=true then Q (.bl true) H1 else tb σ H1 Q
def tNotV (ta:TE):TE:=fun σ H Q => ta σ H fun x H1 => ∃ c,x = .bl c∧Q (.bl (!c)) H1
theorem pe_one {op} {t:TE} (h:PE X a t):PE X (.BoolOp op [a] pos) t:=fun pins s σ H Q I hw => BoolOp_one (h pins s σ H Q I hw)
theorem pe_and (ha:PE X a ta) (hb:PE X (.BoolOp .And (b :: rest) pos) tb):PE X (.BoolOp .And (a :: b :: rest) pos) (tAndV ta tb):=by
 intro pins s σ H Q I h
 refine BoolOp_and (thn (ha pins s σ H _ I h) fun v s1 ⟨x,H1,I1,r1,q1⟩ => ?_)
 obtain ⟨c,rfl,q1⟩:=q1
 cases r1
 refine wpAny_truthy_bool ?_
 cases c with
 | true => exact hb pins s1 σ H1 Q I1 q1
 | false => exact ⟨.bl false,H1,I1,rfl,q1⟩
theorem pe_or (ha:PE X a ta) (hb:PE X (.BoolOp .Or (b :: rest) pos) tb):PE X (.BoolOp .Or (a :: b :: rest) pos) (tOrV ta tb):=by
 intro pins s σ H Q I h
 refine BoolOp_or (thn (ha pins s σ H _ I h) fun v s1 ⟨x,H1,I1,r1,q1⟩ => ?_)
 obtain ⟨c,rfl,q1⟩:=q1
 cases r1
 refine wpAny_truthy_bool ?_
 cases c with
 | false => exact hb pins s1 σ H1 Q I1 q1
 | true => exact ⟨.bl true,H1,I1,rfl,q1⟩
theorem pe_not (ha:PE X a ta):PE X (.UnaryOp .Not a pos) (tNotV ta):=by
 intro pins s σ H Q I h
 refine UnaryOp_ (thn (ha pins s σ H _ I h) fun v s1 ⟨x,H1,I1,r1,q1⟩ => ?_)
 obtain ⟨c,rfl,q1⟩:=q1
 cases r1
 exact not_of (wpAny_truthy_bool ⟨.bl (!c),H1,I1,rfl,q1⟩)
def tIf (t:TT) (ta tb:TE):TE:=fun σ H Q => t σ H fun c H1 => if c=true then ta σ H1 Q else tb σ H1 Q
theorem pe_ifExp {c:Expr} (hc:PT X c tA) (ha:PE X a ta) (hb:PE X b tb):PE X (.IfExp c a b pos) (tIf tA ta tb):=by
 intro pins s σ H Q I h
 refine wpAny_IfExp (thn (hc pins s σ H _ I h) fun d s1 ⟨H1,I1,q1⟩ => ?_)
 cases d with
 | true => exact ha pins s1 σ H1 Q I1 q1
 | false => exact hb pins s1 σ H1 Q I1 q1
end
end L2
namespace L2
open PySem PySem.Spec PyProof.Rows
def SqL (K:PySem.W.Frag) (H:Hp) (a:Addr) (xs:List V):Prop :=
 Rd H a (.lst xs) ∨
  ∃ (o:Obj) (its:Array Value) (n:Nat),K.lookup a=some o∧o.cls = .type "list" ∧ o.dict=none∧o.data = .seq its n∧its.size ≤ sizeLine∧Vals xs its.toList
def SqT (K:PySem.W.Frag) (H:Hp) (a:Addr) (xs:List V):Prop :=
 Rd H a (.tup xs) ∨
  ∃ (o:Obj) (its:Array Value) (n:Nat),K.lookup a=some o∧o.cls = .type "tuple" ∧ o.data = .seq its n∧its.size ≤ sizeLine∧Vals xs its.toList
def absV:Value→Option V
 | .none => some .non
 | .bool b => some (.bl b)
 | .int i _ => some (.int i)
 | .str x _ => some (.str x)
 | .bytes b _ => some (.byt b)
 | .float b _ => some (.flt b)
 | .ref a => some (.ref a)
 | .type n => some (.ty n)
 | _ => none
theorem RelV.abs {x:V} {u:Value} (r:RelV x u):absV u=some x:=by
 cases x with
 | non => cases r; rfl
 | bl _ => cases r; rfl
 | int _ => obtain ⟨t,rfl⟩:=r; rfl
 | str _ => obtain ⟨t,rfl⟩:=r; rfl
 | byt _ => obtain ⟨t,rfl⟩:=r; rfl
 | flt _ => obtain ⟨t,rfl⟩:=r; rfl
 | ref _ => cases r; rfl
 | ty _ => cases r; rfl
theorem RelV.inj {x y:V} {u:Value} (r:RelV x u) (q:RelV y u):x=y:=Option.some.inj (r.abs.symm.trans q.abs)
theorem Vals.inj:∀ {xs ys:List V} {us:List Value},Vals xs us→Vals ys us→xs=ys
 | _,_,_,.nil,.nil => rfl
 | _,_,_,.cons r t,.cons r' t' => by rw [r.inj r',Vals.inj t t']
section
variable {X:Cx} {pins:List (Addr × Obj)} {σ:St} {H:Hp} {s:Shared} {a:Addr} {xs ys:List V}
theorem SqL.of {K:PySem.W.Frag} (h:H a=some (.lst xs)):SqL K H a xs:=.inl (.inl h)
theorem SqT.of {K:PySem.W.Frag} (h:H a=some (.tup xs)):SqT K H a xs:=.inl (.inl h)
theorem Inv.list (I:Inv X pins σ H s) (h:SqL X.K H a xs):∃ its:List Value,Vals xs its∧PlainL s.heap a its.toArray∧xs.length ≤ sizeLine:=by
 rcases h with h | ⟨o,its,n,hk,hc,hd,hs,hz,r⟩
 ·obtain ⟨z,its,n,r,e⟩:=h.ok I.hok
  exact ⟨its,r,⟨_,n,e,rfl,rfl,rfl⟩,z⟩
 ·refine ⟨its.toList,r,⟨o,n,I.kIn a o hk,hc,hd,by simpa using hs⟩,?_⟩
  have e:=r.length
  simp only [Array.length_toList] at e
  omega
theorem Inv.tuple (I:Inv X pins σ H s) (h:SqT X.K H a xs):∃ its:List Value,Vals xs its∧IsTup s.heap a its.toArray∧xs.length ≤ sizeLine:=by
 rcases h with h | ⟨o,its,n,hk,hc,hs,hz,r⟩
 ·obtain ⟨z,its,r,p⟩:=h.ok I.hok
  exact ⟨its,r,p,z⟩
 ·refine ⟨its.toList,r,⟨o,I.kIn a o hk,hc,n,by simpa using hs⟩,?_⟩
  have e:=r.length
  simp only [Array.length_toList] at e
  omega
theorem Inv.list_inj (I:Inv X pins σ H s) (h:SqL X.K H a xs) (h' : SqL X.K H a ys):xs=ys:=by
 obtain ⟨its,r,⟨o,n,e,_,_,d⟩,_⟩:=I.list h
 obtain ⟨its',r',⟨o',n',e',_,_,d'⟩,_⟩:=I.list h'
 rw [e] at e'; cases e'
 rw [d] at d'
 injection d' with d1 _
 have:its=its':=by simpa using congrArg Array.toList d1
 subst this
 exact r.inj r'
theorem Inv.tuple_inj (I:Inv X pins σ H s) (h:SqT X.K H a xs) (h' : SqT X.K H a ys):xs=ys:=by
 obtain ⟨its,r,⟨o,e,_,n,d⟩,_⟩:=I.tuple h
 obtain ⟨its',r',⟨o',e',_,n',d'⟩,_⟩:=I.tuple h'
 rw [e] at e'; cases e'
 rw [d] at d'
 injection d' with d1 _
 have:its=its':=by simpa using congrArg Array.toList d1
 subst this
 exact r.inj r'
end
abbrev Cx.wish (X:Cx) (E:Value→Shared→Prop):Cx:={ X with xe:=E }
abbrev Cx.nox (X:Cx):Cx:=X.wish fun _ _ => False
theorem Cx.Ok.wish {X:Cx} (ok:X.Ok) (E:Value→Shared→Prop):(X.wish E).Ok :=
 ⟨ok.mod,ok.kind,ok.glob,ok.blt,ok.above,ok.inj,ok.has,ok.cab,ok.hd,ok.frames,ok.stk,ok.exf,ok.bs,ok.bsz,ok.noex,ok.exfs,ok.funs,ok.frf⟩
theorem Cx.Ok.unwish {X:Cx} {E:Value→Shared→Prop} (ok:(X.wish E).Ok):X.Ok :=
 ⟨ok.mod,ok.kind,ok.glob,ok.blt,ok.above,ok.inj,ok.has,ok.cab,ok.hd,ok.frames,ok.stk,ok.exf,ok.bs,ok.bsz,ok.noex,ok.exfs,ok.funs,ok.frf⟩
section
variable {X:Cx} {pins:List (Addr × Obj)} {σ:St} {H:Hp} {s:Shared} {E:Value→Shared→Prop}
theorem Inv.wish (I:Inv X pins σ H s) (E:Value→Shared→Prop):Inv (X.wish E) pins σ H s:=⟨I.ok.wish E,I.os,I.bare,I.base,I.loc,I.cell,I.free,I.freeC,I.pin,I.hok,I.len⟩
theorem Inv.unwish (I:Inv (X.wish E) pins σ H s):Inv X pins σ H s:=⟨I.ok.unwish,I.os,I.bare,I.base,I.loc,I.cell,I.free,I.freeC,I.pin,I.hok,I.len⟩
theorem SP.unwish {D:Ends} {f:Flow} {s' : Shared} (h:SP (X.wish E) pins D f s'):SP X pins D f s':=by
 cases f with
 | next => obtain ⟨σ',H',I,q⟩:=h; exact ⟨σ',H',I.unwish,q⟩
 | brk => obtain ⟨σ',H',I,q⟩:=h; exact ⟨σ',H',I.unwish,q⟩
 | cont => obtain ⟨σ',H',I,q⟩:=h; exact ⟨σ',H',I.unwish,q⟩
 | ret u => obtain ⟨v,σ',H',I,r,q⟩:=h; exact ⟨v,σ',H',I.unwish,r,q⟩
theorem PE.nox {e:Expr} {t:TE} (h:PE X.nox e t):PE X e t:=fun pins s σ H Q I hw =>
 wpAny_mono (h pins s σ H Q (I.wish _) hw) (fun _ _ ⟨v,H',I',r,q⟩ => ⟨v,H',I'.unwish,r,q⟩) fun _ _ z => False.elim z
theorem PT.nox {e:Expr} {t:TT} (h:PT X.nox e t):PT X e t:=fun pins s σ H Q I hw =>
 wpAny_mono (h pins s σ H Q (I.wish _) hw) (fun _ _ ⟨H',I',q⟩ => ⟨H',I'.unwish,q⟩) fun _ _ z => False.elim z
theorem PSs.nox {st:List Stmt} {t:TS} (h:PSs X.nox st t):PSs X st t:=fun pins s σ H D I hw =>
 wpAny_mono (h pins s σ H D (I.wish _) hw) (fun _ _ q => q.unwish) fun _ _ z => False.elim z
end
section
variable {X:Cx} {st:Stmt} {rest:List Stmt} {t u:TS} {e:Expr} {te:TE} {pos:PySem.Pos}
def tNext:TS:=fun D σ H => D.nx σ H
def tSeq (t u:TS):TS:=fun D σ H => t { D with nx:=u D } σ H
theorem pss_nil:PSs X [] tNext:=fun _ _ σ H _ I h => wpAny_execs_nil ⟨σ,H,I,h⟩
theorem pss_cons (h1:PS X st t) (h2:PSs X rest u):PSs X (st :: rest) (tSeq t u):=by
 intro pins s σ H D I h
 refine wpAny_execs_cons (thn (h1 pins s σ H { D with nx:=u D } I h) fun f s1 q => ?_)
 cases f with
 | next =>
  obtain ⟨σ',H',I',q⟩:=q
  exact h2 pins s1 σ' H' D I' q
 | ret v => exact q
 | brk => exact q
 | cont => exact q
theorem pss_one (h1:PS X st t):PSs X [st] t:=by
 intro pins s σ H D I h
 refine wpAny_execs_cons (thn (h1 pins s σ H D I h) fun f s1 q => ?_)
 cases f with
 | next => exact wpAny_execs_nil q
 | ret v => exact q
 | brk => exact q
 | cont => exact q
theorem Inv.quiet {pins:List (Addr × Obj)} {σ:St} {H:Hp} {s:Shared} (I:Inv X pins σ H s):interactive X.env=false:=by simp [interactive,I.ok.kind]
def tDrop (te:TE):TS:=fun D σ H => te σ H fun _ H1 => D.nx σ H1
theorem ps_expr (he:PE X e te) (hs:swapsWith e none pos.line X.env=pure false:=by rfl):PS X (.Expr e pos) (tDrop te):=by
 intro pins s σ H D I h
 exact wpAny_Expr_any (thn (he pins s σ H _ I h) fun v s1 ⟨x,H1,I1,r1,q1⟩ => ⟨σ,H1,I1,q1⟩) I.quiet hs
def tRet (te:TE):TS:=fun D σ H => te σ H D.rt
theorem ps_ret (he:PE X e te):PS X (.Return (some e) pos) (tRet te):=by
 intro pins s σ H D I h
 exact wpAny_Return_some (thn (he pins s σ H _ I h) fun v s1 ⟨x,H1,I1,r1,q1⟩ => ⟨x,σ,H1,I1,r1,q1⟩)
def tIfS (c:TT) (t u:TS):TS:=fun D σ H => c σ H fun b H1 => if b=true then t D σ H1 else u D σ H1
theorem ps_if {c:Expr} {a b:List Stmt} {tc:TT} (hc:PT X c tc) (ha:PSs X a t) (hb:PSs X b u):PS X (.If c a b pos) (tIfS tc t u):=by
 intro pins s σ H D I h
 refine wpAny_If (thn (hc pins s σ H _ I h) fun d s1 ⟨H1,I1,q1⟩ => ?_)
 cases d with
 | true => exact ha pins s1 σ H1 D I1 q1
 | false => exact hb pins s1 σ H1 D I1 q1
end
abbrev TG:=V→St→Hp→(St→Hp→Prop)→Prop
abbrev TGs:=List V→St→Hp→(St→Hp→Prop)→Prop
def PG (X:Cx) (target:Expr) (t:TG):Prop :=
 ∀ (pins:List (Addr × Obj)) (s:Shared) (σ:St) (H:Hp) (v:V) (u:Value) (Q:St→Hp→Prop),Inv X pins σ H s→RelV v u→t v σ H Q →
  wpAny (model X.prog X.w) X.A (assign target X.env u) (fun _ s' => ∃ σ' H',Inv X pins σ' H' s'∧Q σ' H') X.xe s
def PGs (X:Cx) (ts:List Expr) (t:TGs):Prop :=
 ∀ (pins:List (Addr × Obj)) (s:Shared) (σ:St) (H:Hp) (vs:List V) (us:List Value) (Q:St→Hp→Prop),Inv X pins σ H s→Vals vs us→t vs σ H Q →
  wpAny (model X.prog X.w) X.A (assignInOrder ((assignEach ts X.env).map (·.2)) us) (fun _ s' => ∃ σ' H',Inv X pins σ' H' s'∧Q σ' H') X.xe s
abbrev TSet:=V→V→V→Hp→(Hp→Prop)→Prop
def PSet (X:Cx) (t:TSet):Prop :=
 ∀ (pins:List (Addr × Obj)) (s:Shared) (σ:St) (H:Hp) (o i v:V) (ov iv u:Value) (Q:Hp→Prop),Inv X pins σ H s→RelV o ov→RelV i iv→RelV v u→t o i v H Q →
  wpAny (model X.prog X.w) X.A (setItem ov iv u) (fun _ s' => ∃ H',Inv X pins σ H' s'∧Q H') X.xe s
section
variable {X:Cx} {pos:PySem.Pos}
def gName (i:Nat):TG:=fun v σ H Q => Q (σ.set i (some v)) H
theorem pg_name {i:Nat} {x:Str} (hN:X.N.Nodup) (hi:X.N[i]? = some x) (hx:Loc X.env.scope x) (hf:X.fn x=true ∨ X.env.scope.names.lookup x=some .local:=by first | exact .inl rfl | exact .inr rfl | assumption):PG X (.Name x pos) (gName i):=by
 intro pins s σ H v u Q I r h
 exact wpAny_assign_Name (store_ok I hN hi hx r (fun s' I' => ⟨_,H,I',h⟩) hf)
def gNil:TGs:=fun vs σ H Q => vs=[]∧Q σ H
def gCons (t:TG) (u:TGs):TGs:=fun vs σ H Q => ∃ v r,vs=v :: r∧t v σ H fun σ' H' => u r σ' H' Q
theorem pgs_nil:PGs X [] gNil:=by
 intro pins s σ H vs us Q I r h
 obtain ⟨e,h⟩:=h
 subst e
 cases r
 exact assignInOrder_nil ⟨σ,H,I,h⟩
theorem pgs_cons {e:Expr} {es:List Expr} {t:TG} {u:TGs} (h1:PG X e t) (h2:PGs X es u)
  (hs:(assignEach (e :: es) X.env).map (·.2)=assign e X.env :: (assignEach es X.env).map (·.2):=by rfl):PGs X (e :: es) (gCons t u):=by
 intro pins s σ H vs us Q I r h
 obtain ⟨v,vr,e1,h⟩:=h
 subst e1
 cases r with
 | cons r rr =>
  rw [hs]
  refine assignInOrder_cons (thn (h1 pins s σ H _ _ _ I r h) fun _ s1 ⟨σ1,H1,I1,q1⟩ => ?_)
  exact h2 pins s1 σ1 H1 _ _ Q I1 rr q1
def gTup (K:PySem.W.Frag) (n:Nat) (t:TGs):TG:=fun v σ H Q => ∃ a xs,v = .ref a∧SqT K H a xs∧xs.length=n∧t xs σ H Q
theorem pg_tup {es:List Expr} {k:Nat} {t:TGs} {n:Nat} (hc:X.calm=true) (h:PGs X es t)
  (hn:(assignEach es X.env).length=n:=by rfl) (hst:(assignEach es X.env).findIdx? (·.1)=none:=by rfl):PG X (.Tuple es k pos) (gTup X.K n t):=by
 intro pins s σ H v u Q I r hw
 obtain ⟨a,xs,e1,hq,hl,hw⟩:=hw
 subst e1
 cases r
 obtain ⟨its,rv,ht,hz⟩:=I.tuple hq
 refine assign_Tuple_tuple (I.ok.hd hc) ht (by simp [hn,← hl,rv.length]) hst fun h' hx => ?_
 have I1:Inv X pins σ H { s with heap:=h' }:=I.kept (t':=s.toks) fun b o e => hx b o (Nat.ne_of_lt (Heap.lt_size e)) e
 exact h pins _ σ H xs _ Q I1 (by simpa using rv) hw
def gSub (to ti:TE) (t:TSet):TG:=fun v σ H Q => to σ H fun o H1 => ti σ H1 fun i H2 => t o i v H2 fun H3 => Q σ H3
theorem pg_sub {o i:Expr} {to ti:TE} {t:TSet} (ho:PE X o to) (hi:PE X i ti) (hs:PSet X t)
  (ha:∀ v,assign (.Subscript o i pos) X.env v=(do
   let ov ← holding [v] (eval o X.env)
   let iv ← holding [v,ov] (eval i X.env)
   standAt pos
   holding [v,ov,iv] (setItem ov iv v)
   release [v,ov,iv] []):=by intro _; rfl):PG X (.Subscript o i pos) (gSub to ti t):=by
 intro pins s σ H v u Q I r h
 rw [ha]
 refine wpAny_bind (wpAny_holding (thn (ho pins s σ H _ I h) fun ov s1 ⟨x,H1,I1,r1,q1⟩ => ?_))
 refine wpAny_bind (wpAny_holding (thn (hi pins s1 σ H1 _ I1 q1) fun iv s2 ⟨y,H2,I2,r2,q2⟩ => ?_))
 refine wpAny_bind (wpAny_standAt (wpAny_bind (wpAny_holding (thn (hs pins s2 σ H2 x y v ov iv u _ I2 r1 r2 r q2) fun _ s3 ⟨H3,I3,q3⟩ => ?_))))
 exact wpAny_release ⟨σ,H3,I3,q3⟩
def tAsg (te:TE) (g:TG):TS:=fun D σ H => te σ H fun x H1 => g x σ H1 D.nx
theorem ps_asg {tg e:Expr} {te:TE} {g:TG} (he:PE X e te) (hg:PG X tg g) (hs:swapsWithSole [tg] e pos.line X.env=pure false:=by rfl) (hw:swappedStores [tg] e X.env=pure none:=by rfl)
  (h1:(assignEach [tg] X.env).map (·.2)=[assign tg X.env]:=by rfl):PS X (.Assign [tg] e pos) (tAsg te g):=by
 intro pins s σ H D I h
 refine wpAny_Assign_stores (thn (he pins s σ H _ I h) fun v s1 ⟨x,H1,I1,r1,q1⟩ => ?_) hs hw
 rw [h1]
 exact thn (hg pins s1 σ H1 x v _ I1 r1 q1) fun _ s2 q => q
theorem ps_set {i:Nat} {x:Str} {e:Expr} {te:TE} {pos' : PySem.Pos} (hN:X.N.Nodup) (hi:X.N[i]? = some x) (hx:Loc X.env.scope x) (he:PE X e te) (hs:swapsWith e (some (.Name x pos')) pos.line X.env=pure false:=by rfl) (hf:X.fn x=true ∨ X.env.scope.names.lookup x=some .local:=by first | exact .inl rfl | exact .inr rfl | assumption) :
  PS X (.Assign [.Name x pos'] e pos) (tAsg te (gName i)):=by
 intro pins s σ H D I h
 refine wpAny_Assign_Name (thn (he pins s σ H _ I h) fun v s1 ⟨y,H1,I1,r1,q1⟩ => ?_) hs
 exact store_ok I1 hN hi hx r1 (fun s2 I2 => ⟨_,H1,I2,q1⟩) hf
end
structure It where
 go:Nat→Hp→Prop
 yld:Nat→Hp→V→Hp→Prop
 stop:Nat→Hp→Prop
def FpOk (X:Cx) (pins:List (Addr × Obj)) (H:Hp) (b:Addr):Prop :=
 H b=none∧b ≠ X.env.locals∧b ∉ X.fs∧(b ∈ X.ex ∨ X.s₀.heap.objs.size ≤ b)∧(∀ x c,X.env.cells.lookup x=some c→c ≠ b)∧∀ p ∈ X.pn ++ pins,p.1 ≠ b
theorem Inv.fpOk {X:Cx} {pins:List (Addr × Obj)} {σ:St} {H H' : Hp} {s:Shared} {b:Addr} (I:Inv X pins σ H s) (hb:s.heap.objs.size ≤ b) (hn:H' b=none):FpOk X pins H' b:=by
 refine ⟨hn,Nat.ne_of_gt (Nat.lt_of_lt_of_le I.lt hb),I.nofs hb,.inr (Nat.le_trans I.sz hb),fun x c e z => ?_,fun p hp z => ?_⟩
 ·obtain ⟨v,q⟩:=I.cell x c e
  exact absurd (Nat.lt_of_lt_of_le q.lt (by rw [z]; exact hb)) (Nat.lt_irrefl _)
 ·exact absurd (Nat.lt_of_lt_of_le (Heap.lt_size (I.pin p hp).1) (by rw [z]; exact hb)) (Nat.lt_irrefl _)
structure Turn (P:Program) (w:World) (K:PySem.W.Frag) (tg:Expr) (J:It) (fp:List Addr) (it:Addr) (tn:Nat→Heap→Prop):Prop where
 mem:it ∈ fp
 obj:∀ i h,tn i h→∀ b ∈ fp,∃ o,h.get? b=some o∧∀ v,o.data ≠ .cell v
 keep:∀ i h h',tn i h→(∀ b ∈ fp,∀ o,h.get? b=some o→h'.get? b=some o)→tn i h'
 item:∀ (X:Cx),X.prog=P→X.w=w→X.K=K→X.calm=true→∀ (i:Nat) (pins:List (Addr × Obj)) (s:Shared) (σ:St) (H:Hp) (E:Value→Shared→Prop),Inv X pins σ H s→(∀ b ∈ fp,FpOk X pins H b)→tn i s.heap→J.go i H →
  wpAny (model P w) X.A (pyNext (.ref it)) (fun r s1 => ∃ u,r=some u ∧
   wpAny (model P w) X.A (letOwnedTupleGo tg (.ref it) u) (fun _ s2 => ∃ x H',Inv X pins σ H' s2∧RelV x u∧J.yld i H x H'∧tn (i + 1) s2.heap∧∀ b ∈ fp,H' b=none) E s1) E s
 done:∀ (X:Cx),X.prog=P→X.w=w→X.K=K→X.calm=true→∀ (i:Nat) (pins:List (Addr × Obj)) (s:Shared) (σ:St) (H:Hp) (E:Value→Shared→Prop),Inv X pins σ H s→(∀ b ∈ fp,FpOk X pins H b)→tn i s.heap→J.stop i H →
  wpAny (model P w) X.A (pyNext (.ref it)) (fun r s1 => r=none∧Inv X pins σ H s1) E s
 self:∀ (A:Around) (i:Nat) (s:Shared) (Q:Value→Shared→Prop) (E:Value→Shared→Prop),tn i s.heap→Q (.ref it) s→wpAny (model P w) A (pyIter (.ref it)) Q E s
abbrev TI:=St→Hp→(It→Hp→Prop)→Prop
def PIE (X:Cx) (pins:List (Addr × Obj)) (σ:St) (tg:Expr) (R:It→Hp→Prop) (itv:Value) (s2:Shared):Prop :=
 ∃ (it:Addr) (fp:List Addr) (tn:Nat→Heap→Prop) (J:It) (H' : Hp),itv = .ref it∧Inv X pins σ H' s2∧Turn X.prog X.w X.K tg J fp it tn∧tn 0 s2.heap∧(∀ b ∈ fp,FpOk X pins H' b)∧R J H'
def PI (X:Cx) (tg iter:Expr) (wi:TI):Prop :=
 ∀ (pins:List (Addr × Obj)) (s:Shared) (σ:St) (H:Hp) (R:It→Hp→Prop),Inv X pins σ H s→wi σ H R →
  wpAny (model X.prog X.w) X.A (eval iter X.env) (fun v s1 => wpAny (model X.prog X.w) X.A (pyIter v) (PIE X pins σ tg R) X.xe s1) X.xe s
theorem go_of {M:Model} {A:Around} {E:Value→Shared→Prop} {s:Shared} {tg:Expr} {it:Addr} {u:Value} {o:Obj} {n:String} {vs:Array Value} {Q:Unit→Shared→Prop} (ho:s.heap.get? it=some o) (hc:o.cls = .type n) (hd:o.data = .fields vs)
  (hn:["enumerate", "zip", "dict_itemiterator", "dict_reverseitemiterator", "odict_iterator", "itertools.zip_longest", "itertools.pairwise"].contains n=false) (hQ:Q () s):wpAny M A (letOwnedTupleGo tg (.ref it) u) Q E s:=by
 unfold letOwnedTupleGo
 cases tg <;> first
  | exact wpAny_pure hQ
  | (cases u <;> first
    | exact wpAny_pure hQ
    | (refine wpAny_bind (wpAny_load ho ?_)
       rw [hc,hd]
       show wpAny M A (if (["enumerate", "zip", "dict_itemiterator", "dict_reverseitemiterator", "odict_iterator", "itertools.zip_longest", "itertools.pairwise"].contains n && vs[0]? == some (rawInt _))=true then _ else _) Q E s
       rw [if_neg (by intro h; rw [hn,Bool.false_and] at h; cases h)]
       exact wpAny_pure hQ))
def Itl (K:PySem.W.Frag) (a:Addr):It :=
 ⟨fun i H => ∃ xs x,SqL K H a xs∧xs[i]? = some x,fun i H x H' => H' = H∧∀ xs,SqL K H a xs→xs[i]? = some x,fun i H => ∃ xs,SqL K H a xs∧xs.length ≤ i⟩
def Itt (K:PySem.W.Frag) (a:Addr):It :=
 ⟨fun i H => ∃ xs x,SqT K H a xs∧xs[i]? = some x,fun i H x H' => H' = H∧∀ xs,SqT K H a xs→xs[i]? = some x,fun i H => ∃ xs,SqT K H a xs∧xs.length ≤ i⟩
def Itr (lo:Int) (n:Nat):It:=⟨fun i _ => i < n,fun i H x H' => H' = H∧x = .int (lo + i),fun i _ => n ≤ i⟩
theorem turn_list {P:Program} {w:World} {K:PySem.W.Frag} {tg:Expr} (a it:Addr):Turn P w K tg (Itl K a) [it] it (fun i h => h.IsListIter it a i) where
 mem:=by simp
 obj:=fun i h st b hb => by
  have e:b=it:=by simpa using hb
  subst e
  obtain ⟨o,e,c,d⟩:=st
  exact ⟨o,e,fun v z => by rw [d] at z; cases z⟩
 keep:=fun i h h' st k => st.at fun o e => k it (by simp) o e
 item:=by
  intro X hP hw hK hc i pins s σ H E I hf st hg
  subst hP hw hK
  obtain ⟨xs,x,hq,hx⟩:=hg
  obtain ⟨its,rv,p,hz⟩:=I.list hq
  obtain ⟨u,hu,ru⟩:=rv.get hx
  obtain ⟨f0,f1,f2,f3,f4,f5⟩:=hf it (by simp)
  refine wpAny_pyNext_list_item st p.isList (x:=u) (by simpa using hu) fun h' st' sb => ?_
  have I1:Inv X pins σ H { s with heap:=h' }:=I.turned (t':=s.toks) (fun b o hb e => (sb.2 b hb).trans e) f0 f1 f3 f4 f5
  obtain ⟨o,e,c,d⟩:=id st'
  exact ⟨u,rfl,go_of (s:={ s with heap:=h' }) e c d (by decide) ⟨x,H,I1,ru,⟨rfl,fun ys hy => by rw [I.list_inj hy hq]; exact hx⟩,st',fun b hb => (hf b hb).1⟩⟩
 done:=by
  intro X hP hw hK hc i pins s σ H E I hf st hg
  subst hP hw hK
  obtain ⟨xs,hq,hx⟩:=hg
  obtain ⟨its,rv,p,hz⟩:=I.list hq
  obtain ⟨f0,f1,f2,f3,f4,f5⟩:=hf it (by simp)
  have hl:=rv.length
  exact wpAny_pyNext_list_end (I.ok.hd hc) st p.isList (by simp; omega) fun h' eb => ⟨rfl,I.turned (t':=s.toks) (fun b o hb e => eb b o hb e) f0 f1 f3 f4 f5⟩
 self:=fun _ _ _ _ _ st h => wpAny_pyIter_listiter st h
theorem turn_tuple {P:Program} {w:World} {K:PySem.W.Frag} {tg:Expr} (a it:Addr):Turn P w K tg (Itt K a) [it] it (fun i h => h.IsTupleIter it a i) where
 mem:=by simp
 obj:=fun i h st b hb => by
  have e:b=it:=by simpa using hb
  subst e
  obtain ⟨o,e,c,d⟩:=st
  exact ⟨o,e,fun v z => by rw [d] at z; cases z⟩
 keep:=fun i h h' st k => st.at fun o e => k it (by simp) o e
 item:=by
  intro X hP hw hK hc i pins s σ H E I hf st hg
  subst hP hw hK
  obtain ⟨xs,x,hq,hx⟩:=hg
  obtain ⟨its,rv,p,hz⟩:=I.tuple hq
  obtain ⟨u,hu,ru⟩:=rv.get hx
  obtain ⟨f0,f1,f2,f3,f4,f5⟩:=hf it (by simp)
  refine wpAny_pyNext_tuple_item st (show s.heap.IsTuple a its.toArray from p) (x:=u) (by simpa using hu) fun h' st' sb => ?_
  have I1:Inv X pins σ H { s with heap:=h' }:=I.turned (t':=s.toks) (fun b o hb e => (sb.2 b hb).trans e) f0 f1 f3 f4 f5
  obtain ⟨o,e,c,d⟩:=id st'
  exact ⟨u,rfl,go_of (s:={ s with heap:=h' }) e c d (by decide) ⟨x,H,I1,ru,⟨rfl,fun ys hy => by rw [I.tuple_inj hy hq]; exact hx⟩,st',fun b hb => (hf b hb).1⟩⟩
 done:=by
  intro X hP hw hK hc i pins s σ H E I hf st hg
  subst hP hw hK
  obtain ⟨xs,hq,hx⟩:=hg
  obtain ⟨its,rv,p,hz⟩:=I.tuple hq
  obtain ⟨f0,f1,f2,f3,f4,f5⟩:=hf it (by simp)
  have hl:=rv.length
  exact wpAny_pyNext_tuple_end (I.ok.hd hc) st (show s.heap.IsTuple a its.toArray from p) (by simp; omega) fun h' eb => ⟨rfl,I.turned (t':=s.toks) (fun b o hb e => eb b o hb e) f0 f1 f3 f4 f5⟩
 self:=fun _ _ _ _ _ st h => wpAny_pyIter_tupleiter st h
theorem turn_range {P:Program} {w:World} {K:PySem.W.Frag} {tg:Expr} (it:Addr) (lo:Int) (n:Nat):Turn P w K tg (Itr lo n) [it] it (fun i h => IsRangeIter h it (lo + (i:Nat) * 1) ((n:Int) - (i:Nat)) 1) where
 mem:=by simp
 obj:=fun i h st b hb => by
  have e:b=it:=by simpa using hb
  subst e
  exact ⟨_,st,fun v z => by
   have z' : Data.fields _=Data.cell v:=z
   cases z'⟩
 keep:=fun i h h' st k => k it (by simp) _ st
 item:=by
  intro X hP hw hK hc i pins s σ H E I hf st hg
  subst hP hw hK
  obtain ⟨f0,f1,f2,f3,f4,f5⟩:=hf it (by simp)
  have W:=Walks.range (prog:=X.prog) (w:=X.w) (I.ok.hd hc) it lo 1 n
  refine W.item i s _ _ hg st fun v h' tk hv st' kk => ?_
  obtain ⟨t,rfl⟩:=hv
  have I1:Inv X pins σ H { s with heap:=h',toks:=tk }:=I.turned (fun b o hb e => kk b o (by simpa using hb) e) f0 f1 f3 f4 f5
  refine ⟨_,rfl,go_of (s:={ s with heap:=h',toks:=tk }) (n := "range_iterator") st' rfl rfl (by decide) ⟨.int (lo + i),H,I1,⟨t,?_⟩,⟨rfl,rfl⟩,st',fun b hb => (hf b hb).1⟩⟩
  rw [Int.mul_one]
 done:=by
  intro X hP hw hK hc i pins s σ H E I hf st hg
  subst hP hw hK
  obtain ⟨f0,f1,f2,f3,f4,f5⟩:=hf it (by simp)
  exact wpAny_pyNext_range_end (I.ok.hd hc) st (by have:n ≤ i:=hg; omega) fun h' eb => ⟨rfl,I.turned (t':=s.toks) (fun b o hb e => eb b o hb e) f0 f1 f3 f4 f5⟩
 self:=fun _ _ _ _ _ st h => wpAny_pyIter_rangeiter st h
end L2
namespace L2
open PySem PySem.Spec PyProof.Rows
section
variable {X:Cx} {tg:Expr}
def iList (K:PySem.W.Frag) (tl:TE):TI:=fun σ H R => tl σ H fun x H1 => ∃ a,x = .ref a∧(∃ xs,SqL K H1 a xs)∧R (Itl K a) H1
def iTup (K:PySem.W.Frag) (tl:TE):TI:=fun σ H R => tl σ H fun x H1 => ∃ a,x = .ref a∧(∃ xs,SqT K H1 a xs)∧R (Itt K a) H1
theorem pi_list {l:Expr} {tl:TE} (hl:PE X l tl):PI X tg l (iList X.K tl):=by
 intro pins s σ H R I h
 refine thn (hl pins s σ H _ I h) fun v s1 ⟨x,H1,I1,r1,q1⟩ => ?_
 obtain ⟨a,e,⟨xs,hq⟩,q⟩:=q1
 subst e
 cases r1
 obtain ⟨its,rv,p,hz⟩:=I1.list hq
 refine wpAny_pyIter_list p.isList ?_
 refine ⟨s1.heap.objs.size,[s1.heap.objs.size],_,_,H1,rfl,I1.kept (t':=s1.toks) fun b o e => Heap.get?_push_of_some _ e,turn_list a _,⟨_,Heap.get?_push_size _ rfl,rfl,rfl⟩,fun b hb => ?_,q⟩
 have e:b=s1.heap.objs.size:=by simpa using hb
 subst e
 exact I1.fpOk (Nat.le_refl _) (I1.hok.fresh (Nat.le_refl _))
theorem pi_tup {l:Expr} {tl:TE} (hl:PE X l tl):PI X tg l (iTup X.K tl):=by
 intro pins s σ H R I h
 refine thn (hl pins s σ H _ I h) fun v s1 ⟨x,H1,I1,r1,q1⟩ => ?_
 obtain ⟨a,e,⟨xs,hq⟩,q⟩:=q1
 subst e
 cases r1
 obtain ⟨its,rv,p,hz⟩:=I1.tuple hq
 refine wpAny_pyIter_tuple (show s1.heap.IsTuple a its.toArray from p) ?_
 refine ⟨s1.heap.objs.size,[s1.heap.objs.size],_,_,H1,rfl,I1.kept (t':=s1.toks) fun b o e => Heap.get?_push_of_some _ e,turn_tuple a _,⟨_,Heap.get?_push_size _ rfl,rfl,rfl⟩,fun b hb => ?_,q⟩
 have e:b=s1.heap.objs.size:=by simpa using hb
 subst e
 exact I1.fpOk (Nat.le_refl _) (I1.hok.fresh (Nat.le_refl _))
theorem range_it {pins:List (Addr × Obj)} {σ:St} {H:Hp} {s:Shared} {R:It→Hp→Prop} {E:Value→Shared→Prop} {lo hi:Int} {t u v:Tok} {tk:Nat} (I:Inv X pins σ H s) (h1 : -(2 ^ 62) ≤ lo) (h2:lo < 2 ^ 62) (h3 : -(2 ^ 62) ≤ hi) (h4:hi < 2 ^ 62)
  (q:R (Itr lo (hi - lo).toNat) H):wpAny (model X.prog X.w) X.A (pyIter (.ref s.heap.objs.size)) (PIE X pins σ tg R) E { s with heap:=s.heap.push { cls:=.type "range",data:=.fields #[.int lo t,.int hi u,.int 1 v] },toks:=tk }:=by
 refine wpAny_pyIter_range (IsRange.new ..) (small_one h1 h2 h3 h4) ?_
 have I1:Inv X pins σ H { s with heap:=s.heap.push { cls:=.type "range",data:=.fields #[.int lo t,.int hi u,.int 1 v] },toks:=tk }:=I.kept fun b o e => Heap.get?_push_of_some _ e
 refine ⟨(s.heap.push { cls:=.type "range",data:=.fields #[.int lo t,.int hi u,.int 1 v] }).objs.size,[(s.heap.push { cls:=.type "range",data:=.fields #[.int lo t,.int hi u,.int 1 v] }).objs.size],_,_,H,rfl,
  I1.kept (t':=tk) fun b o e => Heap.get?_push_of_some _ e,turn_range _ lo (hi - lo).toNat,?_,fun b hb => ?_,q⟩
 ·have e1:lo + ((0:Nat):Int) * 1=lo:=by simp
  have e2:(((hi - lo).toNat:Nat):Int) - ((0:Nat):Int)=Builtin.Range.rangeSize lo hi 1:=by rw [rangeSize_one]; split <;> omega
  show IsRangeIter _ _ (lo + ((0:Nat):Int) * 1) ((((hi - lo).toNat:Nat):Int) - ((0:Nat):Int)) 1
  rw [e1,e2]
  exact Heap.get?_push_size _ rfl
 ·have e:b=(s.heap.push { cls:=.type "range",data:=.fields #[.int lo t,.int hi u,.int 1 v] }).objs.size:=by simpa using hb
  subst e
  exact I1.fpOk (Nat.le_refl _) (I1.hok.fresh (Nat.le_refl _))
def iRng1 (ta:TA):TI:=fun σ H R => ta σ H fun vs H1 => ∃ j:Int,vs=[.int j]∧-(2 ^ 62) ≤ j∧j < 2 ^ 62∧R (Itr 0 j.toNat) H1
def iRng2 (ta:TA):TI:=fun σ H R => ta σ H fun vs H1 => ∃ i j:Int,vs=[.int i,.int j]∧(-(2 ^ 62) ≤ i∧i < 2 ^ 62∧-(2 ^ 62) ≤ j∧j < 2 ^ 62)∧R (Itr i (j - i).toNat) H1
theorem pi_range1 {a:Expr} {ta:TA} {p pos:PySem.Pos} (hg:Gl X "range") (hm:X.mg "range" = none) (ha:PA X [a] ta) (hs:starEach [a] X.env=[(false,eval a X.env)]:=by rfl):PI X tg (.Call (.Name "range" p) [a] [] pos) (iRng1 ta):=by
 intro pins s σ H R I h
 refine Call_ (ld_blt I hg hm boot_range (PyProof.Rows.callWith_type1 (thn (ha pos pins s σ H _ I h) fun us s1 ⟨vs,H1,I1,r1,q1⟩ => ?_) hs rfl))
 obtain ⟨j,e,q1,q2,q⟩:=q1
 subst e
 cases r1 with
 | cons r rr =>
  cases rr
  obtain ⟨t,rfl⟩:=r
  exact call_range_1 (range_it I1 (by omega) (by omega) q1 q2 (by simpa using q))
theorem pi_range2 {a b:Expr} {ta:TA} {p pos:PySem.Pos} (hg:Gl X "range") (hm:X.mg "range" = none) (ha:PA X [a,b] ta) (hs:starEach [a,b] X.env=[(false,eval a X.env),(false,eval b X.env)]:=by rfl) (hs2:starEach [b] X.env=[(false,eval b X.env)]:=by rfl) :
  PI X tg (.Call (.Name "range" p) [a,b] [] pos) (iRng2 ta):=by
 intro pins s σ H R I h
 refine Call_ (ld_blt I hg hm boot_range (PyProof.Rows.callWith_type1 (thn (ha pos pins s σ H _ I h) fun us s1 ⟨vs,H1,I1,r1,q1⟩ => ?_) (by rw [hs,hs2]) (by rw [hs2]; rfl)))
 obtain ⟨i,j,e,⟨q1,q2,q3,q4⟩,q⟩:=q1
 subst e
 cases r1 with
 | cons r rr =>
  cases rr with
  | cons r' rr =>
   cases rr
   obtain ⟨t,rfl⟩:=r
   obtain ⟨t',rfl⟩:=r'
   exact call_range_2 (range_it I1 q1 q2 q3 q4 q)
def tFor (wi:TI) (g:TG) (tb:TS):TS:=fun D σ H => wi σ H fun J H1 => ∃ W:Nat→Nat→St→Hp→Prop,(∃ m,W 0 m σ H1)∧∀ i m σ H,W i m σ H →
 (J.stop i H∧D.nx σ H) ∨ (J.go i H∧∃ N:St→Hp→Prop,(∀ σ' H',N σ' H'→∃ m',m' < m∧W (i + 1) m' σ' H')∧∀ x H',J.yld i H x H'→g x σ H' fun σ2 H2 => tb { D with nx:=N,ct:=N,bk:=D.nx } σ2 H2)
def pinsAt (fp:List Addr) (h:Heap):List (Addr × Obj):=fp.filterMap fun b => (h.get? b).map fun o => (b,o)
theorem mem_pinsAt {fp:List Addr} {h:Heap} {b:Addr} {o:Obj} (hb:b ∈ fp) (e:h.get? b=some o):(b,o) ∈ pinsAt fp h:=List.mem_filterMap.mpr ⟨b,hb,by rw [e]; rfl⟩
theorem of_pinsAt {fp:List Addr} {h:Heap} {p:Addr × Obj} (hp:p ∈ pinsAt fp h):p.1 ∈ fp∧h.get? p.1=some p.2:=by
 obtain ⟨b,hb,e⟩:=List.mem_filterMap.mp hp
 cases q:h.get? b with
 | none => rw [q] at e; cases e
 | some o =>
  rw [q] at e
  have e' : (b,o)=p:=Option.some.inj e
  subst e'
  exact ⟨hb,q⟩
theorem Inv.pinned {pins:List (Addr × Obj)} {σ:St} {H:Hp} {s:Shared} {fp:List Addr} (I:Inv X pins σ H s) (hf:∀ b ∈ fp,FpOk X pins H b) (ho:∀ b ∈ fp,∃ o,s.heap.get? b=some o∧∀ v,o.data ≠ .cell v):Inv X (pins ++ pinsAt fp s.heap) σ H s :=
 I.pins_of fun p hp => (List.mem_append.mp hp).elim (fun z => I.pin p (List.mem_append_right _ z)) fun z => by
  obtain ⟨hb,e⟩:=of_pinsAt z
  obtain ⟨f0,f1,f2,_⟩:=hf p.1 hb
  obtain ⟨o,e',d⟩:=ho p.1 hb
  rw [e] at e'; cases e'
  exact ⟨e,f0,f1,f2,d⟩
theorem Inv.unpinned {pins pl:List (Addr × Obj)} {σ:St} {H:Hp} {s:Shared} (I:Inv X (pins ++ pl) σ H s):Inv X pins σ H s:=I.pins_of fun p hp => I.pin p (List.mem_append_right _ (List.mem_append_left _ hp))
theorem ps_for {iter:Expr} {body:List Stmt} {wi:TI} {g:TG} {tb:TS} {pos:PySem.Pos} (hp:PassesOwn (model X.prog X.w) X.A X.env X.xe) (hc:X.calm=true) (hi:PI X tg iter wi) (hg:PG X tg g) (hb:PSs X body tb)
  (hs:∀ x,foldedSetIterable iter X.env x=pure x:=by intro _; rfl):PS X (.For tg iter body [] pos) (tFor wi g tb):=by
 intro pins s σ H D I h
 refine wpAny_For (thn (hi pins s σ H _ I h) fun v s1 h1 => thn h1 fun itv s2 h2 => ?_) hs
 obtain ⟨it,fp,tn,J,H2,e,I2,T,st2,f2,W,⟨m0,w0⟩,turn⟩:=h2
 subst e
 have stat:∀ {H' : Hp},(∀ b ∈ fp,H' b=none)→∀ b ∈ fp,FpOk X pins H' b:=fun hn b hb => ⟨hn b hb,(f2 b hb).2⟩
 refine codeAny_forLoop_any (fun n s' => ∃ i σ' H',Inv X pins σ' H' s'∧tn i s'.heap∧(∀ b ∈ fp,H' b=none)∧W i n σ' H') ?_ m0 ⟨0,σ,H2,I2,st2,fun b hb => (f2 b hb).1,w0⟩
 rintro n s3 ⟨i,σ3,H3,I3,st3,fr3,w3⟩
 rcases turn i n σ3 H3 w3 with ⟨stop,qn⟩ | ⟨go,N,hN,step⟩
 ·refine wpAny_passesOwn hp (thn (T.done X rfl rfl rfl hc i pins s3 σ3 H3 X.xe I3 (stat fr3) st3 stop) fun r s4 ⟨hr,I4⟩ => ?_)
  subst hr
  exact wpAny_execs_nil ⟨σ3,H3,I4,qn⟩
 ·refine wpAny_passesOwn hp (thn (T.item X rfl rfl rfl hc i pins s3 σ3 H3 X.xe I3 (stat fr3) st3 go) fun r s4 ⟨u,hr,h4⟩ => ?_)
  subst hr
  refine wpAny_passesOwn hp (thn h4 fun _ s5 ⟨x,H5,I5,r5,y5,st5,fr5⟩ => ?_)
  have I5':=I5.pinned (stat fr5) (T.obj _ _ st5)
  refine wpAny_passesOwn hp (thn (hg _ s5 σ3 H5 x u _ I5' r5 (step x H5 y5)) fun _ s6 ⟨σ6,H6,I6,q6⟩ => ?_)
  refine wpAny_passesOwn hp (thn (hb _ s6 σ6 H6 _ I6 q6) fun f s7 q7 => ?_)
  have again:∀ {σ7:St} {H7:Hp},Inv X (pins ++ pinsAt fp s5.heap) σ7 H7 s7→N σ7 H7→∃ m,m < n∧∃ i σ' H',Inv X pins σ' H' s7∧tn i s7.heap∧(∀ b ∈ fp,H' b=none)∧W i m σ' H':=fun {σ7 H7} I7 n7 => by
   obtain ⟨m',hm,w7⟩:=hN σ7 H7 n7
   refine ⟨m',hm,i + 1,σ7,H7,I7.unpinned,T.keep _ _ _ st5 fun b hb o e => (I7.pin (b,o) (List.mem_append_right _ (List.mem_append_right _ (mem_pinsAt hb e)))).1,fun b hb => ?_,w7⟩
   obtain ⟨o,e,d⟩:=T.obj _ _ st5 b hb
   exact (I7.pin (b,o) (List.mem_append_right _ (List.mem_append_right _ (mem_pinsAt hb e)))).2.1
  cases f with
  | next => obtain ⟨σ7,H7,I7,n7⟩:=q7; exact again I7 n7
  | cont => obtain ⟨σ7,H7,I7,n7⟩:=q7; exact again I7 n7
  | brk => obtain ⟨σ7,H7,I7,q7⟩:=q7; exact ⟨σ7,H7,I7.unpinned,q7⟩
  | ret v => obtain ⟨x7,σ7,H7,I7,r7,q7⟩:=q7; exact ⟨x7,σ7,H7,I7.unpinned,r7,q7⟩
end
theorem for_list {K:PySem.W.Frag} {a:Addr} {xs:List V} {g:TG} {tb:TS} {D:Ends} {σ:St} {H:Hp} (Pv:Nat→St→Hp→Prop) (h0:Pv 0 σ H) (hl:∀ i σ H,i ≤ xs.length→Pv i σ H→SqL K H a xs)
  (hs:∀ i x σ H,xs[i]? = some x→Pv i σ H→g x σ H fun σ2 H2 => tb { D with nx:=Pv (i + 1),ct:=Pv (i + 1),bk:=D.nx } σ2 H2) (hd:∀ σ H,Pv xs.length σ H→D.nx σ H) :
  ∃ W:Nat→Nat→St→Hp→Prop,(∃ m,W 0 m σ H)∧∀ i m σ H,W i m σ H →
   ((Itl K a).stop i H∧D.nx σ H) ∨ ((Itl K a).go i H∧∃ N:St→Hp→Prop,(∀ σ' H',N σ' H'→∃ m',m' < m∧W (i + 1) m' σ' H')∧∀ x H',(Itl K a).yld i H x H'→g x σ H' fun σ2 H2 => tb { D with nx:=N,ct:=N,bk:=D.nx } σ2 H2):=by
 refine ⟨fun i m σ H => m=xs.length - i∧i ≤ xs.length∧Pv i σ H,⟨xs.length,by simp,Nat.zero_le _,h0⟩,?_⟩
 rintro i m σ H ⟨rfl,hi,p⟩
 have q:=hl i σ H hi p
 by_cases hlt:i < xs.length
 ·refine .inr ⟨⟨xs,xs[i],q,by simp [hlt]⟩,Pv (i + 1),fun σ' H' p' => ⟨xs.length - (i + 1),by omega,rfl,hlt,p'⟩,fun x H' y => ?_⟩
  obtain ⟨e,y⟩:=y
  subst e
  exact hs i x σ _ (y xs q) p
 ·have e:i=xs.length:=by omega
  subst e
  exact .inl ⟨⟨xs,q,Nat.le_refl _⟩,hd σ H p⟩
theorem for_range {lo:Int} {n:Nat} {g:TG} {tb:TS} {D:Ends} {σ:St} {H:Hp} (Pv:Nat→St→Hp→Prop) (h0:Pv 0 σ H)
  (hs:∀ i σ H,i < n→Pv i σ H→g (.int (lo + i)) σ H fun σ2 H2 => tb { D with nx:=Pv (i + 1),ct:=Pv (i + 1),bk:=D.nx } σ2 H2) (hd:∀ σ H,Pv n σ H→D.nx σ H) :
  ∃ W:Nat→Nat→St→Hp→Prop,(∃ m,W 0 m σ H)∧∀ i m σ H,W i m σ H →
   ((Itr lo n).stop i H∧D.nx σ H) ∨ ((Itr lo n).go i H∧∃ N:St→Hp→Prop,(∀ σ' H',N σ' H'→∃ m',m' < m∧W (i + 1) m' σ' H')∧∀ x H',(Itr lo n).yld i H x H'→g x σ H' fun σ2 H2 => tb { D with nx:=N,ct:=N,bk:=D.nx } σ2 H2):=by
 refine ⟨fun i m σ H => m=n - i∧i ≤ n∧Pv i σ H,⟨n,by simp,Nat.zero_le _,h0⟩,?_⟩
 rintro i m σ H ⟨rfl,hi,p⟩
 by_cases hlt:i < n
 ·refine .inr ⟨hlt,Pv (i + 1),fun σ' H' p' => ⟨n - (i + 1),by omega,rfl,hlt,p'⟩,fun x H' y => ?_⟩
  obtain ⟨e,y⟩:=y
  subst e y
  exact hs i σ _ hlt p
 ·have e:i=n:=by omega
  subst e
  exact .inl ⟨Nat.le_refl _,hd σ H p⟩
end L2
namespace L2
open PySem PySem.Spec PyProof.Rows
abbrev R2:=V→V→Hp→VK→Prop
def OpR (X:Cx) (f:Value→Value→Sem Value) (r:R2):Prop :=
 ∀ (pins:List (Addr × Obj)) (s:Shared) (σ:St) (H:Hp) (x y:V) (v u:Value) (Q:VK),Inv X pins σ H s→RelV x v→RelV y u→r x y H Q →
  wpAny (model X.prog X.w) X.A (f v u) (EP X pins σ Q) X.xe s
def CallR (X:Cx) (f:Value) (r:List V→Hp→VK→Prop):Prop :=
 ∀ (pins:List (Addr × Obj)) (s:Shared) (σ:St) (H:Hp) (xs:List V) (us:List Value) (Q:VK),Inv X pins σ H s→Vals xs us→r xs H Q →
  wpAny (model X.prog X.w) X.A (call f us) (EP X pins σ Q) X.xe s
def tOp (r:R2) (ta tb:TE):TE:=fun σ H Q => ta σ H fun x H1 => tb σ H1 fun y H2 => r x y H2 Q
def rI (C:Int→Int→Prop) (g:Int→Int→V):R2:=fun x y H Q => ∃ i j,x = .int i∧y = .int j∧C i j∧Q (g i j) H
def rI0 (g:Int→Int→V):R2:=fun x y H Q => ∃ i j,x = .int i∧y = .int j∧Q (g i j) H
section
variable {X:Cx} {a b c:Expr} {ta tb tc:TE} {pos:PySem.Pos}
theorem binT (ha:PE X a ta) (hb:PE X b tb) {pins:List (Addr × Obj)} {s:Shared} {σ:St} {H:Hp} {R:V→V→Hp→Prop} (I:Inv X pins σ H s)
  (h:ta σ H fun x H1 => tb σ H1 fun y H2 => R x y H2) {Q:Value→Shared→Prop} {f:Value→Value→Sem Value}
  (hf:∀ v u s2 x y H2,Inv X pins σ H2 s2→RelV x v→RelV y u→R x y H2→wpAny (model X.prog X.w) X.A (f v u) Q X.xe s2) :
  wpAny (model X.prog X.w) X.A (eval a X.env) (fun v s₁ => wpAny (model X.prog X.w) X.A (eval b X.env) (fun u s₂ => wpAny (model X.prog X.w) X.A (f v u) Q X.xe s₂) X.xe s₁) X.xe s:=by
 refine thn (ha pins s σ H _ I h) fun v s1 ⟨x,H1,I1,r1,q1⟩ => ?_
 refine thn (hb pins s1 σ H1 _ I1 q1) fun u s2 ⟨y,H2,I2,r2,q2⟩ => ?_
 exact hf v u s2 x y H2 I2 r1 r2 q2
theorem pe_op {op:Operator} {r:R2} (ho:OpR X (binaryOp op) r) (ha:PE X a ta) (hb:PE X b tb):PE X (.BinOp a op b pos) (tOp r ta tb):=by
 intro pins s σ H Q I h
 exact wpAny_BinOp (binT ha hb I h fun v u s2 x y H2 I2 rx ry q => ho pins s2 σ H2 x y v u Q I2 rx ry q)
theorem opI {f:Value→Value→Sem Value} {C:Int→Int→Prop} {g:Int→Int→Int}
  (rule:∀ (i j:Int) (t u:Tok) (s:Shared) (Q:Value→Shared→Prop) (E:Value→Shared→Prop),C i j→Q (.int (g i j) s.toks) { s with toks:=s.toks + 1 }→wpAny (model X.prog X.w) X.A (f (.int i t) (.int j u)) Q E s) :
  OpR X f (rI C fun i j => .int (g i j)):=by
 intro pins s σ H x y v u Q I rx ry h
 obtain ⟨i,j,rfl,rfl,hc,q⟩:=h
 obtain ⟨t,rfl⟩:=rx
 obtain ⟨t',rfl⟩:=ry
 exact rule i j t t' s _ _ hc ⟨.int (g i j),H,I.tok _,⟨_,rfl⟩,q⟩
theorem opI0 {f:Value→Value→Sem Value} {g:Int→Int→Int}
  (rule:∀ (i j:Int) (t u:Tok) (s:Shared) (Q:Value→Shared→Prop) (E:Value→Shared→Prop),Q (.int (g i j) s.toks) { s with toks:=s.toks + 1 }→wpAny (model X.prog X.w) X.A (f (.int i t) (.int j u)) Q E s) :
  OpR X f (rI0 fun i j => .int (g i j)):=by
 intro pins s σ H x y v u Q I rx ry h
 obtain ⟨i,j,rfl,rfl,q⟩:=h
 obtain ⟨t,rfl⟩:=rx
 obtain ⟨t',rfl⟩:=ry
 exact rule i j t t' s _ _ ⟨.int (g i j),H,I.tok _,⟨_,rfl⟩,q⟩
theorem opB0 {f:Value→Value→Sem Value} {g:Int→Int→Bool}
  (rule:∀ (i j:Int) (t u:Tok) (s:Shared) (Q:Value→Shared→Prop) (E:Value→Shared→Prop),Q (.bool (g i j)) s→wpAny (model X.prog X.w) X.A (f (.int i t) (.int j u)) Q E s) :
  OpR X f (rI0 fun i j => .bl (g i j)):=by
 intro pins s σ H x y v u Q I rx ry h
 obtain ⟨i,j,rfl,rfl,q⟩:=h
 obtain ⟨t,rfl⟩:=rx
 obtain ⟨t',rfl⟩:=ry
 exact rule i j t t' s _ _ ⟨.bl (g i j),H,I,rfl,q⟩
def CPow (i j:Int):Prop:=0 ≤ j∧j ≤ 1000000∧i.natAbs < 2 ^ 64
def CMul (i j:Int):Prop:=(-(2 ^ 64) < i∧i < 2 ^ 64) ∨ (-(2 ^ 64) < j∧j < 2 ^ 64)
theorem CMul.ok {i j:Int} (h:CMul i j):IntMulOk i j:=by
 rcases h with ⟨h1,h2⟩ | ⟨h1,h2⟩
 ·exact .of_left (intBits_le_64 h1 h2)
 ·exact .of_right (intBits_le_64 h1 h2)
theorem op_add:OpR X (binaryOp .Add) (rI0 fun i j => .int (i + j)):=opI0 fun _ _ _ _ _ _ _ q => add_int q
theorem op_sub:OpR X (binaryOp .Sub) (rI0 fun i j => .int (i - j)):=opI0 fun _ _ _ _ _ _ _ q => sub_int q
theorem op_mul:OpR X (binaryOp .Mult) (rI CMul fun i j => .int (i * j)):=opI fun _ _ _ _ _ _ _ hc q => mul_int q hc.ok
theorem op_mod:OpR X (binaryOp .Mod) (rI (fun _ j => 0 < j) fun i j => .int (i % j)):=opI fun i j _ _ _ _ _ hc q => by
 have h1:(0:Int) < j:=hc
 exact mod_int' (by omega) (by rw [Int.fmod_eq_emod_of_nonneg i (by omega)]; exact q)
theorem op_pow:OpR X (binaryOp .Pow) (rI CPow fun i j => .int (i ^ j.toNat)):=opI fun _ _ _ _ _ _ _ hc q => pow_int_small hc.1 hc.2.1 hc.2.2 q
end
def scal:V→V→Bool
 | .non,.non => true | .non,.int _ => true | .int _,.non => true | .non,.bl _ => true | .bl _,.non => true | .non,.str _ => true | .str _,.non => true
 | .int _,.int _ => true | .bl _,.bl _ => true | .str _,.str _ => true | .byt _,.byt _ => true
 | .int _,.str _ => true | .str _,.int _ => true | .bl _,.str _ => true | .str _,.bl _ => true
 | _,_ => false
def rEq:R2:=fun x y H Q => scal x y=true∧Q (.bl (decide (x=y))) H
def rNe:R2:=fun x y H Q => scal x y=true∧Q (.bl (!decide (x=y))) H
theorem dec_int {i j:Int} : decide (V.int i=V.int j)=(i == j):=by
 rw [Bool.eq_iff_iff]
 simp
theorem dec_bl {i j:Bool} : decide (V.bl i=V.bl j)=(i == j):=by
 rw [Bool.eq_iff_iff]
 simp
theorem dec_str {i j:Str} : decide (V.str i=V.str j)=(i == j):=by
 rw [Bool.eq_iff_iff]
 simp
theorem dec_byt {i j:Array UInt8} : decide (V.byt i=V.byt j)=(i.toList == j.toList):=by
 rw [Bool.eq_iff_iff]
 cases i
 cases j
 simp
section
variable {X:Cx} {a b c:Expr} {ta tb tc:TE} {pos:PySem.Pos}
theorem fin_bl {pins:List (Addr × Obj)} {σ:St} {H:Hp} {s:Shared} {Q:VK} {k k' : Bool} (I:Inv X pins σ H s) (q:Q (.bl k) H) (e:k=k'):EP X pins σ Q (.bool k') s:=by
 subst e
 exact ⟨.bl k,H,I,rfl,q⟩
theorem op_eq:OpR X (compareOp .Eq) rEq:=by
 intro pins s σ H x y v u Q I rx ry h
 obtain ⟨hs,q⟩:=h
 cases x with
 | non =>
  cases rx
  cases y with
  | non => cases ry; exact PySem.EqNone.eq_none_none (fin_bl I q (by simp))
  | bl j => cases ry; exact PySem.EqNone.eq_none_bool (fin_bl I q (by simp))
  | int j => obtain ⟨t',rfl⟩:=ry; exact PySem.EqNone.eq_none_int (fin_bl I q (by simp))
  | str j => obtain ⟨t',rfl⟩:=ry; exact PySem.EqNone.eq_none_str (fin_bl I q (by simp))
  | _ => exact absurd (show false=true from hs) Bool.false_ne_true
 | bl i =>
  cases rx
  cases y with
  | non => cases ry; exact PySem.EqNone.eq_bool_none (fin_bl I q (by simp))
  | bl j => cases ry; exact eq_bool (fin_bl I q dec_bl)
  | str j => obtain ⟨t',rfl⟩:=ry; exact PySem.EqMixed.eq_bool_str (fin_bl I q (by simp))
  | _ => exact absurd (show false=true from hs) Bool.false_ne_true
 | int i =>
  obtain ⟨t,rfl⟩:=rx
  cases y with
  | non => cases ry; exact PySem.EqNone.eq_int_none (fin_bl I q (by simp))
  | int j => obtain ⟨t',rfl⟩:=ry; exact eq_int (fin_bl I q dec_int)
  | str j => obtain ⟨t',rfl⟩:=ry; exact PySem.EqMixed.eq_int_str (fin_bl I q (by simp))
  | _ => exact absurd (show false=true from hs) Bool.false_ne_true
 | str i =>
  obtain ⟨t,rfl⟩:=rx
  cases y with
  | non => cases ry; exact PySem.EqNone.eq_str_none (fin_bl I q (by simp))
  | bl j => cases ry; exact PySem.EqMixed.eq_str_bool (fin_bl I q (by simp))
  | int j => obtain ⟨t',rfl⟩:=ry; exact PySem.EqMixed.eq_str_int (fin_bl I q (by simp))
  | str j => obtain ⟨t',rfl⟩:=ry; exact eq_str (fin_bl I q dec_str)
  | _ => exact absurd (show false=true from hs) Bool.false_ne_true
 | byt i =>
  obtain ⟨t,rfl⟩:=rx
  cases y with
  | byt j => obtain ⟨t',rfl⟩:=ry; exact PySem.W.eq_bytes (fin_bl I q dec_byt)
  | _ => exact absurd (show false=true from hs) Bool.false_ne_true
 | _ => cases y <;> exact absurd (show false=true from hs) Bool.false_ne_true
theorem op_ne:OpR X (compareOp .NotEq) rNe:=by
 intro pins s σ H x y v u Q I rx ry h
 obtain ⟨hs,q⟩:=h
 cases x with
 | non =>
  cases rx
  cases y with
  | non => cases ry; exact PySem.EqNone.ne_none_none (fin_bl I q (by simp))
  | bl j => cases ry; exact PySem.EqNone.ne_none_bool (fin_bl I q (by simp))
  | int j => obtain ⟨t',rfl⟩:=ry; exact PySem.EqNone.ne_none_int (fin_bl I q (by simp))
  | str j => obtain ⟨t',rfl⟩:=ry; exact PySem.EqNone.ne_none_str (fin_bl I q (by simp))
  | _ => exact absurd (show false=true from hs) Bool.false_ne_true
 | bl i =>
  cases rx
  cases y with
  | non => cases ry; exact PySem.EqNone.ne_bool_none (fin_bl I q (by simp))
  | bl j => cases ry; exact ne_bool (fin_bl I q (congrArg not dec_bl))
  | str j => obtain ⟨t',rfl⟩:=ry; exact PySem.EqMixed.ne_bool_str (fin_bl I q (by simp))
  | _ => exact absurd (show false=true from hs) Bool.false_ne_true
 | int i =>
  obtain ⟨t,rfl⟩:=rx
  cases y with
  | non => cases ry; exact PySem.EqNone.ne_int_none (fin_bl I q (by simp))
  | int j => obtain ⟨t',rfl⟩:=ry; exact ne_int (fin_bl I q (congrArg not dec_int))
  | str j => obtain ⟨t',rfl⟩:=ry; exact PySem.EqMixed.ne_int_str (fin_bl I q (by simp))
  | _ => exact absurd (show false=true from hs) Bool.false_ne_true
 | str i =>
  obtain ⟨t,rfl⟩:=rx
  cases y with
  | non => cases ry; exact PySem.EqNone.ne_str_none (fin_bl I q (by simp))
  | bl j => cases ry; exact PySem.EqMixed.ne_str_bool (fin_bl I q (by simp))
  | int j => obtain ⟨t',rfl⟩:=ry; exact PySem.EqMixed.ne_str_int (fin_bl I q (by simp))
  | str j => obtain ⟨t',rfl⟩:=ry; exact ne_str (fin_bl I q (congrArg not dec_str))
  | _ => exact absurd (show false=true from hs) Bool.false_ne_true
 | byt i =>
  obtain ⟨t,rfl⟩:=rx
  cases y with
  | byt j => obtain ⟨t',rfl⟩:=ry; exact PySem.W.ne_bytes (fin_bl I q (congrArg not dec_byt))
  | _ => exact absurd (show false=true from hs) Bool.false_ne_true
 | _ => cases y <;> exact absurd (show false=true from hs) Bool.false_ne_true
theorem op_lt:OpR X (compareOp .Lt) (rI0 fun i j => .bl (decide (i < j))):=opB0 fun _ _ _ _ _ _ _ q => lt_int q
theorem op_le:OpR X (compareOp .LtE) (rI0 fun i j => .bl (decide (i ≤ j))):=opB0 fun _ _ _ _ _ _ _ q => le_int q
theorem op_gt:OpR X (compareOp .Gt) (rI0 fun i j => .bl (decide (j < i))):=opB0 fun _ _ _ _ _ _ _ q => gt_int q
theorem op_ge:OpR X (compareOp .GtE) (rI0 fun i j => .bl (decide (j ≤ i))):=opB0 fun _ _ _ _ _ _ _ q => ge_int q
theorem op_in_str:OpR X (compareOp .In) (fun x y H Q => ∃ i j,x = .str i∧y = .str j∧Q (.bl (!(Builtin.Str.occurrences j i 0 j.length 1).isEmpty)) H):=by
 intro pins s σ H x y v u Q I rx ry h
 obtain ⟨i,j,rfl,rfl,q⟩:=h
 obtain ⟨t,rfl⟩:=rx
 obtain ⟨t',rfl⟩:=ry
 exact in_str (fin_bl I q rfl)
theorem nomark (b:Expr) {op:CmpOp} (h:op ≠ .In:=by decide) (h2:op ≠ .NotIn:=by decide):behindInMarks op b=false:=by
 have e1:(op == CmpOp.In)=false:=by cases op <;> first | rfl | exact absurd rfl h
 have e2:(op == CmpOp.NotIn)=false:=by cases op <;> first | rfl | exact absurd rfl h2
 cases b <;> simp [behindInMarks,e1,e2]
theorem pe_cmpR {op:CmpOp} {r:R2} (ho:OpR X (compareOp op) r) (ha:PE X a ta) (hb:PE X b tb) (hm:behindInMarks op b=false):PE X (.Compare a [op] [b] pos) (tOp r ta tb):=by
 intro pins s σ H Q I h
 exact wpAny_Compare1 (binT ha hb I h fun v u s2 x y H2 I2 rx ry q => ho pins s2 σ H2 x y v u Q I2 rx ry q) hm
def tTest (t:TE):TT:=fun σ H Q => t σ H fun x H' => ∃ k,x = .bl k∧Q k H'
theorem pt_cmpR {op:CmpOp} {r:R2} (ho:OpR X (compareOp op) r) (ha:PE X a ta) (hb:PE X b tb) (hm:behindInMarks op b=false):PT X (.Compare a [op] [b] pos) (tTest (tOp r ta tb)):=by
 intro pins s σ H Q I h
 refine wpAny_isTrue_Compare1 (thn (ha pins s σ H _ I h) fun v s1 ⟨x,H1,I1,r1,q1⟩ => thn (hb pins s1 σ H1 _ I1 q1) fun u s2 ⟨y,H2,I2,r2,q2⟩ =>
  thn (ho pins s2 σ H2 x y v u _ I2 r1 r2 q2) fun c s3 ⟨z,H3,I3,r3,k,e,q3⟩ => ?_) hm
 subst e
 cases r3
 exact wpAny_truthy_bool ⟨H3,I3,q3⟩
def tChain (r r' : R2) (ta tb tc:TE):TE:=fun σ H Q => ta σ H fun x H1 => tb σ H1 fun y H2 => r x y H2 fun z H3 => ∃ k,z = .bl k ∧
 (if k=true then tc σ H3 fun w' H4 => r' y w' H4 Q else Q (.bl false) H3)
theorem pt_chain {op op' : CmpOp} {r r' : R2} (ho:OpR X (compareOp op) r) (ho' : OpR X (compareOp op') r') (ha:PE X a ta) (hb:PE X b tb) (hc:PE X c tc)
  (hm:lastMarks [op,op'] [b,c]=false:=by with_unfolding_all rfl):PT X (.Compare a [op,op'] [b,c] pos) (tTest (tChain r r' ta tb tc)):=by
 intro pins s σ H Q I h
 refine isTrue_chain (thn (ha pins s σ H _ I h) fun v s1 ⟨x,H1,I1,r1,q1⟩ => test_link (thn (hb pins s1 σ H1 _ I1 q1) fun u s2 ⟨y,H2,I2,r2,q2⟩ =>
  thn (ho pins s2 σ H2 x y v u _ I2 r1 r2 q2) fun d s3 ⟨z,H3,I3,r3,k,e,q3⟩ => ?_)) hm
 subst e
 cases r3
 refine wpAny_truthy_bool ?_
 cases k with
 | false =>
  obtain ⟨k',e',q'⟩:=q3
  cases e'
  exact ite_ff ⟨H3,I3,q'⟩
 | true =>
  refine ite_tt (test_last (thn (hc pins s3 σ H3 _ I3 q3) fun w' s4 ⟨z',H4,I4,r4,q4⟩ => thn (ho' pins s4 σ H4 y z' u w' _ I4 r2 r4 q4) fun d' s5 ⟨z2,H5,I5,r5,k2,e2,q5⟩ => ?_))
  subst e2
  cases r5
  exact wpAny_truthy_bool ⟨H5,I5,q5⟩
theorem line63:(sizeLine:Nat) < 2 ^ 63:=by rw [sizeLine_eq]; decide
theorem op_add_str:OpR X (binaryOp .Add) (fun x y H Q => ∃ i j,x = .str i∧y = .str j∧i.length + j.length ≤ sizeLine∧Q (.str (i ++ j)) H):=by
 intro pins s σ H x y v u Q I rx ry h
 obtain ⟨i,j,rfl,rfl,hz,q⟩:=h
 obtain ⟨t,rfl⟩:=rx
 obtain ⟨t',rfl⟩:=ry
 exact add_str (fun t' tk => ⟨.str (i ++ j),H,I.tok _,⟨_,rfl⟩,q⟩) hz
theorem vals1 {x:V} {us:List Value} (r:Vals [x] us):∃ u,us=[u]∧RelV x u:=by
 cases r with
 | cons r1 r2 => cases r2; exact ⟨_,rfl,r1⟩
theorem vals2 {x y:V} {us:List Value} (r:Vals [x,y] us):∃ u w',us=[u,w']∧RelV x u∧RelV y w':=by
 cases r with
 | cons r1 r2 =>
  cases r2 with
  | cons r3 r4 => cases r4; exact ⟨_,_,rfl,r1,r3⟩
theorem call_abs:CallR X (.builtin "abs") (fun xs H Q => ∃ i,xs=[.int i]∧Q (.int (if i < 0 then -i else i)) H):=by
 intro pins s σ H xs us Q I r h
 obtain ⟨i,rfl,q⟩:=h
 obtain ⟨u,rfl,t,rfl⟩:=vals1 r
 exact call_abs_int fun u tk => ⟨.int (if i < 0 then -i else i),H,I.tok _,⟨_,rfl⟩,q⟩
theorem call_min2 (hc:X.calm=true):CallR X (.builtin "min") (fun xs H Q => ∃ i j,xs=[.int i,.int j]∧Q (.int (if j < i then j else i)) H):=by
 intro pins s σ H xs us Q I r h
 obtain ⟨i,j,rfl,q⟩:=h
 obtain ⟨u,w',rfl,⟨t,rfl⟩,⟨t',rfl⟩⟩:=vals2 r
 refine min_two_ints (I.ok.hd hc) fun h' tk k => ⟨_,H,I.kept k,?_,q⟩
 by_cases hj:j < i
 ·rw [if_pos hj,if_pos hj]; exact ⟨_,rfl⟩
 ·rw [if_neg hj,if_neg hj]; exact ⟨_,rfl⟩
theorem call_int1:CallR X (.type "int") (fun xs H Q => (∃ i,xs=[.int i]∧Q (.int i) H) ∨ ∃ k,xs=[.bl k]∧Q (.int (if k then 1 else 0)) H):=by
 intro pins s σ H xs us Q I r h
 rcases h with ⟨i,rfl,q⟩ | ⟨k,rfl,q⟩
 ·obtain ⟨u,rfl,t,rfl⟩:=vals1 r
  exact call_int_int ⟨.int i,H,I,⟨_,rfl⟩,q⟩
 ·obtain ⟨u,rfl,r1⟩:=vals1 r
  cases r1
  exact call_int_bool ⟨.int (if k then 1 else 0),H,I.tok _,⟨_,rfl⟩,q⟩
theorem call_str_int:CallR X (.type "str") (fun xs H Q => ∃ i,xs=[.int i]∧i.natAbs.log2 < 1920∧Q (.str (toString i)) H):=by
 intro pins s σ H xs us Q I r h
 obtain ⟨i,rfl,hz,q⟩:=h
 obtain ⟨u,rfl,t,rfl⟩:=vals1 r
 exact PySem.P.str_of_int hz ⟨.str _,H,I.tok _,⟨_,rfl⟩,q⟩
end
end L2
namespace L2
open PySem PySem.Spec PyProof.Rows
structure ObjM (h:Heap) (x dx C:Addr) (mA:Str→Option Value):Prop where
 obj:h.get? x=some (PySem.W.instObj C dx)
 ns:h.Ns1 dx mA
 ne:dx ≠ x
theorem lookIn_ns {h:Heap} {dx:Addr} {mA:Str→Option Value} (n:h.Ns1 dx mA):∃ od,h.get? dx=some od∧∀ name,PySem.W.lookIn name od=some (mA name):=by
 obtain ⟨o,es,ep,ho,hd,hk,_,hm⟩:=n
 refine ⟨o,ho,fun name => ?_⟩
 have e:=hm name
 unfold nsFind findBy at e
 rw [← Array.find?_toList] at e
 unfold PySem.W.lookIn
 rw [hd]
 dsimp only
 split
 ·rename_i y q
  rw [q] at e
  exact congrArg some e
 ·rename_i q
  rw [q] at e
  have a:es.toList.any (·.refKey)=false:=by
   rw [List.any_eq_false]
   intro y hy
   obtain ⟨z,t,hkey⟩:=hk y (Array.mem_toList_iff.mp hy)
   simp [DictEntry.refKey,hkey]
  have a' : ¬ es.toList.any (·.refKey)=true:=by rw [a]; exact Bool.false_ne_true
  rw [if_neg a']
  exact congrArg some e
theorem ObjM.look {h:Heap} {x dx C:Addr} {mA:Str→Option Value} (I:ObjM h x dx C mA):∃ od,PySem.W.InstAt h x (PySem.W.instObj C dx) C (some od)∧∀ name,PySem.W.lookIn name od=some (mA name) :=
 let ⟨od,ho,hl⟩:=lookIn_ns I.ns
 ⟨od,⟨I.obj,rfl,rfl,ho⟩,hl⟩
section
variable {P:Program} {w:World} {H H' : Hp} {h h' : Heap} {a C dx:Addr} {fs fs' : List (Str × V)}
theorem ins_get (hok:HOk P w H h) (e:H a=some (.ins C dx fs)):∃ mA,ObjM h a dx C mA∧(∀ f,RelO (fs.lookup f) (mA f))∧PySem.Within mA (fs.map (·.1))∧fs.length ≤ 1000∧H dx=some (.own a):=by
 obtain ⟨d,z,ne,ob,mA,n,r,q⟩:=(show ObjOk P w H h a (.ins C dx fs) from hok a _ e)
 exact ⟨mA,⟨ob,n,ne⟩,r,q,z,d⟩
end
structure Cls (K:PySem.W.Frag) (C:Addr):Prop where
 pg:PySem.W.plainGet K C Str.empty=true
 hd:PySem.W.hasDictIn K C=true
 po:PySem.W.plainOver K C=true
 sa:PySem.W.findIn K (.ref C) "__setattr__" = some (some (.builtin "object.__setattr__"))
theorem Cls.get {K:PySem.W.Frag} {C:Addr} (c:Cls K C) (f:Str):PySem.W.plainGet K C f=true:=c.pg
section
variable {X:Cx} {pins:List (Addr × Obj)} {σ:St} {H:Hp} {s:Shared} {A:Around} {E:Value→Shared→Prop} {Q:Value→Shared→Prop} {c:Value} {b:Bool}
inductive TyOf (K:PySem.W.Frag) (H:Hp):V→Value→Prop where
 | non:TyOf K H .non (.type "NoneType")
 | bl (x:Bool):TyOf K H (.bl x) (.type "bool")
 | int (i:Int):TyOf K H (.int i) (.type "int")
 | str (x:Str):TyOf K H (.str x) (.type "str")
 | flt (x:UInt64):TyOf K H (.flt x) (.type "float")
 | lst {a:Addr} {xs:List V} (e:H a=some (.lst xs)):TyOf K H (.ref a) (.type "list")
 | frz {a:Addr} {o:Obj} {xs:List V} (e:H a=some (.frz o (.lst xs))):TyOf K H (.ref a) (.type "list")
 | tup {a:Addr} {xs:List V} (e:H a=some (.tup xs)):TyOf K H (.ref a) (.type "tuple")
 | dK {a:Addr} {kvs:List (Key × V)} (e:H a=some (.dK kvs)):TyOf K H (.ref a) (.type "dict")
 | dT {a:Addr} {kvs:List (List Key × V)} (e:H a=some (.dT kvs)):TyOf K H (.ref a) (.type "dict")
 | ins {a C dx:Addr} {fs:List (Str × V)} (e:H a=some (.ins C dx fs)) (cl:Cls K C) (ha:PySem.W.findIn K (.ref C) "__class__" = some (some (.builtin "object.__class__")))
   (hn:PySem.W.specialIn K (.builtin "object.__class__") "__get__" = some (some (.builtin "getset_descriptor.__get__"))) (htk:PySem.W.takesIn K (.builtin "object.__class__")=some true)
   (hm:PySem.W.mroIn K C (.type "object")=some true):TyOf K H (.ref a) (.ref C)
theorem isinst_ok {x:V} {u t:Value} (I:Inv X pins σ H s) (rx:RelV x u) (ty:TyOf X.K H x t) (e:PySem.W.kitOne X.K t c=some b) (h:∀ tk,Q (.bool b) { s with toks:=tk }) :
  wpAny (model X.prog X.w) A (call (.builtin "isinstance") [u,c]) Q E s:=by
 cases ty with
 | non => cases (show u=Value.none from rx); exact PySem.W.kia_one PySem.W.kitx_none I.kIn True.intro e (fun z => nomatch z) h
 | bl y => cases (show u=Value.bool y from rx); exact PySem.W.kia_one PySem.W.kitx_bool I.kIn True.intro e (fun z => nomatch z) h
 | int i => obtain ⟨t,q⟩:=(show ∃ t,u=Value.int i t from rx); cases q; exact PySem.W.kia_one PySem.W.kitx_int I.kIn True.intro e (fun z => nomatch z) h
 | str y => obtain ⟨t,q⟩:=(show ∃ t,u=Value.str y t from rx); cases q; exact PySem.W.kia_one PySem.W.kitx_str I.kIn True.intro e (fun z => nomatch z) h
 | flt y => obtain ⟨t,q⟩:=(show ∃ t,u=Value.float y t from rx); cases q; exact PySem.W.kia_one PySem.W.kitx_float I.kIn True.intro e (fun z => nomatch z) h
 | @lst a xs ea =>
  cases (show u=Value.ref a from rx)
  obtain ⟨_,_,n,_,h1⟩:=(show ObjOk X.prog X.w H s.heap a (.lst xs) from I.hok a _ ea)
  exact PySem.W.kia_one PySem.W.kitx_list I.kIn ⟨_,h1,rfl⟩ e (fun z => nomatch z) h
 | @frz a ob xs ea =>
  cases (show u=Value.ref a from rx)
  obtain ⟨_,_,_,n,_,h1⟩:=(show ObjOk X.prog X.w H s.heap a (.frz ob (.lst xs)) from I.hok a _ ea)
  exact PySem.W.kia_one PySem.W.kitx_list I.kIn ⟨_,h1,rfl⟩ e (fun z => nomatch z) h
 | @tup a xs ea =>
  cases (show u=Value.ref a from rx)
  obtain ⟨_,_,_,p⟩:=(show ObjOk X.prog X.w H s.heap a (.tup xs) from I.hok a _ ea)
  obtain ⟨o,h1,h2,_⟩:=p
  exact PySem.W.kia_one PySem.W.kitx_tuple I.kIn ⟨o,h1,h2⟩ e (fun z => nomatch z) h
 | @dK a kvs ea =>
  cases (show u=Value.ref a from rx)
  obtain ⟨_,_,vs,_,p⟩:=(show ObjOk X.prog X.w H s.heap a (.dK kvs) from I.hok a _ ea)
  obtain ⟨o,es,ep,h1,h2,_⟩:=p
  exact PySem.W.kia_one PySem.W.kitx_dict I.kIn ⟨o,h1,h2.1⟩ e (fun z => nomatch z) h
 | @dT a kvs ea =>
  cases (show u=Value.ref a from rx)
  obtain ⟨_,_,xs,_,o,es,ep,h1,h2,_⟩:=(show ObjOk X.prog X.w H s.heap a (.dT kvs) from I.hok a _ ea)
  exact PySem.W.kia_one PySem.W.kitx_dict I.kIn ⟨o,h1,h2.1⟩ e (fun z => nomatch z) h
 | @ins a C dx fs ea cl ha hn htk hm =>
  cases (show u=Value.ref a from rx)
  obtain ⟨mA,O,_⟩:=ins_get I.hok ea
  obtain ⟨od,J,_⟩:=O.look
  exact PySem.W.kia_one (PySem.W.kitx_own (cl.get _) cl.hd ha hn htk hm) I.kIn J e (fun z => nomatch z) h
end
end L2
namespace L2
open PySem PySem.Spec PyProof.Rows
structure Room (k:Nat) (A:Around):Prop where
 hd:A.handled=none
 dp:A.depth + 3 * k + 5 < recursionLimit
 un:A.units + 16 * k + 200 < cLine
 gd:A.guards=some []
theorem Room.mono {j k:Nat} {A:Around} (r:Room k A) (h:j ≤ k):Room j A:=⟨r.hd,by have:=r.dp; omega,by have:=r.un; omega,r.gd⟩
theorem Room.deeper {k:Nat} {A:Around} (r:Room (k + 1) A) (env:Env):Room k (A.deeper env) :=
 ⟨r.hd,by have:=r.dp; show A.depth + 1 + 3 * k + 5 < _; omega,by have:=r.un; show A.units + 3 + 16 * k + 200 < _; omega,r.gd⟩
theorem Room.depth {k:Nat} {A:Around} (r:Room k A):A.depth < recursionLimit:=by have:=r.dp; omega
theorem Room.units {k:Nat} {A:Around} (r:Room k A):A.units + 64 < cLine:=by have:=r.un; omega
def tNil:TA:=fun _ H Q => Q [] H
def tCons (ta:TE) (tr:TA):TA:=fun σ H Q => ta σ H fun x H1 => tr σ H1 fun xs H2 => Q (x :: xs) H2
section
variable {X:Cx} {e:Expr} {es:List Expr} {te:TE} {t:TA} {pos:PySem.Pos}
theorem pa_nil:PA X [] tNil:=fun _ _ _ _ H Q I h => Calls.spliced_nil ⟨[],H,I,.nil,h⟩
theorem pa_cons (ha:PE X e te) (hr:PA X es t) (hs:starEach (e :: es) X.env=(false,eval e X.env) :: starEach es X.env:=by rfl):PA X (e :: es) (tCons te t):=by
 intro pos pins s σ H Q I h
 rw [hs]
 show wpAny _ _ (spliced ((false,eval e X.env) :: backTo pos (starEach es X.env))) _ _ s
 refine Calls.spliced_cons (thn (ha pins s σ H _ I h) fun u s1 ⟨x,H1,I1,r1,q1⟩ => ?_)
 exact thn (hr pos pins s1 σ H1 _ I1 q1) fun us s2 ⟨xs,H2,I2,r2,q2⟩ => ⟨x :: xs,H2,I2,.cons r1 r2,q2⟩
def tTup (t:TA):TE:=fun σ H Q => t σ H fun xs H1 => xs.length ≤ sizeLine∧∀ p,H1 p=none→Q (.ref p) (upd H1 p (.tup xs))
def tLst (t:TA):TE:=fun σ H Q => t σ H fun xs H1 => xs.length ≤ sizeLine∧∀ p,H1 p=none→Q (.ref p) (upd H1 p (.lst xs))
theorem pe_tup {x1} (h:PA X es t):PE X (.Tuple es x1 pos) (tTup t):=by
 intro pins s σ H Q I hq
 refine wpAny_Tuple_spliced (thn (h pos pins s σ H _ I hq) fun us s1 ⟨xs,H1,I1,r,z,q⟩ => ⟨by rw [← r.length]; exact z,?_⟩)
 have hf:H1 s1.heap.objs.size=none:=I1.hok.fresh (Nat.le_refl _)
 refine ⟨.ref s1.heap.objs.size,upd H1 s1.heap.objs.size (.tup xs),I1.laid (t':=s1.toks) (fun b u e => Heap.get?_push_of_some _ e) (Nat.le_refl _) ?_,rfl,q _ hf⟩
 exact ⟨z,us,r,⟨_,Heap.get?_push_size _ rfl,rfl,_,rfl⟩⟩
theorem pe_lst (h:PA X es t):PE X (.List es pos) (tLst t):=by
 intro pins s σ H Q I hq
 refine wpAny_List_spliced (thn (h pos pins s σ H _ I hq) fun us s1 ⟨xs,H1,I1,r,z,q⟩ => ⟨by rw [← r.length]; exact z,?_⟩)
 have hf:H1 s1.heap.objs.size=none:=I1.hok.fresh (Nat.le_refl _)
 refine ⟨.ref s1.heap.objs.size,upd H1 s1.heap.objs.size (.lst xs),I1.laid (t':=s1.toks) (fun b u e => Heap.get?_push_of_some _ e) (Nat.le_refl _) ?_,rfl,q _ hf⟩
 exact ⟨z,us,0,r,Heap.get?_push_size _ rfl⟩
end
abbrev Sp:=List V→Hp→VK→XK→Prop
abbrev CXT:=List Env→Hp→Shared→XK→Value→Shared→Prop
structure Env0 (P:Program) (w:World) (K:PySem.W.Frag) (mg:Str→Option Value) (base:Heap) (A:Around) (outer:List Env) (s:Shared) (H:Hp):Prop where
 frames:A.frames=some outer
 mod:Mod K mg base
 bs:∀ b o,base.get? b=some o→s.heap.get? b=some o∧H b=none
 bsz:base.objs.size ≤ s.heap.objs.size
 funs:s.heap.FunFrames base outer
 frf:∀ b ∈ frs outer,H b=none
 hok:HOk P w H s.heap
 bare:AllBare s.gens
def CE (outer:List Env) (P:Program) (w:World) (H:Hp) (s:Shared) (Q:VK) (u:Value) (s' : Shared):Prop :=
 ∃ v H',s'.os=s.os∧AllBare s'.gens∧Un (frs outer) [] H H' s.heap s'.heap∧HOk P w H' s'.heap∧RelV v u∧Q v H'
def CR (CX:CXT) (outer:List Env) (P:Program) (w:World) (H:Hp) (s:Shared) (Q:VK) (E:XK) (r:Result) (s' : Shared):Prop :=
 match r with
 | .ok (.ret u) => CE outer P w H s Q u s'
 | .ok _ => False
 | .error e => CX outer H s E e s'
structure FnOk (P:Program) (w:World) (K:PySem.W.Frag) (mg:Str→Option Value) (base:Heap) (CX:CXT) (k:Nat) (f:Addr) (fd:FuncData) (ps:List Str) (sp:Sp):Prop where
 len:∀ vs H Q E,sp vs H Q E→vs.length=ps.length
 run:∀ (A:Around) (outer:List Env) (s:Shared) (H:Hp) (args:Args) (us:List Value) (vs:List V) (Q:VK) (E:XK),Room k A→Env0 P w K mg base A outer s H→BindsTo s fd args (ps.zip us)→Vals vs us→sp vs H Q E →
  codeAny (model P w) A (.call (.ref f) args) (CR CX outer P w H s Q E) s
section
variable {X:Cx} {pins:List (Addr × Obj)} {σ:St} {H:Hp} {s s' : Shared}
theorem Inv.env0 (I:Inv X pins σ H s):Env0 X.prog X.w X.K X.mg X.base X.A X.stack s H :=
 ⟨I.ok.frames,I.ok.mod,I.bs,Nat.le_trans I.ok.bsz I.sz,I.stack,I.stkFree,I.hok,I.bare⟩
theorem Inv.after {Q:VK} {u:Value} (I:Inv X pins σ H s) (h:CE X.stack X.prog X.w H s Q u s'):EP X pins σ Q u s':=by
 obtain ⟨v,H',os,bare,un,hok,r,q⟩:=h
 obtain ⟨hh,g,d,t,os'⟩:=s'
 obtain rfl:os' = s.os:=os
 exact ⟨v,H',I.call (h':=hh) (g':=g) (d':=d) (t':=t) (ch:=[]) un hok bare (fun b z => absurd z (by simp)),r,q⟩
end
def tCall (sp:Sp) (dvs:List V) (E:XK) (t:TA):TE:=fun σ H Q => t σ H fun vs H1 => sp (vs ++ dvs) H1 Q E
def Binds (K:PySem.W.Frag) (fd:FuncData) (ps:List Str) (ds:List Value):Prop :=
 ∀ (s:Shared) (us:List Value),K.In s.heap→(us ++ ds).length=ps.length→BindsTo s fd ⟨us,[]⟩ (ps.zip (us ++ ds))
theorem Binds.all {K:PySem.W.Frag} {fd:FuncData} {ps:List Str} (h:∀ us:List Value,us.length=ps.length→bindArgs fd ⟨us,[]⟩=pure (ps.zip us)):Binds K fd ps []:=fun s us _ hl => by
 rw [List.append_nil] at hl ⊢
 exact .of_eq (h us hl)
def Passes (CX:CXT) (X:Cx) (E:XK):Prop:=∀ (pins:List (Addr × Obj)) (σ:St) (H:Hp) (s:Shared) (e:Value) (s' : Shared),Inv X pins σ H s→CX X.stack H s E e s'→X.xe e s'
section
variable {X:Cx} {CX:CXT} {k:Nat} {f C:Addr} {fd:FuncData} {ps:List Str} {sp:Sp} {dvs:List V} {ds:List Value} {E:XK} {x m:Str} {p pos apos:PySem.Pos} {e o:Expr} {es:List Expr} {ta:TE} {t:TA}
theorem run_fn {pins:List (Addr × Obj)} {σ:St} {H:Hp} {s:Shared} {Q:VK} {us:List Value} {vs:List V} (F:FnOk X.prog X.w X.K X.mg X.base CX k f fd ps sp) (hr:Room k X.A) (hb:Binds X.K fd ps ds) (hd:Vals dvs ds) (hx:Passes CX X E)
  (I:Inv X pins σ H s) (r:Vals vs us) (h:sp (vs ++ dvs) H Q E):wpAny (model X.prog X.w) X.A (call (.ref f) us) (EP X pins σ Q) X.xe s:=by
 have r2:Vals (vs ++ dvs) (us ++ ds):=r.append hd
 have hl:(us ++ ds).length=ps.length:=by rw [← r2.length]; exact F.len _ _ _ _ h
 refine wpAny_call (codeAny_mono (F.run X.A X.stack s H ⟨us,[]⟩ (us ++ ds) (vs ++ dvs) Q E hr I.env0 (hb s us I.kIn hl) r2 h) fun r s' hq => ?_)
 cases r with
 | error e => exact hx pins σ H s e s' I hq
 | ok fl =>
  cases fl with
  | ret u => exact I.after hq
  | next => exact False.elim hq
  | brk => exact False.elim hq
  | cont => exact False.elim hq
theorem pe_call (F:FnOk X.prog X.w X.K X.mg X.base CX k f fd ps sp) (hr:Room k X.A) (hg:Gl X x) (hm:X.mg x=some (.ref f)) (hk:PySem.W.keepIn X.K (.ref f)=true) (hb:Binds X.K fd ps ds) (hd:Vals dvs ds) (hx:Passes CX X E)
  (ha:PA X (e :: es) t) (hdb:(x == ("__debug__" : Str))=false:=by decide) (he:starEach (e :: es) X.env=(false,eval e X.env) :: starEach es X.env:=by rfl) (hpl:(backTo pos (starEach es X.env)).any (·.1)=false:=by rfl) :
  PE X (.Call (.Name x p) (e :: es) [] pos) (tCall sp dvs E t):=by
 intro pins s σ H Q I h
 refine wpAny_Call_Name_kw (ld_glob I hg hm ?_ hdb)
 refine PySem.W.callWith_K (h₀:=X.base) I.ok.mod.kin hk (thn (ha pos pins s σ H _ I h) fun us s1 ⟨vs,H1,I1,r,q⟩ => ⟨I1.kIn,?_⟩) he hpl
 exact run_fn F hr hb hd hx I1 r q
theorem pe_call0 (F:FnOk X.prog X.w X.K X.mg X.base CX k f fd ps sp) (hr:Room k X.A) (hg:Gl X x) (hm:X.mg x=some (.ref f)) (hk:PySem.W.keepIn X.K (.ref f)=true) (hb:Binds X.K fd ps ds) (hd:Vals dvs ds) (hx:Passes CX X E)
  (hdb:(x == ("__debug__" : Str))=false:=by decide):PE X (.Call (.Name x p) [] [] pos) (tCall sp dvs E tNil):=by
 intro pins s σ H Q I h
 refine wpAny_Call_Name_kw (ld_glob I hg hm ?_ hdb)
 exact PySem.W.callWith_K0 I.kIn hk (run_fn (us:=[]) F hr hb hd hx I .nil h)
end
structure FnScope (N P:List Str) (sc:Scope):Prop where
 kind:sc.kind = .function
 co:sc.isCoroutine=false
 gen:sc.isGenerator=false
 nd:N.Nodup
 pre:N.take P.length=P
 par:∀ x ∈ P,sc.names.lookup x=some .local ∨ sc.names.lookup x=some .cell
 nofree:∀ y ∈ sc.names,y.2 ≠ .free
theorem bindL_out {kindOf:Str→Option NameKind} {x:Str} : ∀ {binds:List (Str × Value)} {m:Str→Option Value},(∀ v,(x,v) ∉ binds)→bindL kindOf binds m x=m x
 | [],_,_ => rfl
 | (n,v) :: r,m,h => by
  unfold bindL
  rw [bindL_out fun w hw => h w (List.mem_cons_of_mem _ hw)]
  split
  ·have:x ≠ n:=by rintro rfl; exact h v List.mem_cons_self
   simp [this]
  ·rfl
theorem bindC_out {kindOf:Str→Option NameKind} {x:Str} : ∀ {binds:List (Str × Value)} {m:Str→Option Value},(∀ v,(x,v) ∉ binds)→bindC kindOf binds m x=m x
 | [],_,_ => rfl
 | (n,v) :: r,m,h => by
  unfold bindC
  rw [bindC_out fun w hw => h w (List.mem_cons_of_mem _ hw)]
  split
  ·rfl
  ·have:x ≠ n:=by rintro rfl; exact h v List.mem_cons_self
   simp [this]
theorem bindL_get {kindOf:Str→Option NameKind} {x:Str} {v:Value} : ∀ {P:List Str} {vs:List Value} {i:Nat} {m:Str→Option Value},P.Nodup→P[i]? = some x→vs[i]? = some v→kindOf x=some .local →
  bindL kindOf (P.zip vs) m x=some v
 | [],_,_,_,_,h,_,_ => by simp at h
 | _ :: _,[],_,_,_,_,h,_ => by simp at h
 | p :: P,w :: vs,0,m,nd,h1,h2,hk => by
  simp at h1 h2; subst h1; subst h2
  show bindL kindOf ((p,w) :: P.zip vs) m p=_
  unfold bindL
  rw [bindL_out fun v hv => (List.nodup_cons.mp nd).1 (List.of_mem_zip hv).1,if_pos hk]
  simp
 | p :: P,w :: vs,i + 1,m,nd,h1,h2,hk => by
  show bindL kindOf ((p,w) :: P.zip vs) m x=_
  unfold bindL
  exact bindL_get (i:=i) (List.nodup_cons.mp nd).2 (by simpa using h1) (by simpa using h2) hk
theorem bindC_get {kindOf:Str→Option NameKind} {x:Str} {v:Value} : ∀ {P:List Str} {vs:List Value} {i:Nat} {m:Str→Option Value},P.Nodup→P[i]? = some x→vs[i]? = some v→kindOf x ≠ some .local →
  bindC kindOf (P.zip vs) m x=some v
 | [],_,_,_,_,h,_,_ => by simp at h
 | _ :: _,[],_,_,_,_,h,_ => by simp at h
 | p :: P,w :: vs,0,m,nd,h1,h2,hk => by
  simp at h1 h2; subst h1; subst h2
  show bindC kindOf ((p,w) :: P.zip vs) m p=_
  unfold bindC
  rw [bindC_out fun v hv => (List.nodup_cons.mp nd).1 (List.of_mem_zip hv).1,if_neg hk]
  simp
 | p :: P,w :: vs,i + 1,m,nd,h1,h2,hk => by
  show bindC kindOf ((p,w) :: P.zip vs) m x=_
  unfold bindC
  exact bindC_get (i:=i) (List.nodup_cons.mp nd).2 (by simpa using h1) (by simpa using h2) hk
def start (N:List Str) (vs:List V):St:=vs.map some ++ List.replicate (N.length - vs.length) none
def cxOf (CX:CXT) (P:Program) (w:World) (K:PySem.W.Frag) (mg:Str→Option Value) (base:Heap) (N:List Str) (qual:Str) (scope:Scope) (f:Addr) (cd:Value) (A:Around) (outer:List Env) (s:Shared) (H:Hp) (E:XK):Cx where
 prog:=P
 w:=w
 K:=K
 mg:=mg
 base:=base
 A:=A.deeper (envOfC qual scope s.heap.objs.size f cd)
 N:=N
 s₀:=s
 H₀:=H
 env:=envOfC qual scope s.heap.objs.size f cd
 outer:=outer
 stack:=envOfC qual scope s.heap.objs.size f cd :: outer
 ex:=[]
 calm:=true
 fn:=fun _ => true
 pn:=[]
 xe:=fun e s' => wpAny (model P w) (A.deeper (envOfC qual scope s.heap.objs.size f cd)) (leaving (envOfC qual scope s.heap.objs.size f cd) e) (fun _ s'' => CX outer H s E e s'') (fun e' s'' => CX outer H s E e' s'') s'
theorem cell_has {sc:Scope} {n:Nat} {x:Str} (h:sc.names.lookup x=some .cell):∃ c,(cellsFrom n sc.names []).lookup x=some c:=by
 have q:=PySem.W.cellsFrom_some sc.names n [] (.inl h)
 exact Option.isSome_iff_exists.mp q
theorem inv_start {CX:CXT} {P:Program} {w:World} {K:PySem.W.Frag} {mg:Str→Option Value} {base:Heap} {N ps:List Str} {qual:Str} {scope:Scope} {f:Addr} {cd:Value} {A:Around} {outer:List Env} {s s1:Shared} {H:Hp} {E:XK} {us:List Value} {vs:List V}
  (S:FnScope N ps scope) (hd:A.handled=none) (e0:Env0 P w K mg base A outer s H) (hl:vs.length=ps.length) (r:Vals vs us)
  (x:InCallC s s.heap.objs.size (bindL (envOfC qual scope s.heap.objs.size f cd).kindOf (ps.zip us) fun _ => none) (cellsFrom (s.heap.objs.size + 1) scope.names []) (bindC (envOfC qual scope s.heap.objs.size f cd).kindOf (ps.zip us) fun _ => none) s1) :
  Inv (cxOf CX P w K mg base N qual scope f cd A outer s H E) [] (start N vs) H s1:=by
 have hpl:ps.length ≤ N.length:=by have:=congrArg List.length S.pre; rw [List.length_take] at this; omega
 obtain ⟨h1,tk,rfl,hk⟩:=x.done
 have noA:∀ b:Addr,b ∉ (cxOf CX P w K mg base N qual scope f cd A outer s H E).ex:=fun b z => absurd (show b ∈ ([]:List Addr) from z) (by simp)
 refine ⟨⟨e0.mod,S.kind,rfl,rfl,Nat.le_refl _,fun y z c h1 h2 => ?_,fun y hy => ?_,fun y c _ h => ?_,fun _ => hd,Around.frames_deeper e0.frames,.inr ⟨rfl,rfl⟩,fun b z => absurd z (noA b),e0.bs,e0.bsz,fun b _ _ => noA b,fun b z => absurd z (noA b),e0.funs,e0.frf⟩,
  rfl,e0.bare,Un.kept hk,⟨_,x.toInCall.ns,fun i y v h1 h2 h3 => ?_⟩,fun y c h => ⟨_,x.cell y c h⟩,e0.hok.fresh (Nat.le_refl _),fun y c h => ?_,fun p hp => absurd (show p ∈ ([]:List (Addr × Obj)) from hp) (by simp),e0.hok.kept hk,?_⟩
 ·exact name_of_addr x.apart (PySem.mem_of_lookup h1) (PySem.mem_of_lookup h2)
 ·have hy:scope.names.lookup y=some .cell ∨ scope.names.lookup y=some .free:=hy
  rcases hy with hy | hy
  ·exact cell_has hy
  ·exact absurd rfl (S.nofree _ (PySem.mem_of_lookup hy))
 ·exact Nat.le_of_lt (x.above y c (PySem.mem_of_lookup h))
 ·have hi:i < vs.length:=by
   unfold start at h2
   by_cases hi:i < vs.length
   ·exact hi
   ·rw [List.getElem?_append_right (by simpa using hi)] at h2
    rw [List.getElem?_replicate] at h2
    split at h2 <;> cases h2
  have ha:vs[i]? = some v:=by
   unfold start at h2
   rw [List.getElem?_append_left (by simpa using hi),List.getElem?_map] at h2
   cases e:vs[i]? with
   | none => rw [e] at h2; cases h2
   | some a => rw [e] at h2; cases h2; rfl
  obtain ⟨u,hu,rv⟩:=r.get ha
  have hp:ps[i]? = some y:=by
   rw [← S.pre,List.getElem?_take_of_lt (by omega)]; exact h1
  have ndP:ps.Nodup:=by rw [← S.pre]; exact S.nd.sublist (List.take_sublist _ _)
  refine ⟨u,rv,?_⟩
  rcases S.par y (List.mem_of_getElem? hp) with k | k
  ·exact .inl ⟨k,bindL_get ndP hp hu k⟩
  ·obtain ⟨c,e⟩:=cell_has (n:=s.heap.objs.size + 1) k
   refine .inr ⟨.inl k,c,e,?_⟩
   have q:=x.cell y c e
   rw [bindC_get ndP hp hu (by show scope.names.lookup y ≠ _; rw [k]; decide)] at q
   exact q
 ·exact e0.hok.fresh (Nat.le_of_lt (x.above y c (PySem.mem_of_lookup h)))
 ·unfold start
  show _=N.length
  rw [List.length_append,List.length_map,List.length_replicate]
  omega
theorem fn_of {CX:CXT} {P:Program} {w:World} {K:PySem.W.Frag} {mg:Str→Option Value} {base:Heap} {k:Nat} {f:Addr} {name qual:Str} {params:Arguments} {body:List Stmt} {scope:Scope} {dV kV doc pm cdv ct oc:Value} {an od:Option Addr}
  {osl:Array (Option Value)} {N ps:List Str} {sp:Sp} (lk:K.lookup f=some ⟨oc,od,.func (PySem.W.fnOf name qual params body scope dV kV doc pm an cdv ct),osl⟩) (hcd:PySem.W.codeIn K cdv qual=true) (S:FnScope N ps scope)
  (len:∀ vs H Q E,sp vs H Q E→vs.length=ps.length)
  (hbody:∀ (A:Around) (outer:List Env) (s:Shared) (H:Hp) (vs:List V) (Q:VK) (E:XK),Room k (A.deeper (envOfC qual scope s.heap.objs.size f cdv))→sp vs H Q E →
   ∃ t,PSs (cxOf CX P w K mg base N qual scope f cdv A outer s H E) body t∧t { nx:=fun _ H' => Q .non H',rt:=Q } (start N vs) H) :
  FnOk P w K mg base CX (k + 1) f (PySem.W.fnOf name qual params body scope dV kV doc pm an cdv ct) ps sp:=by
 refine ⟨len,fun A outer s H args us vs Q E hr e0 hb r hsp => ?_⟩
 have hl:=len _ _ _ _ hsp
 have KX:K.In s.heap:=e0.mod.kin.keeps fun b o e => (e0.bs b o e).1
 have lim:s.heap.NoLimit:=e0.mod.nolimit.keeps fun b o e => (e0.bs b o e).1
 have hkind:∀ y ∈ ps.zip us,scope.names.lookup y.1=some .local ∨ (scope.names.lookup y.1=some .cell∧((cellsFrom (s.heap.objs.size + 1) scope.names []).lookup y.1).isSome=true):=fun ⟨n,v⟩ hy => by
  rcases S.par n (List.of_mem_zip hy).1 with q | q
  ·exact .inl q
  ·exact .inr ⟨q,PySem.W.cellsFrom_some _ _ _ (.inl q)⟩
 refine codeAny_call_function hr.depth (KX _ _ lk) rfl S.co S.gen rfl (PySem.W.codeRec_of KX hcd) (hb _ _ _ _ ?_)
 refine wpAny_newFunctionEnv_cells S.kind hkind fun env he s1 x => ?_
 subst he
 refine ⟨lim.keeps x.toInCall.keep,codeAny_func ?_⟩
 obtain ⟨t,ht,hq⟩:=hbody A outer s H vs Q E (hr.deeper _) hsp
 have I:Inv (cxOf CX P w K mg base N qual scope f cdv A outer s H E) [] (start N vs) H s1:=inv_start S hr.hd e0 hl r x
 refine wpAny_mono (ht [] s1 (start N vs) H _ I hq) (fun fl s' hs => ?_) fun e s' hs => hs
 have fin:∀ {σ' : St} {H' : Hp} {v:V} {u:Value},Inv (cxOf CX P w K mg base N qual scope f cdv A outer s H E) [] σ' H' s'→RelV v u→Q v H'→CE outer P w H s Q u s' :=
  fun {σ' H' v u} J rv q => ⟨v,H',J.os,J.bare,J.base,J.hok,rv,q⟩
 cases fl with
 | ret u =>
  obtain ⟨v,σ',H',J,rv,q⟩:=hs
  exact fin J rv q
 | next =>
  obtain ⟨σ',H',J,q⟩:=hs
  exact fin (v:=V.non) (u:=Value.none) J rfl q
 | brk =>
  obtain ⟨_,_,_,q⟩:=hs
  exact False.elim q
 | cont =>
  obtain ⟨_,_,_,q⟩:=hs
  exact False.elim q
end L2
namespace L2
open PySem PySem.Spec PyProof.Rows
section
variable {X:Cx} {x:Str} {p pos:PySem.Pos} {e:Expr} {es:List Expr} {t:TA} {id T:String} {r:List V→Hp→VK→Prop}
def tCB (r:List V→Hp→VK→Prop) (t:TA):TE:=fun σ H Q => t σ H fun vs H1 => r vs H1 Q
theorem pe_callB (hc:CallR X (.builtin id) r) (hg:Gl X x) (hm:X.mg x=none) (hv:bootBuiltins x=some (.builtin id)) (ha:PA X (e :: es) t) (hn:x ≠ "__name__" := by decide) (hdb:(x == ("__debug__" : Str))=false:=by decide)
  (he:starEach (e :: es) X.env=(false,eval e X.env) :: starEach es X.env:=by rfl) (hpl:(backTo pos (starEach es X.env)).any (·.1)=false:=by rfl):PE X (.Call (.Name x p) (e :: es) [] pos) (tCB r t):=by
 intro pins s σ H Q I h
 refine wpAny_Call_Name_kw (ld_blt I hg hm hv ?_ hn hdb)
 exact PyProof.Rows.callWith_builtin1 (thn (ha pos pins s σ H _ I h) fun us s1 ⟨vs,H1,I1,r1,q1⟩ => hc pins s1 σ H1 vs us Q I1 r1 q1) he hpl
theorem pe_callTy (hc:CallR X (.type T) r) (hg:Gl X x) (hm:X.mg x=none) (hv:bootBuiltins x=some (.type T)) (ha:PA X (e :: es) t) (hn:x ≠ "__name__" := by decide) (hdb:(x == ("__debug__" : Str))=false:=by decide)
  (he:starEach (e :: es) X.env=(false,eval e X.env) :: starEach es X.env:=by rfl) (hpl:(backTo pos (starEach es X.env)).any (·.1)=false:=by rfl):PE X (.Call (.Name x p) (e :: es) [] pos) (tCB r t):=by
 intro pins s σ H Q I h
 refine wpAny_Call_Name_kw (ld_blt I hg hm hv ?_ hn hdb)
 exact PyProof.Rows.callWith_type1 (thn (ha pos pins s σ H _ I h) fun us s1 ⟨vs,H1,I1,r1,q1⟩ => hc pins s1 σ H1 vs us Q I1 r1 q1) he hpl
end
end L2
namespace HT
open PySem PyProof.Rows
def lexLt:List Int→List Int→Bool
 | [],[] => false
 | [],_ :: _ => true
 | _ :: _,[] => false
 | x :: xs,y :: ys => if x=y then lexLt xs ys else decide (x < y)
theorem lexLt_cons (x y:Int) (xs ys:List Int):lexLt (x :: xs) (y :: ys)=if x=y then lexLt xs ys else decide (x < y):=rfl
theorem lexLt_nil_nil:lexLt [] []=false:=rfl
theorem lexLt_nil_cons (y:Int) (ys:List Int):lexLt [] (y :: ys)=true:=rfl
theorem lexLt_cons_nil (x:Int) (xs:List Int):lexLt (x :: xs) []=false:=rfl
theorem eqAt_int (A:Around) (s:Shared) (a:Int) (t:Tok) (c:Int) (u:Tok):∃ e,SeqAt.EqAt A s (.int a t) (.int c u) e∧(e=true ↔ a=c) :=
 ⟨(a == c),SeqAt.EqAt.int_int a t c u,by simp⟩
theorem rcLt_int (A:Around) (s:Shared) (a:Int) (t:Tok) (c:Int) (u:Tok) (prog:Program) (w:World) (E:Value→Shared→Prop) (Q:Value→Shared→Prop) (h:Q (.bool (decide (a < c))) s) :
  wpAny (model prog w) A (richCompare .Lt (.int a t) (.int c u)) Q E s :=
 (PyProof.Rows.lt_int h:wpAny (model prog w) A (compareOp .Lt (.int a t) (.int c u)) Q E s)
section
open PySem.SeqAt
open PySem.AutoSeq1 (wpAny_loadPart')
open PySem.MeetsSeq PySem.MeetsSeq2 PySem.MeetsSeq3
theorem tuple_lt_ints (l b:Addr) (items items2:Array Value) (n n2:Nat) (dd dd2:Option Addr) (sl sl2:Array (Option Value)) (ns ms:List Int) (hi:IntsAre items.toList ns) (hj:IntsAre items2.toList ms) :
  Meets (Builtin.«tuple.__lt__» ⟨[.ref l,.ref b],[]⟩)
   (fun _ R s => s.heap.get? l=some { cls:=.type "tuple",dict:=dd,data:=.seq items n,slots:=sl }∧s.heap.get? b=some { cls:=.type "tuple",dict:=dd2,data:=.seq items2 n2,slots:=sl2 } ∧
    R (.ok (.ret (.bool (lexLt ns ms)))) s) :=
 .of_wp fun prog w A R s h => by
  obtain ⟨hp,g,d,tk,os⟩:=s; obtain ⟨hl,hb,h⟩:=h
  have f2:=AutoSeq1.sub_tuple_tuple
  have z1:items.size=ns.length:=by rw [← hi.length]; simp
  have z2:items2.size=ms.length:=by rw [← hj.length]; simp
  wp_walk using wpAny_loadPart' hl,wpAny_loadPart' hb,wpAny_forIn_list _ (fun rest b s' => b.1=none∧s' = ⟨hp,g,d,tk,os⟩∧∃ (vs ws:List Value) (ns' ms' : List Int),rest=vs.zip ws ∧
   IntsAre vs ns'∧IntsAre ws ms'∧ns'.length + items2.size=ms'.length + items.size∧R (.ok (.ret (.bool (lexLt ns' ms')))) ⟨hp,g,d,tk,os⟩) _
  case turn =>
   rintro ⟨y,x⟩ rest b s' ⟨hb',rfl,vs,ws,ns',ms',hz,hvi,hwi,hlen,hR⟩
   cases hvi with
   | nil => rw [List.zip_nil_left] at hz; cases hz
   | cons a t hvi' =>
    cases hwi with
    | nil => rw [List.zip_nil_right] at hz; cases hz
    | cons c u hwi' =>
     rw [List.zip_cons_cons] at hz
     injection hz with hyx hrest
     injection hyx with hy hx
     subst hy hx
     rw [lexLt_cons] at hR
     simp only [List.length_cons] at hlen
     obtain ⟨e,he,hiff⟩:=eqAt_int A.in1 ⟨hp,g,d,tk,os⟩ a t c u
     refine wpAny_bind (he prog w _ _ ?_)
     cases e with
     | true =>
      rw [if_pos (hiff.mp rfl)] at hR
      wp_walk
      exact ⟨rfl,rfl,_,_,_,_,hrest,hvi',hwi',by omega,hR⟩
     | false =>
      rw [if_neg (fun q => absurd (hiff.mpr q) Bool.false_ne_true)] at hR
      have hri:=rcLt_int A.in1 ⟨hp,g,d,tk,os⟩ a t c u prog w
      wp_walk using hri
      exact ⟨_,rfl,by simpa using hR⟩
  case fin =>
   rintro ⟨b1,b2⟩ s' ⟨hb',rfl,vs,ws,ns',ms',hz,hvi,hwi,hlen,hR⟩
   simp only at hb'
   subst hb'
   have hv:lexLt ns' ms' = decide (items.size < items2.size):=by
    cases hvi with
    | nil =>
     cases hwi with
     | nil =>
      simp only [List.length_nil] at hlen
      rw [lexLt_nil_nil]
      exact (decide_eq_false (by omega)).symm
     | cons c u hw =>
      simp only [List.length_nil,List.length_cons] at hlen
      rw [lexLt_nil_cons]
      exact (decide_eq_true (by omega)).symm
    | cons a t hv =>
     cases hwi with
     | nil =>
      simp only [List.length_nil,List.length_cons] at hlen
      rw [lexLt_cons_nil]
      exact (decide_eq_false (by omega)).symm
     | cons c u hw =>
      rw [List.zip_cons_cons] at hz
      cases hz
   rw [hv] at hR
   wp_walk
   exact ⟨_,rfl,by simpa [Builtin.Tuple.tupleCompareSizes] using hR⟩
  case h =>
   exact ⟨rfl,rfl,items.toList,items2.toList,ns,ms,rfl,hi,hj,by omega,h⟩
end
section
variable {prog:Program} {w:World} {A:Around} {E:Value→Shared→Prop} {s:Shared}
theorem lt_tupInts {l b:Addr} {items items2:Array Value} {ns ms:List Int} {Q:Value→Shared→Prop} (hl:IsTup s.heap l items) (hb:IsTup s.heap b items2) (hi:IntsAre items.toList ns) (hj:IntsAre items2.toList ms)
  (hu:A.units < cLine) (h:Q (.bool (lexLt ns ms)) s):wpAny (model prog w) A (compareOp .Lt (.ref l) (.ref b)) Q E s:=by
 obtain ⟨⟨cls,dd,data,sl⟩,ho,hc,n,hd⟩:=id hl
 obtain ⟨⟨cls2,dd2,data2,sl2⟩,ho2,hc2,n2,hd2⟩:=id hb
 simp only at hc hd hc2 hd2
 subst hc hd hc2 hd2
 exact richCompare_meets_room (op:=.Lt) ⟨_,ho,rfl⟩ ⟨_,ho2,rfl⟩ PySem.F.slot_tuple_lt PySem.F.entry_tuple_lt (PySem.F.args_tuple_lt_2 _ _) (tuple_lt_ints l b items items2 n n2 dd dd2 sl sl2 ns ms hi hj)
  ⟨ho,ho2,show Value.bool (lexLt ns ms) ≠ Value.notImplemented∧Q (.bool (lexLt ns ms)) s from ⟨(fun x => nomatch x),h⟩⟩ hu
def sIx (n d:Nat):Option Int→Nat
 | none => d
 | some v => if v < 0 then (v + (n:Int)).toNat else min v.toNat n
theorem sIx_nat (n d k:Nat):sIx n d (some (k:Int))=min k n:=by
 show (if (k:Int) < 0 then ((k:Int) + (n:Int)).toNat else min (k:Int).toNat n)=min k n
 rw [if_neg (by omega),Int.toNat_natCast]
end
end HT
namespace L2
open PySem PySem.Spec PyProof.Rows
abbrev TO:=St→Hp→(Option Int→Hp→Prop)→Prop
def PO (X:Cx) (e:Option Expr) (t:TO):Prop :=
 ∀ (pins:List (Addr × Obj)) (s:Shared) (σ:St) (H:Hp) (Q:Option Int→Hp→Prop),Inv X pins σ H s→t σ H Q →
  wpAny (model X.prog X.w) X.A (evalPart e X.env) (fun u s' => ∃ o H',Inv X pins σ H' s'∧IsPart u o∧Q o H') X.xe s
def tNoPart:TO:=fun _ H Q => Q none H
def tPart (t:TE):TO:=fun σ H Q => t σ H fun x H1 => ∃ i,x = .int i∧Q (some i) H1
theorem intsAre_of {ns:List Int} : ∀ {us:List Value},Vals (ns.map V.int) us→IntsAre us ns:=by
 induction ns with
 | nil => intro us r; rw [List.map_nil] at r; cases r; exact .nil
 | cons n ns ih =>
  intro us r
  rw [List.map_cons] at r
  cases r with
  | cons r1 r2 =>
   obtain ⟨t,e⟩:=r1
   subst e
   exact .cons n t (ih r2)
section
variable {X:Cx} {e:Expr} {te:TE} {lo hi:Option Expr} {tl th:TO} {pos p2:PySem.Pos}
theorem po_none:PO X none tNoPart:=by
 intro pins s σ H Q I h
 rw [evalPart_none]
 exact wpAny_pure ⟨none,H,I,.none,h⟩
theorem po_some (h:PE X e te):PO X (some e) (tPart te):=by
 intro pins s σ H Q I hw
 rw [evalPart_some]
 refine thn (h pins s σ H _ I hw) fun u s1 ⟨x,H1,I1,r1,q1⟩ => ?_
 obtain ⟨i,rfl,q⟩:=q1
 obtain ⟨t,rfl⟩:=r1
 exact ⟨some i,H1,I1,.int i t,q⟩
def SlR (X:Cx) (r:V→Option Int→Option Int→Hp→VK→Prop):Prop :=
 ∀ (pins:List (Addr × Obj)) (s:Shared) (σ:St) (H:Hp) (x:V) (v vl vu:Value) (lo hi:Option Int) (sl:Addr) (Q:VK),Inv X pins σ H s→RelV x v→s.heap.IsSliceOf sl vl vu .none→IsPart vl lo→IsPart vu hi→r x lo hi H Q →
  ∃ T id,typeLookup (.type T) "__getitem__" = pure (some (.builtin id))∧s.TypeIs v T∧wpAny (model X.prog X.w) X.A (getItem v (.ref sl)) (EP X pins σ Q) X.xe s
def tSl (r:V→Option Int→Option Int→Hp→VK→Prop) (te:TE) (tl th:TO):TE:=fun σ H Q => te σ H fun x H1 => tl σ H1 fun l H2 => th σ H2 fun u H3 => r x l u H3 Q
theorem pe_slice {r:V→Option Int→Option Int→Hp→VK→Prop} (hr:SlR X r) (he:PE X e te) (hl:PO X lo tl) (hu:PO X hi th):PE X (.Subscript e (.Slice lo hi none p2) pos) (tSl r te tl th):=by
 intro pins s σ H Q I h
 refine Subscript_ (thn (he pins s σ H _ I h) fun v s1 ⟨x,H1,I1,r1,q1⟩ => ?_)
 refine wpAny_Slice (thn (hl pins s1 σ H1 _ I1 q1) fun vl s2 ⟨l,H2,I2,pl,q2⟩ => thn (hu pins s2 σ H2 _ I2 q2) fun vu s3 ⟨u,H3,I3,pu,q3⟩ => ?_)
 rw [evalPart_none]
 refine wpAny_pure ?_
 have I4:Inv X pins σ H3 { s3 with heap:=s3.heap.push { cls:=.type "slice",data:=.fields #[vl,vu,.none] } }:=I3.kept (t':=s3.toks) fun b ob q => Heap.get?_push_of_some _ q
 obtain ⟨T,id,hT,ht,hg⟩:=hr pins { s3 with heap:=s3.heap.push { cls:=.type "slice",data:=.fields #[vl,vu,.none] } } σ H3 x v vl vu l u s3.heap.objs.size Q I4 r1 (Heap.IsSliceOf.new ..) pl pu q3
 show wpAny (model X.prog X.w) X.A (subscriptTail e (.Slice lo hi none p2) v (.ref s3.heap.objs.size)) (EP X pins σ Q) X.xe { s3 with heap:=s3.heap.push { cls:=.type "slice",data:=.fields #[vl,vu,.none] } }
 exact tail_any (ops:=[.ref s3.heap.objs.size,v]) ht hT hg (by with_unfolding_all rfl)
def cutV (xs:List V) (lo hi:Option Int):List V:=(xs.drop (HT.sIx xs.length 0 lo)).take (HT.sIx xs.length xs.length hi - HT.sIx xs.length 0 lo)
theorem cutV_length (xs:List V) (lo hi:Option Int):(cutV xs lo hi).length ≤ xs.length:=by
 unfold cutV
 rw [List.length_take,List.length_drop]
 omega
end
end L2
namespace L2
open PySem PySem.Spec PyProof.Rows
def ixN (n:Nat) (i:Int):Option Nat:=if 0 ≤ i then (if i < n then some i.toNat else none) else if -(n:Int) ≤ i then some (i + n).toNat else none
def atI {α:Type} (xs:List α) (i:Int):Option α:=(ixN xs.length i).bind fun j => xs[j]?
theorem ixN_seq {n:Nat} {i:Int} {j:Nat} (h:ixN n i=some j):seqIndex? i n=some j∧j < n∧-(n:Int) ≤ i∧i < n:=by
 unfold ixN at h
 by_cases h0:0 ≤ i
 ·rw [if_pos h0] at h
  by_cases h1:i < n
  ·rw [if_pos h1] at h
   have e:i.toNat=j:=Option.some.inj h
   exact ⟨by rw [seqIndex_of h0 h1,e],by omega,by omega,h1⟩
  ·rw [if_neg h1] at h; cases h
 ·rw [if_neg h0] at h
  by_cases h1 : -(n:Int) ≤ i
  ·rw [if_pos h1] at h
   have e:(i + n).toNat=j:=Option.some.inj h
   exact ⟨by rw [seqIndex_neg (by omega) h1,e],by omega,h1,by omega⟩
  ·rw [if_neg h1] at h; cases h
theorem atI_get {α:Type} {xs:List α} {i:Int} {v:α} (h:atI xs i=some v):∃ j,seqIndex? i xs.length=some j∧xs[j]? = some v∧j < xs.length∧-(xs.length:Int) ≤ i∧i < xs.length:=by
 unfold atI at h
 cases e:ixN xs.length i with
 | none => rw [e] at h; cases h
 | some j =>
  rw [e] at h
  obtain ⟨h1,h2,h3,h4⟩:=ixN_seq e
  exact ⟨j,h1,h,h2,h3,h4⟩
theorem atI_nat {α:Type} {xs:List α} {j:Nat} {v:α} (h:xs[j]? = some v):atI xs (j:Int)=some v:=by
 have hj:j < xs.length:=(List.getElem?_eq_some_iff.mp h).1
 have e:ixN xs.length (j:Int)=some j:=by
  unfold ixN
  rw [if_pos (by omega),if_pos (by omega)]; simp
 unfold atI; rw [e]; exact h
def PlainIx (b:Expr):Prop:=∀ o i,subscripted b false o i=operate [o,i] (getItem o i)
def IxR (X:Cx) (r:R2):Prop :=
 ∀ (value slice:Expr) (pins:List (Addr × Obj)) (s:Shared) (σ:St) (H:Hp) (x y:V) (v u:Value) (Q:VK),Inv X pins σ H s→RelV x v→RelV y u→r x y H Q →
  subscripted slice false v u=operate [v,u] (getItem v u)→wpAny (model X.prog X.w) X.A (subscriptTail value slice v u) (EP X pins σ Q) X.xe s
def MtR (X:Cx) (id:String) (r:V→List V→Hp→VK→Prop):Prop :=
 ∀ (pins:List (Addr × Obj)) (s:Shared) (σ:St) (H:Hp) (x:V) (xs:List V) (v:Value) (us:List Value) (Q:VK),Inv X pins σ H s→RelV x v→Vals xs us→r x xs H Q →
  wpAny (model X.prog X.w) X.A (call (.builtin id) (v :: us)) (EP X pins σ Q) X.xe s
section
variable {X:Cx} {a b:Expr} {ta tb:TE} {pos:PySem.Pos}
theorem pe_ix {r:R2} (hr:IxR X r) (ha:PE X a ta) (hb:PE X b tb) (hs:PlainIx b):PE X (.Subscript a b pos) (tOp r ta tb):=by
 intro pins s σ H Q I h
 exact Subscript_ (binT ha hb I h fun v u s2 x y H2 I2 rx ry q => hr a b pins s2 σ H2 x y v u Q I2 rx ry q (hs _ _))
def rIxL (K:PySem.W.Frag):R2:=fun x y H Q => ∃ p xs i v,x = .ref p∧y = .int i∧SqL K H p xs∧atI xs i=some v∧Q v H
def rIxT (K:PySem.W.Frag):R2:=fun x y H Q => ∃ p xs i v,x = .ref p∧y = .int i∧SqT K H p xs∧atI xs i=some v∧Q v H
def rIxS:R2:=fun x y H Q => ∃ z i c,x = .str z∧y = .int i∧z.length ≤ sizeLine∧atI z.cps.toList i=some c∧Q (.str ⟨#[c]⟩) H
theorem ix_list:IxR X (rIxL X.K):=by
 intro value slice pins s σ H x y v u Q I rx ry h hs
 obtain ⟨p,xs,i,z,rfl,rfl,hq,he,q⟩:=h
 cases rx
 obtain ⟨t,rfl⟩:=ry
 obtain ⟨its,r,pl,hz⟩:=I.list hq
 obtain ⟨j,h1,h2,h3,h4,h5⟩:=atI_get he
 obtain ⟨w,ew,rw'⟩:=r.get h2
 have hl:=r.length
 have hn:=line63
 have fin:EP X pins σ Q w s:=⟨z,H,I,rw',q⟩
 by_cases h0:0 ≤ i
 ·have hj:i.toNat=j:=by
   rw [seqIndex_of h0 h5] at h1
   exact Option.some.inj h1
  exact item_listR pl.isList h0 (by omega) (by rw [hj]; simpa using ew) fin hs
 ·have hj:(i + (its.toArray.size:Int)).toNat=j:=by
   rw [seqIndex_neg (by omega) h4] at h1
   rw [List.size_toArray,← hl]
   exact Option.some.inj h1
  exact subscriptTail_builtinR (x:=w) pl.isList.typeIs slot_list_getitem.lookup
   (wpAny_getItem_list_neg (Q:=fun r s' => r=w∧EP X pins σ Q r s') pl.isList (by omega) (by rw [List.size_toArray] <;> omega) (by omega) (by rw [hj]; simpa using ew) ⟨rfl,fin⟩) hs
theorem ix_tup:IxR X (rIxT X.K):=by
 intro value slice pins s σ H x y v u Q I rx ry h hs
 obtain ⟨p,xs,i,z,rfl,rfl,hq,he,q⟩:=h
 cases rx
 obtain ⟨t,rfl⟩:=ry
 obtain ⟨its,r,pl,hz⟩:=I.tuple hq
 obtain ⟨j,h1,h2,h3,h4,h5⟩:=atI_get he
 obtain ⟨w,ew,rw'⟩:=r.get h2
 have hl:=r.length
 have hn:=line63
 have fin:EP X pins σ Q w s:=⟨z,H,I,rw',q⟩
 exact subscriptTail_builtinR (x:=w) pl.typeIs slot_tuple_getitem.lookup
  (getItem_tuple (j:=j) (Q:=fun r s' => r=w∧EP X pins σ Q r s') pl (by omega) (by omega) (by rw [List.size_toArray,← hl]; exact h1) (by simpa using ew) ⟨rfl,fin⟩) hs
theorem ix_str:IxR X rIxS:=by
 intro value slice pins s σ H x y v u Q I rx ry h hs
 obtain ⟨z,i,c,rfl,rfl,hz,he,q⟩:=h
 obtain ⟨t,rfl⟩:=rx
 obtain ⟨t',rfl⟩:=ry
 obtain ⟨j,h1,h2,h3,h4,h5⟩:=atI_get he
 have hl:z.cps.toList.length=z.length:=by simp [Str.length]
 rw [hl] at h1 h4 h5
 have hn:=line63
 exact tail_any (typeIs_str s z t) slot_str_getitem.lookup (getItem_str (c:=c) (by
  have e1:decide (i < -(2 ^ 63:Int))=false:=decide_eq_false (by omega)
  have e2:decide (i ≥ 2 ^ 63)=false:=decide_eq_false (by omega)
  rw [e1,e2,Bool.or_false]) (by rw [h1]; simpa using h2) ⟨.str ⟨#[c]⟩,H,I.tok _,⟨_,rfl⟩,q⟩) hs
theorem mapSeq_set (its:List Value) (n j:Nat) (u:Value):Obj.mapSeq (·.setIfInBounds j u) { cls:=.type "list",data:=.seq its.toArray n } = { cls:=.type "list",data:=.seq (its.set j u).toArray n }:=by
 simp [Obj.mapSeq]
theorem Inv.lst {pins:List (Addr × Obj)} {σ:St} {H:Hp} {s:Shared} {p:Addr} {xs:List V} (I:Inv X pins σ H s) (h:H p=some (.lst xs)) :
  ∃ (its:List Value) (n:Nat),Vals xs its∧s.heap.get? p=some { cls:=.type "list",data:=.seq its.toArray n }∧xs.length ≤ sizeLine:=by
 obtain ⟨z,its,n,r,e⟩:=I.hok p _ h
 exact ⟨its,n,r,e,z⟩
theorem Inv.lstUpd {pins:List (Addr × Obj)} {σ:St} {H:Hp} {s:Shared} {p:Addr} {xs ys:List V} {its its' : List Value} {n n' : Nat} {f:Obj→Obj} (I:Inv X pins σ H s) (h:H p=some (.lst xs))
  (ho:s.heap.get? p=some { cls:=.type "list",data:=.seq its.toArray n }) (hf:f { cls:=.type "list",data:=.seq its.toArray n } = { cls:=.type "list",data:=.seq its'.toArray n' }) (r:Vals ys its') (hz:ys.length ≤ sizeLine) (t:Nat) :
  Inv X pins σ (upd H p (.lst ys)) { s with heap:=s.heap.update p f,toks:=t }:=by
 have e:(s.heap.update p f).get? p=some { cls:=.type "list",data:=.seq its'.toArray n' }:=by
  rw [Heap.get?_update_self f ho (by rw [hf] <;> rfl),hf]
 refine I.write (x:=p) (e:=p) (by rw [h]; trivial) (.inl rfl) (fun b u hb q => (Heap.get?_update_other _ _ (Ne.symm hb)).trans q) ⟨_,e⟩ ?_
 exact ⟨hz,its',n',r,e⟩
def rSetL:V→V→V→Hp→(Hp→Prop)→Prop:=fun o i v H Q => ∃ p xs k j,o = .ref p∧i = .int k∧H p=some (.lst xs)∧ixN xs.length k=some j∧Q (upd H p (.lst (xs.set j v)))
theorem set_list:PSet X rSetL:=by
 intro pins s σ H o i v ov iv u Q I ro ri rv h
 obtain ⟨p,xs,k,j,rfl,rfl,hp,hj,q⟩:=h
 cases ro
 obtain ⟨t,rfl⟩:=ri
 obtain ⟨its,n,r,ho,hz⟩:=I.lst hp
 obtain ⟨h1,h2,h3,h4⟩:=ixN_seq hj
 have hl:=r.length
 have hn:=line63
 have I' : Inv X pins σ (upd H p (.lst (xs.set j v))) { s with heap:=s.heap.update p (Obj.mapSeq (·.setIfInBounds j u)) } :=
  I.lstUpd hp ho (mapSeq_set its n j u) (r.set rv j) (by rw [List.length_set]; exact hz) s.toks
 by_cases h0:0 ≤ k
 ·have hk:k.toNat=j:=by
   rw [seqIndex_of h0 h4] at h1
   exact Option.some.inj h1
  exact PySem.W.ki_setAt ho h0 (by omega) (by rw [List.size_toArray,← hl]; exact h4) (by rw [hk]; exact ⟨_,I',q⟩)
 ·have hk:(k + (its.toArray.size:Int)).toNat=j:=by
   rw [seqIndex_neg (by omega) h3] at h1
   rw [List.size_toArray,← hl]
   exact Option.some.inj h1
  exact PySem.W.ki_setBack ho (by omega) (by rw [List.size_toArray,← hl]; exact h3) (by omega) (by rw [hk]; exact ⟨_,I',q⟩)
theorem slice_bounds (lo hi:Option Int) (n:Nat):(sliceBounds lo hi none n).1=((HT.sIx n 0 lo:Nat):Int)∧(sliceBounds lo hi none n).2.1=((HT.sIx n n hi:Nat):Int)∧(sliceBounds lo hi none n).2.2=1:=by
 refine ⟨?_,?_,rfl⟩
 ·cases lo with
  | none => simp [sliceBounds,HT.sIx]
  | some i =>
   simp only [sliceBounds,HT.sIx,Option.getD_none,show (1:Int) > 0 by decide,if_true]
   by_cases h:i < 0
   ·simp only [h,if_true] <;> omega
   ·simp only [h,if_false] <;> omega
 ·cases hi with
  | none => simp [sliceBounds,HT.sIx]
  | some i =>
   simp only [sliceBounds,HT.sIx,Option.getD_none,show (1:Int) > 0 by decide,if_true]
   by_cases h:i < 0
   ·simp only [h,if_true] <;> omega
   ·simp only [h,if_false] <;> omega
theorem slicePick_cut (its:List Value) (lo hi:Option Int):slicePick its.toArray lo hi none=((its.drop (HT.sIx its.length 0 lo)).take (HT.sIx its.length its.length hi - HT.sIx its.length 0 lo)).toArray:=by
 obtain ⟨h1,h2,h3⟩:=slice_bounds lo hi its.toArray.size
 unfold slicePick
 rw [h1,h2,h3]
 simp only [sliceRange_one,pick_run,List.size_toArray] <;> rfl
def rSlL (K:PySem.W.Frag):V→Option Int→Option Int→Hp→VK→Prop:=fun x lo hi H Q => ∃ a xs,x = .ref a∧SqL K H a xs∧∀ p,H p=none→Q (.ref p) (upd H p (.lst (cutV xs lo hi)))
theorem sl_list:SlR X (rSlL X.K):=by
 intro pins s σ H x v vl vu lo hi sl Q I rx hs pl pu h
 obtain ⟨a,xs,rfl,hx,q⟩:=h
 cases rx
 obtain ⟨its,r,ht,hz⟩:=I.list hx
 have hlen:=r.length
 refine ⟨"list",_,slot_list_getitem.lookup,ht.isList.typeIs,?_⟩
 refine wpAny_getItem_list_slice ht.isList hs pl pu .none (by simp) ?_ (by rw [List.size_toArray] <;> omega)
 rw [slicePick_cut,← hlen]
 refine ⟨.ref s.heap.objs.size,_,I.laid (t':=s.toks) (o:=.lst (cutV xs lo hi)) (fun b ob q => Heap.get?_push_of_some _ q) (Nat.le_refl _) ?_,rfl,q _ (I.hok.fresh (Nat.le_refl _))⟩
 exact ⟨Nat.le_trans (cutV_length xs lo hi) hz,_,0,(r.drop (HT.sIx xs.length 0 lo)).take (HT.sIx xs.length xs.length hi - HT.sIx xs.length 0 lo),Heap.get?_push_size _ rfl⟩
def flatV:V→Bool
 | .non => true
 | .bl _ => true
 | .int _ => true
 | .str _ => true
 | _ => false
def eqV:V→V→Bool
 | .non,.non => true
 | .bl a,.bl b => a == b
 | .bl a,.int b => (if a then 1 else 0) == b
 | .int a,.bl b => a == (if b then 1 else 0)
 | .int a,.int b => a == b
 | .str a,.str b => a == b
 | _,_ => false
theorem eqAt_V {A:Around} {s:Shared} {y x:V} {u v:Value} (ry:RelV y u) (rx:RelV x v) (fy:flatV y=true) (fx:flatV x=true):SeqAt.EqAt A s u v (eqV y x):=by
 cases y with
 | non =>
  cases ry
  cases x with
  | non => cases rx; exact SeqAt.EqAt.same _
  | bl b => cases rx; exact SeqAt.EqAt.none_bool b
  | int b => obtain ⟨t,rfl⟩:=rx; exact SeqAt.EqAt.none_int b t
  | str b => obtain ⟨t,rfl⟩:=rx; exact SeqAt.EqAt.none_str b t
  | _ => exact absurd (show false=true from fx) Bool.false_ne_true
 | bl a =>
  cases ry
  cases x with
  | non => cases rx; exact SeqAt.EqAt.bool_none a
  | bl b => cases rx; exact SeqAt.EqAt.bool_bool a b
  | int b => obtain ⟨t,rfl⟩:=rx; exact SeqAt.EqAt.bool_int a b t
  | str b => obtain ⟨t,rfl⟩:=rx; exact SeqAt.EqAt.bool_str a b t
  | _ => exact absurd (show false=true from fx) Bool.false_ne_true
 | int a =>
  obtain ⟨t',rfl⟩:=ry
  cases x with
  | non => cases rx; exact SeqAt.EqAt.int_none a t'
  | bl b => cases rx; exact SeqAt.EqAt.int_bool a t' b
  | int b => obtain ⟨t,rfl⟩:=rx; exact SeqAt.EqAt.int_int a t' b t
  | str b => obtain ⟨t,rfl⟩:=rx; exact SeqAt.EqAt.int_str a t' b t
  | _ => exact absurd (show false=true from fx) Bool.false_ne_true
 | str a =>
  obtain ⟨t',rfl⟩:=ry
  cases x with
  | non => cases rx; exact SeqAt.EqAt.str_none a t'
  | bl b => cases rx; exact SeqAt.EqAt.str_bool a t' b
  | int b => obtain ⟨t,rfl⟩:=rx; exact SeqAt.EqAt.str_int a t' b t
  | str b => obtain ⟨t,rfl⟩:=rx; exact SeqAt.EqAt.str_str a t' b t
  | _ => exact absurd (show false=true from fx) Bool.false_ne_true
 | _ => exact absurd (show false=true from fy) Bool.false_ne_true
def eqU (x:V) (u:Value):Bool:=match u with
 | .none => eqV .non x
 | .bool b => eqV (.bl b) x
 | .int i _ => eqV (.int i) x
 | .str z _ => eqV (.str z) x
 | _ => false
theorem eqU_of {x y:V} {u:Value} (r:RelV y u) (f:flatV y=true):eqU x u=eqV y x:=by
 cases y with
 | non => cases r; rfl
 | bl b => cases r; rfl
 | int i => obtain ⟨t,rfl⟩:=r; rfl
 | str z => obtain ⟨t,rfl⟩:=r; rfl
 | _ => exact absurd (show false=true from f) Bool.false_ne_true
theorem any_eqU {x:V} : ∀ {xs:List V} {us:List Value},Vals xs us→xs.all flatV=true→us.any (eqU x)=xs.any fun y => eqV y x
 | _,_,.nil,_ => rfl
 | y :: xs,u :: us,.cons r t,f => by
  rw [List.all_cons,Bool.and_eq_true] at f
  rw [List.any_cons,List.any_cons,eqU_of r f.1,any_eqU t f.2]
theorem mem_eqAt {A:Around} {s:Shared} {x:V} {v:Value} (rx:RelV x v) (fx:flatV x=true):∀ {xs:List V} {us:List Value},Vals xs us→xs.all flatV=true→∀ u ∈ us,SeqAt.EqAt A s u v (eqU x u)
 | _,_,.nil,_ => fun u hu => by cases hu
 | y :: xs,u :: us,.cons r t,f => fun u' hu => by
  rw [List.all_cons,Bool.and_eq_true] at f
  rcases List.mem_cons.mp hu with rfl | hu
  ·rw [eqU_of r f.1]; exact eqAt_V r rx f.1 fx
  ·exact mem_eqAt rx fx t f.2 u' hu
def inV (x:V) (xs:List V):Bool:=xs.any fun y => eqV y x
def rIn (K:PySem.W.Frag) (neg:Bool):R2:=fun x y H Q => ∃ p xs,y = .ref p∧(SqL K H p xs ∨ SqT K H p xs)∧flatV x=true∧xs.all flatV=true∧Q (.bl (if neg then !inV x xs else inV x xs)) H
theorem op_in_seq:OpR X (compareOp .In) (rIn X.K false):=by
 intro pins s σ H x y v u Q I rx ry h
 obtain ⟨p,xs,rfl,hq,fx,fs,q⟩:=h
 cases ry
 rcases hq with hq | hq
 ·obtain ⟨its,r,pl,hz⟩:=I.list hq
  refine SeqAt.in_listAt (eqU x) pl.isList (fun w hw => mem_eqAt rx fx r fs w (by simpa using hw)) ⟨.bl _,H,I,rfl,?_⟩
  rw [show its.toArray.any (eqU x)=its.any (eqU x) by simp,any_eqU r fs]
  exact q
 ·obtain ⟨its,r,pl,hz⟩:=I.tuple hq
  refine SeqAt.in_tupleAt (eqU x) pl (fun w hw => mem_eqAt rx fx r fs w (by simpa using hw)) ⟨.bl _,H,I,rfl,?_⟩
  rw [show its.toArray.any (eqU x)=its.any (eqU x) by simp,any_eqU r fs]
  exact q
theorem call_len_seq:CallR X (.builtin "len") (fun xs H Q => ∃ p ys,xs=[.ref p]∧(SqL X.K H p ys ∨ SqT X.K H p ys)∧Q (.int ys.length) H):=by
 intro pins s σ H xs us Q I r h
 obtain ⟨p,ys,rfl,hq,q⟩:=h
 obtain ⟨u,rfl,rx⟩:=vals1 r
 cases rx
 have hn:=line63
 rcases hq with hq | hq
 ·obtain ⟨its,r',pl,hz⟩:=I.list hq
  have hlen:=r'.length
  exact Calls.call_len_list pl.isList (by simp only [List.size_toArray] <;> omega) ⟨.int ys.length,H,I.tok _,⟨s.toks + 1,by rw [List.size_toArray,hlen]⟩,q⟩
 ·obtain ⟨its,r',pl,hz⟩:=I.tuple hq
  have hlen:=r'.length
  exact len_tuple pl (by simp only [List.size_toArray] <;> omega) ⟨.int ys.length,H,I.tok _,⟨s.toks + 1,by rw [List.size_toArray,hlen]⟩,q⟩
theorem call_len_str:CallR X (.builtin "len") (fun xs H Q => ∃ z,xs=[.str z]∧z.length ≤ sizeLine∧Q (.int z.length) H):=by
 intro pins s σ H xs us Q I r h
 obtain ⟨z,rfl,hz,q⟩:=h
 obtain ⟨u,rfl,t,rfl⟩:=vals1 r
 have hn:=line63
 exact len_str (by omega) ⟨.int z.length,H,I.tok _,⟨_,rfl⟩,q⟩
theorem call_list_of:CallR X (.type "list") (fun xs H Q => ∃ p ys,xs=[.ref p]∧(SqL X.K H p ys ∨ SqT X.K H p ys)∧∀ l,H l=none→Q (.ref l) (upd H l (.lst ys))):=by
 intro pins s σ H xs us Q I r h
 obtain ⟨p,ys,rfl,hq,q⟩:=h
 obtain ⟨u,rfl,rx⟩:=vals1 r
 cases rx
 have fin:∀ (its:List Value),Vals ys its→ys.length ≤ sizeLine→∀ (h' : Heap) (c' : Nat),(∀ b o',s.heap.get? b=some o'→h'.get? b=some o') →
   h'.get? s.heap.objs.size=some { cls:=.type "list",dict:=none,data:=.seq its.toArray c',slots:=#[] }→EP X pins σ Q (.ref s.heap.objs.size) { s with heap:=h' }:=fun its r' hz h' c' kp e =>
  ⟨.ref s.heap.objs.size,_,I.laid (t':=s.toks) kp (Nat.le_refl _) (show ObjOk X.prog X.w _ h' _ (.lst ys) from ⟨hz,its,c',r',e⟩),rfl,q _ (I.hok.fresh (Nat.le_refl _))⟩
 rcases hq with hq | hq
 ·obtain ⟨its,r',pl,hz⟩:=I.list hq
  have hlen:=r'.length
  obtain ⟨o,ho,hc,n,hd⟩:=pl.isList
  exact call_list_seq p (.inl rfl) ho hc hd (fun h' c' kp e => fin its r' hz h' c' kp e) (by simp only [List.size_toArray] <;> omega)
 ·obtain ⟨its,r',pl,hz⟩:=I.tuple hq
  have hlen:=r'.length
  obtain ⟨o,ho,hc,n,hd⟩:=pl
  exact call_list_seq p (.inr rfl) ho hc hd (fun h' c' kp e => fin its r' hz h' c' kp e) (by simp only [List.size_toArray] <;> omega)
theorem call_tuple_of:CallR X (.type "tuple") (fun xs H Q => ∃ p ys,xs=[.ref p]∧((SqL X.K H p ys∧∀ l,H l=none→Q (.ref l) (upd H l (.tup ys))) ∨ (SqT X.K H p ys∧Q (.ref p) H))):=by
 intro pins s σ H xs us Q I r h
 obtain ⟨p,ys,rfl,h⟩:=h
 obtain ⟨u,rfl,rx⟩:=vals1 r
 cases rx
 rcases h with ⟨hq,q⟩ | ⟨hq,q⟩
 ·obtain ⟨its,r',pl,hz⟩:=I.list hq
  have hlen:=r'.length
  refine call_tuple_list pl.isList (fun h' kp => ?_) (by simp only [List.size_toArray] <;> omega)
  have I1:Inv X pins σ H { s with heap:=h' }:=I.kept (t':=s.toks) kp
  have I2:Inv X pins σ (upd H h'.objs.size (.tup ys)) { s with heap:=h'.push { cls:=.type "tuple",data:=.seq its.toArray } } :=
   I1.laid (t':=s.toks) (fun b o e => Heap.get?_push_of_some _ e) (Nat.le_refl _) (show ObjOk X.prog X.w _ _ _ (.tup ys) from ⟨hz,its,r',IsTup.new _ _⟩)
  exact ⟨.ref h'.objs.size,_,I2,rfl,q _ (I1.hok.fresh (Nat.le_refl _))⟩
 ·obtain ⟨its,r',pl,hz⟩:=I.tuple hq
  exact call_tuple_same pl ⟨.ref p,H,I,rfl,q⟩
def tyV (K:PySem.W.Frag) (T:String) (x:V) (H:Hp):Prop:=match x with
 | .str _ => T = "str"
 | .int _ => T = "int"
 | .ref p => (T = "list" ∧ ∃ xs,SqL K H p xs) ∨ (T = "tuple" ∧ ∃ o,K.lookup p=some o∧o.cls = .type "tuple" ∧ o.dict=none) ∨
   (T = "dict" ∧ ((∃ kvs,H p=some (.dK kvs)) ∨ ∃ kvs,H p=some (.dT kvs))) ∨ (T = "set" ∧ ∃ S n,H p=some (.set S n))
 | _ => False
theorem tyV_is {pins:List (Addr × Obj)} {σ:St} {H:Hp} {s:Shared} {T:String} {x:V} {v:Value} (I:Inv X pins σ H s) (r:RelV x v) (ty:tyV X.K T x H) :
  s.TypeIs v T∧∀ a,v = .ref a→∃ ob,s.heap.get? a=some ob∧ob.dict=none:=by
 cases x with
 | str z =>
  obtain ⟨t,rfl⟩:=r
  cases (show T = "str" from ty)
  exact ⟨typeIs_str s z t,fun _ e => nomatch e⟩
 | int i =>
  obtain ⟨t,rfl⟩:=r
  cases (show T = "int" from ty)
  exact ⟨typeIs_int s i t,fun _ e => nomatch e⟩
 | ref p =>
  cases r
  rcases ty with ⟨rfl,xs,hq⟩ | ⟨rfl,o,hk,hc,hd⟩ | ⟨rfl,hk⟩ | ⟨rfl,S,n,hk⟩
  ·obtain ⟨its,_,pl,_⟩:=I.list hq
   refine ⟨pl.isList.typeIs,fun a e => ?_⟩
   cases e
   obtain ⟨o,n,e,c,hd,_⟩:=pl
   exact ⟨o,e,hd⟩
  ·refine ⟨⟨o,I.kIn p o hk,hc⟩,fun a e => ?_⟩
   cases e
   exact ⟨o,I.kIn _ o hk,hd⟩
  ·have z:∃ o,s.heap.get? p=some o∧o.ExactDict:=by
    rcases hk with ⟨kvs,hk⟩ | ⟨kvs,hk⟩
    ·obtain ⟨_,_,_,_,o,_,_,e,ex,_⟩:=I.hok p _ hk
     exact ⟨o,e,ex⟩
    ·obtain ⟨_,_,_,_,o,_,_,e,ex,_⟩:=I.hok p _ hk
     exact ⟨o,e,ex⟩
   obtain ⟨o,e,ex⟩:=z
   refine ⟨⟨o,e,ex.1⟩,fun a e2 => ?_⟩
   cases e2
   exact ⟨o,e,ex.2.1⟩
  ·obtain ⟨o,_,_,_,e,ex,_⟩:=I.hok p _ hk
   refine ⟨⟨o,e,ex.1⟩,fun a e2 => ?_⟩
   cases e2
   exact ⟨o,e,ex.2.1⟩
 | _ => exact False.elim ty
def tBM0 (K:PySem.W.Frag) (T:String) (r:V→List V→Hp→VK→Prop) (to:TE):TE:=fun σ H Q => to σ H fun x H1 => tyV K T x H1∧r x [] H1 Q
def tBM (K:PySem.W.Frag) (T:String) (r:V→List V→Hp→VK→Prop) (to:TE) (t:TA):TE:=fun σ H Q => to σ H fun x H1 => tyV K T x H1∧t σ H1 fun xs H2 => r x xs H2 Q
variable {o e:Expr} {es:List Expr} {to:TE} {t:TA} {name:Str} {apos cpos:PySem.Pos} {T id:String} {r:V→List V→Hp→VK→Prop}
theorem pe_bm0 (pa:PlainAttrs T) (slot:Slot T name id) (hty:typeOf (.builtin id)=pure (.type "method_descriptor")) (hm:MtR X id r) (ho:PE X o to)
  (hbase:attributeBase o name X.env (eval o X.env)=eval o X.env:=by rfl) (hline:(apos.endLine == cpos.line)=true:=by rfl):PE X (.Call (.Attribute o name apos) [] [] cpos) (tBM0 X.K T r to):=by
 intro pins s σ H Q I h
 refine wpAny_Call_method0_late hbase hline (thn (ho pins s σ H _ I h) fun v s1 ⟨x,H1,I1,r1,ty,q1⟩ => ?_)
 obtain ⟨h1,h2⟩:=tyV_is I1 r1 ty
 exact ⟨T,id,pa,slot,hty,h1,h2,Calls.callWith_builtin rfl (PySem.evalArgs_none (hm pins s1 σ H1 x [] v [] Q I1 r1 .nil q1))⟩
theorem pe_bm (pa:PlainAttrs T) (slot:Slot T name id) (hty:typeOf (.builtin id)=pure (.type "method_descriptor")) (hm:MtR X id r) (ho:PE X o to) (ha:PA X (e :: es) t)
  (hbase:attributeBase o name X.env (eval o X.env)=eval o X.env:=by rfl)
  (hfew:((backTo cpos (starEach (e :: es) X.env)).all (fun x => !x.1) && (backToKw cpos (keywordEach [] X.env)).all (fun x => x.1.isSome)
   && decide ((e :: es).length + ([]:List Keyword).length + (if ([]:List Keyword).isEmpty then 0 else 1) < 30))=true:=by rfl)
  (hline:(apos.endLine == cpos.line)=true:=by rfl) (hs:starEach (e :: es) X.env=(false,eval e X.env) :: starEach es X.env:=by rfl) (hplain:(backTo cpos (starEach es X.env)).any (·.1)=false:=by rfl) :
  PE X (.Call (.Attribute o name apos) (e :: es) [] cpos) (tBM X.K T r to t):=by
 intro pins s σ H Q I h
 refine wpAny_Call_method_late hbase hfew hline rfl (thn (ho pins s σ H _ I h) fun v s1 ⟨x,H1,I1,r1,ty,q1⟩ => ?_)
 obtain ⟨h1,h2⟩:=tyV_is I1 r1 ty
 refine ⟨T,id,pa,slot,hty,h1,h2,?_⟩
 have hA:=ha cpos pins s1 σ H1 _ I1 q1
 rw [hs] at hA ⊢
 refine Calls.callWith_builtin (by show (false || (backTo cpos (starEach es X.env)).any (·.1))=false; rw [hplain] <;> rfl) (Calls.evalArgs_plain ?_)
 exact thn hA fun us s2 ⟨vs,H2,I2,r2,q2⟩ => hm pins s2 σ H2 x vs v us Q I2 r1 r2 q2
end
end L2
namespace L2
open PySem PySem.Spec PyProof.Rows
def MtM (X:Cx) (id:String) (r:V→List V→Hp→VK→Prop):Prop :=
 ∀ (pins:List (Addr × Obj)) (s:Shared) (σ:St) (H:Hp) (x:V) (xs:List V) (v:Value) (us:List Value) (Q:VK),Inv X pins σ H s→RelV x v→Vals xs us→r x xs H Q →
  wpAny (model X.prog X.w) X.A (call (.builtin id) (v :: us)) (EP X pins σ Q) X.xe s
theorem Vals.one:∀ {x:V} {us:List Value},Vals [x] us→∃ u,us=[u]∧RelV x u
 | _,_,.cons r .nil => ⟨_,rfl,r⟩
theorem Vals.zero:∀ {us:List Value},Vals [] us→us=[]
 | _,.nil => rfl
theorem Vals.eraseIdx:∀ {xs:List V} {us:List Value} (i:Nat),Vals xs us→Vals (xs.eraseIdx i) (us.eraseIdx i)
 | _,_,_,.nil => .nil
 | _,_,0,.cons _ t => t
 | _,_,i + 1,.cons r t => .cons r (Vals.eraseIdx i t)
theorem len_erase {α:Type} : ∀ (l:List α) (i:Nat),(l.eraseIdx i).length ≤ l.length
 | [],_ => Nat.le_refl _
 | _ :: _,0 => Nat.le_succ _
 | _ :: r,i + 1 => Nat.succ_le_succ (len_erase r i)
section
variable {X:Cx} {pins:List (Addr × Obj)} {σ:St} {H:Hp} {s:Shared} {l b:Addr} {xs ys zs:List V}
theorem Inv.lset {its its' : List Value} {n:Nat} {f:Array Value→Array Value} {t' : Nat} (I:Inv X pins σ H s) (hH:H l=some (.lst xs))
  (e:s.heap.get? l=some { cls:=.type "list",data:=.seq its.toArray n }) (hf:f its.toArray=its'.toArray) (hv:Vals ys its') (hz:ys.length ≤ sizeLine) :
  Inv X pins σ (upd H l (.lst ys)) { s with heap:=s.heap.update l (Obj.mapSeq f),toks:=t' }:=by
 have q:=PySem.IsL.update e f
 rw [hf] at q
 refine I.write (x:=l) (e:=l) (by rw [hH]; exact trivial) (.inl rfl) (fun b' u hb hu => (Heap.get?_update_other s.heap (Obj.mapSeq f) (Ne.symm hb)).trans hu) ⟨_,q⟩ ?_
 exact ⟨hz,its',_,hv,q⟩
theorem Inv.lnew {its:List Value} {t' : Nat} (I:Inv X pins σ H s) (hv:Vals ys its) (hz:ys.length ≤ sizeLine) :
  Inv X pins σ (upd H s.heap.objs.size (.lst ys)) { s with heap:=s.heap.push { cls:=.type "list",data:=.seq its.toArray },toks:=t' } :=
 I.laid (fun _ _ q => Heap.get?_push_of_some _ q) (Nat.le_refl _) ⟨hz,its,0,hv,Heap.get?_push_size _ rfl⟩
theorem Inv.fresh (I:Inv X pins σ H s):H s.heap.objs.size=none:=I.hok.fresh (Nat.le_refl _)
theorem Inv.lstM (I:Inv X pins σ H s) (hH:H l=some (.lst xs)):xs.length ≤ sizeLine∧∃ (its:List Value) (n:Nat),Vals xs its∧xs.length=its.length∧s.heap.get? l=some { cls:=.type "list",data:=.seq its.toArray n }:=by
 obtain ⟨z,its,n,r,e⟩:=I.hok l _ hH
 exact ⟨z,its,n,r,r.length,e⟩
end
section
variable {X:Cx}
def rAppend:V→List V→Hp→VK→Prop:=fun x vs H Q => ∃ l xs y,x = .ref l∧vs=[y]∧H l=some (.lst xs)∧xs.length < sizeLine∧Q .non (upd H l (.lst (xs ++ [y])))
theorem mt_append:MtM X "list.append" rAppend:=by
 intro pins s σ H x vs v us Q I rx rv h
 obtain ⟨l,xs,y,rfl,rfl,hH,hz,q⟩:=h
 cases rx
 obtain ⟨u,rfl,ru⟩:=rv.one
 obtain ⟨z,its,n,r,hl,e⟩:=I.lstM hH
 refine call_meets F.slot_list_append ⟨_,e,rfl⟩ F.entry_list_append (F.args_list_append_2 _ _) (PySem.list_append l its.toArray n u (by rw [List.size_toArray]; omega)) ⟨e,?_⟩
 refine ⟨.non,_,I.lset (its':=its ++ [u]) hH e (by simp) (r.append (.cons ru .nil)) ?_,rfl,q⟩
 rw [List.length_append,List.length_singleton]
 omega
def rPopAt:V→List V→Hp→VK→Prop:=fun x vs H Q => ∃ l xs i k y,x = .ref l∧vs=[.int i]∧H l=some (.lst xs)∧-(2 ^ 63) ≤ i∧i < 2 ^ 63∧seqIndex? i xs.length=some k∧xs[k]? = some y∧Q y (upd H l (.lst (xs.eraseIdx k)))
theorem mt_popAt:MtM X "list.pop" rPopAt:=by
 intro pins s σ H x vs v us Q I rx rv h
 obtain ⟨l,xs,i,k,y,rfl,rfl,hH,h1,h2,hk,hy,q⟩:=h
 cases rx
 obtain ⟨u,rfl,ru⟩:=rv.one
 obtain ⟨t,rfl⟩:=ru
 obtain ⟨z,its,n,r,hl,e⟩:=I.lstM hH
 obtain ⟨w,hw,rw'⟩:=r.get hy
 refine call_meets F.slot_list_pop ⟨_,e,rfl⟩ F.entry_list_pop (F.args_list_pop_2 _ _)
  (MeetsSeq.list_pop_at l its.toArray n i t k w (fitsIndex_both h1 h2) (by rw [List.size_toArray,← hl]; exact hk) (by rw [← Array.getElem?_toList]; exact hw) (by rw [List.size_toArray]; omega)) ⟨e,?_⟩
 refine ⟨y,_,I.lset (its':=its.eraseIdx k) hH e ?_ (r.eraseIdx k) ?_,rw',q⟩
 ·show its.toArray.eraseIdxIfInBounds k=(its.eraseIdx k).toArray
  rw [List.eraseIdxIfInBounds_toArray]
 ·have:=len_erase xs k
  omega
def rCat:R2:=fun x y H Q => ∃ l b xs zs,x = .ref l∧y = .ref b∧H l=some (.lst xs)∧H b=some (.lst zs)∧xs.length + zs.length ≤ sizeLine∧∀ p,H p=none→Q (.ref p) (upd H p (.lst (xs ++ zs)))
theorem op_cat:OpR X (binaryOp .Add) rCat:=by
 intro pins s σ H x y v u Q I rx ry h
 obtain ⟨l,b,xs,zs,rfl,rfl,hH,hB,hz,q⟩:=h
 cases rx
 cases ry
 obtain ⟨z,its,n,r,hl,e⟩:=I.lstM hH
 obtain ⟨z2,its2,n2,r2,hl2,e2⟩:=I.lstM hB
 refine PySem.P.add_list e e2 ?_ (by rw [List.size_toArray,List.size_toArray]; omega)
 have ea:its.toArray ++ its2.toArray=(its ++ its2).toArray:=by simp
 rw [ea]
 exact ⟨.ref _,_,I.lnew (t':=s.toks) (r.append r2) (by rw [List.length_append]; omega),rfl,q _ I.fresh⟩
end
end L2
namespace Att
open PySem PySem.W PySem.Calls PyProof.Rows
theorem ints_of_wellAll {P:Params} {h:Heap} : ∀ (ns:List Int) (vs:List Value),WellAll P h vs (ns.map WData.int)→IntsAre vs ns:=by
 intro ns
 induction ns with
 | nil =>
  intro vs w
  rw [List.map_nil] at w
  cases w
  exact .nil
 | cons n ns ih =>
  intro vs w
  rw [List.map_cons] at w
  cases w with
  | cons a b =>
   cases a
   exact .cons _ _ (ih _ b)
theorem script_of {l:OpenLaw} {n:Nat} (hn:l.most=some n) {P:Params} {h:Heap} {args:List WData} {vals:List Value}
  (hpre:l.row.toRowW.claim.pre args=true) (hwl:WellAll P h vals args) :
  ∃ a vs ns,vals=[Value.ref a]∧args=[WData.list (ns.map WData.int)]∧h.get? a=some { cls:=.type "list",data:=.seq vs.toArray }∧IntsAre vs ns∧ns.length ≤ n:=by
 have hsh:WShape.hasAll [] args [.list .int]=true:=(pre_splitW hpre).1
 have hc:l.pre.holds [] { args:=args } = true:=(pre_splitW hpre).2
 obtain ⟨d,r,rfl,h1,h2⟩:=hasAllW_cons hsh
 obtain rfl:=hasAllW_nil h2
 obtain ⟨xs,rfl,h3⟩:=hasW_list h1
 obtain ⟨ns,rfl⟩:=items_int h3
 have hlen:ns.length ≤ n:=by
  unfold OpenLaw.pre at hc
  have h4:(WTm.not (.lt (.lit (.int (n:Int))) (.len (.arg 0)))).holds [] { args:=[.list (ns.map .int)] } = true:=by
   have h4:=(holds_andW hc).1
   rw [hn] at h4
   exact h4
  have h5:=condW_of h4 (w_not (w_lt w_lit (w_len_list (w_arg rfl))))
  rw [List.length_map] at h5
  refine Nat.le_of_not_lt fun q => ?_
  have q' : (n:Int) < ((ns.length:Nat):Int):=by omega
  first
   | (rw [decide_eq_true q'] at h5; exact absurd h5 (by decide))
   | (simp at h5; omega)
 cases hwl with
 | cons w1 w2 =>
  cases w2
  cases w1 with
  | list ho hall => exact ⟨_,_,ns,rfl,rfl,ho,ints_of_wellAll ns _ hall,hlen⟩
theorem post_true (l:OpenLaw) (args:List WData):l.row.toRowW.claim.post args (.bool true) args=true :=
 postW_of (r:=l.row.toRowW) (X:=(true == true))
  (show WShape.has [] (.bool true) .bool=true by first | rfl | decide | simp [WShape.has,WShape.arms,WShape.armsAll])
  (show (WTm.eq .res (.lit (.bool true))).value [] { args:=args,res:=some (.bool true),after:=args } = some (.bool (true == true)) from w_eq_bool (w_res rfl) w_lit) rfl
theorem attach_call {l:OpenLaw} {n:Nat} {q:Program} {loose:List Str} {XP:(Str→Option Value)→Heap→Prop} {YP:World→Heap→Prop} {d:DefRec}
  (hn:l.most=some n) (hdf:d.params.defaults=[])
  (call:∀ (w:World) (s₀ s₁:Shared) (mg mb:Str→Option Value) (fa:Addr) (o:Obj) (pm cd doc:Value) (a:Addr) (vs:List Value) (ns:List Int),
   Ground q loose [] XP w s₀ mg mb s₁.heap→YP w s₁.heap →
   s₁.heap.get? fa=some o→o.data = .func (docDef d.name d.params d.body d.scope pm cd doc)→s₁.heap.CodeRec cd d.name→mg d.name=some (.ref fa) →
   s₁.heap.get? a=some { cls:=.type "list",data:=.seq vs.toArray }→IntsAre vs ns→ns.length ≤ n→s₁.gens = #[] →
   codeAny (model l.prog w) callerA (.call (.ref fa) ⟨[.ref a],[]⟩) (fun r s' => r = .ok (.ret (.bool true))∧OldK s₁.heap s'.heap∧s'.os=s₁.os∧AllBare s'.gens) s₁) :
  WalkO q loose XP YP l.row.toRowW d [] (fun f vs => PySem.call f vs):=by
 intro w s₀ s₁ mg mb G Y fa o pm cd doc dV kV ho hd hcd hD hmg hg args vals as hpre hlay hrd hwl hlo
 obtain rfl:dV = .none:=Dflts.none hD hdf
 obtain rfl:kV = .none:=Dflts.noKw hD
 obtain ⟨a,vs,ns,rfl,rfl,hobj,hints,hlen⟩:=script_of hn hpre hwl
 refine enter_call (codeAny_mono (call w s₀ s₁ mg mb fa o pm cd doc a vs ns G Y ho (fd_plain hd) hcd hmg hobj hints hlen hg) fun r s' hq => ?_)
 obtain ⟨rfl,h2,h3,h4⟩:=hq
 exact ⟨.inl ⟨.bool true,.bool true,[],rfl,fun _ => rfl,.bool true,post_true l _,fun _ => ⟨List.Pairwise.nil,fun _ hm => (nomatch hm)⟩⟩,h2,h3,h4⟩
end Att
namespace L2
open PySem PySem.Spec PyProof.Rows
theorem vals_ints:∀ {vs:List Value} {ns:List Int},IntsAre vs ns→Vals (ns.map V.int) vs
 | _,_,.nil => .nil
 | _,_,.cons n t h => .cons ⟨t,rfl⟩ (vals_ints h)
def Only (H:Hp):Prop:=∀ b,H b=none ∨ ∃ o xs,H b=some (.frz o (.lst xs))
theorem law_call {P:Program} {w:World} {K:PySem.W.Frag} {mg mb:Str→Option Value} {CX:CXT} {k:Nat} {fa a:Addr} {fd:FuncData} {x:Str} {sp:Sp} {s₁:Shared} {vs:List Value} {ns:List Int}
  (KX:K.In s₁.heap) (hns:s₁.heap.Ns mainGlobals mg) (hb:s₁.heap.Ns builtinsNs mb) (hbb:∀ x:Str,x ≠ "__name__" → mb x=bootBuiltins x) (hlim:s₁.heap.NoLimit) (hg:s₁.gens = #[])
  (ha:s₁.heap.get? a=some { cls:=.type "list",data:=.seq vs.toArray }) (hi:IntsAre vs ns) (hl:ns.length ≤ sizeLine) (hr:Room k callerA)
  (F:∀ base:Heap,K.In base→base.Ns mainGlobals mg→FnOk P w K mg base CX k fa fd [x] sp) (hbind:∀ (s:Shared) (u:Value),BindsTo s fd ⟨[u],[]⟩ [(x,u)])
  (hsp:∀ H:Hp,Only H→SqL K H a (ns.map V.int)→sp [.ref a] H (fun v _ => v = .bl true) fun _ _ _ => False)
  (hCX:∀ H e s',CX [] H s₁ (fun _ _ _ => False) e s'→False) :
  codeAny (model P w) callerA (.call (.ref fa) ⟨[.ref a],[]⟩) (fun r s' => r = .ok (.ret (.bool true))∧OldK s₁.heap s'.heap∧s'.os=s₁.os∧AllBare s'.gens) s₁:=by
 have rv:=vals_ints hi
 have lenV:=hi.length
 have core:∀ H:Hp,Only H→SqL K H a (ns.map V.int)→HOk P w H s₁.heap→(∀ b,H b ≠ none→b=a)→(H a ≠ none→K.lookup a=none) →
   codeAny (model P w) callerA (.call (.ref fa) ⟨[.ref a],[]⟩) (fun r s' => r = .ok (.ret (.bool true))∧OldK s₁.heap s'.heap∧s'.os=s₁.os∧AllBare s'.gens) s₁:=by
  intro H hO hS hok hA hK
  have base_of:∀ {b:Addr} {o:Obj},s₁.heap.get? b=some o→H b=none→(hidT s₁.heap H).get? b=some o:=fun e n => hidT_get e n
  have noA:∀ {b:Addr} {o:Obj} {es:Array DictEntry} {ep:Nat},s₁.heap.get? b=some o→o.data = .dict es ep→H b=none:=fun {b o es ep} e d => by
   cases q:H b with
   | none => rfl
   | some u =>
    have e' : b=a:=hA b (by rw [q]; simp)
    subst e'
    rw [ha] at e; cases e
    have d' : Data.seq vs.toArray _=Data.dict es ep:=d
    cases d'
  have nsK:∀ {b:Addr} {m:Str→Option Value},s₁.heap.Ns b m→(hidT s₁.heap H).Ns b m:=fun {b m} ⟨o,es,ep,e,d,r⟩ => ⟨o,es,ep,base_of e (noA e d),d,r⟩
  have hKb:K.In (hidT s₁.heap H):=fun b o e => base_of (KX b o e) (by
   cases q:H b with
   | none => rfl
   | some u =>
    have e' : b=a:=hA b (by rw [q]; simp)
    subst e'
    rw [hK (by rw [q]; simp)] at e; cases e)
  have hM:Mod K mg (hidT s₁.heap H):=⟨hKb,nsK hns,⟨mb,nsK hb,hbb⟩,let ⟨mc,h1,h2⟩:=hlim; ⟨mc,nsK h1,h2⟩⟩
  have e0:Env0 P w K mg (hidT s₁.heap H) callerA [] s₁ H:=⟨rfl,hM,fun b o e => of_hidT e,Nat.le_of_eq (hidT_size _ _),trivial,fun b hb => absurd (show b ∈ ([]:List Addr) from hb) (by simp),hok,.of_eq hg⟩
  refine codeAny_mono ((F _ hKb (nsK hns)).run callerA [] s₁ H ⟨[.ref a],[]⟩ [.ref a] [.ref a] _ _ hr e0 (hbind s₁ (.ref a)) (.cons rfl .nil) (hsp H hO hS)) fun r s' h => ?_
  cases r with
  | error e => exact (hCX H e s' h).elim
  | ok fl =>
   cases fl with
   | next => exact False.elim h
   | brk => exact False.elim h
   | cont => exact False.elim h
   | ret u =>
    obtain ⟨v,H',os,bare,un,hok',r',q⟩:=h
    have q' : v = .bl true:=q
    subst q'
    obtain rfl:u=Value.bool true:=r'
    refine ⟨rfl,OldK.of_keep fun b o e => ?_,os,bare⟩
    cases q:H b with
    | none => exact un.keep b o e q (by intro z; exact absurd (show b ∈ ([]:List Addr) from z) (by simp)) (by simp)
    | some u =>
     rcases hO b with z | ⟨ob,xs,z⟩
     ·rw [q] at z; cases z
     ·have z2:=un.frzs b ob _ z
      obtain ⟨e1,_⟩:=hok b _ z
      obtain ⟨e2,_⟩:=hok' b _ z2
      rw [e] at e1; cases e1
      exact e2
 cases hk:K.lookup a with
 | some o =>
  have e:=KX a o hk
  rw [ha] at e
  cases e
  refine core (fun _ => none) (fun _ => .inl rfl) (.inr ⟨_,vs.toArray,_,hk,rfl,rfl,rfl,by rw [List.size_toArray,lenV]; exact hl,by simpa using rv⟩) (fun b u z => by have z' : (none:Option HO)=some u:=z; cases z') (fun b z => absurd rfl z) fun z => absurd rfl z
 | none =>
  refine core (fun b => if b=a then some (.frz { cls:=.type "list",data:=.seq vs.toArray } (.lst (ns.map V.int))) else none) (fun b => ?_) (.inl (.inr ⟨{ cls:=.type "list",data:=.seq vs.toArray },if_pos rfl⟩)) (fun b u z => ?_) (fun b z => ?_) fun _ => hk
  ·by_cases hb:b=a
   ·exact .inr ⟨_,_,if_pos hb⟩
   ·exact .inl (if_neg hb)
  ·by_cases hb:b=a
   ·have z':=(if_pos hb).symm.trans z
    cases z'
    subst hb
    exact ⟨ha,by rw [List.length_map]; exact hl,vs,_,rv,ha⟩
   ·have z':=(if_neg hb).symm.trans z
    cases z'
  ·by_cases hb:b=a
   ·exact hb
   ·exact absurd (if_neg hb) z
end L2
namespace L2
open PySem PySem.Spec PyProof.Rows
theorem walk_of {l:PySem.W.OpenLaw} {n k:Nat} {q:Program} {loose:List Str} {XP:(Str→Option Value)→Heap→Prop} {YP:World→Heap→Prop} {d:DefRec} {K:Params→PySem.W.Frag} {CX:World→CXT} {sp:World→Sp} {x:Str}
  (hn:l.most=some n) (hn2:n ≤ sizeLine) (hdf:d.params.defaults=[]) (hr:Room k callerA)
  (hY:∀ (w:World) (h:Heap),YP w h→(K w.params).In h)
  (F:∀ (w:World) (mg:Str→Option Value) (fa:Addr) (h:Heap),(K w.params).In h→h.Ns mainGlobals mg→mg d.name=some (.ref fa) →
   ∃ fd:FuncData,(∀ (s:Shared) (u:Value),BindsTo s fd ⟨[u],[]⟩ [(x,u)]) ∧
    ∀ base:Heap,(K w.params).In base→base.Ns mainGlobals mg→FnOk l.prog w (K w.params) mg base (CX w) k fa fd [x] (sp w))
  (hsp:∀ (w:World) (H:Hp) (a:Addr) (ns:List Int),ns.length ≤ n→Only H→SqL (K w.params) H a (ns.map V.int)→sp w [.ref a] H (fun v _ => v = .bl true) fun _ _ _ => False)
  (hCX:∀ (w:World) (H:Hp) (s:Shared) (e:Value) (s' : Shared),CX w [] H s (fun _ _ _ => False) e s'→False) :
  PySem.W.WalkO q loose XP YP l.row.toRowW d [] (fun f vs => PySem.call f vs):=by
 refine Att.attach_call hn hdf fun w s₀ s₁ mg mb fa o pm cd doc a vs ns G Y ho hd hcd hmg hobj hints hlen hg => ?_
 have KX:=hY w _ Y
 obtain ⟨fd,hb,hF⟩:=F w mg fa _ KX G.T.g hmg
 exact law_call KX G.T.g G.T.b G.T.builtins G.T.nolimit hg hobj hints (Nat.le_trans hlen hn2) hr hF hb (fun H hO hS => hsp w H a ns hlen hO hS) fun H e s' => hCX w H s₁ e s'
end L2
namespace L2
open PySem PySem.Spec PyProof.Rows
def defArgs (s:Stmt):Arguments:=match s with
 | .FunctionDef _ a _ _ _ _ _ _ _ _ => a
 | _ => { posonlyargs:=[],args:=[],vararg:=none,kwonlyargs:=[],kw_defaults:=[],kwarg:=none,defaults:=[] }
def defBody (s:Stmt):List Stmt:=match s with
 | .FunctionDef _ _ b _ _ _ _ _ _ _ => b
 | _ => []
def defScope (s:Stmt):Scope:=match s with
 | .FunctionDef _ _ _ _ _ _ sc _ _ _ => sc
 | _ => { kind:=.function,names:=[],isGenerator:=false,isCoroutine:=false }
abbrev CX0:CXT:=fun _ _ _ _ _ _ => False
abbrev E0:XK:=fun _ _ _ => False
theorem pass0 {X:Cx} : Passes CX0 X E0:=fun _ _ _ _ _ _ _ h => h.elim
structure Fun (K:PySem.W.Frag) (x qual:Str) (st:Stmt) (f:Addr) (fd:FuncData):Prop where
 ex:∃ (oc:Value) (od:Option Addr) (kV doc pm:Value) (an:Option Addr) (cdv ct:Value) (osl:Array (Option Value)),
  fd=PySem.W.fnOf x qual (defArgs st) (defBody st) (defScope st) .none kV doc pm an cdv ct∧K.lookup f=some ⟨oc,od,.func fd,osl⟩∧PySem.W.codeIn K cdv qual=true
 kp:PySem.W.keepIn K (.ref f)=true
section
variable {P:Program} {w:World} {K:PySem.W.Frag} {mg:Str→Option Value} {base:Heap}
theorem Fun.ok {x qual:Str} {st:Stmt} {f:Addr} {fd:FuncData} {N ps:List Str} {k:Nat} {sp:Sp} (F:Fun K x qual st f fd) (S:FnScope N ps (defScope st)) (len:∀ vs H Q E,sp vs H Q E→vs.length=ps.length)
  (hbody:∀ (cdv:Value) (A:Around) (outer:List Env) (s:Shared) (H:Hp) (vs:List V) (Q:VK) (E:XK),Room k (A.deeper (envOfC qual (defScope st) s.heap.objs.size f cdv))→sp vs H Q E →
   ∃ t,PSs (cxOf CX0 P w K mg base N qual (defScope st) f cdv A outer s H E).nox (defBody st) t∧t { nx:=fun _ H' => Q .non H',rt:=Q } (start N vs) H):FnOk P w K mg base CX0 (k + 1) f fd ps sp:=by
 obtain ⟨oc,od,kV,doc,pm,an,cdv,ct,osl,rfl,lk,hcd⟩:=F.ex
 refine fn_of lk hcd S len fun A outer s H vs Q E hr hsp => ?_
 obtain ⟨t,h,q⟩:=hbody cdv A outer s H vs Q E hr hsp
 exact ⟨t,h.nox,q⟩
theorem Fun.binds {x qual:Str} {st:Stmt} {f:Addr} {fd:FuncData} {ps:List Str} (F:Fun K x qual st f fd)
  (h:∀ (kV doc pm:Value) (an:Option Addr) (cdv ct:Value) (us:List Value),us.length=ps.length→bindArgs (PySem.W.fnOf x qual (defArgs st) (defBody st) (defScope st) .none kV doc pm an cdv ct) ⟨us,[]⟩=pure (ps.zip us)):Binds K fd ps []:=by
 obtain ⟨oc,od,kV,doc,pm,an,cdv,ct,osl,rfl,lk,hcd⟩:=F.ex
 exact .all (h kV doc pm an cdv ct)
theorem fun_mk {x qual:Str} {st:Stmt} {f:Addr} {oc:Value} {od an:Option Addr} {osl:Array (Option Value)} {kV doc pm cdv ct:Value} (l:K.lookup f=some ⟨oc,od,.func (PySem.W.fnOf x qual (defArgs st) (defBody st) (defScope st) .none kV doc pm an cdv ct),osl⟩)
  (c:PySem.W.codeIn K cdv qual=true) (k:PySem.W.keepIn K (.ref f)=true):Fun K x qual st f (PySem.W.fnOf x qual (defArgs st) (defBody st) (defScope st) .none kV doc pm an cdv ct):=⟨⟨oc,od,kV,doc,pm,an,cdv,ct,osl,rfl,l,c⟩,k⟩
end
theorem small1000 {n:Nat} (h:n ≤ 1000):n < sizeLine:=Nat.lt_of_le_of_lt h (by decide)
section
variable {X:Cx}
theorem pv (i:Nat) {x:Str} {pos:PySem.Pos} (hN:X.N[i]? = some x:=by rfl) (hv:Vis X.env.scope x:=by first | exact Or.inl rfl | exact Or.inr (Or.inl rfl) | exact Or.inr (Or.inr rfl)) (hd:(x == ("__debug__" : Str))=false:=by decide)
  (hcd:(x == ("__classdict__" : Str))=false:=by decide):PE X (.Name x pos) (tVar i):=pe_var hN hv hd hcd
end
theorem iteF {A B:Prop} (h:B):if false=true then A else B:=by
 rw [if_neg Bool.false_ne_true]
 exact h
theorem iteT {A B:Prop} (h:A):if true=true then A else B:=by
 rw [if_pos rfl]
 exact h
theorem ite2 {c A B:Prop} [Decidable c] (h1:c→A) (h2 : ¬ c→B):if c then A else B:=by
 by_cases h:c
 ·rw [if_pos h]
  exact h1 h
 ·rw [if_neg h]
  exact h2 h
def Same (H H' : Hp):Prop:=∀ b o,H b=some o→H' b=some o
theorem Same.refl (H:Hp):Same H H:=fun _ _ h => h
theorem Same.trans {H H1 H2:Hp} (a:Same H H1) (b:Same H1 H2):Same H H2:=fun c o h => b c o (a c o h)
theorem Same.free {H H' : Hp} (e:Same H H') {l:Addr} (h:H' l=Option.none):H l=Option.none:=by
 cases q:H l with
 | none => rfl
 | some o =>
  rw [e l o q] at h
  cases h
theorem Same.seq {K:PySem.W.Frag} {H H' : Hp} {a:Addr} {xs:List V} (e:Same H H') (h:SqL K H a xs):SqL K H' a xs:=by
 rcases h with (h | ⟨o,h⟩) | h
 ·exact .inl (.inl (e _ _ h))
 ·exact .inl (.inr ⟨o,e _ _ h⟩)
 ·exact .inr h
end L2
set_option maxHeartbeats 4000000
namespace L2
open PySem PySem.Spec PyProof.Rows
section
variable {X:Cx}
def CDivL (i j:Int):Prop:=0 < j∧j.natAbs.log2 < 9000
theorem op_fdivL:OpR X (binaryOp .FloorDiv) (rI CDivL fun i j => .int (i / j)):=opI fun i j _ _ _ _ _ hc q => by
 have h1:(0:Int) < j:=hc.1
 exact floordiv_int (by omega) (by rw [Int.fdiv_eq_ediv_of_nonneg i (by omega)]; exact q) (.inl (PyProof.noPylong_of_log2 hc.2))
theorem call_isinst {T:String} : CallR X (.builtin "isinstance") (fun xs H Q => ∃ x t b,xs=[x,.ty T]∧TyOf X.K H x t∧PySem.W.kitOne X.K t (.type T)=some b∧Q (.bl b) H):=by
 intro pins s σ H xs us Q I r h
 obtain ⟨x,t,b,rfl,ty,e,q⟩:=h
 obtain ⟨u,w',rfl,r1,r2⟩:=vals2 r
 cases (show w' = .type T from r2)
 exact isinst_ok I r1 ty e fun tk => ⟨.bl b,H,I.tok _,rfl,q⟩
theorem mt_bits:MtR X "int.bit_length" (fun x vs H Q => ∃ i,x = .int i∧vs=[]∧Q (.int (Builtin.Int.intBits i:Nat)) H):=by
 intro pins s σ H x xs v us Q I r rv h
 obtain ⟨i,rfl,rfl,q⟩:=h
 obtain ⟨t,rfl⟩:=r
 cases rv.zero
 exact call_gives F.slot_int_bit_length (typeIs_int _ _ _) F.entry_int_bit_length (F.args_int_bit_length_1 _) (AutoIntG2.int_bit_length_int_0 _ _) (show EP X pins σ Q _ _ from ⟨.int _,H,I.tok _,⟨_,rfl⟩,q⟩)
end
end L2
namespace L2
open PySem PySem.Spec PyProof.Rows
section
variable {X:Cx}
theorem clos_go (env:Env):∀ (names:List (Str × NameKind)) (acc:List (Str × Addr)),(∀ y ∈ names,y.2 = .free→∃ c,env.cells.lookup y.1=some c)→(∀ y c,acc.lookup y=some c→env.cells.lookup y=some c) →
  ∃ cl,(forIn names acc fun (x:Str × NameKind) (r:List (Str × Addr)) => if (x.2 == NameKind.free)=true then (do let c ← cellOf env x.1; pure (ForInStep.yield ((x.1,c) :: r))) else pure (ForInStep.yield r):Sem _)=pure cl ∧
   (∀ y c,cl.lookup y=some c→env.cells.lookup y=some c)∧(∀ y,(y,NameKind.free) ∈ names→(cl.lookup y).isSome=true)∧(∀ y,(acc.lookup y).isSome=true→(cl.lookup y).isSome=true)
 | [],acc,_,h => ⟨acc,by simp,h,fun y z => absurd z (by simp),fun _ z => z⟩
 | (n,k) :: r,acc,hf,h => by
  by_cases hk:k = .free
  ·subst hk
   obtain ⟨c,hc⟩:=hf (n,.free) List.mem_cons_self rfl
   obtain ⟨cl,e,h1,h2,h3⟩:=clos_go env r ((n,c) :: acc) (fun y hy => hf y (List.mem_cons_of_mem _ hy)) (fun y d hd => by
    rw [List.lookup_cons] at hd
    cases z:y == n with
    | true =>
     rw [z] at hd
     have:y=n:=by simpa using z
     subst this
     cases hd
     exact hc
    | false => rw [z] at hd; exact h y d hd)
   have hin:∀ y,(((n,c) :: acc).lookup y).isSome=true ∨ True:=fun _ => .inr trivial
   refine ⟨cl,?_,h1,fun y hy => ?_,fun y hy => h3 y ?_⟩
   ·rw [List.forIn_cons]
    have e0:cellOf env n=pure c:=by unfold cellOf; rw [hc]
    simp only [beq_self_eq_true,if_true,e0,pure_bind]
    exact e
   ·rcases List.mem_cons.mp hy with z | z
    ·cases z
     exact h3 _ (by rw [List.lookup_cons]; simp)
    ·exact h2 y z
   ·rw [List.lookup_cons]
    cases y == n with
    | true => rfl
    | false => exact hy
  ·obtain ⟨cl,e,h1,h2,h3⟩:=clos_go env r acc (fun y hy => hf y (List.mem_cons_of_mem _ hy)) h
   refine ⟨cl,?_,h1,fun y hy => ?_,h3⟩
   ·rw [List.forIn_cons]
    have hb:(k == NameKind.free)=false:=by simpa using hk
    simp only [hb,Bool.false_eq_true,if_false,pure_bind]
    exact e
   ·rcases List.mem_cons.mp hy with z | z
    ·cases z; exact absurd rfl hk
    ·exact h2 y z
theorem clos_ok {scope:Scope} {env:Env} (hf:∀ y ∈ scope.names,y.2 = .free→∃ c,env.cells.lookup y.1=some c):∃ cl,closureFor scope env=pure cl∧(∀ y c,cl.lookup y=some c→env.cells.lookup y=some c)∧(∀ y,(y,NameKind.free) ∈ scope.names→(cl.lookup y).isSome=true):=by
 obtain ⟨cl,e,h1,h2,_⟩:=clos_go env scope.names [] hf (fun y c h => by cases h)
 refine ⟨cl,?_,h1,h2⟩
 unfold closureFor
 simp only [bind_pure]
 exact e
end
end L2
namespace L2
open PySem PySem.Spec PyProof.Rows
section
variable {X:Cx}
def tYes:TT:=fun _ H Q => Q true H
def PIf (X:Cx) (ifs:List Expr) (t:TT):Prop :=
 ∀ (pins:List (Addr × Obj)) (s:Shared) (σ:St) (H:Hp) (Q:Bool→Hp→Prop),Inv X pins σ H s→t σ H Q →
  wpAny (model X.prog X.w) X.A (forIn ifs true fun c r => if r=true then do let ok ← isTrue c X.env (eval c X.env); pure (ForInStep.yield ok) else pure (ForInStep.yield r)) (TP X pins σ Q) X.xe s
theorem pif_nil:PIf X [] tYes:=fun pins s σ H Q I h => wpAny_tests_nil ⟨H,I,h⟩
theorem pif_one {c:Expr} {t:TT} (hc:PT X c t):PIf X [c] t:=fun pins s σ H Q I h => wpAny_tests_one (hc pins s σ H Q I h)
theorem relabel_kind {names:List (Str × NameKind)} {env:Env} {x:Str} {k:NameKind} (hc:∀ y ∈ names,y.2 ≠ .cell) (h:(names.map fun (n,k) => if (k == NameKind.free && env.scope.kind == .function && env.kindOf n == some .cell) then (n,NameKind.cell) else (n,k)).lookup x=some k) :
  (k = .cell ∨ k = .free)→names.lookup x=some .free∧(k = .cell→env.kindOf x=some .cell):=by
 induction names with
 | nil => cases h
 | cons p r ih =>
  obtain ⟨n,k0⟩:=p
  intro hk
  have h:List.lookup x ((if (k0 == NameKind.free && env.scope.kind == .function && env.kindOf n == some .cell)=true then (n,NameKind.cell) else (n,k0)) :: _)=some k:=h
  by_cases c:(k0 == NameKind.free && env.scope.kind == .function && env.kindOf n == some .cell)=true
  ·rw [if_pos c] at h
   rw [List.lookup_cons] at h ⊢
   cases z:x == n with
   | true =>
    have e:x=n:=by simpa using z
    subst e
    simp only [Bool.and_eq_true,beq_iff_eq] at c
    exact ⟨by rw [c.1.1],fun _ => c.2⟩
   | false => rw [z] at h; exact ih (fun y hy => hc y (List.mem_cons_of_mem _ hy)) h hk
  ·rw [if_neg c] at h
   rw [List.lookup_cons] at h ⊢
   cases z:x == n with
   | true =>
    rw [z] at h
    have e:k0=k:=Option.some.inj h
    subst e
    rcases hk with rfl | rfl
    ·exact absurd rfl (hc (n,.cell) List.mem_cons_self)
    ·exact ⟨rfl,fun z => by cases z⟩
   | false => rw [z] at h; exact ih (fun y hy => hc y (List.mem_cons_of_mem _ hy)) h hk
end
end L2
namespace L2
open PySem PySem.Spec PyProof.Rows
section
variable {X:Cx}
theorem relabel_local {names:List (Str × NameKind)} {env:Env} {x:Str} (h:(names.map fun (n,k) => if (k == NameKind.free && env.scope.kind == .function && env.kindOf n == some .cell) then (n,NameKind.cell) else (n,k)).lookup x=some .local) :
  names.lookup x=some .local:=by
 induction names with
 | nil => cases h
 | cons p r ih =>
  obtain ⟨n,k0⟩:=p
  have h:List.lookup x ((if (k0 == NameKind.free && env.scope.kind == .function && env.kindOf n == some .cell)=true then (n,NameKind.cell) else (n,k0)) :: _)=some .local:=h
  by_cases c:(k0 == NameKind.free && env.scope.kind == .function && env.kindOf n == some .cell)=true
  ·rw [if_pos c] at h
   rw [List.lookup_cons] at h ⊢
   cases z:x == n with
   | true => rw [z] at h; cases h
   | false => rw [z] at h; exact ih h
  ·rw [if_neg c] at h
   rw [List.lookup_cons] at h ⊢
   cases z:x == n with
   | true => rw [z] at h; exact h
   | false => rw [z] at h; exact ih h
end
end L2
namespace L2
open PySem PySem.Spec PyProof.Rows
inductive DI (K:PySem.W.Frag) (H:Hp):V→PyData→Prop where
 | non:DI K H .non .none
 | bl (b:Bool):DI K H (.bl b) (.bool b)
 | int (i:Int):DI K H (.int i) (.int i)
 | str (x:Str):DI K H (.str x) (.str x)
 | tup {a:Addr} {xs:List V} {ds:List PyData} : SqT K H a xs→xs.length=ds.length→(∀ (i:Nat) (x:V) (d:PyData),xs[i]? = some x→ds[i]? = some d→DI K H x d)→DI K H (.ref a) (.tuple ds)
 | lst {a:Addr} {xs:List V} {ds:List PyData} : SqL K H a xs→xs.length=ds.length→(∀ (i:Nat) (x:V) (d:PyData),xs[i]? = some x→ds[i]? = some d→DI K H x d)→DI K H (.ref a) (.list ds)
section
variable {X:Cx} {pins:List (Addr × Obj)} {σ:St} {H:Hp} {s:Shared}
theorem readsAll_of:∀ {us:List Value} {ds:List PyData} {xs:List V},Vals xs us→xs.length=ds.length→(∀ (i:Nat) (x:V) (d:PyData) (u:Value),xs[i]? = some x→ds[i]? = some d→RelV x u→∃ as,Reads s.heap u d as)→∃ as,ReadsAll s.heap us ds as
 | _,ds,_,.nil,hl,_ => by
  cases ds with
  | nil => exact ⟨_,.nil⟩
  | cons d r => cases hl
 | _,ds,_,.cons (a:=x) r t,hl,h => by
  cases ds with
  | nil => cases hl
  | cons d rest =>
   obtain ⟨as,ra⟩:=h 0 x d _ rfl rfl r
   obtain ⟨bs,rb⟩:=readsAll_of t (by simpa using hl) (fun i y e u h1 h2 h3 => h (i + 1) y e u (by simpa using h1) (by simpa using h2) h3)
   exact ⟨_,.cons ra rb⟩
theorem DI.reads (I:Inv X pins σ H s) {x:V} {d:PyData} (h:DI X.K H x d):∀ {u:Value},RelV x u→∃ as,Reads s.heap u d as:=by
 induction h with
 | non => intro u r; cases r; exact ⟨_,.none⟩
 | bl b => intro u r; cases r; exact ⟨_,.bool b⟩
 | int i => intro u r; obtain ⟨t,rfl⟩:=r; exact ⟨_,.int i t⟩
 | str x => intro u r; obtain ⟨t,rfl⟩:=r; exact ⟨_,.str x t⟩
 | tup hq hl _ ih =>
  intro u r
  cases r
  obtain ⟨its,rv,⟨o,e,c,n,hd⟩,_⟩:=I.tuple hq
  obtain ⟨as,ra⟩:=readsAll_of (s:=s) rv hl (fun i y d u h1 h2 h3 => ih i y d h1 h2 h3)
  exact ⟨_,.tuple e c hd (by simpa using ra)⟩
 | lst hq hl _ ih =>
  intro u r
  cases r
  obtain ⟨its,rv,pl,_⟩:=I.list hq
  obtain ⟨o,e,c,n,hd⟩:=pl.isList
  obtain ⟨as,ra⟩:=readsAll_of (s:=s) rv hl (fun i y d u h1 h2 h3 => ih i y d h1 h2 h3)
  exact ⟨_,.list e c hd (by simpa using ra)⟩
def rEqD (K:PySem.W.Frag) (g:Bool→Bool):R2:=fun x y H Q => ∃ dx dy,DI K H x dx∧DI K H y dy∧dx.canLay0=true∧dy.canLay0=true∧dx.depth ≤ 60∧Q (.bl (g (PyData.eqv dx dy))) H
theorem op_neD {k:Nat} (hr:Room k X.A):OpR X (compareOp .NotEq) (rEqD X.K fun b => !b):=by
 intro pins s σ H x y v u Q I rx ry h
 obtain ⟨dx,dy,hx,hy,cx,cy,hd,q⟩:=h
 obtain ⟨as,ra⟩:=hx.reads I rx
 obtain ⟨bs,rb⟩:=hy.reads I ry
 have hu:=hr.units
 exact SeqAt.compareNe_reads ra rb cx cy (by omega) ⟨.bl _,H,I,rfl,q⟩
end
end L2
namespace L2
open PySem PySem.Spec PyProof.Rows
section
variable {X:Cx}
theorem range_all_get (bs:List Bool):(List.range bs.length).all (fun i => bs.getD i true)=bs.all id:=by
 induction bs with
 | nil => rfl
 | cons b r ih =>
  rw [List.length_cons,List.range_succ_eq_map,List.all_cons,List.all_map,List.all_cons]
  have:(List.range r.length).all ((fun i => (b :: r).getD i true) ∘ Nat.succ)=(List.range r.length).all (fun i => r.getD i true):=by
   congr 1
  rw [this,ih]
  rfl
theorem call_all (hc:X.calm=true):CallR X (.builtin "all") (fun xs H Q => ∃ (p:Addr) (bs:List Bool),xs=[.ref p]∧SqL X.K H p (bs.map V.bl)∧Q (.bl (bs.all id)) H):=by
 intro pins s σ H xs us Q I r h
 obtain ⟨p,bs,rfl,hq,q⟩:=h
 obtain ⟨u,rfl,rx⟩:=vals1 r
 cases rx
 obtain ⟨its,rv,pl,hz⟩:=I.list hq
 have hlt:p < s.heap.objs.size:=by
  obtain ⟨o,e,_⟩:=pl.isList
  exact Heap.lt_size e
 have hlen:its.length=bs.length:=by have:=rv.length; rw [List.length_map] at this; exact this.symm
 refine call_all_walk (wpAny_pyIter_list pl.isList ?_)
 refine ⟨_,_,_,_,_,_,fun i => bs.getD i true,rfl,Walks.list (A:=X.A.in1) (I.ok.hd hc) s.heap.objs.size p (Nat.ne_of_lt hlt) its.toArray,?_,?_,fun h' tk hk => ?_⟩
 ·exact ⟨⟨_,Heap.get?_push_size _ rfl,rfl,rfl⟩,(let ⟨o,e,c⟩:=pl.isList; ⟨o,Heap.get?_push_of_some _ e,c⟩)⟩
 ·intro i v s' Q' E' hP hQ
  have hv:its[i]? = some v:=by simpa using hP
  have hil:i < bs.length:=by rw [← hlen]; exact (List.getElem?_eq_some_iff.mp hv).1
  obtain ⟨u,e,ru⟩:=rv.get (x:=V.bl (bs.getD i true)) (i:=i) (by rw [List.getElem?_map,List.getElem?_eq_getElem hil,List.getD_eq_getElem?_getD,List.getElem?_eq_getElem hil]; rfl)
  rw [hv] at e
  cases e
  cases ru
  exact wpAny_truthy_bool hQ
 ·have e:(List.range its.toArray.size).all (fun i => bs.getD i true)=bs.all id:=by
   rw [List.size_toArray,hlen]; exact range_all_get bs
  rw [e]
  refine ⟨.bl _,H,?_,rfl,q⟩
  exact I.kept fun b o eb => hk b o (by simp; exact Nat.ne_of_lt (Heap.lt_size eb)) (Heap.get?_push_of_some _ eb)
theorem call_isinstK {K:PySem.W.Frag} {T:String} (hK:X.K=K:=by rfl):CallR X (.builtin "isinstance") (fun xs H Q => ∃ x t b,xs=[x,.ty T]∧TyOf K H x t∧PySem.W.kitOne K t (.type T)=some b∧Q (.bl b) H):=by
 subst hK; exact call_isinst
theorem ix_listK {K:PySem.W.Frag} (hK:X.K=K:=by rfl):IxR X (rIxL K):=by subst hK; exact ix_list
theorem ix_tupK {K:PySem.W.Frag} (hK:X.K=K:=by rfl):IxR X (rIxT K):=by subst hK; exact ix_tup
theorem call_lenK {K:PySem.W.Frag} (hK:X.K=K:=by rfl):CallR X (.builtin "len") (fun xs H Q => ∃ p ys,xs=[.ref p]∧(SqL K H p ys ∨ SqT K H p ys)∧Q (.int ys.length) H):=by subst hK; exact call_len_seq
end
end L2
namespace L2
open PySem PySem.Spec PyProof.Rows
section
variable {X:Cx}
theorem Vals.of_get:∀ {xs:List V} {us:List Value},xs.length=us.length→(∀ (i:Nat) (x:V) (u:Value),xs[i]? = some x→us[i]? = some u→RelV x u)→Vals xs us
 | [],[],_,_ => .nil
 | [],_ :: _,h,_ => by cases h
 | _ :: _,[],h,_ => by cases h
 | x :: xs,u :: us,h,k => .cons (k 0 x u rfl rfl) (Vals.of_get (by simpa using h) fun i y v h1 h2 => k (i + 1) y v (by simpa using h1) (by simpa using h2))
theorem call_range1:CallR X (.type "range") (fun xs H Q => ∃ j:Int,xs=[.int j]∧-(2 ^ 62) ≤ j∧j < 2 ^ 62∧∀ p,H p=none→Q (.ref p) (upd H p (.rng 0 j))):=by
 intro pins s σ H xs us Q I r h
 obtain ⟨j,rfl,h1,h2,q⟩:=h
 obtain ⟨u,rfl,t,rfl⟩:=vals1 r
 refine call_range_1 ?_
 exact ⟨.ref _,upd H s.heap.objs.size (.rng 0 j),I.laid (fun b u e => Heap.get?_push_of_some _ e) (Nat.le_refl _) ⟨_,_,_,Heap.get?_push_size _ rfl⟩,rfl,q _ (I.hok.fresh (Nat.le_refl _))⟩
end
end L2
namespace L2
open PySem PySem.Spec PyProof.Rows
section
variable {X:Cx}
section
variable {prog:Program} {w:World} {A:Around} {R:Result→Shared→Prop} {s:Shared}
theorem loop_turns {elt tg iter:Expr} {ifs:List Expr} {scope:Scope} {pos:PySem.Pos} {it acc:Value} {env:Env} {EE:Value→Shared→Prop} (hE:EE=notedBy (model prog w) A env fun e s' => R (.error e) s') (I:Nat→Shared→Prop)
  (turn:∀ n s,I n s→wpAny (model prog w) A (pyNext it) (fun r z1 => match r with
   | none => R (.ok .next) z1
   | some v => wpAny (model prog w) A (letOwnedTupleGo tg it v) (fun _ y1 => wpAny (model prog w) A (assign tg env v) (fun _ z2 =>
     wpAny (model prog w) A (forIn ifs true fun c r => if r=true then do let ok ← isTrue c env (eval c env); pure (ForInStep.yield ok) else pure (ForInStep.yield r)) (fun ok z3 =>
      if ok=true then wpAny (model prog w) A (eval elt env) (fun x z4 => wpAny (model prog w) A (call (.builtin "list.append") [acc,x]) (fun _ z5 => ∃ m,m < n∧I m z5) EE z4) EE z3 else ∃ m,m < n∧I m z3) EE z2) EE y1) EE z1) EE s)
  (n:Nat) (h:I n s):codeAny (model prog w) A (.compLoop (.ListComp elt [⟨tg,iter,ifs,0⟩] scope pos) 0 it acc env) R s:=by
 subst hE
 refine codeAny_loop rfl I (fun n s hI => ?_) n h
 show wpAny _ A ((compTurn (.ListComp elt [⟨tg,iter,ifs,0⟩] scope pos) 0 it acc env).onRaise (fun x => do noteFrame x env; theTreesLotGoes x)) _ _ s
 refine wpAny_noted ?_
 rw [compTurn_list]
 refine wpAny_bind (wpAny_standAt (wpAny_bind (wpAny_mono (turn n s hI) (fun r z1 q1 => ?_) fun _ _ z => z)))
 cases r with
 | none => exact wpAny_pure q1
 | some v =>
  refine wpAny_bind (wpAny_mono q1 (fun _ y1 q1 => ?_) fun _ _ z => z)
  refine wpAny_bind (wpAny_mono q1 (fun _ z2 q2 => wpAny_bind (wpAny_mono q2 (fun ok z3 q3 => ?_) fun _ _ z => z)) fun _ _ z => z)
  cases ok with
  | false => exact wpAny_pure ⟨rfl,q3⟩
  | true => exact wpAny_bind (wpAny_bind (wpAny_mono q3 (fun x z4 q4 => wpAny_bind (wpAny_mono q4 (fun _ z5 q5 => wpAny_pure (wpAny_pure ⟨rfl,q5⟩)) fun _ _ z => z)) fun _ _ z => z))
end
def cxC (X:Cx) (xs Nb:List Str) (scope:Scope) (cl:List (Str × Addr)) (C:Addr) (s₂:Shared) (H₂:Hp) (fp:List Addr):Cx :=
 { X with N:=xs ++ Nb,s₀:=s₂,H₀:=H₂,env:=compEnvC scope cl C X.env,outer:=X.stack,stack:=X.stack,ex:=fp,fn:=fun _ => false,pn:=[],xe:=fun _ _ => False }
def InB (X:Cx) (xs Nb:List Str) (scope:Scope) (φ:Cx→Prop):Prop:=∀ (cl:List (Str × Addr)) (C:Addr) (s₂:Shared) (H₂:Hp) (fp:List Addr),φ (cxC X xs Nb scope cl C s₂ H₂ fp)
def CGo (k:Nat) (J:It) (g:TG) (tt:TT) (te:TE) (Q:VK) (σ:St) (H1:Hp):Prop:=∃ W:Nat→Nat→List V→Hp→Prop,(∃ m,W 0 m [] H1)∧∀ i m ys H,W i m ys H →
 (J.stop i H∧∀ D,H D=none→Q (.ref D) (upd H D (.lst ys))) ∨ (J.go i H∧ys.length < sizeLine∧∃ N:List V→Hp→Prop,(∀ zs H',N zs H'→∃ m',m' < m∧W (i + 1) m' zs H')∧∀ v H' (pre:St),pre.length=k→J.yld i H v H'→g v (pre ++ σ) H' fun σ' H2 => (∃ pre' : St,σ' = pre' ++ σ∧pre'.length=k)∧tt σ' H2 fun ok H3 => if ok=true then te σ' H3 fun y H4 => N (ys ++ [y]) H4 else N ys H3)
def tCompG (k:Nat) (wi:TI) (g:TG) (tt:TT) (te:TE):TE:=fun σ H Q => wi σ H fun J H1 => CGo k J g tt te Q σ H1
theorem comp_core {elt iter tg:Expr} {xs Nb:List Str} {ifs:List Expr} {scope:Scope} {pos:PySem.Pos} {wi:TI} {g:TG} {tt:TT} {te:TE}
  (hc:X.calm=true) (hi:PI X tg iter wi) (hlen:Nb.length=X.N.length) (hNb:∀ p ∈ Nb.zip X.N,p.1=p.2 ∨ scope.names.lookup p.1=none) (hxN:∀ y ∈ Nb,scope.names.lookup y ≠ some .local)
  (hg:InB X xs Nb scope fun Y => PG Y tg g) (ht:InB X xs Nb scope fun Y => PIf Y ifs tt) (he:InB X xs Nb scope fun Y => PE Y elt te)
  (hcell:∀ y ∈ scope.names,y.2 ≠ .cell) (hkind:scope.kind = .function) (hnames:∀ y ∈ scope.names,y.2 = .local→scope.names.lookup y.1=some .local)
  (hfree:∀ y ∈ scope.names,y.2 = .free→X.env.kindOf y.1=some .cell)
  (hs:∀ x,foldedSetIterable iter X.env x=pure x) {pos2:PySem.Pos} {use:Option (Value→Sem Unit)} {QQ:Value→Shared→Prop} {pins:List (Addr × Obj)} {s:Shared} {σ:St} {H:Hp} {Q:VK} (I:Inv X pins σ H s) (h:tCompG xs.length wi g tt te σ H Q)
  (post:∀ (s2 s4:Shared) (H2 H4:Hp) (C D:Addr) (m4:Str→Option Value),Inv X pins σ H2 s2→s2.heap.objs.size ≤ C→s4.heap.Ns C m4→H4 C=none→(∀ h',Heap.SameBut C s4.heap h'→Inv X pins σ H4 { s4 with heap:=h' })→Q (.ref D) H4→compPost (model X.prog X.w) X.A X.xe use QQ (.ref D) C (.ok .next) s4) :
  wpAny (model X.prog X.w) X.A (comprehension (.ListComp elt [⟨tg,iter,ifs,0⟩] scope pos) scope X.env pos2 (newList []) false (eval iter X.env) use) QQ X.xe s:=by
 obtain ⟨cl,hcl,cl1,cl2⟩:=clos_ok (scope:=scope) (env:=X.env) (fun y hy hf => I.ok.has y.1 (.inl (hfree y hy hf)))
 refine wpAny_comprehension_free rfl hs hcl hkind hnames (thn (hi pins s σ H _ I h) fun v s1 h1 => thn h1 fun itv s2 h2 => ?_)
 obtain ⟨it,fp,tn,J,H2,e,I2,T,st2,f2,W,⟨m0,w0⟩,turn⟩:=h2
 subst e
 refine wpAny_newObj_type (wpAny_newFunctionEnv hcell (by intro y hy; simp at hy) (fun h₁ hns₁ hsb₁ => ?_) hkind)
 dsimp only at hns₁ hsb₁ ⊢
 generalize hHp:s2.heap.push { cls:=.type "list",dict:=none,data:=.seq ([]:List Value).toArray } = Hp2 at hns₁ hsb₁ ⊢
 have hC:Hp2.objs.size=s2.heap.objs.size + 1:=by rw [← hHp,Heap.size_push]
 have hDC:s2.heap.objs.size ≠ Hp2.objs.size:=by rw [hC]; exact Nat.ne_of_lt (Nat.lt_succ_self _)
 have below:∀ b,b < s2.heap.objs.size→b ≠ Hp2.objs.size∧b ≠ s2.heap.objs.size:=fun b hb => ⟨by rw [hC]; exact Nat.ne_of_lt (Nat.lt_succ_of_lt hb),Nat.ne_of_lt hb⟩
 have old:∀ b o,s2.heap.get? b=some o→h₁.get? b=some o:=fun b o e => hsb₁.extBut b o (below b (Heap.lt_size e)).1 (Heap.get?_push_of_some _ (hHp ▸ Heap.get?_push_of_some _ e))
 have hacc:h₁.PlainList s2.heap.objs.size #[]:=⟨_,hsb₁.extBut _ _ hDC (Heap.get?_push_of_some _ (hHp ▸ Heap.get?_push_size _ rfl))⟩
 generalize hY:cxC X xs Nb scope cl Hp2.objs.size s2 H2 fp=Y
 have Yprog:Y.prog=X.prog:=by rw [← hY]; rfl
 have fpLt:∀ b ∈ fp,b < s2.heap.objs.size:=fun b hb => by
  obtain ⟨o,e,_⟩:=T.obj _ _ st2 b hb
  exact Heap.lt_size e
 have cellLt:∀ y c,cl.lookup y=some c→c < s2.heap.objs.size:=fun y c hc => by
  obtain ⟨v,q⟩:=I2.cell y c (cl1 y c hc)
  exact q.lt
 have frSub:∀ b ∈ frs X.stack,b < s2.heap.objs.size:=fun b hb => by
  rcases List.mem_cons.mp (I2.stkSub b hb) with z | z
  ·rw [z]; exact I2.lt
  ·by_cases hlt:b < s2.heap.objs.size
   ·exact hlt
   ·exact absurd z (I2.nofs (Nat.le_of_not_lt hlt))
 have ok:(cxC X xs Nb scope cl Hp2.objs.size s2 H2 fp).Ok:=by
  refine ⟨I2.ok.mod,hkind,I2.ok.glob,I2.ok.blt,(by show s2.heap.objs.size ≤ Hp2.objs.size; omega),fun y z c h1 h2 => I2.ok.inj y z c (cl1 y c h1) (cl1 z c h2),fun y hy => ?_,fun y c hf _ => absurd hf (by intro z; cases z),I2.ok.hd,I2.ok.frames,.inl rfl,fun b hb => ⟨?_,fun y c h1 h2 => ?_⟩,I2.bs,Nat.le_trans I2.ok.bsz I2.sz,fun b o e hb => ?_,fun b hb hm => ?_,I2.stack,I2.stkFree⟩
  ·have hy:(scope.names.map fun (n,k) => if (k == NameKind.free && X.env.scope.kind == .function && X.env.kindOf n == some .cell) then (n,NameKind.cell) else (n,k)).lookup y=some .cell ∨ (scope.names.map fun (n,k) => if (k == NameKind.free && X.env.scope.kind == .function && X.env.kindOf n == some .cell) then (n,NameKind.cell) else (n,k)).lookup y=some .free:=hy
   have q:scope.names.lookup y=some .free:=by
    rcases hy with z | z
    ·exact (relabel_kind hcell z (.inl rfl)).1
    ·exact (relabel_kind hcell z (.inr rfl)).1
   exact Option.isSome_iff_exists.mp (cl2 y (PySem.mem_of_lookup q))
  ·exact (below b (fpLt b hb)).1
  ·exact (f2 b hb).2.2.2.2.1 y c (cl1 y c h1) h2
  ·rcases (f2 b hb).2.2.2.1 with z | z
   ·exact I2.ok.noex b o e z
   ·exact absurd (Nat.lt_of_lt_of_le (Heap.lt_size e) (Nat.le_trans I2.ok.bsz z)) (Nat.lt_irrefl _)
  ·rcases List.mem_cons.mp (I2.stkSub b hm) with z | z
   ·exact (f2 b hb).2.1 z
   ·exact (f2 b hb).2.2.1 z
 have fpY:∀ {H' : Hp} {pl:List (Addr × Obj)},(∀ b ∈ fp,H' b=none)→(∀ p ∈ pl,p.1=s2.heap.objs.size)→∀ b ∈ fp,FpOk Y pl H' b:=fun {H' pl} hn hp b hb => by
  rw [← hY]
  refine ⟨hn b hb,(below b (fpLt b hb)).1,fun hm => ?_,.inl hb,fun y c h1 h2 => (f2 b hb).2.2.2.2.1 y c (cl1 y c h1) h2,fun p hm z => ?_⟩
  ·rcases List.mem_cons.mp (I2.stkSub b hm) with z | z
   ·exact (f2 b hb).2.1 z
   ·exact (f2 b hb).2.2.1 z
  ·have hm:p ∈ pl:=hm
   rw [hp p hm] at z
   exact (below b (fpLt b hb)).2 z.symm
 have HD:H2 s2.heap.objs.size=none:=I2.hok.fresh (Nat.le_refl _)
 have HC:H2 Hp2.objs.size=none:=I2.hok.fresh (by omega)
 obtain ⟨m2,hns2,hloc2⟩:=I2.loc
 have IY:∀ tk,Inv (cxC X xs Nb scope cl Hp2.objs.size s2 H2 fp) [] (List.replicate xs.length none ++ σ) H2 { s2 with heap:=h₁,toks:=tk }:=fun tk => by
  refine ⟨ok,rfl,I2.bare,Un.kept old,⟨_,hns₁,fun i y v h1 h2 h3 => ?_⟩,fun y c h1 => ?_,HC,fun y c h1 => I2.freeC y c (cl1 y c h1),fun p hp => absurd (show p ∈ ([]:List (Addr × Obj)) from hp) (by simp),I2.hok.kept old,(by show (List.replicate xs.length (none:Option V) ++ σ).length=(xs ++ Nb).length; rw [List.length_append,List.length_append,List.length_replicate,hlen,I2.len])⟩
  ·have h1:(xs ++ Nb)[i]? = some y:=h1
   by_cases hik:i < xs.length
   ·rw [List.getElem?_append_left (by rw [List.length_replicate]; exact hik),List.getElem?_replicate,if_pos hik] at h2
    cases h2
   ·rw [List.getElem?_append_right (by omega)] at h1
    rw [List.getElem?_append_right (by rw [List.length_replicate]; omega),List.length_replicate] at h2
    generalize i - xs.length=i at h1 h2
    have h3:Vis (relabel scope X.env) y:=h3
    have key:∀ k,(k=NameKind.cell ∨ k=NameKind.free)→(relabel scope X.env).names.lookup y=some k→∃ u,RelV v u∧Look (compEnvC scope cl Hp2.objs.size X.env) h₁ (fun x => ([]:List (Str × Value)).reverse.lookup x) y u:=fun k hk hl => by
     obtain ⟨q1,_⟩:=relabel_kind hcell hl hk
     have q2:=hfree (y,.free) (PySem.mem_of_lookup q1) rfl
     have h1' : X.N[i]? = some y:=by
      have hi' : i < X.N.length:=by rw [← hlen]; exact (List.getElem?_eq_some_iff.mp h1).1
      have hz:(Nb.zip X.N)[i]? = some (y,X.N[i]):=by rw [List.getElem?_zip_eq_some]; exact ⟨h1,List.getElem?_eq_getElem hi'⟩
      rcases hNb _ (List.mem_of_getElem? hz) with z | z
      ·have z:y=X.N[i]:=z
       rw [z]; exact List.getElem?_eq_getElem hi'
      ·have z:scope.names.lookup y=none:=z
       rw [q1] at z; cases z
     obtain ⟨u,r,l⟩:=hloc2 i y v h1' h2 (.inr (.inl q2))
     refine ⟨u,r,.inr ⟨?_,?_⟩⟩
     ·rcases hk with rfl | rfl
      ·exact .inl hl
      ·exact .inr hl
     ·rcases l with ⟨k1,_⟩ | ⟨_,c,e1,z⟩
      ·rw [q2] at k1; cases k1
      ·obtain ⟨c',e2⟩:=Option.isSome_iff_exists.mp (cl2 y (PySem.mem_of_lookup q1))
       have e3:=cl1 y c' e2
       rw [e1] at e3
       cases e3
       obtain ⟨o,ho,hd⟩:=z
       exact ⟨c,e2,o,old c o ho,hd⟩
    rcases h3 with h3 | h3 | h3
    ·
     exfalso
     exact hxN y (List.mem_of_getElem? h1) (relabel_local h3)
    ·exact key _ (.inl rfl) h3
    ·exact key _ (.inr rfl) h3
  ·obtain ⟨v,o,ho,hd⟩:=I2.cell y c (cl1 y c h1)
   exact ⟨v,o,old c o ho,hd⟩
 have noErr:∀ {α:Type} {m:Sem α} {G:α→Shared→Prop} {E' : Value→Shared→Prop} {s' : Shared},wpAny (model X.prog X.w) X.A m G (fun _ _ => False) s'→wpAny (model X.prog X.w) X.A m G E' s':=fun h => wpAny_mono h (fun _ _ q => q) fun _ _ q => q.elim
 have loop:∀ (tk:Nat) (R:Result→Shared→Prop),R=compPost (model X.prog X.w) X.A X.xe use QQ (.ref s2.heap.objs.size) Hp2.objs.size →
   codeAny (model X.prog X.w) X.A (.compLoop (.ListComp elt [⟨tg,iter,ifs,0⟩] scope pos) 0 (.ref it) (.ref s2.heap.objs.size) (compEnvC scope cl Hp2.objs.size X.env)) R { s2 with heap:=h₁,toks:=tk }:=by
  rintro tk R rfl
  refine loop_turns rfl (fun n s' => ∃ i σv H' ys its,σv.length=xs.length∧Inv Y [] (σv ++ σ) H' s'∧tn i s'.heap∧(∀ b ∈ fp,H' b=none)∧Vals ys its∧ys.length ≤ sizeLine∧s'.heap.PlainList s2.heap.objs.size its.toArray∧H' s2.heap.objs.size=none∧W i n ys H') ?_ m0
   ⟨0,List.replicate xs.length none,H2,[],[],List.length_replicate,hY ▸ IY tk,T.keep _ _ _ st2 fun b _ o e => old b o e,fun b hb => (f2 b hb).1,.nil,Nat.zero_le _,hacc,HD,w0⟩
  rintro n s3 ⟨i,σv,H3,ys,its,lv,I3,st3,fr3,rv,hz,⟨nn,pl3⟩,HD3,w3⟩
  have I3p:Inv Y [(s2.heap.objs.size,{ cls:=.type "list",data:=.seq its.toArray nn })] (σv ++ σ) H3 s3:=I3.pins_of fun p hp => by
   rw [List.mem_singleton] at hp
   subst hp
   refine ⟨pl3,HD3,?_,fun hm => ?_,fun v z => by cases z⟩
   ·rw [← hY]; exact hDC
   ·rw [← hY] at hm
    exact absurd (frSub _ hm) (Nat.lt_irrefl _)
  have pinD:∀ p ∈ [((s2.heap.objs.size:Addr),({ cls:=.type "list",data:=.seq its.toArray nn } : Obj))],p.1=s2.heap.objs.size:=fun p hp => by
   rw [List.mem_singleton] at hp
   rw [hp]
  subst hY
  rcases turn i n ys H3 w3 with ⟨stop,qn⟩ | ⟨go,hlt,NN,hNN,step⟩
  ·refine noErr (thn (T.done (cxC X xs Nb scope cl Hp2.objs.size s2 H2 fp) rfl rfl rfl hc i _ s3 _ H3 (fun _ _ => False) I3p (fpY fr3 pinD) st3 stop) fun r s4 ⟨hr,I4⟩ => ?_)
   subst hr
   obtain ⟨m4,hns4,_⟩:=I4.loc
   refine post s2 s4 H2 (upd H3 s2.heap.objs.size (.lst ys)) Hp2.objs.size s2.heap.objs.size m4 I2 (by omega) hns4 (by rw [upd_ne (Ne.symm hDC)]; exact I4.free) (fun h' sb => ?_) (qn _ HD3)
   have pl4:=(I4.pin _ (List.mem_append_right _ List.mem_cons_self)).1
   have up:∀ b o,b ≠ Hp2.objs.size→s4.heap.get? b=some o→h'.get? b=some o:=fun b o hb e => sb.extBut b o hb e
   have base:=I4.base
   have HC4:H3 Hp2.objs.size=none:=I4.free
   have neC:∀ b o,s2.heap.get? b=some o→b ≠ Hp2.objs.size:=fun b o e => (below b (Heap.lt_size e)).1
   have neD:∀ b o,s2.heap.get? b=some o→b ≠ s2.heap.objs.size:=fun b o e => (below b (Heap.lt_size e)).2
   have hokN:HOk X.prog X.w (upd H3 s2.heap.objs.size (.lst ys)) h':=fun b u e => by
    by_cases hb:b=s2.heap.objs.size
    ·subst hb
     rw [upd_same] at e
     cases e
     exact ⟨hz,its,nn,rv,up _ _ hDC pl4⟩
    ·rw [upd_ne hb] at e
     refine (I4.hok b u e).stay (fun c v hc q => up c v ?_ q) (fun c q => by rw [upd_ne (ne_of_none q HD3)]; exact q) fun c xs q => by rw [upd_ne (ne_of_none q HD3)]; exact q
     rcases hc with z | z
     ·rw [z]; exact ne_of_none e HC4
     ·exact ne_of_none z HC4
   refine I2.call' (s':={ s4 with heap:=h' }) (ch:=fp) I4.os ⟨fun b o e n hb hx' => up b o (neC b o e) (base.keep b o e n hb hx'),fun b o e n hb hx' => ?_,fun b o e n hx' => ?_,fun b o e hx' => ?_,fun b xs e => ?_,fun b o u e => ?_,fun b ps e => ?_⟩ hokN I4.bare (fun b hb => ?_)
   ·obtain ⟨sl,q⟩:=base.slot b o e n hb hx'
    exact ⟨sl,up b _ (neC b o e) q⟩
   ·rw [upd_ne (neD b o e)]
    exact base.free b o e n hx'
   ·obtain ⟨o',q⟩:=base.there b o e hx'
    exact ⟨o',up b o' (neC b o e) q⟩
   ·have q:=base.tups b xs e
    rw [upd_ne (ne_of_none q HD3)]; exact q
   ·have q:=base.frzs b o u e
    rw [upd_ne (ne_of_none q HD3)]; exact q
   ·obtain ⟨more,q⟩:=base.tbls b ps e
    exact ⟨more,by rw [upd_ne (ne_of_none q HD3)]; exact q⟩
   ·obtain ⟨_,g1,_,g3,g4,g5⟩:=f2 b hb
    exact ⟨g3,g1,g4,g5⟩
  ·refine noErr (thn (T.item (cxC X xs Nb scope cl Hp2.objs.size s2 H2 fp) rfl rfl rfl hc i _ s3 _ H3 (fun _ _ => False) I3p (fpY fr3 pinD) st3 go) fun r s4 ⟨u,hr,h4⟩ => ?_)
   subst hr
   refine noErr (thn h4 fun _ s5 ⟨v,H5,I5,r5,y5,st5,fr5⟩ => ?_)
   have I5':=I5.pinned (fpY fr5 pinD) (T.obj _ _ st5)
   have stp:=step v H5 σv lv y5
   refine noErr (thn (hg cl Hp2.objs.size s2 H2 fp _ s5 _ H5 v u _ I5' r5 stp) fun _ s6 ⟨σ6,H6,I6,⟨pre',e6,l6⟩,stp⟩ => ?_)
   subst e6
   have again:∀ {s7 s8:Shared} {H7:Hp} {zs:List V} {ws:List Value} {m' : Nat},Inv (cxC X xs Nb scope cl Hp2.objs.size s2 H2 fp) ([((s2.heap.objs.size:Addr),({ cls:=.type "list",data:=.seq its.toArray nn } : Obj))] ++ pinsAt fp s5.heap) (pre' ++ σ) H7 s7 →
     (∃ h',s8 = { s7 with heap:=h' }∧(∀ b o,b ≠ s2.heap.objs.size→s7.heap.get? b=some o→h'.get? b=some o)∧h'.PlainList s2.heap.objs.size ws.toArray)→Vals zs ws→zs.length ≤ sizeLine→m' < n→W (i + 1) m' zs H7 →
     ∃ m,m < n∧∃ i σv H' ys its,σv.length=xs.length∧Inv (cxC X xs Nb scope cl Hp2.objs.size s2 H2 fp) [] (σv ++ σ) H' s8∧tn i s8.heap∧(∀ b ∈ fp,H' b=none)∧Vals ys its∧ys.length ≤ sizeLine∧s8.heap.PlainList s2.heap.objs.size its.toArray∧H' s2.heap.objs.size=none∧W i m ys H':=by
    rintro s7 s8 H7 zs ws m' I7 ⟨h',rfl,up,plw⟩ rz hzz hm w7
    have HD7:H7 s2.heap.objs.size=none:=(I7.pin _ (List.mem_append_right _ (List.mem_append_left _ List.mem_cons_self))).2.1
    have fr7:∀ b ∈ fp,H7 b=none:=fun b hb => by
     obtain ⟨o,e,d⟩:=T.obj _ _ st5 b hb
     exact (I7.pin (b,o) (List.mem_append_right _ (List.mem_append_right _ (mem_pinsAt hb e)))).2.1
    have I7' : Inv (cxC X xs Nb scope cl Hp2.objs.size s2 H2 fp) [] (pre' ++ σ) H7 s7:=I7.pins_of fun p hp => absurd hp (by simp)
    refine ⟨m',hm,i + 1,pre',H7,zs,ws,l6,?_,?_,fr7,rz,hzz,plw,HD7,w7⟩
    ·have:=I7'.turned (it:=s2.heap.objs.size) (h':=h') (t':=s7.toks) up HD7 hDC (.inr (Nat.le_refl _)) (fun y c h1 h2 => absurd (cellLt y c h1) (by rw [h2]; exact Nat.lt_irrefl _)) (fun p hp => absurd (show p ∈ ([]:List (Addr × Obj)) from hp) (by simp))
     exact this
    ·refine T.keep _ _ _ st5 fun b hb o e => up b o (below b (fpLt b hb)).2 ?_
     exact (I7.pin (b,o) (List.mem_append_right _ (List.mem_append_right _ (mem_pinsAt hb e)))).1
   refine noErr (thn (ht cl Hp2.objs.size s2 H2 fp _ s6 _ H6 _ I6 stp) fun okb s7 ⟨H7,I7,q7⟩ => ?_)
   have pl7:=(I7.pin _ (List.mem_append_right _ (List.mem_append_left _ List.mem_cons_self))).1
   cases okb with
   | false =>
    rw [if_neg Bool.false_ne_true] at q7 ⊢
    obtain ⟨m',hm,w7⟩:=hNN _ _ q7
    exact again I7 ⟨s7.heap,rfl,fun _ _ _ e => e,nn,pl7⟩ rv hz hm w7
   | true =>
    rw [if_pos rfl] at q7 ⊢
    refine noErr (thn (he cl Hp2.objs.size s2 H2 fp _ s7 _ H7 _ I7 q7) fun w' s8 ⟨y,H8,I8,r8,q8⟩ => ?_)
    obtain ⟨m',hm,w8⟩:=hNN _ _ q8
    have pl8:=(I8.pin _ (List.mem_append_right _ (List.mem_append_left _ List.mem_cons_self))).1
    refine wpAny_list_append_plain (hsz:=by have:=rv.length; simp only [List.size_toArray]; omega) ⟨nn,pl8⟩ fun h9 pl9 sb9 => ?_
    refine again I8 ⟨h9,rfl,fun b o hb e => sb9.extBut b o hb e,?_⟩ (rv.append (.cons r8 .nil)) (by rw [List.length_append,List.length_singleton]; omega) hm w8
    have e9:its.toArray.push w' = (its ++ [w']).toArray:=by simp
    rw [← e9]
    exact pl9
 refine codeAny_compStart_list (loop _ _ rfl) (noErr (T.self _ 0 _ _ _ (T.keep _ _ _ st2 fun b _ o e => old b o e) (loop _ _ rfl)))
theorem pe_compG {elt iter tg:Expr} {xs Nb:List Str} {ifs:List Expr} {scope:Scope} {pos:PySem.Pos} {wi:TI} {g:TG} {tt:TT} {te:TE}
  (hc:X.calm=true) (hi:PI X tg iter wi) (hlen:Nb.length=X.N.length) (hNb:∀ p ∈ Nb.zip X.N,p.1=p.2 ∨ scope.names.lookup p.1=none) (hxN:∀ y ∈ Nb,scope.names.lookup y ≠ some .local)
  (hg:InB X xs Nb scope fun Y => PG Y tg g) (ht:InB X xs Nb scope fun Y => PIf Y ifs tt) (he:InB X xs Nb scope fun Y => PE Y elt te)
  (hcell:∀ y ∈ scope.names,y.2 ≠ .cell) (hkind:scope.kind = .function) (hnames:∀ y ∈ scope.names,y.2 = .local→scope.names.lookup y.1=some .local)
  (hfree:∀ y ∈ scope.names,y.2 = .free→X.env.kindOf y.1=some .cell)
  (hs:∀ x,foldedSetIterable iter X.env x=pure x:=by intro _; rfl) :
  PE X (.ListComp elt [⟨tg,iter,ifs,0⟩] scope pos) (tCompG xs.length wi g tt te):=by
 intro pins s σ H Q I h
 rw [eval_ListComp]
 exact comp_core (use:=none) (QQ:=EP X pins σ Q) hc hi hlen hNb hxN hg ht he hcell hkind hnames hfree hs I h fun s2 s4 H2 H4 C D m4 _ _ hn _ IX q => ⟨m4,hn,fun h' sb => ⟨.ref D,H4,IX h' sb,rfl,q⟩⟩
theorem ps_compG {elt iter tg:Expr} {xs Nb:List Str} {ifs:List Expr} {scope:Scope} {pos spos py:PySem.Pos} {wi:TI} {g g2:TG} {tt:TT} {te:TE} {y:Str}
  (hg2:PG X (.Name y py) g2) (hsw:swapsWith (.ListComp elt [⟨tg,iter,ifs,0⟩] scope pos) (some (.Name y py)) spos.line X.env=pure true)
  (hc:X.calm=true) (hi:PI X tg iter wi) (hlen:Nb.length=X.N.length) (hNb:∀ p ∈ Nb.zip X.N,p.1=p.2 ∨ scope.names.lookup p.1=none) (hxN:∀ y ∈ Nb,scope.names.lookup y ≠ some .local)
  (hg:InB X xs Nb scope fun Y => PG Y tg g) (ht:InB X xs Nb scope fun Y => PIf Y ifs tt) (he:InB X xs Nb scope fun Y => PE Y elt te)
  (hcell:∀ y ∈ scope.names,y.2 ≠ .cell) (hkind:scope.kind = .function) (hnames:∀ y ∈ scope.names,y.2 = .local→scope.names.lookup y.1=some .local)
  (hfree:∀ y ∈ scope.names,y.2 = .free→X.env.kindOf y.1=some .cell)
  (hs:∀ x,foldedSetIterable iter X.env x=pure x:=by intro _; rfl) :
  PS X (.Assign [.Name y py] (.ListComp elt [⟨tg,iter,ifs,0⟩] scope pos) spos) (tAsg (tCompG xs.length wi g tt te) g2):=by
 intro pins s σ H D I h
 rw [exec_Assign_Name_used _ _ _ _ hsw]
 refine wpAny_bind (wpAny_standAt (wpAny_bind ?_))
 show wpAny (model X.prog X.w) X.A (comprehension (.ListComp elt [⟨tg,iter,ifs,0⟩] scope pos) scope X.env _ (newList []) false (eval iter X.env) (some (assign (.Name y py) X.env)) >>= fun _ => pure ()) _ _ s
 refine wpAny_bind (wpAny_mono (comp_core (use:=some (assign (.Name y py) X.env)) (QQ:=fun _ s' => SP X pins D .next s') hc hi hlen hNb hxN hg ht he hcell hkind hnames hfree hs I h ?_) (fun _ s' hq => wpAny_pure (wpAny_pure hq)) fun _ _ e => e)
 intro s2 s4 H2 H4 C R m4 I2 hC hn HC IX q
 have I4:Inv X pins σ H4 s4:=IX s4.heap (Heap.SameBut.refl _ _)
 obtain ⟨o,es,ep,ho,hd,hn'⟩:=id hn
 have hLC:C ≠ X.env.locals:=fun z => absurd (Nat.lt_of_lt_of_le I2.lt hC) (by rw [z]; exact Nat.lt_irrefl _)
 have hfsC:C ∉ X.fs:=I2.nofs hC
 have I4p:Inv X ((C,o) :: pins) σ H4 s4:=I4.pins_of fun p hp => by
  rcases List.mem_cons.mp hp with rfl | z
  ·exact ⟨ho,HC,hLC,hfsC,fun v z => by rw [hd] at z; cases z⟩
  ·exact I4.pin p (List.mem_append_right _ z)
 show wpAny _ X.A (assign (.Name y py) X.env (.ref R)) _ _ s4
 refine thn (hg2 _ s4 σ H4 (.ref R) (.ref R) _ I4p rfl q) fun _ s5 ⟨σ5,H5,I5,q5⟩ => ?_
 have pC:=I5.pin (C,o) (List.mem_append_right _ List.mem_cons_self)
 refine ⟨m4,⟨o,es,ep,pC.1,hd,hn'⟩,fun h' sb => ⟨σ5,H5,?_,q5⟩⟩
 have I6:Inv X pins σ5 H5 s5:=I5.pins_of fun p hp => I5.pin p (List.mem_append_right _ (List.mem_cons_of_mem _ hp))
 exact I6.turned (it:=C) (h':=h') (t':=s5.toks) (fun b o hb e => sb.extBut b o hb e) pC.2.1 hLC (.inr (Nat.le_trans I2.sz hC)) (fun y c e z => by
   obtain ⟨v,qq⟩:=I2.cell y c e
   exact absurd (Nat.lt_of_lt_of_le qq.lt hC) (by rw [z]; exact Nat.lt_irrefl _)) (fun p hp z => by
   exact absurd (Nat.lt_of_lt_of_le (Heap.lt_size (I2.pin p hp).1) hC) (by rw [z]; exact Nat.lt_irrefl _))
theorem compL {K:PySem.W.Frag} {k:Nat} {a:Addr} {xs:List V} {g:TG} {tt:TT} {te:TE} {Q:VK} {σ:St} {H:Hp} (Pv:Nat→List V→Hp→Prop) (h0:Pv 0 [] H) (hb:xs.length ≤ 1000) (hz:∀ i ys H,Pv i ys H→ys.length ≤ i) (hl:∀ i ys H,i ≤ xs.length→Pv i ys H→SqL K H a xs)
  (hs:∀ i x ys H (pre:St),pre.length=k→xs[i]? = some x→Pv i ys H→g x (pre ++ σ) H fun σ' H2 => (∃ pre' : St,σ' = pre' ++ σ∧pre'.length=k)∧tt σ' H2 fun ok H3 => if ok=true then te σ' H3 fun y H4 => Pv (i + 1) (ys ++ [y]) H4 else Pv (i + 1) ys H3) (hd:∀ ys H,Pv xs.length ys H→∀ D,H D=none→Q (.ref D) (upd H D (.lst ys))):CGo k (Itl K a) g tt te Q σ H:=by
 refine ⟨fun i m ys H => m=xs.length - i∧i ≤ xs.length∧Pv i ys H,⟨xs.length,by simp,Nat.zero_le _,h0⟩,?_⟩
 rintro i m ys H ⟨rfl,hi,p⟩
 have q:=hl i ys H hi p
 by_cases hlt:i < xs.length
 ·refine .inr ⟨⟨xs,xs[i],q,by simp [hlt]⟩,Nat.lt_of_le_of_lt (hz i ys H p) (small1000 (by omega)),Pv (i + 1),fun zs H' p' => ⟨xs.length - (i + 1),by omega,rfl,hlt,p'⟩,fun x H' pre hp y => ?_⟩
  obtain ⟨e,y⟩:=y
  subst e
  exact hs i x ys _ pre hp (y xs q) p
 ·have e:i=xs.length:=by omega
  subst e
  exact .inl ⟨⟨xs,q,Nat.le_refl _⟩,hd ys H p⟩
theorem compT {K:PySem.W.Frag} {k:Nat} {a:Addr} {xs:List V} {g:TG} {tt:TT} {te:TE} {Q:VK} {σ:St} {H:Hp} (Pv:Nat→List V→Hp→Prop) (h0:Pv 0 [] H) (hb:xs.length ≤ 1000) (hz:∀ i ys H,Pv i ys H→ys.length ≤ i) (hl:∀ i ys H,i ≤ xs.length→Pv i ys H→SqT K H a xs)
  (hs:∀ i x ys H (pre:St),pre.length=k→xs[i]? = some x→Pv i ys H→g x (pre ++ σ) H fun σ' H2 => (∃ pre' : St,σ' = pre' ++ σ∧pre'.length=k)∧tt σ' H2 fun ok H3 => if ok=true then te σ' H3 fun y H4 => Pv (i + 1) (ys ++ [y]) H4 else Pv (i + 1) ys H3) (hd:∀ ys H,Pv xs.length ys H→∀ D,H D=none→Q (.ref D) (upd H D (.lst ys))):CGo k (Itt K a) g tt te Q σ H:=by
 refine ⟨fun i m ys H => m=xs.length - i∧i ≤ xs.length∧Pv i ys H,⟨xs.length,by simp,Nat.zero_le _,h0⟩,?_⟩
 rintro i m ys H ⟨rfl,hi,p⟩
 have q:=hl i ys H hi p
 by_cases hlt:i < xs.length
 ·refine .inr ⟨⟨xs,xs[i],q,by simp [hlt]⟩,Nat.lt_of_le_of_lt (hz i ys H p) (small1000 (by omega)),Pv (i + 1),fun zs H' p' => ⟨xs.length - (i + 1),by omega,rfl,hlt,p'⟩,fun x H' pre hp y => ?_⟩
  obtain ⟨e,y⟩:=y
  subst e
  exact hs i x ys _ pre hp (y xs q) p
 ·have e:i=xs.length:=by omega
  subst e
  exact .inl ⟨⟨xs,q,Nat.le_refl _⟩,hd ys H p⟩
theorem compR {k:Nat} {lo:Int} {n:Nat} {g:TG} {tt:TT} {te:TE} {Q:VK} {σ:St} {H:Hp} (Pv:Nat→List V→Hp→Prop) (h0:Pv 0 [] H) (hb:n ≤ 1000) (hz:∀ i ys H,Pv i ys H→ys.length ≤ i)
  (hs:∀ (i:Nat) ys H (pre:St),pre.length=k→i < n→Pv i ys H→g (.int (lo + i)) (pre ++ σ) H fun σ' H2 => (∃ pre' : St,σ' = pre' ++ σ∧pre'.length=k)∧tt σ' H2 fun ok H3 => if ok=true then te σ' H3 fun y H4 => Pv (i + 1) (ys ++ [y]) H4 else Pv (i + 1) ys H3) (hd:∀ ys H,Pv n ys H→∀ D,H D=none→Q (.ref D) (upd H D (.lst ys))):CGo k (Itr lo n) g tt te Q σ H:=by
 refine ⟨fun i m ys H => m=n - i∧i ≤ n∧Pv i ys H,⟨n,by simp,Nat.zero_le _,h0⟩,?_⟩
 rintro i m ys H ⟨rfl,hi,p⟩
 by_cases hlt:i < n
 ·refine .inr ⟨hlt,Nat.lt_of_le_of_lt (hz i ys H p) (small1000 (by omega)),Pv (i + 1),fun zs H' p' => ⟨n - (i + 1),by omega,rfl,hlt,p'⟩,fun x H' pre hp y => ?_⟩
  obtain ⟨e,y⟩:=y
  subst e y
  exact hs i ys _ pre hp hlt p
 ·have e:i=n:=by omega
  subst e
  exact .inl ⟨Nat.le_refl _,hd ys H p⟩
end
end L2
namespace L2
open PySem PySem.Spec PyProof.Rows
section
variable {X:Cx}
theorem pg_tupK {K:PySem.W.Frag} {es:List Expr} {k:Nat} {t:TGs} {n:Nat} {pos:PySem.Pos} (hc:X.calm=true) (h:PGs X es t) (hK:X.K=K:=by rfl)
  (hn:(assignEach es X.env).length=n:=by rfl) (hst:(assignEach es X.env).findIdx? (·.1)=none:=by rfl):PG X (.Tuple es k pos) (gTup K n t):=by
 subst hK; exact pg_tup hc h hn hst
theorem sl_listK {K:PySem.W.Frag} (hK:X.K=K:=by rfl):SlR X (rSlL K):=by subst hK; exact sl_list
end
def dT (ns:List Int):PyData:=.tuple (ns.map .int)
theorem eqvAll_ints:∀ ns ms:List Int,PyData.eqvAll (ns.map .int) (ms.map .int)=decide (ns=ms)
 | [],[] => rfl
 | [],_ :: _ => rfl
 | _ :: _,[] => rfl
 | n :: ns,m :: ms => by
  show (PyData.eqv (.int n) (.int m) && PyData.eqvAll (ns.map .int) (ms.map .int))=_
  rw [eqvAll_ints ns ms]
  show ((n == m) && _)=_
  by_cases h:n=m
  ·subst h; by_cases h2:ns=ms <;> simp [h2]
  ·simp [h]
theorem eqv_dT (ns ms:List Int):PyData.eqv (dT ns) (dT ms)=decide (ns=ms):=eqvAll_ints ns ms
theorem lay_ints:∀ ns:List Int,PyData.canLayAll0 (ns.map .int)=true
 | [] => rfl
 | _ :: ns => by show (true && _)=true; rw [lay_ints ns]; rfl
theorem lay_dT (ns:List Int):(dT ns).canLay0=true:=lay_ints ns
theorem dep_ints:∀ ns:List Int,PyData.depthAll (ns.map .int)=0
 | [] => rfl
 | _ :: ns => by show max 0 _=0; rw [dep_ints ns]; rfl
theorem dep_dT (ns:List Int):(dT ns).depth=1:=by show PyData.depthAll _ + 1=1; rw [dep_ints]
def Tups (H H' : Hp):Prop:=∀ b ys,H b=some (.tup ys)→H' b=some (.tup ys)
theorem Same.tups {H H' : Hp} (s:Same H H'):Tups H H':=fun b ys e => s b _ e
def tot (L:List (Int × List Int)):Int:=(L.map (·.1)).sum
theorem take_succ' {α:Type} {L:List α} {i:Nat} {e:α} (h:L[i]? = some e):L.take (i + 1)=L.take i ++ [e]:=by
 rw [List.take_add_one,h]; rfl
end L2
namespace L2
open PySem PySem.Spec PyProof.Rows
section
variable {X:Cx}
theorem preSum_take (ns:List Int):∀ n,preSum (fun i => ns.getD i 0) n=(ns.take n).sum
 | 0 => rfl
 | n + 1 => by
  show preSum _ n + ns.getD n 0=_
  rw [preSum_take ns n,List.take_add_one,List.getD_eq_getElem?_getD]
  cases ns[n]? with
  | none => simp
  | some z => simp
theorem call_sum (hc:X.calm=true):CallR X (.builtin "sum") (fun xs H Q => ∃ (p:Addr) (ns:List Int),xs=[.ref p]∧SqL X.K H p (ns.map V.int)∧Q (.int ns.sum) H):=by
 intro pins s σ H xs us Q I r h
 obtain ⟨p,ns,rfl,hq,q⟩:=h
 obtain ⟨u,rfl,rx⟩:=vals1 r
 cases rx
 obtain ⟨its,rv,pl,hz⟩:=I.list hq
 have hlt:p < s.heap.objs.size:=by
  obtain ⟨o,e,_⟩:=pl.isList
  exact Heap.lt_size e
 have hlen:its.length=ns.length:=by have:=rv.length; rw [List.length_map] at this; exact this.symm
 refine call_sum_walkAnyS (wpAny_pyIter_list pl.isList ?_)
 refine ⟨_,_,_,_,_,_,_,fun i => ns.getD i 0,rfl,(Walks.list (A:=X.A.in1) (I.ok.hd hc) s.heap.objs.size p (Nat.ne_of_lt hlt) its.toArray).toS,?_,?_,?_,fun s' t' hm => ?_⟩
 ·exact ⟨⟨_,Heap.get?_push_size _ rfl,rfl,rfl⟩,(let ⟨o,e,c⟩:=pl.isList; ⟨o,Heap.get?_push_of_some _ e,c⟩)⟩
 ·intro b hb
  simp at hb
  rcases hb with rfl | rfl
  ·simp [Heap.size_push]
  ·rw [Heap.size_push]; exact Nat.lt_succ_of_lt hlt
 ·intro i v hP
  have hv:its[i]? = some v:=by simpa using hP
  have hil:i < ns.length:=by rw [← hlen]; exact (List.getElem?_eq_some_iff.mp hv).1
  obtain ⟨u,e,ru⟩:=rv.get (x:=V.int (ns.getD i 0)) (i:=i) (by rw [List.getElem?_map,List.getElem?_eq_getElem hil,List.getD_eq_getElem?_getD,List.getElem?_eq_getElem hil]; rfl)
  rw [hv] at e
  cases e
  exact ru
 ·have e:preSum (fun i => ns.getD i 0) its.toArray.size=ns.sum:=by
   rw [List.size_toArray,hlen,preSum_take,List.take_length]
  rw [e]
  obtain ⟨hk,hg,hd,ho,ht⟩:=hm
  refine ⟨.int _,H,?_,⟨t',rfl⟩,q⟩
  have es:s' = { s with heap:=s'.heap,toks:=s'.toks }:=by
   cases s'; simp_all
  rw [es]
  exact I.kept fun b o eb => hk b o (by simp; exact Nat.ne_of_lt (Heap.lt_size eb)) (Heap.get?_push_of_some _ eb)
end
end L2
namespace L2
abbrev WL:=List (Int × List Int)
def mx (i j:Int):Int:=if j > i then j else i
def Pos (L:WL):Prop:=∀ e ∈ L,0 < e.1
end L2
namespace L2
open PySem PySem.Spec PyProof.Rows
inductive Th (H:Hp):V→PyData→Prop where
 | non:Th H .non .none
 | bl (b:Bool):Th H (.bl b) (.bool b)
 | int (i:Int):Th H (.int i) (.int i)
 | str (x:Str):Th H (.str x) (.str x)
 | tup {a:Addr} {xs:List V} {ds:List PyData} : H a=some (.tup xs)→xs.length=ds.length→(∀ (i:Nat) (x:V) (d:PyData),xs[i]? = some x→ds[i]? = some d→Th H x d)→Th H (.ref a) (.tuple ds)
 | lst {a:Addr} {xs:List V} {ds:List PyData} : H a=some (.lst xs)→xs.length=ds.length→(∀ (i:Nat) (x:V) (d:PyData),xs[i]? = some x→ds[i]? = some d→Th H x d)→Th H (.ref a) (.list ds)
theorem Th.di {K:PySem.W.Frag} {H:Hp} {x:V} {d:PyData} (h:Th H x d):DI K H x d:=by
 induction h with
 | non => exact .non
 | bl b => exact .bl b
 | int i => exact .int i
 | str x => exact .str x
 | tup a b _ ih => exact .tup (SqT.of a) b ih
 | lst a b _ ih => exact .lst (SqL.of a) b ih
theorem Th.up {H H' : Hp} {x:V} {d:PyData} (h:Th H x d) (s:Same H H'):Th H' x d:=by
 induction h with
 | non => exact .non
 | bl b => exact .bl b
 | int i => exact .int i
 | str x => exact .str x
 | tup a b _ ih => exact .tup (s _ _ a) b ih
 | lst a b _ ih => exact .lst (s _ _ a) b ih
def tyName:PyData→String
 | .none => "NoneType"
 | .bool _ => "bool"
 | .int _ => "int"
 | .str _ => "str"
 | .list _ => "list"
 | .tuple _ => "tuple"
 | .dict _ => "dict"
theorem Th.ty {K:PySem.W.Frag} {H:Hp} {x:V} {d:PyData} (h:Th H x d):TyOf K H x (.type (tyName d)):=by
 cases h with
 | non => exact .non
 | bl b => exact .bl b
 | int i => exact .int i
 | str x => exact .str x
 | tup a _ _ => exact .tup a
 | lst a _ _ => exact .lst a
def isInt:PyData→Bool
 | .int _ | .bool _ => true
 | _ => false
def isBool:PyData→Bool
 | .bool _ => true
 | _ => false
theorem kit_int {K:PySem.W.Frag} (d:PyData):PySem.W.kitOne K (.type (tyName d)) (.type "int")=some (isInt d):=by
 cases d <;> with_unfolding_all rfl
theorem kit_bool {K:PySem.W.Frag} (d:PyData):PySem.W.kitOne K (.type (tyName d)) (.type "bool")=some (isBool d):=by
 cases d <;> with_unfolding_all rfl
theorem int_short {i:Int} (h1 : -(10 ^ 79) < i) (h2:i < 10 ^ 79):(Str.ofString (toString i)).length ≤ 80:=by
 by_cases h0:0 ≤ i
 ·exact Nat.le_trans (toString_length_le (k:=79) h0 (by decide) h2) (by decide)
 ·rw [len_text_neg (by omega)]
  have:=toString_length_le (v:=0 - i) (k:=79) (by omega) (by decide) (by omega)
  omega
section
variable {X:Cx} {es:List Expr} {te:TE} {t:TA}
theorem pa_Constant {c:Const} {j:Nat} {p:PySem.Pos} (ha:PE X (.Constant c j p) te) (hr:PA X es t):PA X (.Constant c j p :: es) (tCons te t):=pa_cons ha hr rfl
theorem pa_Name {x:Str} {p:PySem.Pos} (ha:PE X (.Name x p) te) (hr:PA X es t):PA X (.Name x p :: es) (tCons te t):=pa_cons ha hr rfl
theorem pa_Tuple {l:List Expr} {k:Nat} {p:PySem.Pos} (ha:PE X (.Tuple l k p) te) (hr:PA X es t):PA X (.Tuple l k p :: es) (tCons te t):=pa_cons ha hr rfl
theorem pa_BinOp {a b:Expr} {o:Operator} {p:PySem.Pos} (ha:PE X (.BinOp a o b p) te) (hr:PA X es t):PA X (.BinOp a o b p :: es) (tCons te t):=pa_cons ha hr rfl
theorem pa_Subscript {a b:Expr} {p:PySem.Pos} (ha:PE X (.Subscript a b p) te) (hr:PA X es t):PA X (.Subscript a b p :: es) (tCons te t):=pa_cons ha hr rfl
theorem pa_Call {f:Expr} {l:List Expr} {kw:List Keyword} {p:PySem.Pos} (ha:PE X (.Call f l kw p) te) (hr:PA X es t):PA X (.Call f l kw p :: es) (tCons te t):=pa_cons ha hr rfl
end
theorem pa_o2 {X:Cx} {e1 e2:Expr} {t1 t2:TE} {es:List Expr} {t:TA} (h1:PE X e1 t1) (h2:PE X e2 t2) (hr:PA X es t) (s1:∀ l,starEach (e1 :: l) X.env=(false,eval e1 X.env) :: starEach l X.env:=by intro _; rfl) (s2:∀ l,starEach (e2 :: l) X.env=(false,eval e2 X.env) :: starEach l X.env:=by intro _; rfl):PA X (e1 :: e2 :: es) (tCons t1 (tCons t2 t)):=(pa_cons h1 (pa_cons h2 hr (s2 _)) (s1 _))
theorem pa_o3 {X:Cx} {e1 e2 e3:Expr} {t1 t2 t3:TE} {es:List Expr} {t:TA} (h1:PE X e1 t1) (h2:PE X e2 t2) (h3:PE X e3 t3) (hr:PA X es t) (s1:∀ l,starEach (e1 :: l) X.env=(false,eval e1 X.env) :: starEach l X.env:=by intro _; rfl) (s2:∀ l,starEach (e2 :: l) X.env=(false,eval e2 X.env) :: starEach l X.env:=by intro _; rfl) (s3:∀ l,starEach (e3 :: l) X.env=(false,eval e3 X.env) :: starEach l X.env:=by intro _; rfl):PA X (e1 :: e2 :: e3 :: es) (tCons t1 (tCons t2 (tCons t3 t))):=(pa_cons h1 (pa_cons h2 (pa_cons h3 hr (s3 _)) (s2 _)) (s1 _))
theorem pa_o4 {X:Cx} {e1 e2 e3 e4:Expr} {t1 t2 t3 t4:TE} {es:List Expr} {t:TA} (h1:PE X e1 t1) (h2:PE X e2 t2) (h3:PE X e3 t3) (h4:PE X e4 t4) (hr:PA X es t) (s1:∀ l,starEach (e1 :: l) X.env=(false,eval e1 X.env) :: starEach l X.env:=by intro _; rfl) (s2:∀ l,starEach (e2 :: l) X.env=(false,eval e2 X.env) :: starEach l X.env:=by intro _; rfl) (s3:∀ l,starEach (e3 :: l) X.env=(false,eval e3 X.env) :: starEach l X.env:=by intro _; rfl) (s4:∀ l,starEach (e4 :: l) X.env=(false,eval e4 X.env) :: starEach l X.env:=by intro _; rfl):PA X (e1 :: e2 :: e3 :: e4 :: es) (tCons t1 (tCons t2 (tCons t3 (tCons t4 t)))):=(pa_cons h1 (pa_cons h2 (pa_cons h3 (pa_cons h4 hr (s4 _)) (s3 _)) (s2 _)) (s1 _))
theorem sw_sub {a b:Expr} {p:PySem.Pos} {t:Option Expr} {l:Nat} {env:Env} : swapsWith (.Subscript a b p) t l env=pure false:=rfl
end L2
set_option maxHeartbeats 1000000
namespace L2
open PySem PySem.Spec PyProof.Rows
section
variable {X:Cx}
theorem strsAre_of {ss:List Str} : ∀ {us:List Value},Vals (ss.map V.str) us→StrsAre us ss:=by
 induction ss with
 | nil => intro us r; cases r; exact .nil
 | cons a l ih =>
  intro us r
  cases r with
  | cons ra rl => obtain ⟨t,rfl⟩:=ra; exact .cons a t (ih rl)
theorem mt_join:MtR X "str.join" (fun x vs H Q => ∃ (sep:Str) (p:Addr) (ss:List Str),x = .str sep∧vs=[.ref p]∧SqL X.K H p (ss.map V.str)∧sep.length ≤ 16∧(ss.map (·.length)).sum + ss.length ≤ 1048576∧Q (.str (Str.join sep ss)) H):=by
 intro pins s σ H x xs v us Q I rx rv h
 obtain ⟨sep,p,ss,rfl,rfl,hq,hs,hw,q⟩:=h
 obtain ⟨t,rfl⟩:=rx
 obtain ⟨u,rfl,ru⟩:=vals1 rv
 cases ru
 obtain ⟨its,r,pl,hz⟩:=I.list hq
 exact join_listW pl.isList (strsAre_of r) hs hw fun t' k => ⟨.str _,H,I.tok _,⟨_,rfl⟩,by show Q (.str (Builtin.Str.glued sep ss)) H; rw [StrLaws.glued_eq_join]; exact q⟩
theorem op_mul_str:OpR X (binaryOp .Mult) (fun x y H Q => ∃ (z:Str) (i:Int),x = .str z∧y = .int i∧MulOk z i∧Q (.str (Txt.mul z i)) H):=by
 intro pins s σ H x y v u Q I rx ry h
 obtain ⟨z,i,rfl,rfl,hm,q⟩:=h
 obtain ⟨t,rfl⟩:=rx
 obtain ⟨t2,rfl⟩:=ry
 exact SB.mul hm fun t' k => ⟨.str _,H,I.tok _,⟨_,rfl⟩,q⟩
end
end L2
namespace L2
open PySem PySem.Spec PyProof.Rows
section
variable {X:Cx} {pins:List (Addr × Obj)} {σ:St} {H:Hp} {s:Shared} {h' : Heap}
theorem Inv.turnedNew {t' : Nat} {ch:List Addr} {p:Addr} {xs:List V} (I:Inv X pins σ H s) (k:∀ b o,b ∉ ch→s.heap.get? b=some o→h'.get? b=some o) (hf:∀ b ∈ ch,FpOk X pins H b) (hp:s.heap.objs.size ≤ p)
  (new:ObjOk X.prog X.w (upd H p (.tup xs)) h' p (.tup xs)):Inv X pins σ (upd H p (.tup xs)) { s with heap:=h',toks:=t' }:=by
 have hn:H p=none:=I.hok.fresh hp
 have nit:∀ b u,H b=some u→b ∉ ch:=fun b u e z => by rw [(hf b z).1] at e; cases e
 have nL:X.env.locals ∉ ch:=fun z => (hf _ z).2.1 rfl
 refine I.step (g':=s.gens) (d':=s.drawn) (ch:=ch) (fun b hb => ?_) (fun b o _ _ hc e _ => k b o hc e) (fun b o _ _ hc e _ => ⟨o.slots,k b o hc e⟩) (fun b o _ e n => ?_)
  (fun b o hc e => ⟨o,k b o hc e⟩) (fun b xs e => ?_) (fun b o u e => ?_) (fun b ps e => ⟨#[],?_⟩) (fun m hm => ?_) (fun b u e => ?_) I.bare
 ·obtain ⟨f0,f1,f2,f3,f4,f5⟩:=hf b hb
  exact ⟨f3,f1,f4,f5⟩
 ·rw [upd_ne (fun z => by rw [z] at e; exact absurd (Nat.lt_of_lt_of_le (Heap.lt_size e) hp) (Nat.lt_irrefl _))]
  exact n
 ·rw [upd_ne (ne_of_none e hn)]; exact e
 ·rw [upd_ne (ne_of_none e hn)]; exact e
 ·rw [upd_ne (ne_of_none e hn),e]; simp
 ·obtain ⟨o,es,ep,ho,r⟩:=hm
  exact ⟨o,es,ep,k _ o nL ho,r⟩
 ·by_cases hb:b=p
  ·subst hb; rw [upd_same] at e; cases e; exact new
  ·rw [upd_ne hb] at e
   refine (I.hok b u e).stay (fun c v hc q => k c v ?_ q) (fun c q => by rw [upd_ne (ne_of_none q hn)]; exact q) fun c xs q => by rw [upd_ne (ne_of_none q hn)]; exact q
   rcases hc with z | z
   ·rw [z]; exact nit b u e
   ·exact nit c _ z
theorem Inv.turnedL {t' : Nat} {ch:List Addr} (I:Inv X pins σ H s) (k:∀ b o,b ∉ ch→s.heap.get? b=some o→h'.get? b=some o) (hf:∀ b ∈ ch,FpOk X pins H b):Inv X pins σ H { s with heap:=h',toks:=t' }:=by
 have nit:∀ b u,H b=some u→b ∉ ch:=fun b u e z => by rw [(hf b z).1] at e; cases e
 have nL:X.env.locals ∉ ch:=fun z => (hf _ z).2.1 rfl
 refine I.step (g':=s.gens) (d':=s.drawn) (ch:=ch) (fun b hb => ?_) (fun b o _ _ hc e _ => k b o hc e) (fun b o _ _ hc e _ => ⟨o.slots,k b o hc e⟩) (fun b o _ e n => n)
  (fun b o hc e => ⟨o,k b o hc e⟩) (fun b xs e => e) (fun b o u e => e) (fun b ps e => ⟨#[],by rw [e]; simp⟩) (fun m hm => ?_) (fun b u e => ?_) I.bare
 ·obtain ⟨f0,f1,f2,f3,f4,f5⟩:=hf b hb
  exact ⟨f3,f1,f4,f5⟩
 ·obtain ⟨o,es,ep,ho,r⟩:=hm
  exact ⟨o,es,ep,k _ o nL ho,r⟩
 ·refine (I.hok b u e).stay (fun c v hc q => k c v ?_ q) (fun _ q => q) fun _ _ q => q
  rcases hc with z | z
  ·rw [z]; exact nit b u e
  ·exact nit c _ z
end
def Itz (K:PySem.W.Frag) (a b:Addr):It :=
 ⟨fun i H => ∃ xs ys x y,SqL K H a xs∧SqL K H b ys∧xs[i]? = some x∧ys[i]? = some y,
  fun i H v H' => ∃ p x y,v = .ref p∧H p=none∧H' = upd H p (.tup [x,y])∧(∀ xs,SqL K H a xs→xs[i]? = some x)∧(∀ ys,SqL K H b ys→ys[i]? = some y),
  fun i H => ∃ xs ys,SqL K H a xs∧SqL K H b ys∧(xs[i]? = none ∨ ys[i]? = none)⟩
def ZipAt (z TI TO i1 i2 a b:Addr) (i:Nat) (h:Heap):Prop:=IsZip h z TI TO .none∧IsPair h TI (.ref i1) (.ref i2)∧(∃ u v,IsPair h TO u v)∧h.IsListIter i1 a i∧h.IsListIter i2 b i
theorem turn_zip {P:Program} {w:World} {K:PySem.W.Frag} {es:List Expr} {k:Nat} {pos:PySem.Pos} (a b z TI TO i1 i2:Addr) (D:ZipApart z TI TO i1 i2 a b):Turn P w K (.Tuple es k pos) (Itz K a b) [z,TI,TO,i1,i2] z (ZipAt z TI TO i1 i2 a b) where
 mem:=by simp
 obj:=fun i h st c hc => by
  obtain ⟨hz,hTI,⟨u,v,hTO⟩,⟨o1,e1,c1,d1⟩,⟨o2,e2,c2,d2⟩⟩:=st
  simp only [List.mem_cons,List.not_mem_nil,or_false] at hc
  rcases hc with rfl | rfl | rfl | rfl | rfl
  ·exact ⟨_,hz,fun v q => by cases q⟩
  ·exact ⟨_,hTI,fun v q => by cases q⟩
  ·exact ⟨_,hTO,fun v q => by cases q⟩
  ·exact ⟨o1,e1,fun v q => by rw [d1] at q; cases q⟩
  ·exact ⟨o2,e2,fun v q => by rw [d2] at q; cases q⟩
 keep:=fun i h h' st q => by
  obtain ⟨hz,hTI,⟨u,v,hTO⟩,l1,l2⟩:=st
  exact ⟨q _ (by simp) _ hz,q _ (by simp) _ hTI,⟨u,v,q _ (by simp) _ hTO⟩,l1.at fun o e => q _ (by simp) o e,l2.at fun o e => q _ (by simp) o e⟩
 item:=by
  intro X hP hw hK hc i pins s σ H E I hf st hg
  subst hP hw hK
  obtain ⟨xs,ys,x,y,hq1,hq2,hx,hy⟩:=hg
  obtain ⟨hz,hTI,⟨u,v,hTO⟩,l1,l2⟩:=st
  obtain ⟨its1,rv1,p1,_⟩:=I.list hq1
  obtain ⟨its2,rv2,p2,_⟩:=I.list hq2
  obtain ⟨ux,hux,rux⟩:=rv1.get hx
  obtain ⟨uy,huy,ruy⟩:=rv2.get hy
  refine wpAny_pyNext_zip_item D hz hTI hTO l1 l2 p1.isList p2.isList (x:=ux) (y:=uy) (by simpa using hux) (by simpa using huy) fun h' z1 TO1 j1 j2 T1 sz kp => ?_
  refine ⟨_,rfl,wpAny_letOwnedTupleGo_zip z1 fun h2 z2 sb => ?_⟩
  have hzlt:z < s.heap.objs.size:=Heap.lt_size hz
  have hpz:s.heap.objs.size ≠ z:=Nat.ne_of_gt hzlt
  have T2:IsPair h2 s.heap.objs.size ux uy:=sb.extBut _ _ hpz T1
  have kp2:∀ c o,c ∉ [z,TI,TO,i1,i2]→s.heap.get? c=some o→h2.get? c=some o:=fun c o hc e => by
   simp only [List.mem_cons,List.not_mem_nil,or_false,not_or] at hc
   exact sb.extBut _ _ hc.1 (kp c o hc.1 hc.2.2.1 hc.2.2.2.1 hc.2.2.2.2 e)
  have I2:Inv X pins σ (upd H s.heap.objs.size (.tup [x,y])) { s with heap:=h2,toks:=s.toks }:=I.turnedNew kp2 hf (Nat.le_refl _) ⟨by show 2 ≤ sizeLine; decide,[ux,uy],.cons rux (.cons ruy .nil),⟨_,T2,rfl,_,rfl⟩⟩
  refine ⟨.ref s.heap.objs.size,_,I2,rfl,⟨_,x,y,rfl,I.hok.fresh (Nat.le_refl _),rfl,fun xs' h => ?_,fun ys' h => ?_⟩,⟨z2,?_,⟨ux,uy,?_⟩,?_,?_⟩,fun c hc => ?_⟩
  ·rw [I.list_inj h hq1]; exact hx
  ·rw [I.list_inj h hq2]; exact hy
  ·exact sb.extBut _ _ D.TIz (kp _ _ D.TIz D.TITO D.TIi1 D.TIi2 hTI)
  ·exact sb.extBut _ _ D.TOz TO1
  ·exact j1.at fun o e => sb.extBut _ _ D.i1z e
  ·exact j2.at fun o e => sb.extBut _ _ D.i2z e
  ·have hlt:c < s.heap.objs.size:=by
    simp only [List.mem_cons,List.not_mem_nil,or_false] at hc
    rcases hc with rfl | rfl | rfl | rfl | rfl
    ·exact hzlt
    ·exact Heap.lt_size hTI
    ·exact Heap.lt_size hTO
    ·obtain ⟨_,e,_⟩:=l1; exact Heap.lt_size e
    ·obtain ⟨_,e,_⟩:=l2; exact Heap.lt_size e
   rw [upd_ne (Nat.ne_of_lt hlt)]
   exact (hf c hc).1
 done:=by
  intro X hP hw hK hc i pins s σ H E I hf st hg
  subst hP hw hK
  obtain ⟨xs,ys,hq1,hq2,hend⟩:=hg
  obtain ⟨hz,hTI,⟨u,v,hTO⟩,l1,l2⟩:=st
  obtain ⟨its1,rv1,p1,_⟩:=I.list hq1
  obtain ⟨its2,rv2,p2,_⟩:=I.list hq2
  have e1:=rv1.length
  have e2:=rv2.length
  refine wpAny_pyNext_zip_end (I.ok.hd hc) D hz hTI hTO l1 l2 p1.isList p2.isList (hend.imp (fun q => ?_) (fun q => ?_)) fun h' kp => ⟨rfl,I.turnedL (t':=s.toks) (ch:=[z,TI,TO,i1,i2]) (fun c o hc e => ?_) hf⟩
  ·rw [List.getElem?_eq_none_iff] at q
   simp
   omega
  ·rw [List.getElem?_eq_none_iff] at q
   simp
   omega
  ·simp only [List.mem_cons,List.not_mem_nil,or_false,not_or] at hc
   exact kp c o hc.1 hc.2.2.1 hc.2.2.2.1 hc.2.2.2.2 e
 self:=fun _ _ _ _ _ st h => wpAny_pyIter_zip st.1 h
section
variable {X:Cx}
def iZip (K:PySem.W.Frag) (ta:TA):TI:=fun σ H R => ta σ H fun vs H1 => ∃ a b,vs=[.ref a,.ref b]∧(∃ xs,SqL K H1 a xs)∧(∃ ys,SqL K H1 b ys)∧R (Itz K a b) H1
theorem pi_zip {tes:List Expr} {tk:Nat} {tpos p pos:PySem.Pos} {a b:Expr} {ta:TA} (hg:Gl X "zip") (hm:X.mg "zip" = none) (ha:PA X [a,b] ta)
  (hs:starEach [a,b] X.env=[(false,eval a X.env),(false,eval b X.env)]:=by rfl) (hs2:starEach [b] X.env=[(false,eval b X.env)]:=by rfl):PI X (.Tuple tes tk tpos) (.Call (.Name "zip" p) [a,b] [] pos) (iZip X.K ta):=by
 intro pins s σ H R I h
 refine wpAny_Call_Name_kw (ld_blt I hg hm boot_zip ?_)
 refine PyProof.Rows.callWith_type1 (thn (ha pos pins s σ H _ I h) fun us s1 ⟨vs,H1,I1,r1,l1,l2,e,⟨xs,hx⟩,⟨ys,hy⟩,q⟩ => ?_) (by rw [hs,hs2]) (by rw [hs2]; rfl)
 subst e
 obtain ⟨u1,u2,rfl,rfl,rfl⟩:=vals2 r1
 obtain ⟨its1,rv1,p1,_⟩:=I1.list hx
 obtain ⟨its2,rv2,p2,_⟩:=I1.list hy
 have a1:l1 < s1.heap.objs.size:=by obtain ⟨_,e,_⟩:=p1.isList; exact Heap.lt_size e
 have a2:l2 < s1.heap.objs.size:=by obtain ⟨_,e,_⟩:=p2.isList; exact Heap.lt_size e
 refine call_zip_2 p1.isList p2.isList fun h' hz hTI hTO hi1 hi2 sz kp => ?_
 refine wpAny_pyIter_zip hz ?_
 refine ⟨_,[_,_,_,_,_],_,_,H1,rfl,I1.kept (t':=s1.toks) kp,turn_zip l1 l2 _ _ _ _ _ (zipApart_new a1 a2),⟨hz,hTI,⟨_,_,hTO⟩,hi1,hi2⟩,fun c hc => ?_,q⟩
 have hge:s1.heap.objs.size ≤ c:=by
  simp only [List.mem_cons,List.not_mem_nil,or_false] at hc
  rcases hc with rfl | rfl | rfl | rfl | rfl
  ·exact Nat.le_add_right _ _
  ·exact Nat.le_add_right _ _
  ·exact Nat.le_add_right _ _
  ·exact Nat.le_refl _
  ·exact Nat.le_add_right _ _
 exact I1.fpOk hge (I1.hok.fresh hge)
theorem compZ {K:PySem.W.Frag} {k n:Nat} {a b:Addr} {xs ys:List V} {g:TG} {tt:TT} {te:TE} {Q:VK} {σ:St} {H:Hp} (Pv:Nat→List V→Hp→Prop) (h0:Pv 0 [] H) (hn:n=min xs.length ys.length) (hb:n ≤ 1000) (hz:∀ i zs H,Pv i zs H→zs.length ≤ i) (hl:∀ i zs H,i ≤ n→Pv i zs H→SqL K H a xs∧SqL K H b ys)
  (hs:∀ i x y zs H (pre:St) (p:Addr),pre.length=k→xs[i]? = some x→ys[i]? = some y→Pv i zs H→H p=none→g (.ref p) (pre ++ σ) (upd H p (.tup [x,y])) fun σ' H2 => (∃ pre' : St,σ' = pre' ++ σ∧pre'.length=k)∧tt σ' H2 fun ok H3 => if ok=true then te σ' H3 fun y H4 => Pv (i + 1) (zs ++ [y]) H4 else Pv (i + 1) zs H3) (hd:∀ zs H,Pv n zs H→∀ D,H D=none→Q (.ref D) (upd H D (.lst zs))):CGo k (Itz K a b) g tt te Q σ H:=by
 refine ⟨fun i m zs H => m=n - i∧i ≤ n∧Pv i zs H,⟨n,by simp,Nat.zero_le _,h0⟩,?_⟩
 rintro i m zs H ⟨rfl,hi,p⟩
 obtain ⟨q1,q2⟩:=hl i zs H hi p
 by_cases hlt:i < n
 ·have h1:i < xs.length:=by omega
  have h2:i < ys.length:=by omega
  refine .inr ⟨⟨xs,ys,xs[i],ys[i],q1,q2,by simp [h1],by simp [h2]⟩,Nat.lt_of_le_of_lt (hz i zs H p) (small1000 (by omega)),Pv (i + 1),fun zs H' p' => ⟨n - (i + 1),by omega,rfl,hlt,p'⟩,fun x H' pre hp y => ?_⟩
  obtain ⟨q,x1,y1,rfl,hq,rfl,e1,e2⟩:=y
  exact hs i x1 y1 zs _ pre q hp (e1 xs q1) (e2 ys q2) p hq
 ·have e:i=n:=by omega
  subst e
  refine .inl ⟨⟨xs,ys,q1,q2,?_⟩,hd zs H p⟩
  by_cases hx:xs.length ≤ ys.length
  ·exact .inl (List.getElem?_eq_none (by omega))
  ·exact .inr (List.getElem?_eq_none (by omega))
end
end L2
namespace L2
open PySem PySem.Spec PyProof.Rows
section
variable {prog:Program} {w:World} {A:Around} {E:Value→Shared→Prop} {s:Shared}
open Builtin Builtin.Str in
theorem split_raw {x y:Str} {t u:Tok} {Q:Value→Shared→Prop} (hy:(y.length == 0)=false)
  (h:∀ l k,l.map (·.1)=Txt.split x y→Q (.ref s.heap.objs.size) { s with heap:=s.heap.push { cls:=.type "list",data:=.seq (strValues l).toArray },toks:=k }) (hsz:x.length + 2 ≤ sizeLine) :
  wpAny (model prog w) A (call (.builtin "str.split") [.str x t,.str y u]) Q E s:=by
 have hn:(partsBetween x (occurrences x y 0 x.length (x.length + 1)) y.length).length ≤ sizeLine:=by
  have e1:=StrLaws.occ_length_le x y 0 x.length (x.length + 1)
  rw [length_partsBetween]; omega
 cases h1:(decide (x.length < y.length) || decide (strKind x < strKind y))
 ·cases hf:(occurrences x y 0 x.length (x.length + 1)).isEmpty
  ·refine call_meets F.slot_str_split (typeIs_str _ _ _) F.entry_str_split (F.args_str_split_2 _ _) (meets_str_split_sep x y t u h1 hy hf (by omega) hn) ?_
   show wants Q E _ { s with toks:=_,heap:=s.heap.push { cls:=.type "list",data:=.seq (strsFrom s.toks (partsBetween x (occurrences x y 0 x.length (x.length + 1)) y.length)).toArray } }
   rw [strsFrom_eq]
   exact h (numbered s.toks _) _ ((numbered_texts _ _).trans ((if_neg (ne_true_of_eq_false h1)).trans (if_neg (ne_true_of_eq_false hf))).symm)
  ·exact call_meets F.slot_str_split (typeIs_str _ _ _) F.entry_str_split (F.args_str_split_2 _ _) (meets_str_split_not_found x y t u h1 hy hf)
    (h [(x,t)] s.toks ((if_neg (ne_true_of_eq_false h1)).trans (if_pos hf)).symm)
 ·exact call_meets F.slot_str_split (typeIs_str _ _ _) F.entry_str_split (F.args_str_split_2 _ _) (meets_str_split_cannot_occur x y t u h1)
   (h [(x,t)] s.toks (if_pos h1).symm)
end
theorem vals_strs:∀ l:List (Str × Tok),Vals ((l.map (·.1)).map V.str) (strValues l)
 | [] => .nil
 | p :: l => .cons ⟨_,rfl⟩ (vals_strs l)
open Builtin Builtin.Str in
theorem split_len (x y:Str):(Txt.split x y).length ≤ x.length + 2:=by
 unfold Txt.split
 split
 ·simp
 ·split
  ·simp
  ·have e1:=StrLaws.occ_length_le x y 0 x.length (x.length + 1)
   rw [length_partsBetween]; omega
theorem split_ne (x y:Str):Txt.split x y ≠ []:=by
 unfold Txt.split
 split
 ·simp
 ·split
  ·simp
  ·intro z
   have:=length_partsBetween x (Builtin.Str.occurrences x y 0 x.length (x.length + 1)) y.length
   rw [z] at this
   cases this
section
variable {X:Cx}
theorem mt_split:MtR X "str.split" (fun x vs H Q => ∃ z y:Str,x = .str z∧vs=[.str y]∧(y.length == 0)=false∧z.length ≤ 100000∧∀ l,H l=none→Q (.ref l) (upd H l (.lst ((Txt.split z y).map V.str)))):=by
 intro pins s σ H x xs v us Q I rx rv h
 obtain ⟨z,y,rfl,rfl,hy,hz,q⟩:=h
 obtain ⟨t,rfl⟩:=rx
 obtain ⟨u,rfl,ru⟩:=vals1 rv
 obtain ⟨t2,rfl⟩:=ru
 have big:100002 ≤ sizeLine:=by decide
 refine split_raw hy (fun l k e => ?_) (by omega)
 refine ⟨.ref s.heap.objs.size,_,I.laid (t':=k) (o:=.lst ((Txt.split z y).map V.str)) (fun b ob e => Heap.get?_push_of_some _ e) (Nat.le_refl _) ⟨?_,strValues l,0,?_,?_⟩,rfl,q _ (I.hok.fresh (Nat.le_refl _))⟩
 ·rw [List.length_map]
  have:=split_len z y
  omega
 ·rw [← e]
  exact vals_strs l
 ·exact Heap.get?_push_size _ rfl
theorem mt_starts:MtR X "str.startswith" (fun x vs H Q => ∃ z y:Str,x = .str z∧vs=[.str y]∧Q (.bl (Txt.startswith z y)) H):=by
 intro pins s σ H x xs v us Q I rx rv h
 obtain ⟨z,y,rfl,rfl,q⟩:=h
 obtain ⟨t,rfl⟩:=rx
 obtain ⟨u,rfl,ru⟩:=vals1 rv
 obtain ⟨t2,rfl⟩:=ru
 exact SC.startswith ⟨.bl _,H,I,rfl,q⟩
theorem call_int_text:CallR X (.type "int") (fun xs H Q => ∃ (z:Str) (n:Int),xs=[.str z]∧PySem.intText? z=some n∧z.length ≤ 640∧Q (.int n) H):=by
 intro pins s σ H xs us Q I r h
 obtain ⟨z,n,rfl,hn,hl,q⟩:=h
 obtain ⟨u,rfl,ru⟩:=vals1 r
 obtain ⟨t,rfl⟩:=ru
 exact PySem.W.KIN.call_text hn hl ⟨.int n,H,I.tok _,⟨_,rfl⟩,q⟩
end
end L2
namespace L2
open PySem PySem.Spec PyProof.Rows
def subS (z:Str) (a b:Nat):Str:=⟨((z.cps.toList.drop a).take (b - a)).toArray⟩
def ClipLo (lo:Option Int) (n a:Nat):Prop:=(lo=none∧a=0) ∨ ∃ k:Nat,lo=some (k:Int)∧a=min k n
def ClipHi (hi:Option Int) (n b:Nat):Prop:=(hi=none∧b=n) ∨ ∃ k:Nat,hi=some (k:Int)∧b=min k n
theorem clip_eq {lo hi:Option Int} {n a b:Nat} (h1:ClipLo lo n a) (h2:ClipHi hi n b):Builtin.Str.strSliceIndices lo hi 1 n=Builtin.Str.strSliceIndices (some (a:Int)) (some (b:Int)) 1 n:=by
 have an:a ≤ n:=by rcases h1 with ⟨_,rfl⟩ | ⟨k,_,rfl⟩ <;> omega
 have bn:b ≤ n:=by rcases h2 with ⟨_,rfl⟩ | ⟨k,_,rfl⟩ <;> omega
 have key:∀ k:Nat,(max 0 (min (if ((k:Int)) < 0 then (k:Int) + (n:Int) else (k:Int)) (n:Int)))=((min k n:Nat):Int):=fun k => by rw [if_neg (by omega)]; omega
 have ka:min a n=a:=by omega
 have kb:min b n=b:=by omega
 unfold Builtin.Str.strSliceIndices
 rcases h1 with ⟨rfl,rfl⟩ | ⟨k,rfl,rfl⟩ <;> rcases h2 with ⟨rfl,rfl⟩ | ⟨k2,rfl,rfl⟩ <;> simp only [gt_iff_lt,Int.zero_lt_one,Int.one_pos,if_true,key] <;> congr 1 <;> omega
def rSlS:V→Option Int→Option Int→Hp→VK→Prop:=fun x lo hi H Q => ∃ (z:Str) (a b:Nat),x = .str z∧ClipLo lo z.length a∧ClipHi hi z.length b∧a ≤ b∧z.length ≤ sizeLine∧Q (.str (subS z a b)) H
section
variable {X:Cx}
theorem sl_str:SlR X rSlS:=by
 intro pins s σ H x v vl vu lo hi sl Q I rx hs pl pu h
 obtain ⟨z,a,b,rfl,h1,h2,hab,hz,q⟩:=h
 obtain ⟨t,rfl⟩:=rx
 have bn:b ≤ z.length:=by rcases h2 with ⟨_,rfl⟩ | ⟨k,_,rfl⟩ <;> omega
 have fin:∀ (l u:Option (Int × Tok)),l.map (·.1)=lo→u.map (·.1)=hi→(sliceMade z t l u none).post (EP X pins σ Q) s:=fun l u el eu => by
  have e:slicePicked z l u none=Builtin.Str.strSliceIndices (some (a:Int)) (some (b:Int)) 1 z.length:=by
   show Builtin.Str.strSliceIndices (l.map (·.1)) (u.map (·.1)) 1 z.length=_
   rw [el,eu]
   exact clip_eq h1 h2
  have e2:(slicePicked z l u none).filterMap (z.cps[·]?)=(z.cps.toList.drop a).take (b - a):=by
   rw [e,StrLaws.sliced_plain z hab bn]
  have e3:(slicePicked z l u none).length=b - a:=by
   rw [e,StrLaws.strSliceIndices_plain hab bn]
   simp
  unfold sliceMade
  by_cases hl:b - a=z.length
  ·rw [if_pos (by rw [e3]; simp [hl])]
   refine ⟨.str z,H,I,⟨t,rfl⟩,?_⟩
   have ea:a=0:=by omega
   have eb:b=z.length:=by omega
   have:subS z a b=z:=by
    unfold subS
    rw [ea,eb,List.drop_zero,List.take_of_length_le (by simp [Str.length])]
   rw [this] at q
   exact q
  ·rw [if_neg (by rw [e3]; simpa using hl),e2]
   refine ⟨?_,.str _,H,I.tok _,⟨_,rfl⟩,q⟩
   show ((z.cps.toList.drop a).take (b - a)).toArray.size ≤ sizeLine
   have:z.cps.size ≤ sizeLine:=hz
   simp
   omega
 have hsl:∃ o,s.heap.get? sl=some o∧o.cls = .type "slice" ∧ o.data = .fields #[vl,vu,.none]:=by obtain ⟨o,ho,hc,hd⟩:=hs; exact ⟨o,ho,hc,hd⟩
 cases pl with
 | none =>
  cases pu with
  | none => exact ⟨"str",_,F.slot_str_getitem.lookup,typeIs_str _ _ _,wpAny_getItem_str_slice (l:=none) (u:=none) (st:=none) hsl rfl (fin none none rfl rfl)⟩
  | int i ti => exact ⟨"str",_,F.slot_str_getitem.lookup,typeIs_str _ _ _,wpAny_getItem_str_slice (l:=none) (u:=some (_,ti)) (st:=none) hsl rfl (fin none (some (_,ti)) rfl rfl)⟩
 | int i ti =>
  cases pu with
  | none => exact ⟨"str",_,F.slot_str_getitem.lookup,typeIs_str _ _ _,wpAny_getItem_str_slice (l:=some (_,ti)) (u:=none) (st:=none) hsl rfl (fin (some (_,ti)) none rfl rfl)⟩
  | int j tj => exact ⟨"str",_,F.slot_str_getitem.lookup,typeIs_str _ _ _,wpAny_getItem_str_slice (l:=some (_,ti)) (u:=some (_,tj)) (st:=none) hsl rfl (fin (some (_,ti)) (some (_,tj)) rfl rfl)⟩
def Itx (x:Str):It:=⟨fun i H => i < x.cps.size,fun i H v H' => H' = H∧∃ c,x.cps[i]? = some c∧v = .str ⟨#[c]⟩,fun i H => i=x.cps.size⟩
theorem turn_ascii {P:Program} {w:World} {K:PySem.W.Frag} {tg:Expr} (x:Str) (t:Tok) (it:Addr):Turn P w K tg (Itx x) [it] it (fun i h => h.IsStrIter it "str_ascii_iterator" x t i) where
 mem:=by simp
 obj:=fun i h st b hb => by
  have e:b=it:=by simpa using hb
  subst e
  obtain ⟨o,e,c,d⟩:=st
  exact ⟨o,e,fun v z => by rw [d] at z; cases z⟩
 keep:=fun i h h' st k => by
  obtain ⟨o,e,c,d⟩:=st
  exact ⟨o,k it (by simp) o e,c,d⟩
 item:=by
  intro X hP hw hK hc i pins s σ H E I hf st hg
  subst hP hw hK
  obtain ⟨f0,f1,f2,f3,f4,f5⟩:=hf it (by simp)
  have hlt:i < x.cps.size:=hg
  have hx:x.cps[i]? = some (x.cps[i]'hlt):=Array.getElem?_eq_getElem hlt
  refine wpAny_pyNext_ascii_item st hx fun h' st' sb => ?_
  have I1:Inv X pins σ H { s with heap:=h',toks:=s.toks + 1 }:=I.turned (t':=s.toks + 1) (fun b o hb e => (sb.2 b hb).trans e) f0 f1 f3 f4 f5
  obtain ⟨o,e,c,d⟩:=id st'
  exact ⟨_,rfl,go_of (s:={ s with heap:=h',toks:=s.toks + 1 }) e c d (by decide) ⟨.str _,H,I1,⟨_,rfl⟩,⟨rfl,_,hx,rfl⟩,st',fun b hb => (hf b hb).1⟩⟩
 done:=by
  intro X hP hw hK hc i pins s σ H E I hf st hg
  subst hP hw hK
  obtain ⟨f0,f1,f2,f3,f4,f5⟩:=hf it (by simp)
  exact wpAny_pyNext_ascii_end (I.ok.hd hc) st (by simp [show i=x.cps.size from hg]) fun h' eb => ⟨rfl,I.turned (t':=s.toks) (fun b o hb e => eb b o hb e) f0 f1 f3 f4 f5⟩
 self:=fun _ _ _ _ _ st h => wpAny_pyIter_striter_ascii st h
theorem turn_wide {P:Program} {w:World} {K:PySem.W.Frag} {tg:Expr} (x:Str) (t:Tok) (it:Addr):Turn P w K tg (Itx x) [it] it (fun i h => h.IsStrIter it "str_iterator" x t i) where
 mem:=by simp
 obj:=fun i h st b hb => by
  have e:b=it:=by simpa using hb
  subst e
  obtain ⟨o,e,c,d⟩:=st
  exact ⟨o,e,fun v z => by rw [d] at z; cases z⟩
 keep:=fun i h h' st k => by
  obtain ⟨o,e,c,d⟩:=st
  exact ⟨o,k it (by simp) o e,c,d⟩
 item:=by
  intro X hP hw hK hc i pins s σ H E I hf st hg
  subst hP hw hK
  obtain ⟨f0,f1,f2,f3,f4,f5⟩:=hf it (by simp)
  have hlt:i < x.cps.size:=hg
  have hx:x.cps[i]? = some (x.cps[i]'hlt):=Array.getElem?_eq_getElem hlt
  refine wpAny_pyNext_wide_item st hx fun h' st' sb => ?_
  have I1:Inv X pins σ H { s with heap:=h',toks:=s.toks + 1 }:=I.turned (t':=s.toks + 1) (fun b o hb e => (sb.2 b hb).trans e) f0 f1 f3 f4 f5
  obtain ⟨o,e,c,d⟩:=id st'
  exact ⟨_,rfl,go_of (s:={ s with heap:=h',toks:=s.toks + 1 }) e c d (by decide) ⟨.str _,H,I1,⟨_,rfl⟩,⟨rfl,_,hx,rfl⟩,st',fun b hb => (hf b hb).1⟩⟩
 done:=by
  intro X hP hw hK hc i pins s σ H E I hf st hg
  subst hP hw hK
  obtain ⟨f0,f1,f2,f3,f4,f5⟩:=hf it (by simp)
  exact wpAny_pyNext_wide_end (I.ok.hd hc) st (by simp [show i=x.cps.size from hg]) fun h' eb => ⟨rfl,I.turned (t':=s.toks) (fun b o hb e => eb b o hb e) f0 f1 f3 f4 f5⟩
 self:=fun _ _ _ _ _ st h => wpAny_pyIter_striter_wide st h
def iStr (ta:TE):TI:=fun σ H R => ta σ H fun x H1 => ∃ z,x = .str z∧R (Itx z) H1
theorem pi_str {tg l:Expr} {tl:TE} (hl:PE X l tl):PI X tg l (iStr tl):=by
 intro pins s σ H R I h
 refine thn (hl pins s σ H _ I h) fun v s1 ⟨x,H1,I1,r1,z,e,q⟩ => ?_
 subst e
 obtain ⟨t,rfl⟩:=r1
 have fo:∀ b ∈ [s1.heap.objs.size],_:=fun b hb => by
  have e:b=s1.heap.objs.size:=by simpa using hb
  subst e
  exact I1.fpOk (Nat.le_refl _) (I1.hok.fresh (Nat.le_refl _))
 cases ha:z.cps.all (· < 128)
 ·refine wpAny_pyIter_wide ha ?_
  exact ⟨s1.heap.objs.size,[s1.heap.objs.size],_,_,H1,rfl,I1.kept (t':=s1.toks) fun b o e => Heap.get?_push_of_some _ e,turn_wide z t _,⟨_,Heap.get?_push_size _ rfl,rfl,rfl⟩,fo,q⟩
 ·refine wpAny_pyIter_ascii ha ?_
  exact ⟨s1.heap.objs.size,[s1.heap.objs.size],_,_,H1,rfl,I1.kept (t':=s1.toks) fun b o e => Heap.get?_push_of_some _ e,turn_ascii z t _,⟨_,Heap.get?_push_size _ rfl,rfl,rfl⟩,fo,q⟩
end
theorem compX {k:Nat} {x:Str} {g:TG} {tt:TT} {te:TE} {Q:VK} {σ:St} {H:Hp} (Pv:Nat→List V→Hp→Prop) (h0:Pv 0 [] H) (hb:x.cps.size ≤ 1000) (hz:∀ i ys H,Pv i ys H→ys.length ≤ i)
  (hs:∀ i c ys H (pre:St),pre.length=k→x.cps[i]? = some c→Pv i ys H→g (.str ⟨#[c]⟩) (pre ++ σ) H fun σ' H2 => (∃ pre' : St,σ' = pre' ++ σ∧pre'.length=k)∧tt σ' H2 fun ok H3 => if ok=true then te σ' H3 fun y H4 => Pv (i + 1) (ys ++ [y]) H4 else Pv (i + 1) ys H3) (hd:∀ ys H,Pv x.cps.size ys H→∀ D,H D=none→Q (.ref D) (upd H D (.lst ys))):CGo k (Itx x) g tt te Q σ H:=by
 refine ⟨fun i m ys H => m=x.cps.size - i∧i ≤ x.cps.size∧Pv i ys H,⟨x.cps.size,by simp,Nat.zero_le _,h0⟩,?_⟩
 rintro i m ys H ⟨rfl,hi,p⟩
 by_cases hlt:i < x.cps.size
 ·refine .inr ⟨hlt,Nat.lt_of_le_of_lt (hz i ys H p) (small1000 (by omega)),Pv (i + 1),fun zs H' p' => ⟨x.cps.size - (i + 1),by omega,rfl,hlt,p'⟩,fun v H' pre hp y => ?_⟩
  obtain ⟨rfl,c,hc,rfl⟩:=y
  exact hs i c ys _ pre hp hc p
 ·have e:i=x.cps.size:=by omega
  subst e
  exact .inl ⟨rfl,hd ys H p⟩
end L2
set_option maxHeartbeats 4000000
namespace L2
open PySem PySem.Spec PyProof.Rows
section
variable {X:Cx}
section
variable {prog:Program} {w:World} {A:Around} {R:Result→Shared→Prop} {s:Shared}
abbrev e2 (elt tg iter:Expr) (ifs:List Expr) (tg2 iter2:Expr) (ifs2:List Expr) (scope:Scope) (pos:PySem.Pos):Expr:=.ListComp elt [⟨tg,iter,ifs,0⟩,⟨tg2,iter2,ifs2,0⟩] scope pos
end
end
end L2
set_option maxHeartbeats 1000000
namespace L2
open PySem PySem.Spec PyProof.Rows
structure TB (t:SetTable) (led:Bool):Prop where
 led:t.led=led
 dum:t.dummies = #[]
 up:t.place.toList.Pairwise (· < ·)
theorem below_go {xs:Array Nat} (h:xs.toList.Pairwise (· < ·)) (j:Nat):∀ (fuel lo hi:Nat),hi ≤ xs.size→lo ≤ hi→hi - lo ≤ fuel→(∀ i,i < lo→xs.getD i 0 < j)→(∀ i,hi ≤ i→i < xs.size→j ≤ xs.getD i 0) →
  SetTable.below.go xs j fuel lo hi ≤ xs.size∧(∀ i,i < SetTable.below.go xs j fuel lo hi→xs.getD i 0 < j)∧(∀ i,SetTable.below.go xs j fuel lo hi ≤ i→i < xs.size→j ≤ xs.getD i 0):=by
 have inc:∀ a b,a ≤ b→b < xs.size→xs.getD a 0 ≤ xs.getD b 0:=fun a b hab hb => by
  rcases Nat.lt_or_eq_of_le hab with z | z
  ·have:=List.pairwise_iff_getElem.mp h a b (by simpa using Nat.lt_trans z hb) (by simpa using hb) z
   simp only [Array.getElem_toList] at this
   rw [Array.getD_eq_getD_getElem?,Array.getD_eq_getD_getElem?,Array.getElem?_eq_getElem (Nat.lt_trans z hb),Array.getElem?_eq_getElem hb]
   exact Nat.le_of_lt this
  ·rw [z]; exact Nat.le_refl _
 intro fuel
 induction fuel with
 | zero =>
  intro lo hi h1 h2 h3 h4 h5
  have e:lo=hi:=by omega
  subst e
  exact ⟨h1,h4,h5⟩
 | succ fuel ih =>
  intro lo hi h1 h2 h3 h4 h5
  unfold SetTable.below.go
  by_cases hlt:lo < hi
  ·rw [if_pos hlt]
   have hm:(lo + hi) / 2 < hi:=by omega
   have hm0:lo ≤ (lo + hi) / 2:=by omega
   have hms:(lo + hi) / 2 < xs.size:=by omega
   have eg:xs.getD ((lo + hi) / 2) j=xs.getD ((lo + hi) / 2) 0:=by
    rw [Array.getD_eq_getD_getElem?,Array.getD_eq_getD_getElem?,Array.getElem?_eq_getElem hms]; rfl
   dsimp only
   rw [eg]
   by_cases hc:xs.getD ((lo + hi) / 2) 0 < j
   ·rw [if_pos hc]
    refine ih _ _ h1 (by omega) (by omega) (fun i hi' => ?_) h5
    exact Nat.lt_of_le_of_lt (inc i _ (by omega) hms) hc
   ·rw [if_neg hc]
    refine ih _ _ (by omega) (by omega) (by omega) h4 (fun i hi' hs => ?_)
    exact Nat.le_trans (Nat.not_lt.mp hc) (inc _ i hi' hs)
  ·rw [if_neg hlt]
   have e:lo=hi:=by omega
   subst e
   exact ⟨h1,h4,h5⟩
theorem below_ok {xs:Array Nat} (h:xs.toList.Pairwise (· < ·)) (j:Nat):SetTable.below xs j ≤ xs.size∧(∀ i,i < SetTable.below xs j→xs.getD i 0 < j)∧(∀ i,SetTable.below xs j ≤ i→i < xs.size→j ≤ xs.getD i 0) :=
 below_go h j xs.size 0 xs.size (Nat.le_refl _) (Nat.zero_le _) (Nat.le_refl _) (fun i hi => by omega) (fun i h1 h2 => by omega)
theorem below_next {xs:Array Nat} (h:xs.toList.Pairwise (· < ·)) {i:Nat} (hi:i ≤ xs.size) {s:Nat} (hs:s=if i=0 then 0 else xs.getD (i - 1) 0 + 1):SetTable.below xs s=i:=by
 obtain ⟨b1,b2,b3⟩:=below_ok h s
 have lt:∀ a b,a < b→b < xs.size→xs.getD a 0 < xs.getD b 0:=fun a b hab hb => by
  have:=List.pairwise_iff_getElem.mp h a b (by simpa using Nat.lt_trans hab hb) (by simpa using hb) hab
  simp only [Array.getElem_toList] at this
  rw [Array.getD_eq_getD_getElem?,Array.getD_eq_getD_getElem?,Array.getElem?_eq_getElem (Nat.lt_trans hab hb),Array.getElem?_eq_getElem hb]
  exact this
 rcases Nat.lt_trichotomy (SetTable.below xs s) i with z | z | z
 ·exfalso
  have i0:i ≠ 0:=by omega
  rw [if_neg i0] at hs
  have h1:=b3 (i - 1) (by omega) (by omega)
  omega
 ·exact z
 ·exfalso
  have h1:=b2 i z
  by_cases i0:i=0
  ·rw [if_pos i0] at hs; omega
  ·rw [if_neg i0] at hs
   have h2:=lt (i - 1) i (by omega) (by omega)
   omega
theorem put_tb {t:SetTable} {led:Bool} (h:TB t led) {j:Nat} (he:t.slot j = .empty):TB (t.put j).1 led:=by
 have hd:SetTable.has t.dummies j=false:=by rw [h.dum]; rfl
 refine ⟨h.led,?_,?_⟩
 ·show (if SetTable.has t.dummies j=true then _ else t.dummies) = #[]
  rw [hd]
  exact h.dum
 ·show (SetTable.insertAt t.place (SetTable.below t.place j) j).toList.Pairwise (· < ·)
  rw [SetTable.toList_insertAt]
  obtain ⟨b1,b2,b3⟩:=below_ok h.up j
  have hne:t.place[SetTable.below t.place j]? ≠ some j:=fun z => by
   unfold SetTable.slot at he
   dsimp only at he
   rw [z] at he
   simp at he
  rw [List.pairwise_append]
  refine ⟨h.up.sublist (List.take_sublist _ _),?_,?_⟩
  ·rw [List.pairwise_cons]
   refine ⟨fun b hb => ?_,h.up.sublist (List.drop_sublist _ _)⟩
   obtain ⟨i,hi⟩:=List.mem_iff_getElem?.mp hb
   rw [List.getElem?_drop,Array.getElem?_toList] at hi
   obtain ⟨hlt,hg⟩:=Array.getElem?_eq_some_iff.mp hi
   have h1:=b3 _ (Nat.le_add_right _ i) hlt
   rw [Array.getD_eq_getD_getElem?,hi] at h1
   rcases Nat.lt_or_eq_of_le h1 with z | z
   ·exact z
   ·exfalso
    have z:j=b:=z
    cases i with
    | zero => exact hne (by rw [← z] at hi; simpa using hi)
    | succ i =>
     have hlt0:SetTable.below t.place j < t.place.size:=by omega
     have h2:=b3 _ (Nat.le_refl _) hlt0
     have h3:=List.pairwise_iff_getElem.mp h.up (SetTable.below t.place j) (SetTable.below t.place j + (i + 1)) (by simpa using hlt0) (by simpa using hlt) (by omega)
     simp only [Array.getElem_toList] at h3
     rw [Array.getD_eq_getD_getElem?,Array.getElem?_eq_getElem hlt0] at h2
     have h2:j ≤ t.place[SetTable.below t.place j]:=h2
     omega
  ·intro a ha b hb
   have haj:a < j:=by
    obtain ⟨i,hi⟩:=List.mem_iff_getElem?.mp ha
    rw [List.getElem?_take] at hi
    split at hi
    ·rename_i hir
     rw [Array.getElem?_toList] at hi
     have:=b2 i hir
     rw [Array.getD_eq_getD_getElem?,hi] at this
     exact this
    ·cases hi
   rcases List.mem_cons.mp hb with rfl | hb
   ·exact haj
   ·obtain ⟨i,hi⟩:=List.mem_iff_getElem?.mp hb
    rw [List.getElem?_drop,Array.getElem?_toList] at hi
    obtain ⟨hlt,hg⟩:=Array.getElem?_eq_some_iff.mp hi
    have h1:=b3 _ (Nat.le_add_right _ i) hlt
    rw [Array.getD_eq_getD_getElem?,hi] at h1
    exact Nat.lt_of_lt_of_le haj h1
theorem filter_fst {α β:Type} (f:α→Option β):∀ l:List α,((l.filterMap fun j => (f j).map (j,·)).map (·.1))=l.filter fun j => (f j).isSome
 | [] => rfl
 | a :: l => by
  cases h:f a with
  | none => simp [h,filter_fst f l]
  | some b => simp [h,filter_fst f l]
end L2
set_option maxHeartbeats 2000000
namespace L2
open PySem PySem.Spec PyProof.Rows
section
variable {prog:Program} {w:World} {A:Around} {E:Value→Shared→Prop} {s:Shared}
theorem stored_at {h:Heap} {a:Addr} {o:Obj} {es:Array (Int × Value)} {ep:Nat} {t:SetTable} (ho:h.get? a=some o) (hd:o.data = .set es ep t) (es' : Array (Int × Value)) (t' : SetTable) :
  (h.update a (Obj.putSet es' t')).get? a=some { o with data:=.set es' (ep + 1) t' }:=by
 have z:=Heap.get?_update_self (Obj.putSet es' t') ho (by rw [putSet_of es' t' hd]; rfl)
 rw [putSet_of es' t' hd] at z
 exact z
end
end L2
set_option maxHeartbeats 4000000
namespace L2
open PySem PySem.Spec PyProof.Rows
def ddStep (acc:List Int) (k:Int):List Int:=if k ∈ acc then acc else acc ++ [k]
def dd (ns:List Int):List Int:=ns.foldl ddStep []
section
variable {prog:Program} {w:World} {A:Around} {E:Value→Shared→Prop} {s:Shared}
theorem set_new_j (a:Value) {Q1:Value→Shared→Prop} (h:Q1 (.ref s.heap.objs.size) { s with heap:=s.heap.push { cls:=.type "set",dict:=none,data:=.set #[] 0 (.fresh 0 0 (!w.params.followText "set-order")) } }) :
  codeAny (model prog w) A (.call (.builtin "set.__new__") ⟨[.type "set",a],[]⟩) (wants Q1 E) s:=by
 refine codeAny_of_tree ?_
 show wpAny _ A.in1 (do checkBuiltinCall "set.__new__" ⟨[.type "set",a],[]⟩; again (.builtin "set.__new__" ⟨[.type "set",a],[]⟩)) _ _ s
 refine wpAny_bind (wpAny_of_eq (PySem.F.newCall_set_1 a) (wpAny_pure ⟨plainId_quiet PySem.F.plain_set_new _,codeAny_builtin PySem.F.entry_set_new ?_⟩))
 rw [Around.under_plainId PySem.F.plain_set_new _]
 unfold Builtin.«set.__new__» Builtin.Frozenset.newClass
 have hsub:=sub_set_self
 obtain ⟨hp,g,d,tk,os⟩:=s
 dsimp only
 wp_walk
 refine wpAny_askSetting (wpAny_pure ?_)
 dsimp only
 simp only [newObj]
 exact wpAny_bind (wpAny_alloc (wpAny_pure (wpAny_pure h)))
end
end L2
namespace L2
open PySem PySem.Spec PyProof.Rows
theorem sti_owner:Manifest.owners.lookup (String.ofList ['r','o','t','a','r','e','t','i','_','t','e','s'].reverse)=some Manifest.sig_set_iterator:=by kernel_rfl
theorem sti_next:Slot "set_iterator" "__next__" "set_iterator.__next__" := .of (owner := "set_iterator") (n := "__next__") (by rw [typeLookup_type,builtinLookup_eq_fast]; kernel_rfl) (by decide +kernel) (by decide +kernel) (by decide +kernel) (by first | exact .inl (by decide +kernel) | exact .inr (by decide +kernel)) (by rw [isSubtype_type]; kernel_rfl)
theorem sti_entry:entryFor table "set_iterator.__next__" = some Builtin.«set_iterator.__next__»:=entryFor_of_tree (by kernel_rfl)
theorem sti_args (a:Value):argsOk "set_iterator.__next__" ⟨[a],[]⟩:=by
 unfold argsOk
 rw [signature?_of (id := "set_iterator.__next__") (n:=['_','_','t','x','e','n','_','_']) (o:=['r','o','t','a','r','e','t','i','_','t','e','s']) (by kernel_rfl) sti_owner]
 kernel_rfl
theorem sti_iter:Slot "set_iterator" "__iter__" "set_iterator.__iter__" := .of (owner := "set_iterator") (n := "__iter__") (by rw [typeLookup_type,builtinLookup_eq_fast]; kernel_rfl) (by decide +kernel) (by decide +kernel) (by decide +kernel) (by first | exact .inl (by decide +kernel) | exact .inr (by decide +kernel)) (by rw [isSubtype_type]; kernel_rfl)
theorem sti_iargs (a:Value):argsOk "set_iterator.__iter__" ⟨[a],[]⟩:=by
 unfold argsOk
 rw [signature?_of (id := "set_iterator.__iter__") (n:=['_','_','r','e','t','i','_','_']) (o:=['r','o','t','a','r','e','t','i','_','t','e','s']) (by kernel_rfl) sti_owner]
 kernel_rfl
theorem sti_ientry:entryFor table "set_iterator.__iter__" = some Builtin.«dict_keyiterator.__iter__» :=
 entryFor_alias (id' := "dict_keyiterator.__iter__") (by kernel_rfl) (by first | rfl | decide +kernel | (unfold String.splitOn; simp +decide [String.splitOnAux])) (by decide +kernel) (by kernel_rfl)
theorem st_ientry:entryFor table "set.__iter__" = some Builtin.«frozenset.__iter__»:=entryFor_alias (id' := "frozenset.__iter__") (by kernel_rfl) rfl (by decide +kernel) (by kernel_rfl)
theorem erase_perm {α:Type} : ∀ {l:List α} {i:Nat} (hi:i < l.length),(l[i] :: l.eraseIdx i).Perm l
 | [],i,hi => by simp at hi
 | a :: l,0,hi => .refl _
 | a :: l,i + 1,hi => by
  have hi' : i < l.length:=by simpa using hi
  have:=erase_perm hi'
  show (l[i] :: a :: l.eraseIdx i).Perm (a :: l)
  exact (List.Perm.swap ..).trans (this.cons a)
section
variable {prog:Program} {w:World} {A:Around} {E:Value→Shared→Prop} {s:Shared}
theorem choose_any {src:Source} {n:Nat} {Q:Nat→Shared→Prop} (hn:n ≠ 0) (h:∀ i d',i < n→Q i { s with drawn:=d' }):wpAny (model prog w) A (choose src n) Q E s:=fun Γ p _ => by
 show Sem.wp _ _ (.choose src n .pure) _ _ _ _
 rw [Sem.wp]
 refine ⟨hn,?_⟩
 rw [Sem.wp]
 exact h _ _ (Nat.mod_lt _ (by omega))
theorem drawOrder_perm {α:Type} : ∀ (n:Nat) (xs:List α) (s:Shared) {Q:List α→Shared→Prop},xs.length=n→(∀ ys d',ys.Perm xs→Q ys { s with drawn:=d' })→wpAny (model prog w) A (drawOrder n xs) Q E s
 | 0,xs,s,Q,hl,h => by
  have:xs=[]:=List.eq_nil_of_length_eq_zero hl
  subst this
  unfold drawOrder
  exact wpAny_pure (h [] s.drawn (.refl _))
 | n + 1,[],s,Q,hl,h => by simp at hl
 | n + 1,x :: xs,s,Q,hl,h => by
  unfold drawOrder
  refine wpAny_bind (choose_any (by simp) fun i d' hi => ?_)
  have e:(x :: xs)[i]? = some (x :: xs)[i]:=List.getElem?_eq_getElem hi
  rw [e]
  dsimp only
  refine wpAny_bind (drawOrder_perm n _ _ (by rw [List.length_eraseIdx_of_lt hi]; omega) fun ys d2 hp => wpAny_pure (h _ d2 ?_))
  have hq:((x :: xs)[i] :: (x :: xs).eraseIdx i).Perm (x :: xs):=(erase_perm hi)
  exact (hp.cons _).trans hq
end
theorem pick_go {α:Type} (next:Nat→Nat):∀ (fuel k:Nat) (left:List α) (out:Array α),left.length=fuel→(pickOrder.go next fuel k left out).toList.Perm (out.toList ++ left)
 | 0,k,left,out,h => by
  have:left=[]:=List.eq_nil_of_length_eq_zero h
  subst this
  unfold pickOrder.go
  simp
 | fuel + 1,k,left,out,h => by
  unfold pickOrder.go
  have hi:next k % left.length < left.length:=Nat.mod_lt _ (by omega)
  rw [List.getElem?_eq_getElem hi]
  dsimp only
  refine (pick_go next fuel (k + 1) _ _ (by rw [List.length_eraseIdx_of_lt hi]; omega)).trans ?_
  rw [Array.toList_push,List.append_assoc]
  exact (erase_perm hi).append_left _
theorem pick_perm {α:Type} (next:Nat→Nat) (xs:Array α):(pickOrder next xs).toList.Perm xs.toList:=by
 unfold pickOrder
 have:=pick_go next xs.size 0 xs.toList #[] (by simp)
 simpa using this
end L2
namespace L2
open PySem PySem.Spec PyProof.Rows
def setIt (S:Addr) (first:Value) (i n ep:Nat):Obj:={ cls:=.type "set_iterator",data:=.fields #[first,rawInt i,.ref S,rawInt n,rawInt ep] }
structure Order (w:World) (S:Addr) (es:Array (Int × Value)) (ep:Nat) (t:SetTable) (T:Addr) where
 ord:List Value
 first:Nat→Value
 tup:Option (Array Value)
 perm:ord.Perm (es.toList.map (·.2))
 how:(w.params.followText "set-order" = true∧tup=none∧(∀ i,first i=rawInt 0)∧ord=(pickOrder (w.params.setOrder S ep) es).toList.map (·.2)) ∨
  (w.params.followText "set-order" = false∧(!t.plain && decide (es.size > 1))=false∧tup=none∧(∀ i,first i=rawInt ((if i=0 then 0 else t.place.getD (i - 1) 0 + 1:Nat):Int))∧ord=es.toList.map (·.2)) ∨
  (w.params.followText "set-order" = false∧∃ ps:List Nat,tup=some (ps.map fun (i:Nat) => rawInt i).toArray∧ps.Perm (List.range es.size)∧(∀ i,first i = .ref T)∧ord=ps.filterMap fun i => (es[i]?).map (·.2))
def StI (S I T:Addr) (o:Obj) (n ep:Nat) (first:Nat→Value) (tup:Option (Array Value)) (i:Nat) (h:Heap):Prop :=
 h.get? S=some o∧h.get? I=some (setIt S (first i) i n ep)∧∀ ps,tup=some ps→h.get? T=some { cls:=.type "tuple",data:=.seq ps }
section
variable {prog:Program} {w:World} {A:Around} {E:Value→Shared→Prop} {s:Shared} {S I T:Addr} {o:Obj} {es:Array (Int × Value)} {ep:Nat} {t:SetTable}
theorem setNext_j {slot given:Nat} {Q:Option (Value × Nat)→Shared→Prop} (O:Order w S es ep t T) (hnt:O.tup=none) (ho:s.heap.get? S=some o) (hd:o.data = .set es ep t) (hf:t.fits es.size=true) (tb:TB t (!w.params.followText "set-order"))
  (hsl:O.first given=rawInt slot) (hg:given ≤ es.size)
  (h:∀ x,O.ord[given]? = some x→∀ nx:Nat,O.first (given + 1)=rawInt nx→Q (some (x,nx)) s) (h2:O.ord[given]? = none→Q none s):wpAny (model prog w) A (setNext S slot given ep) Q E s:=by
 unfold setNext
 refine wpAny_bind (wpAny_setState_of ho hd hf ?_)
 dsimp only
 unfold setsByText
 refine wpAny_bind (wpAny_bind (wpAny_askSetting (wpAny_pure ?_)))
 show wpAny _ _ (if w.params.followText "set-order" = true then _ else _) _ _ _
 rcases O.how with ⟨bt,_,hfi,hor⟩ | ⟨bt,dr,_,hfi,hor⟩ | ⟨bt,ps,ht,_⟩
 ·rw [if_pos bt,if_neg (by simp)]
  have e0:slot=0:=by
   have:=hfi given
   rw [hsl] at this
   simp [rawInt] at this
   omega
  subst e0
  refine wpAny_bind ?_
  unfold setWalk
  refine wpAny_bind (wpAny_setState_of ho hd hf ?_)
  dsimp only
  unfold setsByText
  refine wpAny_bind (wpAny_bind (wpAny_askSetting (wpAny_pure ?_)))
  show wpAny _ _ (if w.params.followText "set-order" = true then _ else _) _ _ _
  rw [if_pos bt]
  refine wpAny_bind (wpAny_askSetting (wpAny_pure (wpAny_pure ?_)))
  show Q (Option.map (fun e => (e.snd,0)) (pickOrder (w.params.setOrder S ep) es)[given]?) s
  have eo:O.ord[given]? = Option.map (·.2) (pickOrder (w.params.setOrder S ep) es)[given]?:=by rw [hor,List.getElem?_map,Array.getElem?_toList]
  cases hp:(pickOrder (w.params.setOrder S ep) es)[given]? with
  | none => rw [hp] at eo; exact h2 eo
  | some x => rw [hp] at eo; exact h _ eo 0 (hfi _)
 ·rw [if_neg (by rw [bt]; decide)]
  show wpAny _ _ (if (!t.plain && decide (es.size > 1))=true then _ else _) _ _ _
  rw [if_neg (by rw [dr]; decide)]
  have hled:t.led=true:=by rw [tb.led,bt]; rfl
  refine wpAny_bind ?_
  show wpAny _ _ (if (!t.led && !es.isEmpty)=true then _ else _) _ _ _
  rw [if_neg (by rw [hled]; simp)]
  refine wpAny_pure (wpAny_pure ?_)
  have psz:t.place.size=es.size:=by
   unfold SetTable.fits at hf
   simp at hf
   exact hf.1
  have hs2:slot=if given=0 then 0 else t.place.getD (given - 1) 0 + 1:=by
   have z:=hfi given
   rw [hsl] at z
   exact Int.ofNat.inj (Value.int.inj z).1
  have hbl:SetTable.below t.place slot=given:=below_next tb.up (by omega) hs2
  rw [hbl]
  have eo:O.ord[given]? = Option.map (·.2) es[given]?:=by rw [hor,List.getElem?_map,Array.getElem?_toList]
  by_cases hlt:given < es.size
  ·rw [Array.getElem?_eq_getElem hlt] at eo ⊢
   rw [Array.getElem?_eq_getElem (by omega:given < t.place.size)]
   refine h _ eo _ ?_
   rw [hfi]
   simp only [Nat.add_one_sub_one,Nat.add_eq_zero_iff,Nat.one_ne_zero,and_false,if_false]
   rw [Array.getD_eq_getD_getElem?,Array.getElem?_eq_getElem (by omega:given < t.place.size)]
   rfl
  ·rw [Array.getElem?_eq_none (by omega)] at eo ⊢
   exact h2 eo
 ·rw [hnt] at ht; cases ht
theorem stop_j {α:Type} {R:α→Shared→Prop} {Ex:Value→Shared→Prop} (hh:A.handled=none) (h:∀ e h',(∀ b ob,s.heap.get? b=some ob→h'.get? b=some ob)→(∃ ob,h'.get? e=some ob∧ob.cls = .type "StopIteration")→Ex (.ref e) { s with heap:=h' }) :
  wpAny (model prog w) A (newExc (.type "StopIteration") [] >>= fun e => (raiseNew e:Sem α)) R Ex s:=by
 refine wpAny_bind ?_
 simp only [newExc,newTuple]
 refine wpAny_bind (wpAny_newObj_type ?_ (by size_fits))
 refine wpAny_bind (m:=firstArgMember _ _) (wpAny_of_eq (a:=Value.none) (by first | rfl | (simp only [firstArgMember]; rfl)) ?_)
 refine wpAny_newObj_type ?_ (by size_fits)
 simp only [raiseNew]
 refine wpAny_bind (wpAny_handled ?_)
 rw [hh]
 exact wpAny_bind (wpAny_pure (wpAny_throw (h _ _ (fun b ob z => Heap.get?_push_of_some _ (Heap.get?_push_of_some _ z)) ⟨_,Heap.get?_push_size _ rfl,rfl⟩)))
theorem next_j (O:Order w S es ep t T) (hIS:I ≠ S) (hIT:I ≠ T) (hh:A.handled=none) (hd:o.data = .set es ep t) (hf:t.fits es.size=true) (tb:TB t (!w.params.followText "set-order")) {i:Nat} (hi:i ≤ es.size)
  (st:StI S I T o es.size ep O.first O.tup i s.heap) {Q:Option Value→Shared→Prop}
  (h:∀ x h',O.ord[i]? = some x→StI S I T o es.size ep O.first O.tup (i + 1) h'→(∀ b ob,b ≠ I→s.heap.get? b=some ob→h'.get? b=some ob)→Q (some x) { s with heap:=h' })
  (h2:∀ h',O.ord[i]? = none→(∀ b ob,b ≠ I→s.heap.get? b=some ob→h'.get? b=some ob)→Q none { s with heap:=h' }):wpAny (model prog w) A (pyNext (.ref I)) Q E s:=by
 obtain ⟨ho,hit,htp⟩:=st
 have hT:s.TypeIs (.ref I) "set_iterator" := ⟨_,hit,rfl⟩
 unfold pyNext
 refine wpAny_bind (wpAny_attempt (wpAny_callSpecial?_slot (name:=Str.ofString "__next__") hT sti_next (wpAny_call_entry sti_next hT sti_entry ?_ (sti_args _))))
 unfold Builtin.«set_iterator.__next__»
 refine wpAny_bind (wpAny_of_eq (a:=(Value.ref I,[])) rfl ?_)
 try dsimp only
 refine wpAny_bind (wpAny_fieldsOf hit rfl ?_)
 show wpAny _ _ (setEntries S >>= _) _ _ _
 refine wpAny_bind (wpAny_setEntries_of ho hd hf ?_)
 show wpAny _ _ (if (((es.size:Nat):Int) != ((es.size:Nat):Int))=true then _ else _) _ _ _
 rw [if_neg (by simp)]
 cases hfst:O.tup with
 | none =>
  have hcase:∃ slot:Nat,O.first i=rawInt slot:=by
   rcases O.how with ⟨_,_,hfi,_⟩ | ⟨_,_,_,hfi,_⟩ | ⟨_,ps,ht,_⟩
   ·exact ⟨0,hfi i⟩
   ·exact ⟨_,hfi i⟩
   ·rw [hfst] at ht; cases ht
  obtain ⟨slot,hsl⟩:=hcase
  rw [hsl] at hit ⊢
  show wpAny _ _ (setNext S slot i ep >>= _) _ _ _
  refine wpAny_bind (setNext_j O hfst ho hd hf tb hsl hi (fun x hx nx hnx => ?_) (fun hx => ?_))
  ·show wpAny _ _ (setField (Value.ref I) 0 (rawInt nx) >>= fun _ => setField (Value.ref I) 1 (rawInt ((i:Int) + 1)) >>= fun _ => ret x) _ _ _
   refine wpAny_bind (wpAny_setField_rec hit (by simp) fun h1 e1 b1 => wpAny_bind (wpAny_setField_rec (s:={ s with heap:=h1 }) e1 (by simp) fun h3 e3 b3 => wpAny_pure ⟨_,rfl,wpAny_pure ?_⟩))
   have kp:∀ b ob,b ≠ I→s.heap.get? b=some ob→h3.get? b=some ob:=fun b ob hb z => b3.extBut b ob hb (b1.extBut b ob hb z)
   refine h x h3 hx ⟨kp S _ (Ne.symm hIS) ho,?_,fun ps hp => by rw [hfst] at hp; cases hp⟩ kp
   rw [e3,hnx]
   simp [setIt]
  ·show wpAny _ _ (setField (Value.ref I) 2 Value.none >>= fun _ => newExc (Value.type "StopIteration") [] >>= fun e => raiseNew e) _ _ _
   refine wpAny_bind (wpAny_setField_rec hit (by simp) fun h1 e1 b1 => stop_j (s:={ s with heap:=h1 }) hh fun e h3 kp ⟨ob,hob,hc⟩ => ?_)
   refine wpAny_bind (wpAny_isInstance (T := "StopIteration") (b:=true) ⟨ob,hob,hc⟩ isSubtype_stop (wpAny_pure ?_))
   exact h2 h3 hx fun b ob hb z => kp b ob (b1.extBut b ob hb z)
 | some ps =>
  have hcase:O.first i = .ref T:=by
   rcases O.how with ⟨_,ht,_⟩ | ⟨_,_,ht,_⟩ | ⟨_,qs,ht,_,hfi,_⟩
   ·rw [hfst] at ht; cases ht
   ·rw [hfst] at ht; cases ht
   ·exact hfi i
  rw [hcase] at hit ⊢
  have hTo:=htp ps hfst
  obtain ⟨qs,eps,hqp,hfi,hor⟩:∃ qs:List Nat,ps=(qs.map fun (i:Nat) => rawInt i).toArray∧qs.Perm (List.range es.size)∧(∀ i,O.first i = .ref T)∧O.ord=qs.filterMap fun i => (es[i]?).map (·.2):=by
   rcases O.how with ⟨_,ht,_⟩ | ⟨_,_,ht,_⟩ | ⟨_,qs,ht,h3,h4,h5⟩
   ·rw [hfst] at ht; cases ht
   ·rw [hfst] at ht; cases ht
   ·rw [hfst] at ht; cases ht; exact ⟨qs,rfl,h3,h4,h5⟩
  have qin:∀ q ∈ qs,q < es.size:=fun q hq => List.mem_range.mp (hqp.mem_iff.mp hq)
  have ogt:∀ n:Nat,O.ord[n]? = (qs[n]?).bind fun q => (es[q]?).map (·.2):=by
   rw [hor]
   clear hor eps hqp hTo hfst
   induction qs with
   | nil => intro n; simp
   | cons q qs ih =>
    intro n
    have hq:=qin q List.mem_cons_self
    rw [List.filterMap_cons_some (b:=es[q].2) (by rw [Array.getElem?_eq_getElem hq]; rfl)]
    cases n with
    | zero => simp [Array.getElem?_eq_getElem hq]
    | succ n => simpa using ih (fun z hz => qin z (List.mem_cons_of_mem _ hz)) n
  show wpAny _ _ (seqItems? (Value.ref T) >>= _) _ _ _
  refine wpAny_bind (wpAny_seqItems hTo rfl ?_)
  have epi:ps[((i:Nat):Int).toNat]? = (qs[i]?).map fun (q:Nat) => rawInt q:=by rw [eps]; simp
  show wpAny _ _ (match ps[((i:Nat):Int).toNat]? with | some (Value.int place tok) => _ | some val => _ | none => _) _ _ _
  rw [epi]
  cases hqi:qs[i]? with
  | some q =>
   have hql:=qin q (List.mem_of_getElem? hqi)
   show wpAny _ _ (setNextDrawn S q ep >>= fun x => setField (Value.ref I) 1 (rawInt ((i:Int) + 1)) >>= fun _ => ret x) _ _ _
   refine wpAny_bind ?_
   unfold setNextDrawn
   refine wpAny_bind (wpAny_setState_of ho hd hf ?_)
   dsimp only
   rw [if_neg (by simp)]
   refine wpAny_bind (wpAny_pure ?_)
   rw [Array.getElem?_eq_getElem hql]
   refine wpAny_pure ?_
   show wpAny _ _ (setField (Value.ref I) 1 (rawInt ((i:Int) + 1)) >>= fun _ => ret es[q].2) _ _ _
   refine wpAny_bind (wpAny_setField_rec hit (by simp) fun h3 e3 b3 => wpAny_pure ⟨_,rfl,wpAny_pure ?_⟩)
   refine h _ h3 (by rw [ogt,hqi]; simp [Array.getElem?_eq_getElem hql]) ⟨b3.extBut S _ (Ne.symm hIS) ho,?_,fun qs' hp => b3.extBut T _ (Ne.symm hIT) (htp qs' hp)⟩ fun b ob hb z => b3.extBut b ob hb z
   rw [e3,hfi]
   simp [setIt]
  | none =>
   show wpAny _ _ (setField (Value.ref I) 0 (rawInt 0) >>= fun _ => setField (Value.ref I) 2 Value.none >>= fun _ => newExc (Value.type "StopIteration") [] >>= fun e => raiseNew e) _ _ _
   refine wpAny_bind (wpAny_setField_rec hit (by simp) fun h0 e0 b0 => wpAny_bind (wpAny_setField_rec (s:={ s with heap:=h0 }) e0 (by simp) fun h1 e1 b1 => stop_j (s:={ s with heap:=h1 }) hh fun e h3 kp ⟨ob,hob,hc⟩ => ?_))
   refine wpAny_bind (wpAny_isInstance (T := "StopIteration") (b:=true) ⟨ob,hob,hc⟩ isSubtype_stop (wpAny_pure ?_))
   exact h2 h3 (by rw [ogt,hqi]; rfl) fun b ob hb z => kp b ob (b1.extBut b ob hb (b0.extBut b ob hb z))
theorem order_len (O:Order w S es ep t T):O.ord.length=es.size:=by rw [O.perm.length_eq]; simp
theorem walks_j (O:Order w S es ep t T) (hIS:I ≠ S) (hIT:I ≠ T) (hh:A.handled=none) (hd:o.data = .set es ep t) (hf:t.fits es.size=true) (tb:TB t (!w.params.followText "set-order")) :
  Walks prog w A I [I,S,T] [I] es.size (fun i v => O.ord[i]? = some v) (fun i h => i ≤ es.size∧StI S I T o es.size ep O.first O.tup i h) where
 sub:=fun b hb => by rw [List.mem_singleton.mp hb]; simp
 frame:=fun i h h' x k => ⟨x.1,k S (by simp) _ x.2.1,k I (by simp) _ x.2.2.1,fun ps hp => k T (by simp) _ (x.2.2.2 ps hp)⟩
 item:=fun i s Q E hi x hQ => next_j O hIS hIT hh hd hf tb x.1 x.2 (fun v h' hv st kp => hQ v h' s.toks hv ⟨hi,st⟩ fun b ob hb z => kp b ob (by simpa using hb) z) (fun h' hn _ => by
  rw [List.getElem?_eq_none_iff,order_len O] at hn
  omega)
 done:=fun s Q E x hQ => next_j O hIS hIT hh hd hf tb x.1 x.2 (fun v h' hv _ _ => by
  have:=(List.getElem?_eq_some_iff.mp hv).1
  rw [order_len O] at this
  omega) (fun h' _ kp => hQ h' s.toks fun b ob hb z => kp b ob (by simpa using hb) z)
 self:=fun i s Q E x hQ => by
  have hT:s.TypeIs (.ref I) "set_iterator" := ⟨_,x.2.2.1,rfl⟩
  refine wpAny_pyIter_slot hT sti_iter (wpAny_call_entry sti_iter hT sti_ientry ?_ (sti_iargs _))
  show wpAny _ _ (ret (.ref I)) _ _ s
  exact wpAny_pure ⟨_,rfl, "set_iterator",_,hT,sti_next.lookup,hQ⟩
end
end L2
namespace L2
open PySem PySem.Spec PyProof.Rows
section
variable {prog:Program} {w:World} {A:Around} {E:Value→Shared→Prop} {s:Shared} {S I T:Addr} {o:Obj} {es:Array (Int × Value)} {ep:Nat} {t:SetTable}
theorem iter_j {Q:Value→Shared→Prop} (ho:s.heap.get? S=some o) (hx:o.ExactSet) (hd:o.data = .set es ep t) (hf:t.fits es.size=true) (hb:es.size < scanBound)
  (h:∀ (T I:Addr) (O:Order w S es ep t T) h' d',I ≠ S→I ≠ T→s.heap.objs.size ≤ I→(T=S ∨ s.heap.objs.size ≤ T)→StI S I T o es.size ep O.first O.tup 0 h'→(∀ b ob,s.heap.get? b=some ob→h'.get? b=some ob)→Q (.ref I) { s with heap:=h',drawn:=d' }) :
  wpAny (model prog w) A (pyIter (.ref S)) Q E s:=by
 have hT:s.TypeIs (.ref S) "set" := ⟨o,ho,hx.1⟩
 have hSl:S < s.heap.objs.size:=Heap.lt_size ho
 refine wpAny_pyIter_slot hT PySem.F.slot_set_iter (wpAny_call_entry PySem.F.slot_set_iter hT st_ientry ?_ (PySem.F.args_set_iter_1 _))
 unfold Builtin.«frozenset.__iter__» Builtin.Frozenset.slot0 slotArgs
 simp only [List.isEmpty_nil,Bool.not_true,Bool.false_eq_true,↓reduceIte,bind_assoc,List.length_nil,bne_self_eq_false]
 unfold Builtin.Frozenset.addrOf Builtin.Frozenset.sizeOf
 refine wpAny_bind (wpAny_pure ?_)
 try dsimp only
 refine wpAny_bind (wpAny_pure ?_)
 refine wpAny_bind (wpAny_bind (wpAny_setEntries_of ho hd hf (wpAny_pure ?_)))
 unfold setDrawn
 refine wpAny_bind (wpAny_bind (wpAny_setState_of ho hd hf ?_))
 dsimp only
 unfold setsByText
 refine wpAny_bind (wpAny_bind (wpAny_askSetting (wpAny_pure (wpAny_pure ?_))))
 show wpAny _ _ (if (!w.params.followText "set-order" && (!t.plain && decide (es.size > 1)))=true then _ else _) _ _ _
 have easy:∀ (O:Order w S es ep t S),O.tup=none→O.first 0=rawInt 0→wpAny (model prog w) A.in1 (do
   let first ← pure (rawInt 0)
   let e ← setEpoch S
   let z ← newFields "set_iterator" [first,rawInt 0,Value.ref S,rawInt es.size,rawInt e]
   ret z) (fun fin s' => ∃ v,fin=Fin.done (Flow.ret v)∧∃ T' r,s'.TypeIs v T'∧typeLookup (Value.type T') (Str.ofString "__next__")=pure (some r)∧Q v s') E s:=fun O ht hf0 => by
  refine wpAny_bind (wpAny_pure (wpAny_bind (wpAny_setEpoch_of ho hd hf ?_)))
  unfold newFields
  refine wpAny_bind (wpAny_newObj_type (wpAny_pure ⟨_,rfl, "set_iterator",_,⟨_,Heap.get?_push_size _ rfl,rfl⟩,sti_next.lookup,?_⟩))
  refine h S _ O _ s.drawn (Nat.ne_of_gt hSl) (Nat.ne_of_gt hSl) (Nat.le_refl _) (.inl rfl) ⟨Heap.get?_push_of_some _ ho,?_,fun ps hp => by rw [ht] at hp; cases hp⟩ (fun b ob z => Heap.get?_push_of_some _ z)
  rw [hf0]
  exact Heap.get?_push_size _ rfl
 cases bt:w.params.followText "set-order" with
 | true =>
  rw [if_neg (by simp)]
  exact easy ⟨_,fun _ => rawInt 0,none,(pick_perm _ es).map _,.inl ⟨bt,rfl,fun _ => rfl,rfl⟩⟩ rfl rfl
 | false =>
  cases dr:(!t.plain && decide (es.size > 1)) with
  | false =>
   rw [if_neg (by simp)]
   exact easy ⟨_,fun i => rawInt ((if i=0 then 0 else t.place.getD (i - 1) 0 + 1:Nat):Int),none,.refl _,.inr (.inl ⟨bt,dr,rfl,fun _ => rfl,rfl⟩)⟩ rfl rfl
  | true =>
   rw [if_pos (by simp)]
   refine wpAny_bind (drawOrder_perm es.size _ s (by simp) fun ps d' hp => ?_)
   refine wpAny_bind (wpAny_newTuple (wpAny_bind (wpAny_setEpoch_of (Heap.get?_push_of_some _ ho) hd hf ?_)) (hsz:=by rw [List.length_map,hp.length_eq,List.length_range]; exact fits_of_scanBound hb))
   unfold newFields
   refine wpAny_bind (wpAny_newObj_type (wpAny_pure ⟨_,rfl, "set_iterator",_,⟨_,Heap.get?_push_size _ rfl,rfl⟩,sti_next.lookup,?_⟩))
   have hpm:(ps.filterMap fun i => (es[i]?).map (·.2)).Perm (es.toList.map (·.2)):=by
    have e1:=hp.filterMap fun i => (es[i]?).map (·.2)
    have e2:(List.range es.size).filterMap (fun i => (es[i]?).map (·.2))=es.toList.map (·.2):=by
     rw [← List.map_filterMap,filterMap_getElem?_range]
    rw [e2] at e1
    exact e1
   refine h s.heap.objs.size _ ⟨_,fun _ => .ref s.heap.objs.size,some (ps.map fun (i:Nat) => rawInt i).toArray,hpm,.inr (.inr ⟨bt,ps,rfl,hp,fun _ => rfl,rfl⟩)⟩ _ d' ?_ ?_ ?_ (.inr (Nat.le_refl _)) ⟨Heap.get?_push_of_some _ (Heap.get?_push_of_some _ ho),Heap.get?_push_size _ rfl,fun qs hq => ?_⟩ (fun b ob z => Heap.get?_push_of_some _ (Heap.get?_push_of_some _ z))
   ·rw [Heap.size_push]; exact Nat.ne_of_gt (Nat.lt_succ_of_lt hSl)
   ·rw [Heap.size_push]; exact Nat.ne_of_gt (Nat.lt_succ_self _)
   ·rw [Heap.size_push]; exact Nat.le_succ _
   ·cases hq; exact Heap.get?_push_of_some _ (Heap.get?_push_size _ rfl)
theorem collect_set {R:List Value→Shared→Prop} (hh:A.handled=none) (ho:s.heap.get? S=some o) (hx:o.ExactSet) (hd:o.data = .set es ep t) (hf:t.fits es.size=true) (hb:es.size < scanBound) (tb:TB t (!w.params.followText "set-order"))
  (hR:∀ (vs:List Value) (h' : Heap) (tk:Nat) (d' : Drawn),vs.Perm (es.toList.map (·.2))→(∀ b ob,s.heap.get? b=some ob→h'.get? b=some ob)→R vs { s with heap:=h',toks:=tk,drawn:=d' }):wpAny (model prog w) A (collect (.ref S)) R E s:=by
 have hSl:S < s.heap.objs.size:=Heap.lt_size ho
 unfold collect
 refine wpAny_bind (wpAny_runValue (codeAny_builtin PySem.F.entry_proto_collect ?_))
 rw [Around.under_plainId PySem.F.plain_proto_collect _]
 show wpAny _ A.in1 (newList [] >>= fun q => again (.builtin "list.__iadd__" ⟨[q,.ref S],[]⟩)) _ _ s
 refine wpAny_bind (wpAny_newObj_type (wpAny_pure ⟨plainId_quiet PySem.F.plain_list_iadd _,codeAny_builtin PySem.F.entry_list_iadd ?_⟩))
 rw [Around.under_plainId PySem.F.plain_list_iadd _]
 have g2:(s.heap.push { cls:=.type "list",data:=.seq ([]:List Value).toArray }).get? s.heap.objs.size=some { cls:=.type "list",data:=.seq ([]:List Value).toArray }:=Heap.get?_push_size _ rfl
 have ho1:(s.heap.push { cls:=.type "list",data:=.seq ([]:List Value).toArray }).get? S=some o:=Heap.get?_push_of_some _ ho
 have g3:Builtin.List.listSameRef (.ref s.heap.objs.size) (.ref S)=false:=by simp [Builtin.List.listSameRef,Nat.ne_of_gt hSl]
 show wpAny _ A.in1 (Builtin.List.listExtendWith (.ref s.heap.objs.size) (.ref S) (.ref s.heap.objs.size)) _ _ _
 unfold Builtin.List.listExtendWith
 refine wpAny_bind (wpAny_typeOf (T := "set") ⟨o,ho1,hx.1⟩ ?_)
 rw [if_neg (by rw [g3]; decide)]
 refine wpAny_bind (iter_j ho1 hx hd hf hb fun T I O h1 d1 hIS hIT hIs hTs st kp => ?_)
 refine wpAny_bind (wpAny_holding ?_)
 unfold Builtin.List.listLengthHint
 refine wpAny_bind (wpAny_specialOf (T := "set") ⟨o,kp _ _ ho1,hx.1⟩ PySem.F.slot_set_len.lookup ?_)
 generalize hid:("set.__len__" : String)=id0
 wp_delta
 rw [show splitId id0=some ("set", "__len__") from by subst hid; decide +kernel]
 subst hid
 refine wpAny_bind (wpAny_isInstance (T := "set") (b:=true) ⟨o,kp _ _ ho1,hx.1⟩ (by rw [isSubtype_type]; kernel_rfl) ?_)
 refine wpAny_ite_split (fun z => absurd z (by decide)) (fun _ => ?_)
 refine wpAny_ite_split (fun _ => ?_) (fun z => absurd (by decide +kernel) z)
 refine wpAny_bind (wpAny_typeOf (T := "set") ⟨o,kp _ _ ho1,hx.1⟩ (wpAny_pure ?_))
 refine wpAny_ite_split (fun _ => ?_) (fun z => absurd (by decide +kernel) z)
 refine wpAny_bind (wpAny_rule (wpAny_bind ?_))
 have hIs' : s.heap.objs.size < I:=by rw [Heap.size_push] at hIs; exact hIs
 have hI0:I ≠ s.heap.objs.size:=Nat.ne_of_gt hIs'
 have hT0:T ≠ s.heap.objs.size:=by
  rcases hTs with z | z
  ·rw [z]; exact Nat.ne_of_lt hSl
  ·rw [Heap.size_push] at z; exact Nat.ne_of_gt z
 have hS0:S ≠ s.heap.objs.size:=Nat.ne_of_lt hSl
 have gl:=kp _ _ g2
 show wpAny _ _ (updateSeq s.heap.objs.size (·.push .none) >>= fun _ => updateSeq s.heap.objs.size (·.pop)) _ _ _
 refine wpAny_bind (wpAny_updateSeq gl rfl ?_)
 have gl2:=Heap.get?_update_self (Obj.mapSeq (·.push Value.none)) gl rfl
 refine wpAny_updateSeq (hz:=by seq_fits) gl2 rfl ?_
 have gl3:=Heap.get?_update_self (Obj.mapSeq (·.pop)) gl2 rfl
 have oth:∀ b ob,b ≠ s.heap.objs.size→h1.get? b=some ob→((h1.update s.heap.objs.size (Obj.mapSeq (·.push Value.none))).update s.heap.objs.size (Obj.mapSeq (·.pop))).get? b=some ob:=fun b ob hb z =>
  (Heap.get?_update_other _ _ (Ne.symm hb)).trans ((Heap.get?_update_other _ _ (Ne.symm hb)).trans z)
 have Wk:=(walks_j (prog:=prog) (A:=A.in1) O hIS hIT hh hd hf tb).toS
 refine wpAny_pure ⟨plainId_quiet PySem.F.plain_extend_loop _,codeAny_extend_loopS Wk (fits_of_scanBound hb) s.heap.objs.size (by simp [Ne.symm hI0,Ne.symm hT0,Ne.symm hS0]) _ es.size 0 _ #[] _ rfl (Nat.zero_le _)
  ⟨Nat.zero_le _,oth _ _ hS0 st.1,oth _ _ hI0 st.2.1,fun ps hp => oth _ _ hT0 (st.2.2 ps hp)⟩ gl3 (ItemsOf.nil _) fun s' acc' c' hm hS' hacc => ?_⟩
 show wpAny _ A (load s.heap.objs.size >>= _) _ _ s'
 refine wpAny_bind (wpAny_load hS' (wpAny_pure ?_))
 have ea:acc'.toList=O.ord:=by
  apply List.ext_getElem?
  intro i
  by_cases hi:i < es.size
  ·have hl:i < acc'.size:=by rw [hacc.1]; exact hi
   rw [Array.getElem?_toList,Array.getElem?_eq_getElem hl]
   exact (hacc.2 i _ (Array.getElem?_eq_getElem hl)).symm
  ·rw [List.getElem?_eq_none (by rw [Array.length_toList,hacc.1]; omega),List.getElem?_eq_none (by rw [order_len O]; omega)]
 rw [ea]
 have:=hR O.ord s'.heap s'.toks s'.drawn O.perm fun b ob z => ?_
 ·obtain ⟨h9,g9,d9,t9,o9⟩:=s'
  have eg:g9=s.gens:=hm.gens
  have eo:o9=s.os:=hm.os
  subst eg eo
  exact this
 ·have hb0:b < s.heap.objs.size:=Heap.lt_size z
  refine hm.heap b ob ?_ (oth b ob (Nat.ne_of_lt hb0) (kp b ob (Heap.get?_push_of_some _ z)))
  simp only [List.mem_cons,List.not_mem_nil,or_false,not_or]
  exact ⟨Nat.ne_of_lt hb0,Nat.ne_of_lt (Nat.lt_trans hb0 hIs')⟩
end
theorem Inv.keptD {X:Cx} {pins:List (Addr × Obj)} {σ:St} {H:Hp} {s:Shared} {h' : Heap} {t' : Nat} {d' : Drawn} (I:Inv X pins σ H s) (k:∀ b u,s.heap.get? b=some u→h'.get? b=some u):Inv X pins σ H { s with heap:=h',toks:=t',drawn:=d' } :=
 I.step (g':=s.gens) (d':=d') (ch:=[]) (fun _ z => nomatch z) (fun b o _ _ _ e _ => k b o e) (fun b o _ _ _ e _ => ⟨o.slots,k b o e⟩) (fun _ _ _ _ n => n) (fun b o _ e => ⟨o,k b o e⟩) (fun _ _ e => e) (fun _ _ _ e => e) (fun b ps e => ⟨#[],by rw [e]; simp⟩)
  (fun m hm => by obtain ⟨o,es,ep,ho,r⟩:=hm; exact ⟨o,es,ep,k _ o ho,r⟩) (I.hok.kept k) I.bare
theorem boot_set:bootBuiltins "set" = some (.type "set"):=by decide +kernel
theorem boot_sortedX:bootBuiltins "sorted" = some (.builtin "sorted"):=by decide +kernel
end L2
set_option maxHeartbeats 1000000
namespace L2
open PySem PySem.Spec PyProof.Rows
def RK (rk:Value→Int) (xs:Array Keyed) (i:Nat):Int:=match xs[i]? with
 | some p => rk p.1
 | none => 0
theorem RK_of {rk:Value→Int} {xs ys:Array Keyed} {i j:Nat} (h:xs[i]? = ys[j]?):RK rk xs i=RK rk ys j:=by unfold RK; rw [h]
theorem RK_bub {rk:Value→Int} {xs:Array Keyed} {a d:Nat} (ha:a < xs.size) (hd:d ≤ a) (k:Nat):RK rk (bubble xs a d) k=if k=a - d then RK rk xs a else if a - d < k∧k ≤ a then RK rk xs (k - 1) else RK rk xs k:=by
 have z:=getElem?_bubble ha d hd k
 split
 ·rename_i h; rw [if_pos h] at z; exact RK_of z
 ·rename_i h
  rw [if_neg h] at z
  split
  ·rename_i g; rw [if_pos g] at z; exact RK_of z
  ·rename_i g; rw [if_neg g] at z; exact RK_of z
theorem RK_mir {rk:Value→Int} {xs:Array Keyed} {a b:Nat} (hb:b ≤ xs.size) (k:Nat):RK rk (mirror xs a b ((b - a) / 2)) k=if a ≤ k∧k < b then RK rk xs (a + b - 1 - k) else RK rk xs k:=by
 have z:=getElem?_mirror_all (i:=a) hb k
 split
 ·rename_i h; rw [if_pos h] at z; exact RK_of z
 ·rename_i h; rw [if_neg h] at z; exact RK_of z
structure SB (k0:SortKind) (a0:Array Keyed) (st:SortSt):Prop where
 pm:(arrOf st).Perm a0
 kd:kindOf st=k0
 fl:failedOf st=none
 pn:pendingOf st = #[]
theorem SB.sz {k0:SortKind} {a0:Array Keyed} {st:SortSt} (b:SB k0 a0 st):(arrOf st).size=a0.size:=b.pm.size_eq
theorem SB.put {k0:SortKind} {a0 xs:Array Keyed} {st:SortSt} (b:SB k0 a0 st) (p:xs.Perm (arrOf st)):SB k0 a0 (setArr st xs):=⟨p.trans b.pm,b.kd,b.fl,b.pn⟩
def LtOk (prog:Program) (w:World) (A:Around) (s:Shared) (k0:SortKind) (a0:Array Keyed) (rk:Value→Int):Prop :=
 ∀ (E:Value→Shared→Prop) (x y:Keyed) (Q:Bool→Shared→Prop),x ∈ a0.toList→y ∈ a0.toList→Q (decide (rk x.1 < rk y.1)) s→wpAny (model prog w) A (keyLt' k0 x.1 y.1) Q E s
section
variable {prog:Program} {w:World} {A:Around} {E:Value→Shared→Prop} {s:Shared} {k0:SortKind} {a0:Array Keyed} {rk:Value→Int}
theorem SB.got {st:SortSt} (b:SB k0 a0 st) {i:Nat} (hi:i < a0.size):∃ x,(arrOf st)[i]? = some x∧x ∈ a0.toList∧RK rk (arrOf st) i=rk x.1:=by
 have hi' : i < (arrOf st).size:=by rw [b.sz]; exact hi
 have z:=Array.getElem?_eq_getElem hi'
 refine ⟨_,z,(Array.perm_iff_toList_perm.mp b.pm).subset (Array.getElem_mem_toList hi'),?_⟩
 unfold RK
 rw [z]
theorem lt_at (hL:LtOk prog w A s k0 a0 rk) {st:SortSt} (b:SB k0 a0 st) {i j:Nat} (hi:i < a0.size) (hj:j < a0.size) {Q:Option Bool→SortSt→Prop}
  (h:Q (some (decide (RK rk (arrOf st) i < RK rk (arrOf st) j))) st):wpS (model prog w) A E s (ltAt' i j) Q st:=by
 obtain ⟨x,ex,mx,rx⟩:=b.got (rk:=rk) hi
 obtain ⟨y,ey,my,ry⟩:=b.got (rk:=rk) hj
 rw [rx,ry] at h
 rw [ltAt'_eq]
 refine wpS_bind (wpS_get ?_)
 dsimp only
 rw [elem'_eq,elem'_eq,ex,ey]
 refine wpS_bind (wpS_pure (wpS_bind (wpS_pure ?_)))
 rw [lt'_eq]
 refine wpS_bind (wpS_get (wpS_bind (wpS_lift (wpAny_attempt ?_))))
 rw [b.kd]
 exact hL _ x y _ mx my ⟨rfl,wpS_pure h⟩
theorem asc_ok (hL:LtOk prog w A s k0 a0 rk) {st:SortSt} (b:SB k0 a0 st) {f m:Nat} (hm:m ≤ a0.size) (f1:1 ≤ f) (fm:f ≤ m) {Q:AscSt→SortSt→Prop} (up:∀ i j,i ≤ j→j < f→RK rk (arrOf st) i ≤ RK rk (arrOf st) j)
  (h:∀ n,f ≤ n→n ≤ m→(∀ i j,i ≤ j→j < n→RK rk (arrOf st) i ≤ RK rk (arrOf st) j)→(n=m ∨ RK rk (arrOf st) n < RK rk (arrOf st) (n - 1))→Q (none,n) st):wpS (model prog w) A E s (ascLoop f m) Q st:=by
 unfold ascLoop
 refine wpS_forRange (fun n c t => t=st∧c=(none,n)∧∀ i j,i ≤ j→j < n→RK rk (arrOf st) i ≤ RK rk (arrOf st) j) ?_ ?_ ⟨rfl,rfl,up⟩
 ·rintro n c t fn nm ⟨rfl,rfl,u⟩
  refine wpS_bind (lt_at hL b (by omega) (by omega) ?_)
  dsimp only
  by_cases z:RK rk (arrOf t) n < RK rk (arrOf t) (n - 1)
  ·rw [decide_eq_true z,if_pos rfl]
   exact wpS_pure (h n fn (by omega) u (.inr z))
  ·rw [decide_eq_false z,if_neg (by simp)]
   refine wpS_pure ⟨rfl,rfl,fun i j ij jn => ?_⟩
   rcases Nat.lt_or_eq_of_le (Nat.le_of_lt_succ jn) with q | rfl
   ·exact u i j ij q
   ·rcases Nat.lt_or_eq_of_le ij with q | rfl
    ·have:=u i (j - 1) (by omega) (by omega)
     omega
    ·exact Int.le_refl _
 ·rintro c t ⟨rfl,rfl,u⟩
  rw [Nat.max_eq_right fm] at u ⊢
  exact h m fm (Nat.le_refl _) u (.inl rfl)
theorem tail_ok (hL:LtOk prog w A s k0 a0 rk) {st:SortSt} (b:SB k0 a0 st) {n m:Nat} (hm:m ≤ a0.size) (n1:1 ≤ n) (nm:n ≤ m) {Q:Option Nat→SortSt→Prop} (dn:∀ i j,i ≤ j→j < n→RK rk (arrOf st) j ≤ RK rk (arrOf st) i)
  (h:∀ r t,SB k0 a0 t→1 ≤ r→r ≤ m→(∀ i j,i ≤ j→j < r→RK rk (arrOf t) i ≤ RK rk (arrOf t) j)→Q (some r) t):wpS (model prog w) A E s (tail3 n m) Q st:=by
 unfold tail3
 refine wpS_bind (wpS_reverse ?_)
 have b2:=b.put (mirror_perm (arrOf st) 0 n ((n - 0) / 2))
 have hn:n ≤ (arrOf st).size:=by rw [b.sz]; omega
 refine wpS_bind (asc_ok hL b2 hm n1 nm (fun i j ij jn => ?_) fun r nr rm u _ => wpS_pure (h r _ b2 (by omega) rm u))
 have z1:=RK_mir (rk:=rk) (xs:=arrOf st) (a:=0) hn i
 have z2:=RK_mir (rk:=rk) (xs:=arrOf st) (a:=0) hn j
 rw [if_pos ⟨Nat.zero_le _,by omega⟩] at z1
 rw [if_pos ⟨Nat.zero_le _,jn⟩] at z2
 have z3:=dn (0 + n - 1 - j) (0 + n - 1 - i) (by omega) (by omega)
 rw [← z1,← z2] at z3
 exact z3
theorem mir_same {xs:Array Keyed} {a b:Nat} (hb:b ≤ xs.size) (e:∀ i,a ≤ i→i < b→RK rk xs i=RK rk xs (b - 1)) (k:Nat):RK rk (mirror xs a b ((b - a) / 2)) k=RK rk xs k:=by
 rw [RK_mir hb]
 split
 ·rename_i h
  rw [e k h.1 h.2]
  exact e _ (by omega) (by omega)
 ·rfl
theorem desc_ok (hL:LtOk prog w A s k0 a0 rk) {st:SortSt} (b:SB k0 a0 st) {f m:Nat} (hm:m ≤ a0.size) (f1:1 ≤ f) (fm:f ≤ m) {Q:DescSt→SortSt→Prop} (dn:∀ i j,i ≤ j→j < f→RK rk (arrOf st) j ≤ RK rk (arrOf st) i)
  (h:∀ n q t,SB k0 a0 t→f ≤ n→n ≤ m→(∀ i j,i ≤ j→j < n→RK rk (arrOf t) j ≤ RK rk (arrOf t) i)→q + 1 ≤ n→(∀ i,n - (q + 1) ≤ i→i < n→RK rk (arrOf t) i=RK rk (arrOf t) (n - 1))→Q (none,n,q) t):wpS (model prog w) A E s (descLoop f m) Q st:=by
 unfold descLoop
 refine wpS_forRange (fun n c t => ∃ q,c=(none,n,q)∧SB k0 a0 t∧(∀ i j,i ≤ j→j < n→RK rk (arrOf t) j ≤ RK rk (arrOf t) i)∧q + 1 ≤ n∧∀ i,n - (q + 1) ≤ i→i < n→RK rk (arrOf t) i=RK rk (arrOf t) (n - 1)) ?_ ?_ ⟨0,rfl,b,dn,f1,fun i h1 h2 => by rw [show i=f - 1 by omega]⟩
 ·rintro n c t fn nm ⟨q,rfl,bt,d,qn,e⟩
  dsimp only
  refine wpS_bind (lt_at hL bt (by omega) (by omega) ?_)
  dsimp only
  have ext:∀ xs:Array Keyed,(∀ k,RK rk xs k=RK rk (arrOf t) k)→RK rk (arrOf t) n ≤ RK rk (arrOf t) (n - 1)→∀ i j,i ≤ j→j < n + 1→RK rk xs j ≤ RK rk xs i:=fun xs hx le i j ij jn => by
   rw [hx,hx]
   rcases Nat.lt_or_eq_of_le (Nat.le_of_lt_succ jn) with z | rfl
   ·exact d i j ij z
   ·rcases Nat.lt_or_eq_of_le ij with z | rfl
    ·have:=d i (j - 1) (by omega) (by omega)
     omega
    ·exact Int.le_refl _
  by_cases z:RK rk (arrOf t) n < RK rk (arrOf t) (n - 1)
  ·rw [decide_eq_true z,if_pos rfl]
   by_cases q0:q > 0
   ·rw [if_pos q0]
    have hn:n ≤ (arrOf t).size:=by rw [bt.sz]; omega
    exact wpS_bind (wpS_reverse (wpS_pure ⟨0,rfl,bt.put (mirror_perm _ _ _ _),ext _ (mir_same hn e) (Int.le_of_lt z),by omega,fun i h1 h2 => by rw [show i=n + 1 - 1 by omega]⟩))
   ·rw [if_neg q0]
    exact wpS_pure ⟨0,rfl,bt,ext _ (fun _ => rfl) (Int.le_of_lt z),by omega,fun i h1 h2 => by rw [show i=n + 1 - 1 by omega]⟩
  ·rw [decide_eq_false z,if_neg (by simp)]
   refine wpS_bind (lt_at hL bt (by omega) (by omega) ?_)
   dsimp only
   by_cases y:RK rk (arrOf t) (n - 1) < RK rk (arrOf t) n
   ·rw [decide_eq_true y,if_pos rfl]
    exact wpS_pure (h n q t bt fn (by omega) d qn e)
   ·rw [decide_eq_false y,if_neg (by simp)]
    have same:RK rk (arrOf t) n=RK rk (arrOf t) (n - 1):=by omega
    refine wpS_pure ⟨q + 1,rfl,bt,ext _ (fun _ => rfl) (by omega),by omega,fun i h1 h2 => ?_⟩
    rw [Nat.add_sub_cancel]
    rcases Nat.lt_or_eq_of_le (Nat.le_of_lt_succ h2) with x | rfl
    ·rw [same]; exact e i (by omega) x
    ·rfl
 ·rintro c t ⟨q,rfl,bt,d,qn,e⟩
  rw [Nat.max_eq_right fm] at d qn e ⊢
  exact h m q t bt fm (Nat.le_refl _) d qn e
theorem part_ok (hL:LtOk prog w A s k0 a0 rk) {st:SortSt} (b:SB k0 a0 st) {n m:Nat} (hm:m ≤ a0.size) (nm:n + 1 ≤ m) {Q:Option Nat→SortSt→Prop} (dn:∀ i j,i ≤ j→j < n + 1→RK rk (arrOf st) j ≤ RK rk (arrOf st) i)
  (h:∀ r t,SB k0 a0 t→1 ≤ r→r ≤ m→(∀ i j,i ≤ j→j < r→RK rk (arrOf t) i ≤ RK rk (arrOf t) j)→Q (some r) t):wpS (model prog w) A E s (descPart n m) Q st:=by
 unfold descPart
 refine wpS_bind (wpS_lift (wpAny_rule ⟨rfl,wpS_bind (desc_ok hL b hm (by omega) nm dn fun r q t bt nr rm d qr e => ?_)⟩))
 dsimp only
 by_cases q0:q > 0
 ·rw [if_pos q0]
  have hr:r ≤ (arrOf t).size:=by rw [bt.sz]; omega
  refine wpS_bind (wpS_reverse (tail_ok hL (bt.put (mirror_perm _ _ _ _)) hm (by omega) rm (fun i j ij jr => ?_) h))
  have z1:=mir_same hr e i
  have z2:=mir_same hr e j
  have z3:=d i j ij jr
  rw [← z1,← z2] at z3
  exact z3
 ·rw [if_neg q0]
  exact tail_ok hL bt hm (by omega) rm d h
theorem run_ok (hL:LtOk prog w A s k0 a0 rk) {st:SortSt} (b:SB k0 a0 st) {m:Nat} (hm:m ≤ a0.size) (m1:1 ≤ m) {Q:Option Nat→SortSt→Prop}
  (h:∀ r t,SB k0 a0 t→1 ≤ r→r ≤ m→(∀ i j,i ≤ j→j < r→RK rk (arrOf t) i ≤ RK rk (arrOf t) j)→Q (some r) t):wpS (model prog w) A E s (countRun' 0 m) Q st:=by
 rw [countRun0_eq]
 refine wpS_bind (asc_ok hL b hm (Nat.le_refl _) m1 (fun i j ij j1 => by rw [show i=j by omega]; exact Int.le_refl _) fun n n1 nm u z => ?_)
 dsimp only
 by_cases e:n=m
 ·rw [if_pos (by simpa using e)]
  exact wpS_pure (h n st b n1 nm u)
 ·rw [if_neg (by simpa using e)]
  have lt:=z.resolve_left e
  by_cases n2:n > 1
  ·rw [if_pos n2]
   refine wpS_bind (lt_at hL b (by omega) (by omega) ?_)
   dsimp only
   by_cases y:RK rk (arrOf st) 0 < RK rk (arrOf st) (n - 1)
   ·rw [decide_eq_true y,if_pos rfl]
    exact wpS_pure (h n st b n1 nm u)
   ·rw [decide_eq_false y,if_neg (by simp)]
    have hn:n ≤ (arrOf st).size:=by rw [b.sz]; omega
    have al:∀ i,0 ≤ i→i < n→RK rk (arrOf st) i=RK rk (arrOf st) (n - 1):=fun i _ hi => by
     have q1:=u 0 i (Nat.zero_le _) hi
     have q2:=u i (n - 1) (by omega) (by omega)
     omega
    refine wpS_bind (wpS_reverse (part_ok hL (b.put (mirror_perm _ _ _ _)) hm (by omega) (fun i j ij jn => ?_) h))
    have z1:=mir_same hn al i
    have z2:=mir_same hn al j
    have z3:RK rk (arrOf st) j ≤ RK rk (arrOf st) i:=by
     rcases Nat.lt_or_eq_of_le (Nat.le_of_lt_succ jn) with q | rfl
     ·rw [al i (Nat.zero_le _) (by omega),al j (Nat.zero_le _) q]; exact Int.le_refl _
     ·rcases Nat.lt_or_eq_of_le ij with q | rfl
      ·rw [al i (Nat.zero_le _) q]; omega
      ·exact Int.le_refl _
    rw [← z1,← z2] at z3
    exact z3
  ·rw [if_neg n2]
   have e1:n=1:=by omega
   subst e1
   refine part_ok hL b hm (by omega) (fun i j ij j2 => ?_) h
   rcases Nat.lt_or_eq_of_le ij with q | rfl
   ·rw [show i=0 by omega,show j=1 by omega]; exact Int.le_of_lt lt
   ·exact Int.le_refl _
theorem ins_ok (hL:LtOk prog w A s k0 a0 rk) {st:SortSt} (b:SB k0 a0 st) {m r:Nat} (hm:m ≤ a0.size) (rm:r ≤ m) {Q:Bool→SortSt→Prop} (up:∀ i j,i ≤ j→j < r→RK rk (arrOf st) i ≤ RK rk (arrOf st) j)
  (h:∀ t,SB k0 a0 t→(∀ i j,i ≤ j→j < m→RK rk (arrOf t) i ≤ RK rk (arrOf t) j)→Q true t):wpS (model prog w) A E s (binarySort' 0 m r) Q st:=by
 rw [binarySort'_eq]
 simp only [Nat.zero_add]
 refine wpS_bind (wpS_mono (wpS_forRange (fun n c t => c=(none,())∧SB k0 a0 t∧∀ i j,i ≤ j→j < min n m→RK rk (arrOf t) i ≤ RK rk (arrOf t) j) (Q:=fun c t => c=(none,())∧SB k0 a0 t∧∀ i j,i ≤ j→j < m→RK rk (arrOf t) i ≤ RK rk (arrOf t) j) ?_ ?_ ⟨rfl,b,fun i j ij jl => ?_⟩) ?_)
 ·rintro n c t n1 nm ⟨rfl,bt,u⟩
  rw [Nat.min_eq_left (Nat.le_of_lt nm)] at u
  refine wpS_bind (wpS_mono (wpS_forRange (fun x c t2 => t2=t∧∃ l g,c=(none,l,g)∧l ≤ g∧g ≤ n∧g - l ≤ n - x∧(∀ i,i < l→RK rk (arrOf t) i ≤ RK rk (arrOf t) n)∧∀ i,g ≤ i→i < n→RK rk (arrOf t) n < RK rk (arrOf t) i)
   (Q:=fun c t2 => t2=t∧∃ l g,c=(none,l,g)∧l ≤ n∧(∀ i,i < l→RK rk (arrOf t) i ≤ RK rk (arrOf t) n)∧∀ i,l ≤ i→i < n→RK rk (arrOf t) n < RK rk (arrOf t) i) ?_ ?_ ⟨rfl,0,n,rfl,Nat.zero_le _,Nat.le_refl _,Nat.le_refl _,fun i hi => absurd hi (Nat.not_lt_zero _),fun i h1 h2 => by omega⟩) ?_)
  ·rintro x c t2 _ xn ⟨rfl,l,g,rfl,lg,gn,gl,lo,hi⟩
   dsimp only
   by_cases z:l ≥ g
   ·rw [if_pos z]
    have e:l=g:=by omega
    subst e
    exact wpS_pure ⟨rfl,l,l,rfl,gn,lo,hi⟩
   ·rw [if_neg z]
    refine wpS_bind (lt_at hL bt (by omega) (by omega) ?_)
    dsimp only
    by_cases y:RK rk (arrOf t2) n < RK rk (arrOf t2) ((l + g) / 2)
    ·rw [decide_eq_true y,if_pos rfl]
     refine wpS_pure ⟨rfl,l,(l + g) / 2,rfl,by omega,by omega,by omega,lo,fun i h1 h2 => ?_⟩
     have:=u _ i h1 h2
     omega
    ·rw [decide_eq_false y,if_neg (by simp)]
     refine wpS_pure ⟨rfl,(l + g) / 2 + 1,g,rfl,by omega,by omega,by omega,fun i h1 => ?_,hi⟩
     have:=u i ((l + g) / 2) (by omega) (by omega)
     omega
  ·rintro c t2 ⟨rfl,l,g,rfl,lg,gn,gl,lo,hi⟩
   have e:l=g:=by omega
   subst e
   exact ⟨rfl,l,l,rfl,gn,lo,hi⟩
  ·rintro c t2 ⟨rfl,l,g,rfl,ln,lo,hi⟩
   show wpS _ _ _ _ (moveDown' n l >>= fun _ => pure _) _ _
   rw [moveDown'_eq]
   refine wpS_bind (wpS_modify (wpS_pure ⟨rfl,bt.put (bubble_perm _ _ _),fun i j ij jn => ?_⟩))
   rw [Nat.min_eq_left (by omega)] at jn
   have hn:n < (arrOf t2).size:=by rw [bt.sz]; omega
   have z1:=RK_bub (rk:=rk) hn (Nat.sub_le n l) i
   have z2:=RK_bub (rk:=rk) hn (Nat.sub_le n l) j
   rw [show n - (n - l)=l by omega] at z1 z2
   show RK rk (bubble (arrOf t2) n (n - l)) i ≤ RK rk (bubble (arrOf t2) n (n - l)) j
   rw [z1,z2]
   by_cases c1:i=l
   ·rw [if_pos c1]
    by_cases c2:j=l
    ·rw [if_pos c2]; exact Int.le_refl _
    ·rw [if_neg c2,if_pos (by omega)]
     have:=hi (j - 1) (by omega) (by omega)
     omega
   ·rw [if_neg c1]
    by_cases c3:l < i∧i ≤ n
    ·rw [if_pos c3,if_neg (by omega),if_pos (by omega)]
     exact u _ _ (by omega) (by omega)
    ·rw [if_neg c3]
     by_cases c2:j=l
     ·rw [if_pos c2]; exact lo i (by omega)
     ·rw [if_neg c2]
      by_cases c4:l < j∧j ≤ n
      ·rw [if_pos c4]; exact u _ _ (by omega) (by omega)
      ·rw [if_neg c4]; exact u _ _ ij (by omega)
 ·rintro c t ⟨rfl,bt,u⟩
  refine ⟨rfl,bt,fun i j ij jm => u i j ij (by omega)⟩
 ·by_cases z:j < r
  ·exact up i j ij z
  ·rw [show i=j by omega]; exact Int.le_refl _
 ·rintro c t ⟨rfl,bt,u⟩
  exact wpS_pure (h t bt u)
theorem runs_ok (hL:LtOk prog w A s k0 a0 rk) {st:SortSt} (b:SB k0 a0 st) (h2:2 ≤ a0.size) (h64:a0.size < 64) {Q:Unit→SortSt→Prop}
  (h:∀ t,(arrOf t).Perm a0→failedOf t=none→(∀ i j,i ≤ j→j < a0.size→RK rk (arrOf t) i ≤ RK rk (arrOf t) j)→Q () t):wpS (model prog w) A E s sortRuns' Q st:=by
 rw [sortRuns'_eq]
 refine wpS_bind (wpS_get ?_)
 have mr:minRun' a0.size a0.size 0=a0.size:=by
  cases z:a0.size with
  | zero => omega
  | succ n => rw [minRun'_succ,if_pos (by omega),Nat.add_zero]
 dsimp only
 rw [b.sz,mr]
 let Fin' : SortSt→Prop:=fun t => (arrOf t).Perm a0∧failedOf t=none∧pendingOf t = #[(0,a0.size,0)]∧∀ i j,i ≤ j→j < a0.size→RK rk (arrOf t) i ≤ RK rk (arrOf t) j
 have fin:∀ t,SB k0 a0 t→(∀ i j,i ≤ j→j < a0.size→RK rk (arrOf t) i ≤ RK rk (arrOf t) j)→Fin' (setPending t ((pendingOf t).push (0,a0.size,0))):=fun t bt u =>
  ⟨bt.pm,bt.fl,(by show (pendingOf t).push _=_; rw [bt.pn]; rfl),u⟩
 refine wpS_bind (wpS_mono (wpS_forRange (fun n c t => (n=0∧c=(none,0)∧SB k0 a0 t) ∨ (0 < n∧c=(none,a0.size)∧Fin' t)) (Q:=fun c t => c=(none,a0.size)∧Fin' t) ?_ ?_ (.inl ⟨rfl,rfl,b⟩)) ?_)
 ·rintro n c t _ _ (⟨rfl,rfl,bt⟩ | ⟨n0,rfl,ft⟩)
  ·dsimp only
   rw [if_neg (by omega)]
   simp only [Nat.zero_add,Nat.min_self,Nat.sub_zero]
   refine wpS_bind (run_ok hL bt (Nat.le_refl _) (by omega) fun r t2 b2 r1 r2 u2 => ?_)
   dsimp only
   have last:∀ t3,SB k0 a0 t3→(∀ i j,i ≤ j→j < a0.size→RK rk (arrOf t3) i ≤ RK rk (arrOf t3) j)→(pendingOf t3).back? = none∧Fin' (setPending t3 ((pendingOf t3).push (0,a0.size,0))):=fun t3 b3 u3 => ⟨by rw [b3.pn]; rfl,fin t3 b3 u3⟩
   by_cases z:r < a0.size
   ·rw [if_pos z]
    refine wpS_bind (wpS_lift (wpAny_rule ⟨rfl,wpS_bind (ins_ok hL b2 (Nat.le_refl _) r2 u2 fun t3 b3 u3 => ?_)⟩))
    rw [if_neg (by simp)]
    refine wpS_bind (wpS_get ?_)
    rw [(last t3 b3 u3).1]
    dsimp only
    exact wpS_bind (wpS_modify (wpS_pure (.inr ⟨Nat.succ_pos _,rfl,(last t3 b3 u3).2⟩)))
   ·rw [if_neg z]
    have e:r=a0.size:=by omega
    subst e
    refine wpS_bind (wpS_get ?_)
    rw [(last t2 b2 u2).1]
    dsimp only
    exact wpS_bind (wpS_modify (wpS_pure (.inr ⟨Nat.succ_pos _,rfl,(last t2 b2 u2).2⟩)))
  ·dsimp only
   rw [if_pos (Nat.le_refl _)]
   exact wpS_pure ⟨rfl,ft⟩
 ·rintro c t (⟨z,_,_⟩ | ⟨_,e,ft⟩)
  ·omega
  ·exact ⟨e,ft⟩
 ·rintro c t ⟨rfl,ft⟩
  dsimp only
  refine wpS_bind (wpS_mono (wpS_forRange (fun _ c t2 => t2=t∧c=(none,())) (Q:=fun c t2 => t2=t∧c=(none,())) ?_ (fun _ _ z => z) ⟨rfl,rfl⟩) ?_)
  ·rintro n c t2 _ _ ⟨rfl,rfl⟩
   refine wpS_bind (wpS_get ?_)
   rw [if_pos (by rw [ft.2.2.1]; exact Nat.le_refl 1)]
   exact wpS_pure ⟨rfl,rfl⟩
  ·rintro c t2 ⟨rfl,rfl⟩
   exact wpS_pure (h _ ft.1 ft.2.1 ft.2.2.2)
end
end L2
namespace L2
open PySem PySem.Spec PyProof.Rows
def lexB:List Int→List Int→Bool
 | [],[] => false
 | [],_ :: _ => true
 | _ :: _,[] => false
 | a :: x,b :: y => if a=b then lexB x y else decide (a < b)
theorem lexB_irr:∀ x:List Int,lexB x x=false
 | [] => rfl
 | a :: x => by unfold lexB; rw [if_pos rfl]; exact lexB_irr x
theorem lexB_trans:∀ {x y z:List Int},lexB x y=true→lexB y z=true→lexB x z=true
 | [],[],_,h,_ => by cases h
 | [],_ :: _,[],_,h => by cases h
 | [],_ :: _,_ :: _,_,_ => rfl
 | _ :: _,[],_,h,_ => by cases h
 | _ :: _,_ :: _,[],_,h => by cases h
 | a :: x,b :: y,c :: z,h1,h2 => by
  unfold lexB at h1 h2 ⊢
  by_cases e1:a=b
  ·subst e1
   rw [if_pos rfl] at h1
   by_cases e2:a=c
   ·rw [if_pos e2] at h2 ⊢; exact lexB_trans h1 h2
   ·rw [if_neg e2] at h2 ⊢; exact h2
  ·rw [if_neg e1] at h1
   have l1:=of_decide_eq_true h1
   by_cases e2:b=c
   ·subst e2; rw [if_neg e1]; exact h1
   ·rw [if_neg e2] at h2
    have l2:=of_decide_eq_true h2
    rw [if_neg (by omega)]
    exact decide_eq_true (by omega)
theorem lexB_tot:∀ {x y:List Int},lexB x y=false→lexB y x=false→x=y
 | [],[],_,_ => rfl
 | [],_ :: _,h,_ => by cases h
 | _ :: _,[],_,h => by cases h
 | a :: x,b :: y,h1,h2 => by
  unfold lexB at h1 h2
  by_cases e:a=b
  ·subst e
   rw [if_pos rfl] at h1 h2
   rw [lexB_tot h1 h2]
  ·rw [if_neg e] at h1
   rw [if_neg (Ne.symm e)] at h2
   have l1:=of_decide_eq_false h1
   have l2:=of_decide_eq_false h2
   omega
theorem filter_fewer {α:Type} {p q:α→Bool} : ∀ {l:List α},(∀ z ∈ l,p z=true→q z=true)→(l.filter p).length ≤ (l.filter q).length
 | [],_ => Nat.le_refl _
 | a :: l,h => by
  have ih:=filter_fewer (l:=l) fun z hz => h z (List.mem_cons_of_mem _ hz)
  have ha:=h a List.mem_cons_self
  cases hp:p a with
  | true => rw [List.filter_cons_of_pos hp,List.filter_cons_of_pos (ha hp)]; simp only [List.length_cons]; omega
  | false =>
   rw [List.filter_cons_of_neg (by simp [hp])]
   cases hq:q a with
   | true => rw [List.filter_cons_of_pos hq]; simp only [List.length_cons]; omega
   | false => rw [List.filter_cons_of_neg (by simp [hq])]; exact ih
theorem filter_less {α:Type} {p q:α→Bool} : ∀ {l:List α} {x:α},(∀ z ∈ l,p z=true→q z=true)→x ∈ l→q x=true→p x=false→(l.filter p).length < (l.filter q).length
 | [],x,_,hx,_,_ => by cases hx
 | a :: l,x,h,hx,q1,p1 => by
  have hl:∀ z ∈ l,p z=true→q z=true:=fun z hz => h z (List.mem_cons_of_mem _ hz)
  rcases List.mem_cons.mp hx with rfl | hx
  ·rw [List.filter_cons_of_neg (by simp [p1]),List.filter_cons_of_pos q1]
   have:=filter_fewer hl
   simp only [List.length_cons]; omega
  ·have ih:=filter_less hl hx q1 p1
   have ha:=h a List.mem_cons_self
   cases hp:p a with
   | true => rw [List.filter_cons_of_pos hp,List.filter_cons_of_pos (ha hp)]; simp only [List.length_cons]; omega
   | false =>
    rw [List.filter_cons_of_neg (by simp [hp])]
    cases hq:q a with
    | true => rw [List.filter_cons_of_pos hq]; simp only [List.length_cons]; omega
    | false => rw [List.filter_cons_of_neg (by simp [hq])]; exact ih
def rnk (ks:List (List Int)) (u:List Int):Int:=((ks.filter fun z => lexB z u).length:Nat)
theorem rnk_lt {ks:List (List Int)} {x y:List Int} (hx:x ∈ ks) (h:lexB x y=true):rnk ks x < rnk ks y:=by
 have:=filter_less (p:=fun z => lexB z x) (q:=fun z => lexB z y) (fun z _ hz => lexB_trans hz h) hx h (lexB_irr x)
 unfold rnk
 omega
theorem rnk_ok {ks:List (List Int)} {x y:List Int} (hx:x ∈ ks) (hy:y ∈ ks):decide (rnk ks x < rnk ks y)=lexB x y:=by
 cases h:lexB x y with
 | true => exact decide_eq_true (rnk_lt hx h)
 | false =>
  refine decide_eq_false fun z => ?_
  cases g:lexB y x with
  | true => have:=rnk_lt hy g; omega
  | false => rw [lexB_tot h g] at z; omega
def vInt:Value→Int
 | .int n _ => n
 | _ => 0
theorem ints_map:∀ {vs:List Value} {u:List Int},IntsAre vs u→vs.map vInt=u
 | _,_,.nil => rfl
 | _,_,.cons n t h => by rw [List.map_cons,ints_map h]; rfl
def kfI (h:Heap) (v:Value):List Int:=match v with
 | .ref a => match h.get? a with
  | some o => match o.data with
   | .seq its _ => its.toList.map vInt
   | _ => []
  | none => []
 | _ => []
def TupI (h:Heap) (v:Value) (u:List Int):Prop:=∃ a o its n,v = .ref a∧h.get? a=some o∧o.cls = .type "tuple" ∧ o.data = .seq its n∧IntsAre its.toList u
theorem TupI.kf {h:Heap} {v:Value} {u:List Int} (t:TupI h v u):kfI h v=u:=by
 obtain ⟨a,o,its,n,rfl,e,c,d,i⟩:=t
 unfold kfI
 dsimp only
 rw [e]
 dsimp only
 rw [d]
 exact ints_map i
theorem TupI.keep' {h h' : Heap} {v:Value} {u:List Int} (t:TupI h v u) (k:∀ (b:Addr) (o:Obj),o.cls = .type "tuple" → h.get? b=some o→h'.get? b=some o):TupI h' v u:=by
 obtain ⟨a,o,its,n,rfl,e,c,r⟩:=t
 exact ⟨a,o,its,n,rfl,k a o c e,c,r⟩
section
variable {prog:Program} {w:World} {A:Around} {E:Value→Shared→Prop} {s:Shared}
theorem keyLt'_tups (b:Bool) (x y:Value):keyLt' (tuples' b) x y=(do
  let xs ← Builtin.List.listItems x
  let ys ← Builtin.List.listItems y
  for ((p,q),i) in (xs.toList.zip ys.toList).zipIdx do
   if !(← eqBool p q) then return ← oneLt' (b && i == 0) p q
  return decide (xs.size < ys.size)):=rfl
theorem one_int (b:Bool) {i j:Int} {t u:Tok} {Q:Bool→Shared→Prop} (h:Q (decide (i < j)) s):wpAny (model prog w) A (oneLt' b (.int i t) (.int j u)) Q E s:=by
 cases b with
 | true => exact oneLt_int h
 | false =>
  rw [oneLt'_eq,if_neg (by simp)]
  have q:wpAny (model prog w) A (richCompare .Lt (.int i t) (.int j u)) (fun v s' => wpAny (model prog w) A (truthOfDropped v) Q E s') E s:=PyProof.Rows.lt_int (wpAny_truthy_bool h)
  exact wpAny_bind q
abbrev cmpStep (b:Bool) (z:(Value × Value) × Nat) (r:Option Bool × Unit):Sem (ForInStep (Option Bool × Unit)):=do
 if !(← eqBool z.1.1 z.1.2) then
  let v ← oneLt' (b && z.2 == 0) z.1.1 z.1.2
  pure (ForInStep.done (some v,()))
 else pure (ForInStep.yield (none,()))
theorem cmp_loop (b:Bool):∀ {xs ys:List Value} {u v:List Int} (i:Nat) {Q:Option Bool × Unit→Shared→Prop},IntsAre xs u→IntsAre ys v→(∀ r,(r=(some (lexB u v),()) ∨ (r=(none,())∧lexB u v=decide (u.length < v.length)))→Q r s) →
  wpAny (model prog w) A (forIn ((xs.zip ys).zipIdx i) ((none,()):Option Bool × Unit) (cmpStep b)) Q E s
 | _,ys,_,v,i,Q,.nil,hy,h => by
  rw [List.zip_nil_left,List.zipIdx_nil,List.forIn_nil]
  refine wpAny_pure (h _ (.inr ⟨rfl,?_⟩))
  cases hy <;> rfl
 | _,_,_,_,i,Q,.cons a t hx,.nil,h => by
  rw [List.zip_nil_right,List.zipIdx_nil,List.forIn_nil]
  refine wpAny_pure (h _ (.inr ⟨rfl,?_⟩))
  rfl
 | _,_,_,_,i,Q,.cons (ns:=u) a t hx,.cons (ns:=v) c t' hy,h => by
  rw [List.zip_cons_cons,List.zipIdx_cons,List.forIn_cons]
  refine wpAny_bind (wpAny_bind ((intKind prog w).eqBool (a:=a) (b:=c) (intKind_is _ _ _ _) (intKind_is _ _ _ _) ?_))
  by_cases e:a=c
  ·rw [decide_eq_true e]
   refine wpAny_pure ?_
   refine cmp_loop b (i + 1) hx hy fun r hr => h r ?_
   have l1:lexB (a :: u) (c :: v)=lexB u v:=by
    conv => lhs; unfold lexB
    rw [if_pos e]
   rw [l1]
   rcases hr with z | ⟨z,y⟩
   ·exact .inl z
   ·refine .inr ⟨z,?_⟩
    rw [y]
    simp only [List.length_cons,Nat.add_lt_add_iff_right]
  ·rw [decide_eq_false e]
   refine wpAny_bind (one_int _ ?_)
   refine wpAny_pure (wpAny_pure (h _ (.inl ?_)))
   have l1:lexB (a :: u) (c :: v)=decide (a < c):=by
    conv => lhs; unfold lexB
    rw [if_neg e]
   rw [l1]
theorem lt_tups (b:Bool) {x y:Value} {u v:List Int} {Q:Bool→Shared→Prop} (hx:TupI s.heap x u) (hy:TupI s.heap y v) (h:Q (lexB u v) s):wpAny (model prog w) A (keyLt' (tuples' b) x y) Q E s:=by
 obtain ⟨a,o,its,n,rfl,e,c,d,i⟩:=hx
 obtain ⟨a',o',its',n',rfl,e',c',d',i'⟩:=hy
 rw [keyLt'_tups]
 refine wpAny_bind (listItems_at e d (wpAny_bind (listItems_at e' d' ?_)))
 refine wpAny_bind (cmp_loop b 0 i i' fun r hr => ?_)
 rcases hr with rfl | ⟨rfl,z⟩
 ·exact wpAny_pure h
 ·rw [z,← i.length,← i'.length,Array.length_toList,Array.length_toList] at h
  exact wpAny_pure h
end
end L2
namespace L2
open PySem PySem.Spec PyProof.Rows
section
variable {prog:Program} {w:World} {A:Around} {E:Value→Shared→Prop} {s:Shared}
theorem wp_mapM {α β:Type} {f:α→Sem β} (R:α→β→Prop):∀ {l:List α} {Q:List β→Shared→Prop},(∀ x ∈ l,∀ Q' : β→Shared→Prop,(∀ y,R x y→Q' y s)→wpAny (model prog w) A (f x) Q' E s)→(∀ ys,Paired R l ys→Q ys s)→wpAny (model prog w) A (l.mapM f) Q E s
 | [],Q,_,h => by rw [List.mapM_nil]; exact wpAny_pure (h [] .nil)
 | x :: l,Q,hf,h => by
  rw [List.mapM_cons]
  refine wpAny_bind (hf x List.mem_cons_self _ fun y hy => wpAny_bind (wp_mapM R (fun z hz => hf z (List.mem_cons_of_mem _ hz)) fun ys hys => wpAny_pure (h _ (.cons hy hys))))
theorem first'_eq (v:Value):firstOfTuple' v=(do
  if (← typeOf v) != .type "tuple" then return none
  return (← Builtin.List.listItems v)[0]?):=rfl
theorem first_tup {x:Value} {u:List Int} {Q:Option Value→Shared→Prop} (t:TupI s.heap x u) (hu:u ≠ []) (h:∀ y,(∃ a tk,y=some (Value.int a tk))→Q y s):wpAny (model prog w) A (firstOfTuple' x) Q E s:=by
 obtain ⟨a,o,its,n,rfl,e,c,d,i⟩:=t
 rw [first'_eq]
 refine wpAny_bind (wpAny_typeOf (T := "tuple") ⟨o,e,c⟩ ?_)
 rw [if_neg (by decide)]
 refine wpAny_bind (listItems_at e d (wpAny_pure (h _ ?_)))
 cases hi:its.toList with
 | nil => rw [hi] at i; cases i; exact absurd rfl hu
 | cons z zs =>
  rw [hi] at i
  cases i with
  | cons m t hr =>
   refine ⟨m,t,?_⟩
   rw [← Array.getElem?_toList,hi]
   rfl
theorem kind_firsts:∀ {vs:List Value} {ys:List (Option Value)},Paired (fun _ y => ∃ a tk,y=some (Value.int a tk)) vs ys→∃ zs:List Value,ys=zs.map some∧zs.length=vs.length∧∀ z ∈ zs,∃ a tk,z=Value.int a tk
 | _,_,.nil => ⟨[],rfl,rfl,fun z hz => by cases hz⟩
 | _,_,.cons ⟨a,tk,e⟩ t => by
  obtain ⟨zs,e1,e2,e3⟩:=kind_firsts t
  refine ⟨.int a tk :: zs,by rw [e,e1]; rfl,by simp [e2],fun z hz => ?_⟩
  rcases List.mem_cons.mp hz with rfl | hz
  ·exact ⟨a,tk,rfl⟩
  ·exact e3 z hz
theorem mapM_ints:∀ {zs:List Value},(∀ z ∈ zs,∃ a tk,z=Value.int a tk)→zs.mapM typeOf=(pure (zs.map fun _ => Value.type "int"):Sem (List Value))
 | [],_ => by rw [List.mapM_nil]; rfl
 | z :: zs,h => by
  obtain ⟨a,tk,rfl⟩:=h z List.mem_cons_self
  rw [List.mapM_cons,mapM_ints fun y hy => h y (List.mem_cons_of_mem _ hy)]
  rfl
theorem kind_tups {vs:List Value} (hv:∀ v ∈ vs,∃ u,TupI s.heap v u∧u ≠ []) (h1:vs ≠ []) {Q:SortKind→Shared→Prop} (h:Q (tuples' true) s):wpAny (model prog w) A (keyKind' vs.toArray) Q E s:=by
 rw [keyKind'_eq,List.mapM_toArray]
 refine wpAny_bind ?_
 have step:wpAny (model prog w) A (vs.mapM firstOfTuple') (fun ys s' => wpAny (model prog w) A (pure ys.toArray) (fun firsts s' => wpAny (model prog w) A (do
   if (firsts.all fun x => x.isSome)=true then
    rule "list.sort.keys-are-tuples"
    let __do_lift ← oneTypeOnly' (firsts.filterMap id)
    pure (tuples' (__do_lift.any fun x => x != Value.type "tuple"))
   else
    if (firsts[0]?.bind id).isSome=true then pure general'
    else do
     let __do_lift ← oneTypeOnly' vs.toArray
     pure (if __do_lift.isSome=true then oneType' else general')) Q E s') E s') E s:=by
  refine wp_mapM (fun _ y => ∃ a tk,y=some (Value.int a tk)) (fun x hx Q' hq => ?_) fun ys hys => ?_
  ·obtain ⟨u,t,hu⟩:=hv x hx
   exact first_tup t hu hq
  ·obtain ⟨zs,e1,e2,e3⟩:=kind_firsts hys
   subst e1
   refine wpAny_pure ?_
   rw [if_pos (by simp)]
   refine wpAny_bind (wpAny_rule ?_)
   have ef:(zs.map some).toArray.filterMap id=zs.toArray:=by
    rw [List.filterMap_toArray]
    congr 1
    induction zs with
    | nil => rfl
    | cons z zs ih => simp
   rw [ef,oneTypeOnly'_eq,List.mapM_toArray,mapM_ints e3]
   have z0:∃ z zs',zs=z :: zs':=by
    cases zs with
    | nil => rw [List.length_nil] at e2; exact absurd (List.eq_nil_of_length_eq_zero e2.symm) h1
    | cons z zs' => exact ⟨z,zs',rfl⟩
   obtain ⟨z,zs',rfl⟩:=z0
   simp only [map_pure,pure_bind]
   have g0:(List.map (fun _ => Value.type "int") (z :: zs')).toArray[0]? = some (Value.type "int"):=by simp
   have ga:((List.map (fun _ => Value.type "int") (z :: zs')).toArray.all fun x => x == Value.type "int")=true:=by
    rw [List.all_toArray,List.all_map,List.all_eq_true]
    intro _ _
    rfl
   rw [g0]
   dsimp only
   rw [ga,if_pos rfl]
   exact wpAny_bind (wpAny_pure (wpAny_pure h))
 exact wpAny_bind step
end
end L2
namespace L2
open PySem PySem.Spec PyProof.Rows
section
variable {prog:Program} {w:World} {A:Around} {E:Value→Shared→Prop} {s:Shared}
theorem sort_gen {a:Addr} {vs:List Value} {n:Nat} {k0:SortKind} {rk:Value→Int} {P:Fin→Shared→Prop} (hb:s.heap.get? a=some (seqObj "list" vs.toArray n)) (h64:vs.length < 64)
  (hk:2 ≤ vs.length→∀ h' : Heap,(∀ b o,b ≠ a→s.heap.get? b=some o→h'.get? b=some o)→∀ (E:Value→Shared→Prop) (Q:SortKind→Shared→Prop),Q k0 { s with heap:=h' }→wpAny (model prog w) A (keyKind' vs.toArray) Q E { s with heap:=h' })
  (hL:∀ h' : Heap,(∀ b o,b ≠ a→s.heap.get? b=some o→h'.get? b=some o)→LtOk prog w A { s with heap:=h' } k0 (pairsOf vs) rk)
  (h:∀ xs:Array Keyed,xs.Perm (pairsOf vs)→(∀ i j,i ≤ j→j < (pairsOf vs).size→RK rk xs i ≤ RK rk xs j)→P (.done (.ret .none)) { s with heap:=sortedHeap s.heap a vs (xs.map (·.2)) }) :
  wpAny (model prog w) A (Builtin.«list.sort» ⟨[.ref a],[]⟩) P E s:=by
 have la:a < s.heap.objs.size:=Heap.lt_size hb
 have sv:vs.toArray.size=vs.length:=List.size_toArray ..
 rw [list_sort_plain]
 refine wpAny_bind (listItems_at hb rfl (wpAny_bind (listUpdate_at hb rfl ?_)))
 have g1:=get?_update_seq hb (fun _ => (#[]:Array Value))
 have k1:∀ b o,b ≠ a→s.heap.get? b=some o→(s.heap.update a (Obj.mapSeq fun _ => #[])).get? b=some o:=fun b o nb z => by
  rw [Heap.get?_update_ne _ _ _ _ nb]; exact z
 refine wpAny_bind (seqEpoch_at g1 rfl (wpAny_bind (wpAny_newTuple (wpAny_bind (wpAny_newList (wpAny_holding ?_))))))
 show wpAny (model prog w) A _ P E { s with heap:=((s.heap.update a (Obj.mapSeq fun _ => #[])).push (seqObj "tuple" vs.toArray 0)).push (seqObj "list" #[] 0) }
 have g6:=Heap.get?_push_of_some (seqObj "list" #[] 0) (Heap.get?_push_of_some (seqObj "tuple" vs.toArray 0) g1)
 have k6:∀ b o,b ≠ a→s.heap.get? b=some o→(((s.heap.update a (Obj.mapSeq fun _ => #[])).push (seqObj "tuple" vs.toArray 0)).push (seqObj "list" #[] 0)).get? b=some o:=fun b o nb z => Heap.get?_push_of_some _ (Heap.get?_push_of_some _ (k1 b o nb z))
 have done:∀ (xs:Array Keyed) (t:SortSt),arrOf t=xs→failedOf t=none→xs.Perm (pairsOf vs)→(∀ i j,i ≤ j→j < (pairsOf vs).size→RK rk xs i ≤ RK rk xs j) →
   wpAny (model prog w) A (do
    let touched:=(← seqEpoch a) != (if (#[]:Array Value).size == vs.toArray.size then n else n + 1)
    Builtin.List.listUpdate (.ref a) fun _ => (arrOf t).map (·.2)
    if let some e:=failedOf t then rule "list.sort.comparison-raised"; throw e
    if touched then rule "list.sort.modified"; raiseError "ValueError" "list modified during sort"
    ret .none) P E { s with heap:=((s.heap.update a (Obj.mapSeq fun _ => #[])).push (seqObj "tuple" vs.toArray 0)).push (seqObj "list" #[] 0) }:=by
  rintro xs t rfl ft pm up
  refine wpAny_bind (seqEpoch_at g6 rfl (wpAny_bind (listUpdate_at g6 rfl ?_ (hsz2:=?_))))
  ·rw [ft]
   dsimp only
   rw [if_neg (by simp)]
   exact wpAny_pure (h _ pm up)
  ·show ((arrOf t).map (·.2)).size ≤ sizeLine + 1
   rw [Array.size_map,pm.size_eq,pairsOf_size]
   exact Nat.le_trans (show vs.length ≤ 1000 by omega) (by decide)
 by_cases h2:vs.toArray.size < 2
 ·rw [if_pos h2,if_pos h2]
  refine wpAny_bind (wpAny_pure ?_)
  dsimp only
  rw [StateT.run_pure]
  refine wpAny_bind (wpAny_pure (done _ (SortSt.mk' general' (vs.toArray.zip vs.toArray) #[] 7 none) rfl rfl (Array.Perm.refl _) fun i j ij jl => ?_))
  rw [pairsOf_size] at jl
  rw [show i=j by omega]
  exact Int.le_refl _
 ·rw [if_neg h2,if_neg h2]
  refine wpAny_bind (hk (by omega) _ k6 _ _ ?_)
  refine wpAny_bind (wpAny_mono (runs_ok (hL _ k6) (st:=SortSt.mk' k0 (vs.toArray.zip vs.toArray) #[] 7 none) (a0:=pairsOf vs) ⟨Array.Perm.refl _,rfl,rfl,rfl⟩ (by rw [pairsOf_size]; omega) (by rw [pairsOf_size]; exact h64) (Q:=fun _ t => (arrOf t).Perm (pairsOf vs)∧failedOf t=none∧∀ i j,i ≤ j→j < (pairsOf vs).size→RK rk (arrOf t) i ≤ RK rk (arrOf t) j) fun t p1 p2 p3 => ⟨p1,p2,p3⟩) ?_ fun _ _ z => z)
  rintro ⟨⟨⟩,t⟩ s' ⟨rfl,p1,p2,p3⟩
  exact done _ t rfl p2 p1 p3
end
end L2
namespace L2
open PySem PySem.Spec PyProof.Rows
abbrev Pb:=SetTable.Probe
def adv (m:Nat) (p:Pb):Pb:=if p.more > 0 then { p with j:=p.j + 1,more:=p.more - 1 } else { p with j:=(p.i * 5 + 1 + p.perturb / 32) % (m + 1),more:=SetTable.runEnd m ((p.i * 5 + 1 + p.perturb / 32) % (m + 1)) - (p.i * 5 + 1 + p.perturb / 32) % (m + 1),i:=(p.i * 5 + 1 + p.perturb / 32) % (m + 1),perturb:=p.perturb / 32 }
def itP (m:Nat) (p:Pb):Nat→Pb
 | 0 => p
 | k + 1 => adv m (itP m p k)
theorem itP_add (m:Nat) (p:Pb) (a b:Nat):itP m p (a + b)=itP m (itP m p a) b:=by
 induction b with
 | zero => rfl
 | succ b ih => show adv m (itP m p (a + b))=adv m _; rw [ih]
theorem adv_dummy (m:Nat) (p:Pb):(adv m p).dummy=p.dummy:=by unfold adv; split <;> rfl
theorem itP_dummy (m:Nat) (p:Pb):∀ k,(itP m p k).dummy=p.dummy
 | 0 => rfl
 | k + 1 => by show (adv m _).dummy=_; rw [adv_dummy,itP_dummy m p k]
def lp (m:Nat) (p:Pb):Pb:={ p with j:=(p.i * 5 + 1 + p.perturb / 32) % (m + 1),more:=SetTable.runEnd m ((p.i * 5 + 1 + p.perturb / 32) % (m + 1)) - (p.i * 5 + 1 + p.perturb / 32) % (m + 1),i:=(p.i * 5 + 1 + p.perturb / 32) % (m + 1),perturb:=p.perturb / 32 }
theorem run_pos (m:Nat):∀ (k:Nat) (p:Pb),k ≤ p.more→itP m p k = { p with j:=p.j + k,more:=p.more - k }
 | 0,p,_ => rfl
 | k + 1,p,h => by
  show adv m (itP m p k)=_
  rw [run_pos m k p (by omega)]
  unfold adv
  rw [if_pos (show p.more - k > 0 by omega)]
  show ({ p with j:=p.j + k + 1,more:=p.more - k - 1 } : Pb)=_
  rw [Nat.add_assoc,Nat.sub_sub]
theorem itP_lp (m:Nat) (p:Pb):itP m p (p.more + 1)=lp m p:=by
 show adv m (itP m p p.more)=_
 rw [run_pos m p.more p (Nat.le_refl _)]
 unfold adv
 rw [if_neg (show ¬ p.more - p.more > 0 by omega)]
 rfl
def lpN (m:Nat) (p:Pb):Nat→Pb
 | 0 => p
 | n + 1 => lp m (lpN m p n)
theorem lp_more (m:Nat) (p:Pb):(lp m p).more ≤ 9:=by
 show SetTable.runEnd m _ - _ ≤ 9
 unfold SetTable.runEnd
 split <;> omega
theorem lpN_more {m:Nat} {p:Pb} (h:p.more ≤ 9):∀ n,(lpN m p n).more ≤ 9
 | 0 => h
 | n + 1 => lp_more m _
theorem lpN_at {m:Nat} {p:Pb} (h:p.more ≤ 9):∀ n,∃ k,k ≤ 10 * n∧itP m p k=lpN m p n
 | 0 => ⟨0,Nat.le_refl _,rfl⟩
 | n + 1 => by
  obtain ⟨k,hk,e⟩:=lpN_at h n
  refine ⟨k + ((lpN m p n).more + 1),by have:=lpN_more (m:=m) h n; omega,?_⟩
  rw [itP_add,e,itP_lp]
  rfl
theorem lpN_perturb {m:Nat} {p:Pb} : ∀ n,(lpN m p n).perturb=p.perturb / 32 ^ n
 | 0 => by rw [Nat.pow_zero,Nat.div_one]; rfl
 | n + 1 => by
  show (lpN m p n).perturb / 32=_
  rw [lpN_perturb n,Nat.div_div_eq_div_mul,Nat.pow_succ]
def fLc (m i:Nat):Nat:=(i * 5 + 1) % (m + 1)
def fIt (m i:Nat):Nat→Nat
 | 0 => i
 | n + 1 => fLc m (fIt m i n)
theorem fIt_add (m i:Nat) (a b:Nat):fIt m i (a + b)=fIt m (fIt m i a) b:=by
 induction b with
 | zero => rfl
 | succ b ih => show fLc m (fIt m i (a + b))=fLc m _; rw [ih]
theorem lpN_late {m:Nat} {p:Pb} (h:p.perturb < 2 ^ 64):∀ n,(lpN m p (13 + n)).i=fIt m (lpN m p 13).i n∧(lpN m p (13 + n)).perturb=0
 | 0 => ⟨rfl,by rw [lpN_perturb]; exact Nat.div_eq_of_lt (Nat.lt_trans h (by decide))⟩
 | n + 1 => by
  obtain ⟨e1,e2⟩:=lpN_late h n
  constructor
  ·show ((lpN m p (13 + n)).i * 5 + 1 + (lpN m p (13 + n)).perturb / 32) % (m + 1)=fLc m (fIt m _ n)
   rw [e1,e2]; rfl
  ·show (lpN m p (13 + n)).perturb / 32=0
   rw [e2]
def OkM (m:Nat):Prop:=m=7 ∨ m=31 ∨ m=127 ∨ m=511
def orbGo (m:Nat):Nat→Nat→List Nat
 | 0,_ => []
 | k + 1,i => i :: orbGo m k (fLc m i)
theorem orbGo_get (m:Nat):∀ (k i n:Nat) (x:Nat),(orbGo m k i)[n]? = some x→n < k∧x=fIt m i n
 | 0,i,n,x,h => by cases h
 | k + 1,i,0,x,h => by cases h; exact ⟨Nat.succ_pos _,rfl⟩
 | k + 1,i,n + 1,x,h => by
  obtain ⟨a,b⟩:=orbGo_get m k (fLc m i) n x h
  refine ⟨by omega,?_⟩
  rw [b,Nat.add_comm n 1,fIt_add]
  rfl
theorem full_7:(List.range 8).all (fun e => (orbGo 7 8 0).contains e)=true∧fIt 7 0 8=0:=by decide
theorem full_31:(List.range 32).all (fun e => (orbGo 31 32 0).contains e)=true∧fIt 31 0 32=0:=by decide +kernel
theorem full_127:(List.range 128).all (fun e => (orbGo 127 128 0).contains e)=true∧fIt 127 0 128=0:=by decide +kernel
theorem full_511:(List.range 512).all (fun e => (orbGo 511 512 0).contains e)=true∧fIt 511 0 512=0:=by decide +kernel
theorem full_of {m:Nat} (h:OkM m):(∀ e,e ≤ m→∃ n,n ≤ m∧fIt m 0 n=e)∧fIt m 0 (m + 1)=0:=by
 have key:∀ m,(List.range (m + 1)).all (fun e => (orbGo m (m + 1) 0).contains e)=true→∀ e,e ≤ m→∃ n,n ≤ m∧fIt m 0 n=e:=fun m h e he => by
  have:=List.all_eq_true.mp h e (List.mem_range.mpr (by omega))
  obtain ⟨n,hn⟩:=List.mem_iff_getElem?.mp (List.contains_iff_mem.mp this)
  obtain ⟨a,b⟩:=orbGo_get m _ _ _ _ hn
  exact ⟨n,by omega,b.symm⟩
 rcases h with rfl | rfl | rfl | rfl
 ·exact ⟨key 7 full_7.1,full_7.2⟩
 ·exact ⟨key 31 full_31.1,full_31.2⟩
 ·exact ⟨key 127 full_127.1,full_127.2⟩
 ·exact ⟨key 511 full_511.1,full_511.2⟩
theorem full_any {m:Nat} (h:OkM m) {i e:Nat} (hi:i ≤ m) (he:e ≤ m):∃ n,n ≤ m∧fIt m i n=e:=by
 obtain ⟨f1,f2⟩:=full_of h
 obtain ⟨a,ha,ea⟩:=f1 i hi
 obtain ⟨b,hb,eb⟩:=f1 e he
 by_cases z:a ≤ b
 ·refine ⟨b - a,by omega,?_⟩
  rw [← ea,← fIt_add,show a + (b - a)=b by omega]; exact eb
 ·refine ⟨b + (m + 1) - a,by omega,?_⟩
  rw [← ea,← fIt_add,show a + (b + (m + 1) - a)=(m + 1) + b by omega,fIt_add,f2]; exact eb
theorem lpN_i {m:Nat} {p:Pb} (hi:p.i ≤ m):∀ n,(lpN m p n).i ≤ m
 | 0 => hi
 | n + 1 => by
  exact Nat.le_of_lt_succ (Nat.mod_lt ((lpN m p n).i * 5 + 1 + (lpN m p n).perturb / 32) (Nat.succ_pos m))
theorem meets {m:Nat} (h:OkM m) {p:Pb} (hp:p.perturb < 2 ^ 64) (hm:p.more ≤ 9) (hi:p.i ≤ m) {e:Nat} (he:e ≤ m):∃ n,n ≤ 13 + m∧13 ≤ n∧(lpN m p n).j=e∧(lpN m p n).i=e:=by
 obtain ⟨n,hn,en⟩:=full_any h (lpN_i (m:=m) hi 13) he
 have z:=(lpN_late (m:=m) hp n).1
 rw [en] at z
 refine ⟨13 + n,by omega,by omega,?_,z⟩
 rw [← z]
 rw [show 13 + n=(12 + n) + 1 by omega]
 rfl
theorem meets_it {m:Nat} (h:OkM m) {p:Pb} (hp:p.perturb < 2 ^ 64) (hm:p.more ≤ 9) (hi:p.i ≤ m) {e:Nat} (he:e ≤ m):∃ k,k < 10 * SetTable.turns m∧(itP m p k).j=e:=by
 obtain ⟨n,hn,_,ej,_⟩:=meets h hp hm hi he
 obtain ⟨k,hk,ek⟩:=lpN_at (m:=m) hm n
 refine ⟨k,by unfold SetTable.turns; omega,?_⟩
 rw [ek]; exact ej
end L2
namespace L2
open PySem PySem.Spec PyProof.Rows
def Occ (t:SetTable) (j:Nat):Prop:=∃ i:Nat,t.place[i]? = some j
theorem below_at {xs:Array Nat} (h:xs.toList.Pairwise (· < ·)) {i j:Nat} (hi:xs[i]? = some j):SetTable.below xs j=i:=by
 obtain ⟨b1,b2,b3⟩:=below_ok h j
 obtain ⟨hl,hg⟩:=Array.getElem?_eq_some_iff.mp hi
 have gd:∀ k,k < xs.size→xs.getD k 0=xs[k]!:=fun k hk => by simp [Array.getD,hk]
 have lt:∀ a b,a < b→(hb:b < xs.size)→∀ (ha:a < xs.size),xs[a] < xs[b]:=fun a b hab hb ha => by
  have:=List.pairwise_iff_getElem.mp h a b (by simpa using ha) (by simpa using hb) hab
  simpa using this
 rcases Nat.lt_trichotomy (SetTable.below xs j) i with z | z | z
 ·have hb:SetTable.below xs j < xs.size:=by omega
  have q:=b3 _ (Nat.le_refl _) hb
  rw [Array.getD_eq_getD_getElem?,Array.getElem?_eq_getElem hb] at q
  have q:j ≤ xs[SetTable.below xs j]:=q
  have:=lt _ _ z hl hb
  omega
 ·exact z
 ·have q:=b2 i z
  rw [Array.getD_eq_getD_getElem?,hi] at q
  have q:j < j:=q
  omega
theorem slot_live {t:SetTable} {led:Bool} (h:TB t led) {i j:Nat} (hi:t.place[i]? = some j):t.slot j = .live i:=by
 unfold SetTable.slot
 dsimp only
 rw [below_at h.up hi,hi]
 simp
theorem slot_empty {t:SetTable} {led:Bool} (h:TB t led) {j:Nat} (hj : ¬ Occ t j):t.slot j = .empty:=by
 unfold SetTable.slot
 dsimp only
 have ne : ¬ (t.place[SetTable.below t.place j]? == some j)=true:=fun z => hj ⟨_,by simpa using z⟩
 rw [if_neg ne]
 have e:SetTable.has t.dummies j=false:=by rw [h.dum]; rfl
 rw [e]
 rfl
theorem first_free {t:SetTable} {p:Pb} {n:Nat} (h:∃ k,k < n∧¬ Occ t (itP t.mask p k).j):∃ k,k < n∧¬ Occ t (itP t.mask p k).j∧∀ k',k' < k→Occ t (itP t.mask p k').j:=by
 obtain ⟨k,hk,hf⟩:=h
 induction k using Nat.strongRecOn with
 | _ k ih =>
  by_cases z:∃ k',k' < k∧¬ Occ t (itP t.mask p k').j
  ·obtain ⟨k',hk',hf'⟩:=z
   exact ih k' hk' (by omega) hf'
  ·exact ⟨k,hk,hf,fun k' hk' => Classical.byContradiction fun q => z ⟨k',hk',q⟩⟩
theorem probe_walk {t:SetTable} {led:Bool} (tb:TB t led) {f:Nat→Int} {h:Int} {p:Pb} (hd:p.dummy=none):∀ (fuel k:Nat),¬ Occ t (itP t.mask p k).j→(∀ k',k' < k→Occ t (itP t.mask p k').j)→∀ c,c ≤ k→k < c + fuel →
  (∃ n i,c ≤ n∧n < k∧t.place[i]? = some (itP t.mask p n).j∧f i=h∧(∀ n' i',c ≤ n'→n' < n→t.place[i']? = some (itP t.mask p n').j→f i' ≠ h)∧SetTable.probe.go t f h fuel (itP t.mask p c)=some (.candidate (itP t.mask p n).j i (itP t.mask p (n + 1)))) ∨
  ((∀ n i,c ≤ n→n < k→t.place[i]? = some (itP t.mask p n).j→f i ≠ h)∧SetTable.probe.go t f h fuel (itP t.mask p c)=some (.empty (itP t.mask p k).j none))
 | 0,k,_,_,c,ck,kf => by omega
 | fuel + 1,k,hf,ho,c,ck,kf => by
  by_cases e:c=k
  ·subst e
   refine .inr ⟨fun n i h1 h2 => by omega,?_⟩
   unfold SetTable.probe.go
   rw [slot_empty tb hf]
   dsimp only
   rw [itP_dummy,hd]
  ·obtain ⟨i,hi⟩:=ho c (by omega)
   have sl:=slot_live tb hi
   by_cases z:f i=h
   ·refine .inl ⟨c,i,Nat.le_refl _,by omega,hi,z,fun n' i' h1 h2 => by omega,?_⟩
    unfold SetTable.probe.go
    rw [sl]
    dsimp only
    rw [if_pos (by simpa using z)]
    rfl
   ·have step:SetTable.probe.go t f h (fuel + 1) (itP t.mask p c)=SetTable.probe.go t f h fuel (itP t.mask p (c + 1)):=by
     conv => lhs; unfold SetTable.probe.go
     rw [sl]
     dsimp only
     rw [if_neg (by simpa using z)]
     rfl
    rw [step]
    rcases probe_walk tb hd fuel k hf ho (c + 1) (by omega) (by omega) with ⟨n,i',h1,h2,h3,h4,h6,h5⟩ | ⟨h1,h2⟩
    ·refine .inl ⟨n,i',by omega,h2,h3,h4,fun n' i2 a b d => ?_,h5⟩
     rcases Nat.lt_or_eq_of_le a with q | q
     ·exact h6 n' i2 q b d
     ·subst q
      have:i=i2:=by rw [← below_at tb.up hi,← below_at tb.up d]
      rw [← this]; exact z
    ·refine .inr ⟨fun n i' a b d => ?_,h2⟩
     rcases Nat.lt_or_eq_of_le a with q | q
     ·exact h1 n i' q b d
     ·subst q
      have:i=i':=by rw [← below_at tb.up hi,← below_at tb.up d]
      rw [← this]; exact z
end L2
namespace L2
open PySem PySem.Spec PyProof.Rows
abbrev Own:=Array (Option Nat)
def startP (m:Nat) (h:Int):Pb:={ j:=SetTable.bits h % (m + 1),more:=SetTable.runEnd m (SetTable.bits h % (m + 1)) - SetTable.bits h % (m + 1),i:=SetTable.bits h % (m + 1),perturb:=SetTable.bits h,dummy:=none }
theorem bits_lt (h:Int):SetTable.bits h < 2 ^ 64:=by
 unfold SetTable.bits
 have a:=Int.emod_nonneg h (by decide:(2 ^ 64:Int) ≠ 0)
 have b:=Int.emod_lt_of_pos h (by decide:(0:Int) < 2 ^ 64)
 omega
theorem run_le (m i:Nat):SetTable.runEnd m i - i ≤ 9:=by unfold SetTable.runEnd; split <;> omega
theorem free_ok {m:Nat} {ow:Own} : ∀ (fuel:Nat) (p:Pb),p.j=p.i→p.more=SetTable.runEnd m p.i - p.i→∀ {j:Nat},SetTable.layClean.free m ow fuel p.i p.perturb=some j →
  ∃ k,(itP m p k).j=j∧ow.getD j (some 0)=none∧∀ k',k' < k→ow.getD (itP m p k').j (some 0) ≠ none
 | 0,p,_,_,j,h => by unfold SetTable.layClean.free at h; cases h
 | fuel + 1,p,hj,hm,j,h => by
  have le:p.i ≤ SetTable.runEnd m p.i:=by unfold SetTable.runEnd; split <;> omega
  have len:SetTable.runEnd m p.i + 1 - p.i=p.more + 1:=by omega
  unfold SetTable.layClean.free at h
  rw [len] at h
  cases z:(List.range (p.more + 1)).find? (fun k => (ow.getD (p.i + k) (some 0)).isNone) with
  | some k =>
   rw [z] at h
   dsimp only at h
   cases h
   obtain ⟨q1,as,bs,q2,q3⟩:=List.find?_eq_some_iff_append.mp z
   have kr:k ∈ List.range (p.more + 1):=by rw [q2]; simp
   have kl:=List.mem_range.mp kr
   refine ⟨k,by rw [run_pos m k p (by omega)]; show p.j + k=_; rw [hj],by simpa using q1,fun k' hk' => ?_⟩
   rw [run_pos m k' p (by omega)]
   show ow.getD (p.j + k') (some 0) ≠ none
   rw [hj]
   have mem:k' ∈ as:=by
    have i1:(List.range (p.more + 1))[k']? = some k':=by rw [List.getElem?_range (by omega)]
    have i2:(List.range (p.more + 1))[k]? = some k:=by rw [List.getElem?_range (by omega)]
    rw [q2] at i1 i2
    by_cases la:k' < as.length
    ·rw [List.getElem?_append_left la] at i1
     exact List.mem_of_getElem? i1
    ·exfalso
     have ea:as.length=k:=by
      have i3:(as ++ k :: bs)[as.length]? = some k:=by rw [List.getElem?_append_right (Nat.le_refl _),Nat.sub_self]; rfl
      rw [← q2] at i3
      by_cases l2:as.length < p.more + 1
      ·rw [List.getElem?_range l2] at i3; cases i3; rfl
      ·rw [List.getElem?_eq_none (by rw [List.length_range]; omega)] at i3; cases i3
     omega
   have q4:=q3 k' mem
   intro q5
   rw [q5] at q4
   cases q4
  | none =>
   rw [z] at h
   dsimp only at h
   have al:=List.find?_eq_none.mp z
   have rc:=free_ok fuel (lp m p) rfl rfl (j:=j) h
   obtain ⟨k,e1,e2,e3⟩:=rc
   refine ⟨p.more + 1 + k,by rw [itP_add,itP_lp]; exact e1,e2,fun k' hk' => ?_⟩
   by_cases l:k' < p.more + 1
   ·rw [run_pos m k' p (by omega)]
    show ow.getD (p.j + k') (some 0) ≠ none
    rw [hj]
    have:=al k' (List.mem_range.mpr l)
    simpa using this
   ·have e:k' = p.more + 1 + (k' - (p.more + 1)):=by omega
    rw [e,itP_add,itP_lp]
    exact e3 _ (by omega)
theorem free_some {m:Nat} {ow:Own} : ∀ (fuel:Nat) (p:Pb),p.j=p.i→p.more=SetTable.runEnd m p.i - p.i→(∃ n,n < fuel∧ow.getD (lpN m p n).j (some 0)=none)→∃ j,SetTable.layClean.free m ow fuel p.i p.perturb=some j
 | 0,p,_,_,⟨n,h,_⟩ => by omega
 | fuel + 1,p,hj,hm,⟨n,hn,he⟩ => by
  unfold SetTable.layClean.free
  cases z:(List.range (SetTable.runEnd m p.i + 1 - p.i)).find? (fun k => (ow.getD (p.i + k) (some 0)).isNone) with
  | some k => exact ⟨p.i + k,rfl⟩
  | none =>
   dsimp only
   have le:p.i ≤ SetTable.runEnd m p.i:=by unfold SetTable.runEnd; split <;> omega
   cases n with
   | zero =>
    exfalso
    have:=List.find?_eq_none.mp z 0 (List.mem_range.mpr (by omega))
    have he:ow.getD p.j (some 0)=none:=he
    rw [hj] at he
    rw [Nat.add_zero,he] at this
    exact this rfl
   | succ n =>
    refine free_some fuel (lp m p) rfl rfl ⟨n,by omega,?_⟩
    have e:∀ n,lpN m (lp m p) n=lpN m p (n + 1):=fun n => by
     induction n with
     | zero => rfl
     | succ n ih => show lp m (lpN m (lp m p) n)=lp m (lpN m p (n + 1)); rw [ih]
    rw [e]; exact he
structure LC (m:Nat) (ow:Own) (hs:List Int):Prop where
 size:ow.size=m + 1
 at' : ∀ (k:Nat) (h:Int),hs[k]? = some h→∃ j:Nat,ow[j]? = some (some k)∧∃ n,(itP m (startP m h) n).j=j∧∀ n',n' < n→ow.getD (itP m (startP m h) n').j (some 0) ≠ none
 few:∀ (j k:Nat),ow[j]? = some (some k)→k < hs.length
 one:∀ (j j' k:Nat),ow[j]? = some (some k)→ow[j']? = some (some k)→j=j'
theorem nodup_leN:∀ {l m:List Nat},l.Nodup→(∀ x ∈ l,x ∈ m)→l.length ≤ m.length
 | [],m,_,_ => Nat.zero_le _
 | a :: l,m,h,hm => by
  rw [List.nodup_cons] at h
  have ha:=hm a List.mem_cons_self
  have q:=nodup_leN (m:=m.erase a) h.2 fun x hx => (List.mem_erase_of_ne (fun z:x=a => h.1 (by rw [← z]; exact hx))).mpr (hm x (List.mem_cons_of_mem _ hx))
  rw [List.length_erase_of_mem ha] at q
  have:=List.length_pos_of_mem ha
  simp only [List.length_cons]
  omega
theorem LC.room {m:Nat} {ow:Own} {hs:List Int} (c:LC m ow hs) (hl:hs.length ≤ m):∃ e,e ≤ m∧ow.getD e (some 0)=none:=by
 refine Classical.byContradiction fun z => ?_
 have al:∀ e,e ≤ m→∃ k,ow[e]? = some (some k):=fun e he => by
  have hlt:e < ow.size:=by rw [c.size]; omega
  cases q:ow[e] with
  | none => exact absurd ⟨e,he,by rw [Array.getD_eq_getD_getElem?,Array.getElem?_eq_getElem hlt,q]; rfl⟩ z
  | some k => exact ⟨k,by rw [Array.getElem?_eq_getElem hlt,q]⟩
 let g:Nat→Nat:=fun e => (ow.getD e none).getD 0
 have gk:∀ e,e ≤ m→ow[e]? = some (some (g e)):=fun e he => by
  obtain ⟨k,hk⟩:=al e he
  have:g e=k:=by show (ow.getD e none).getD 0=k; rw [Array.getD_eq_getD_getElem?,hk]; rfl
  rw [this]; exact hk
 have nd:((List.range (m + 1)).map g).Nodup:=by
  rw [List.nodup_iff_pairwise_ne,List.pairwise_map]
  refine List.nodup_iff_pairwise_ne.mp List.nodup_range |>.imp_of_mem ?_
  intro a b ha hb ne e
  have ha:=List.mem_range.mp ha
  have hb:=List.mem_range.mp hb
  have h1:=gk a (by omega)
  have h2:=gk b (by omega)
  rw [e] at h1
  exact ne (c.one _ _ _ h1 h2)
 have:=nodup_leN (m:=List.range hs.length) nd fun x hx => by
  obtain ⟨e,he,rfl⟩:=List.mem_map.mp hx
  exact List.mem_range.mpr (c.few _ _ (gk e (by have:=List.mem_range.mp he; omega)))
 rw [List.length_map,List.length_range,List.length_range] at this
 omega
theorem LC.step {m:Nat} (hm:OkM m) {ow:Own} {hs:List Int} (c:LC m ow hs) (hl:hs.length ≤ m) (h:Int):∃ j,SetTable.layClean.free m ow (SetTable.turns m) (SetTable.bits h % (m + 1)) (SetTable.bits h)=some j∧LC m (ow.setIfInBounds j (some hs.length)) (hs ++ [h]):=by
 obtain ⟨e,he,hf⟩:=c.room hl
 have ib:SetTable.bits h % (m + 1) ≤ m:=Nat.le_of_lt_succ (Nat.mod_lt _ (Nat.succ_pos m))
 obtain ⟨n,n1,_,n2,_⟩:=meets hm (p:=startP m h) (bits_lt h) (run_le m _) ib he
 obtain ⟨j,hj⟩:=free_some (m:=m) (ow:=ow) (SetTable.turns m) (startP m h) rfl rfl ⟨n,by unfold SetTable.turns; omega,by rw [n2]; exact hf⟩
 have hj' : SetTable.layClean.free m ow (SetTable.turns m) (SetTable.bits h % (m + 1)) (SetTable.bits h)=some j:=hj
 refine ⟨j,hj',?_⟩
 obtain ⟨k,k1,k2,k3⟩:=free_ok (SetTable.turns m) (startP m h) rfl rfl hj
 have jl:j < ow.size:=by
  refine Classical.byContradiction fun z => ?_
  rw [Array.getD_eq_getD_getElem?,Array.getElem?_eq_none (by omega)] at k2
  cases k2
 have jn:ow[j]? = some none:=by
  rw [Array.getD_eq_getD_getElem?,Array.getElem?_eq_getElem jl] at k2
  rw [Array.getElem?_eq_getElem jl]
  exact congrArg some k2
 have gs:∀ x,(ow.setIfInBounds j (some hs.length))[x]? = if j=x then some (some hs.length) else ow[x]?:=fun x => by
  rw [Array.getElem?_setIfInBounds]
  by_cases q:j=x
  ·subst q; simp [jl]
  ·simp [q]
 have occ:∀ x,ow.getD x (some 0) ≠ none→(ow.setIfInBounds j (some hs.length)).getD x (some 0) ≠ none:=fun x hx => by
  rw [Array.getD_eq_getD_getElem?,gs]
  split
  ·intro q; cases q
  ·rw [← Array.getD_eq_getD_getElem?]; exact hx
 refine ⟨by rw [Array.size_setIfInBounds]; exact c.size,fun x y hx => ?_,fun x y hx => ?_,fun x x' y hx hx' => ?_⟩
 ·by_cases z:x < hs.length
  ·rw [List.getElem?_append_left z] at hx
   obtain ⟨i,i1,nn,i2,i3⟩:=c.at' x y hx
   refine ⟨i,?_,nn,i2,fun n' hn' => occ _ (i3 n' hn')⟩
   rw [gs,if_neg (fun q => by rw [← q,jn] at i1; cases i1)]
   exact i1
  ·have e:x=hs.length:=by
    have:=(List.getElem?_eq_some_iff.mp hx).1
    rw [List.length_append] at this
    simp at this
    omega
   subst e
   rw [List.getElem?_append_right (Nat.le_refl _),Nat.sub_self] at hx
   cases hx
   refine ⟨j,by rw [gs,if_pos rfl],k,k1,fun n' hn' => occ _ (k3 n' hn')⟩
 ·rw [gs] at hx
  rw [List.length_append]
  split at hx
  ·cases hx; simp
  ·have:=c.few x y hx
   simp
   omega
 ·rw [gs] at hx hx'
  split at hx
  ·rename_i q
   cases hx
   split at hx'
   ·rename_i q'; rw [← q,← q']
   ·exact absurd (c.few _ _ hx') (Nat.lt_irrefl _)
  ·split at hx'
   ·cases hx'; exact absurd (c.few _ _ hx) (Nat.lt_irrefl _)
   ·exact c.one _ _ _ hx hx'
theorem layClean_ok {m:Nat} (hm:OkM m) {hs:Array Int} (hl:hs.size ≤ m + 1):∃ ow,SetTable.layClean m hs=some ow∧LC m ow hs.toList:=by
 have key:∀ (l done:List Int) (ow:Own),done.length + l.length ≤ m + 1→LC m ow done→∃ ow',l.foldl (fun (acc:Option (Own × Nat)) h => do
   let (owner,k) ← acc
   let j ← SetTable.layClean.free m owner (SetTable.turns m) (SetTable.bits h % (m + 1)) (SetTable.bits h)
   pure (owner.setIfInBounds j (some k),k + 1)) (some (ow,done.length))=some (ow',(done ++ l).length)∧LC m ow' (done ++ l):=by
  intro l
  induction l with
  | nil => intro done ow _ c; exact ⟨ow,by rw [List.append_nil]; rfl,by rw [List.append_nil]; exact c⟩
  | cons h l ih =>
   intro done ow hle c
   simp only [List.length_cons] at hle
   obtain ⟨j,hj,c2⟩:=c.step hm (by omega) h
   obtain ⟨ow',e,c3⟩:=ih (done ++ [h]) (ow.setIfInBounds j (some done.length)) (by rw [List.length_append]; simp; omega) c2
   refine ⟨ow',?_,by rw [List.append_assoc] at c3; exact c3⟩
   rw [List.foldl_cons]
   rw [List.append_assoc] at e
   rw [← List.singleton_append,← e]
   congr 1
   show (do
    let j ← SetTable.layClean.free m ow (SetTable.turns m) (SetTable.bits h % (m + 1)) (SetTable.bits h)
    pure (ow.setIfInBounds j (some done.length),done.length + 1))=_
   rw [hj,List.length_append]
   rfl
 have c0:LC m (Array.replicate (m + 1) none) []:=by
  have no:∀ (j k:Nat),(Array.replicate (m + 1) (none:Option Nat))[j]? ≠ some (some k):=fun j k z => by
   rw [Array.getElem?_replicate] at z
   split at z <;> cases z
  exact ⟨by simp,fun k h hk => (by cases hk),fun j k h => absurd h (no j k),fun j j' k h => absurd h (no j k)⟩
 obtain ⟨ow,e,c⟩:=key hs.toList [] _ (by simpa using hl) c0
 refine ⟨ow,?_,by simpa using c⟩
 unfold SetTable.layClean
 rw [← Array.foldl_toList]
 have e':=e
 simp only [List.nil_append,List.length_nil] at e'
 rw [e']
 rfl
end L2
namespace L2
open PySem PySem.Spec PyProof.Rows
theorem adv_j {m:Nat} {p:Pb} (h:p.j + p.more ≤ m):(adv m p).j + (adv m p).more ≤ m:=by
 unfold adv
 split
 ·show p.j + 1 + (p.more - 1) ≤ m; omega
 ·have q:(p.i * 5 + 1 + p.perturb / 32) % (m + 1) ≤ m:=Nat.le_of_lt_succ (Nat.mod_lt _ (Nat.succ_pos m))
  show _ % (m + 1) + (SetTable.runEnd m _ - _) ≤ m
  unfold SetTable.runEnd
  split <;> omega
theorem itP_j {m:Nat} {p:Pb} (h:p.j + p.more ≤ m):∀ k,(itP m p k).j + (itP m p k).more ≤ m
 | 0 => h
 | k + 1 => adv_j (itP_j h k)
theorem start_j (m:Nat) (h:Int):(startP m h).j + (startP m h).more ≤ m:=by
 have q:SetTable.bits h % (m + 1) ≤ m:=Nat.le_of_lt_succ (Nat.mod_lt _ (Nat.succ_pos m))
 show _ % (m + 1) + (SetTable.runEnd m _ - _) ≤ m
 unfold SetTable.runEnd
 split <;> omega
theorem start_le (m:Nat) (h:Int) (k:Nat):(itP m (startP m h) k).j ≤ m:=by have:=itP_j (start_j m h) k; omega
structure TabOk (t:SetTable) (led:Bool) (hs:List Int):Prop where
 tb:TB t led
 m:(t.mask=7∧hs.length ≤ 4) ∨ (t.mask=31∧hs.length ≤ 18) ∨ (t.mask=127∧hs.length ≤ 76) ∨ (t.mask=511∧hs.length ≤ 306)
 sz:t.place.size=hs.length
 le:∀ (i j:Nat),t.place[i]? = some j→j ≤ t.mask
 rch:∀ (i:Nat) (h:Int),hs[i]? = some h→∃ j:Nat,t.place[i]? = some j∧∃ n,(itP t.mask (startP t.mask h) n).j=j∧∀ n',n' < n→Occ t (itP t.mask (startP t.mask h) n').j
theorem TabOk.okm {t:SetTable} {led:Bool} {hs:List Int} (k:TabOk t led hs):OkM t.mask:=by
 rcases k.m with h | h | h | h
 ·exact .inl h.1
 ·exact .inr (.inl h.1)
 ·exact .inr (.inr (.inl h.1))
 ·exact .inr (.inr (.inr h.1))
theorem TabOk.few {t:SetTable} {led:Bool} {hs:List Int} (k:TabOk t led hs):hs.length + 1 ≤ t.mask:=by rcases k.m with h | h | h | h <;> omega
theorem TabOk.fits {t:SetTable} {led:Bool} {hs:List Int} (k:TabOk t led hs):t.fits hs.length=true:=by
 unfold SetTable.fits SetTable.fill
 rw [k.sz,k.tb.dum]
 have:=k.few
 simp
 omega
theorem TabOk.room {t:SetTable} {led:Bool} {hs:List Int} (k:TabOk t led hs):∃ e,e ≤ t.mask∧¬ Occ t e:=by
 refine Classical.byContradiction fun z => ?_
 have al:∀ e,e ≤ t.mask→e ∈ t.place.toList:=fun e he => by
  refine Classical.byContradiction fun q => z ⟨e,he,fun ⟨i,hi⟩ => q ?_⟩
  rw [← Array.getElem?_toList] at hi
  exact List.mem_of_getElem? hi
 have:=nodup_leN (l:=List.range (t.mask + 1)) (m:=t.place.toList) List.nodup_range fun x hx => al x (by have:=List.mem_range.mp hx; omega)
 rw [List.length_range,Array.length_toList,k.sz] at this
 have:=k.few
 omega
theorem live_mem {m:Nat} {ow:Own} (hsz:ow.size=m + 1) {j k:Nat} : (j,k) ∈ ((List.range (m + 1)).filterMap fun j => (ow.getD j none).map (j,·)) ↔ ow[j]? = some (some k):=by
 rw [List.mem_filterMap]
 constructor
 ·rintro ⟨x,hx,e⟩
  cases q:ow.getD x none with
  | none => rw [q] at e; cases e
  | some y =>
   rw [q] at e
   cases e
   have:=List.mem_range.mp hx
   rw [Array.getD_eq_getD_getElem?,Array.getElem?_eq_getElem (by omega)] at q
   rw [Array.getElem?_eq_getElem (by omega)]
   exact congrArg some q
 ·intro h
  have hl:=(Array.getElem?_eq_some_iff.mp h).1
  refine ⟨j,List.mem_range.mpr (by omega),?_⟩
  rw [Array.getD_eq_getD_getElem?,h]
  rfl
theorem relaid_ok {t:SetTable} {led:Bool} (tb:TB t led) {hs:Array Int} {want:Nat} (hm:OkM (SetTable.sizeAbove want - 1)) (hl:hs.size ≤ SetTable.sizeAbove want - 1)
  (hb:((SetTable.sizeAbove want - 1)=7∧hs.size ≤ 4) ∨ ((SetTable.sizeAbove want - 1)=31∧hs.size ≤ 18) ∨ ((SetTable.sizeAbove want - 1)=127∧hs.size ≤ 76) ∨ ((SetTable.sizeAbove want - 1)=511∧hs.size ≤ 306)) :
  ∃ t' order,t.relaid hs want=some (t',order)∧order.toList.Perm (List.range hs.size)∧∀ hs' : List Int,hs'.length=hs.size→(∀ (i k:Nat),order[i]? = some k→hs'[i]? = hs[k]?)→TabOk t' led hs':=by
 generalize hmm:SetTable.sizeAbove want - 1=m at *
 obtain ⟨ow,e,c⟩:=layClean_ok hm (hs:=hs) (by omega)
 have cl:hs.toList.length=hs.size:=Array.length_toList
 let live:=(List.range (m + 1)).filterMap fun j => (ow.getD j none).map (j,·)
 have hr:t.relaid hs want=some ({ mask:=m,place:=(live.map (·.1)).toArray,dummies:=#[],finger:=t.finger,led:=t.led,moves:=t.movedTo m,plain:=t.plain },(live.map (·.2)).toArray):=by
  unfold SetTable.relaid SetTable.laid
  rw [hmm,e]
  rfl
 have pw:(live.map (·.1)).Pairwise (· < ·):=by
  rw [filter_fst (fun j => ow.getD j none)]
  exact List.pairwise_lt_range.sublist List.filter_sublist
 have pw2:live.Pairwise (fun a b => a.1 < b.1):=List.pairwise_map.mp pw
 have nd:(live.map (·.2)).Nodup:=by
  rw [List.nodup_iff_pairwise_ne,List.pairwise_map]
  refine pw2.imp_of_mem ?_
  rintro ⟨a,a'⟩ ⟨b,b'⟩ ha hb lt z
  have z:a' = b':=z
  subst z
  have:=c.one a b a' ((live_mem c.size).mp ha) ((live_mem c.size).mp hb)
  have lt:a < b:=lt
  omega
 have mem:∀ k,k ∈ live.map (·.2) ↔ k < hs.size:=fun k => by
  rw [List.mem_map]
  constructor
  ·rintro ⟨⟨j,k'⟩,hx,rfl⟩
   have:=c.few j k' ((live_mem c.size).mp hx)
   omega
  ·intro hk
   obtain ⟨j,hj,_⟩:=c.at' k hs.toList[k] (List.getElem?_eq_getElem (by omega))
   exact ⟨(j,k),(live_mem c.size).mpr hj,rfl⟩
 refine ⟨_,_,hr,?_,fun hs' hl' hh => ?_⟩
 ·show (live.map (·.2)).Perm _
  refine (List.perm_ext_iff_of_nodup nd List.nodup_range).mpr fun k => ?_
  rw [mem,List.mem_range]
 ·have ll:live.length=hs.size:=by
   have:=((List.perm_ext_iff_of_nodup nd (List.nodup_range (n:=hs.size))).mpr fun k => by rw [mem,List.mem_range]).length_eq
   rw [List.length_map,List.length_range] at this
   exact this
  have pl:∀ (i j:Nat),(live.map (·.1)).toArray[i]? = some j ↔ ∃ k,live[i]? = some (j,k):=fun i j => by
   rw [List.getElem?_toArray,List.getElem?_map]
   constructor
   ·intro z
    cases q:live[i]? with
    | none => rw [q] at z; cases z
    | some x => rw [q] at z; cases z; exact ⟨x.2,rfl⟩
   ·rintro ⟨k,q⟩; rw [q]; rfl
  have oc:∀ x,x ≤ m→ow.getD x (some 0) ≠ none→Occ { mask:=m,place:=(live.map (·.1)).toArray,dummies:=#[],finger:=t.finger,led:=t.led,moves:=t.movedTo m,plain:=t.plain } x:=fun x hx hn => by
   have xl:x < ow.size:=by rw [c.size]; omega
   cases q:ow[x] with
   | none => exact absurd (by rw [Array.getD_eq_getD_getElem?,Array.getElem?_eq_getElem xl,q]; rfl) hn
   | some k =>
    have:(x,k) ∈ live:=(live_mem c.size).mpr (by rw [Array.getElem?_eq_getElem xl,q])
    obtain ⟨i,hi⟩:=List.mem_iff_getElem?.mp this
    exact ⟨i,(pl i x).mpr ⟨k,hi⟩⟩
  refine ⟨⟨tb.led,rfl,by rw [List.toList_toArray]; exact pw⟩,by rw [hl']; exact hb,by rw [List.size_toArray,List.length_map,ll,hl'],fun i j hij => ?_,fun i h hih => ?_⟩
  ·obtain ⟨k,hk⟩:=(pl i j).mp hij
   have:=(live_mem c.size).mp (List.mem_of_getElem? hk)
   have:=(Array.getElem?_eq_some_iff.mp this).1
   show j ≤ m
   have:=c.size
   omega
  ·have il:i < live.length:=by have:=(List.getElem?_eq_some_iff.mp hih).1; omega
   have hk:live[i]? = some live[i]:=List.getElem?_eq_getElem il
   have ho:(live.map (·.2)).toArray[i]? = some live[i].2:=by rw [List.getElem?_toArray,List.getElem?_map,hk]; rfl
   have e2:=hh i _ ho
   rw [hih] at e2
   obtain ⟨j,hj,n,n1,n2⟩:=c.at' live[i].2 h (by rw [Array.getElem?_toList]; exact e2.symm)
   have mj:=(live_mem c.size).mp (List.mem_of_getElem? hk)
   have ej:=c.one _ _ _ hj mj
   refine ⟨live[i].1,(pl i _).mpr ⟨_,hk⟩,n,(show (itP m (startP m h) n).j=_ from n1.trans ej),fun n' hn' => oc _ (start_le m h n') (n2 n' hn')⟩
end L2
namespace L2
open PySem PySem.Spec PyProof.Rows
theorem items_ints {prog:Program} {w:World} : ∀ {vs:List Value} {u:List Int},IntsAre vs u→ItemsAre (intKind prog w) u vs
 | _,_,.nil => .nil
 | _,_,.cons n t h => .cons (intKind_is _ _ _ _) (items_ints h)
theorem TupI.key {prog:Program} {w:World} {h:Heap} {a:Addr} {u:List Int} (t:TupI h (.ref a) u):IsTupleKey (intKind prog w) h u a:=by
 obtain ⟨b,o,its,n,e,e1,c,d,i⟩:=t
 cases e
 exact ⟨o,its,n,e1,c,d,items_ints i⟩
theorem ints_all:∀ {vs:List Value} {u:List Int},IntsAre vs u→∀ v ∈ vs,∃ n t,v=Value.int n t
 | _,_,.nil,v,hv => by cases hv
 | _,_,.cons n t h,v,hv => by
  rcases List.mem_cons.mp hv with rfl | hv
  ·exact ⟨n,t,rfl⟩
  ·exact ints_all h v hv
section
variable {prog:Program} {w:World} {A:Around} {E:Value→Shared→Prop} {s:Shared}
theorem byValue_tup {x:Value} {u:List Int} {Q:Bool→Shared→Prop} (t:TupI s.heap x u) (h:Q true s):wpAny (model prog w) A (hashByValue 8 x) Q E s:=by
 obtain ⟨a,o,its,n,rfl,e,c,d,i⟩:=t
 have hT:s.TypeIs (.ref a) "tuple" := ⟨o,e,c⟩
 unfold hashByValue
 refine wpAny_bind (wpAny_specialOf hT PySem.F.slot_tuple_hash.lookup ?_)
 show wpAny _ _ (seqItems? (.ref a) >>= _) _ _ s
 refine wpAny_bind (wpAny_seqItems e d ?_)
 refine wpAny_bind ?_
 show wpAny _ _ (forIn its _ _) _ _ s
 rw [← Array.forIn_toList]
 refine wpAny_forIn_list _ (fun l r t => r.1=none∧t=s∧∀ v ∈ l,∃ n t,v=Value.int n t) _ ?_ ?_ _ _ ⟨rfl,rfl,ints_all i⟩
 ·rintro v l r t ⟨hr,rfl,al⟩
  obtain ⟨m,k,rfl⟩:=al v List.mem_cons_self
  refine wpAny_bind (wpAny_pure ?_)
  rw [if_neg (by simp)]
  exact wpAny_pure ⟨rfl,rfl,fun y hy => al y (List.mem_cons_of_mem _ hy)⟩
 ·rintro ⟨r1,r2⟩ t ⟨hr,rfl,_⟩
  cases (show r1=none from hr)
  exact wpAny_pure h
theorem noClass_tup {x:Value} {u:List Int} {Q:Bool→Shared→Prop} (t:TupI s.heap x u) (h:Q false s):wpAny (model prog w) A (ofAClassStatement 8 x) Q E s:=by
 obtain ⟨a,o,its,n,rfl,e,c,d,i⟩:=t
 have hT:s.TypeIs (.ref a) "tuple" := ⟨o,e,c⟩
 unfold ofAClassStatement
 refine wpAny_bind (wpAny_typeOf hT ?_)
 dsimp only
 rw [if_pos (by decide)]
 refine wpAny_bind (wpAny_pure ?_)
 rw [if_neg (by simp)]
 refine wpAny_bind (wpAny_seqItems e d ?_)
 dsimp only
 refine wpAny_bind ?_
 rw [← Array.forIn_toList]
 refine wpAny_forIn_list _ (fun l r t => r.1=none∧t=s∧∀ v ∈ l,∃ n t,v=Value.int n t) _ ?_ ?_ _ _ ⟨rfl,rfl,ints_all i⟩
 ·rintro v l r t ⟨hr,rfl,al⟩
  obtain ⟨m,k,rfl⟩:=al v List.mem_cons_self
  refine wpAny_bind (wpAny_pure ?_)
  rw [if_neg (by simp)]
  exact wpAny_pure ⟨rfl,rfl,fun y hy => al y (List.mem_cons_of_mem _ hy)⟩
 ·rintro ⟨r1,r2⟩ t ⟨hr,rfl,_⟩
  cases (show r1=none from hr)
  exact wpAny_pure h
theorem notSeen {x:Value} {u:List Int} {ys:List Value} {Q:Bool→Shared→Prop} (hx:TupI s.heap x u) (ty:∀ y ∈ ys,∃ v,TupI s.heap y v) (h:Q false s):wpAny (model prog w) A (searchCouldBeSeen x ys) Q E s:=by
 unfold searchCouldBeSeen
 refine wpAny_bind ?_
 refine wpAny_forIn_list _ (fun l r t => r.1=none∧t=s∧∀ y ∈ l,∃ v,TupI s.heap y v) _ ?_ ?_ _ _ ⟨rfl,rfl,ty⟩
 ·rintro y l r t ⟨hr,rfl,al⟩
  obtain ⟨v,hy⟩:=al y List.mem_cons_self
  have al2:∀ z ∈ l,∃ v,TupI t.heap z v:=fun z hz => al z (List.mem_cons_of_mem _ hz)
  obtain ⟨a,_,_,_,rfl,_⟩:=id hx
  obtain ⟨b,_,_,_,rfl,_⟩:=id hy
  dsimp only
  split
  ·exact wpAny_pure ⟨rfl,rfl,al2⟩
  ·refine wpAny_bind (wpAny_eqIsQuiet_tuple (hx.key (prog:=prog) (w:=w)) ?_)
   rw [if_neg (by simp)]
   refine wpAny_bind (wpAny_eqIsQuiet_tuple (hy.key (prog:=prog) (w:=w)) ?_)
   rw [if_neg (by simp)]
   refine wpAny_bind (noClass_tup hx ?_)
   rw [if_neg (by simp)]
   refine wpAny_bind (noClass_tup hy ?_)
   rw [if_neg (by simp)]
   exact wpAny_pure ⟨rfl,rfl,al2⟩
 ·rintro ⟨r1,r2⟩ t ⟨hr,rfl,_⟩
  cases (show r1=none from hr)
  exact wpAny_pure h
end
end L2
namespace L2
open PySem PySem.Spec PyProof.Rows
def hsh (prog:Program) (w:World) (u:List Int):Int:=tupleKeyHash (intKind prog w) u
def EA (prog:Program) (w:World) (V0:Value→Prop) (hp:Heap) (es:List (Int × Value)) (ks:List (List Int)):Prop:=es.length=ks.length∧∀ (i:Nat) (e:Int × Value) (k:List Int),es[i]? = some e→ks[i]? = some k→TupI hp e.2 k∧e.1=hsh prog w k∧V0 e.2
section
variable {prog:Program} {w:World} {A:Around} {E:Value→Shared→Prop} {s:Shared}
theorem search_t {V0:Value→Prop} {a:Addr} {o:Obj} {es:Array (Int × Value)} {ep:Nat} {t:SetTable} {led:Bool} {ks:List (List Int)} {u:List Int} {x:Value} {Q:SetFound→Shared→Prop} (ho:s.heap.get? a=some o) (hd:o.data = .set es ep t)
  (K:TabOk t led (es.toList.map (·.1))) (ea:EA prog w V0 s.heap es.toList ks) (hx:TupI s.heap x u) (hu:A.units < cLine) {N:Nat} (hf : ¬ Occ t (itP t.mask (startP t.mask (hsh prog w u)) N).j) (hoc:∀ n,n < N→Occ t (itP t.mask (startP t.mask (hsh prog w u)) n).j) (hN:N < 10 * SetTable.turns t.mask)
  (h1:u ∈ ks→Q (.there none) s) (h2:u ∉ ks→Q (.free (itP t.mask (startP t.mask (hsh prog w u)) N).j false) s) :
  ∀ (fuel c:Nat) (stand:Option Pb),stand.getD (t.probeStart (hsh prog w u))=itP t.mask (startP t.mask (hsh prog w u)) c→c ≤ N→N < c + fuel→(∀ (n i:Nat) (k:List Int),n < c→t.place[i]? = some (itP t.mask (startP t.mask (hsh prog w u)) n).j→ks[i]? = some k→k ≠ u) →
   wpAny (model prog w) A (setSearchFrom a x (hsh prog w u) true fuel stand) Q E s:=by
 have fit:t.fits es.size=true:=by
  have:=K.fits
  rw [List.length_map,Array.length_toList] at this
  exact this
 have gave : ¬ t.gaveWay=true:=by
  unfold SetTable.gaveWay
  rcases K.okm with h | h | h | h <;> rw [h] <;> decide
 have kl:ks.length=es.size:=by rw [← ea.1,Array.length_toList]
 intro fuel
 induction fuel with
 | zero => intro c stand _ _ _; omega
 | succ fuel ih =>
  intro c stand hst cN Nf acc
  unfold setSearchFrom
  refine wpAny_bind (wpAny_setState_of ho hd fit ?_)
  dsimp only
  rw [if_neg gave]
  rcases probe_walk K.tb (f:=fun i => (es[i]?.map (·.1)).getD 0) (h:=hsh prog w u) (p:=startP t.mask (hsh prog w u)) rfl (10 * SetTable.turns t.mask) N hf hoc c cN (by omega) with ⟨n,i,cn,nN,hpl,hfi,hbt,hgo⟩ | ⟨hno,hgo⟩
  ·have hpr:t.probe (fun i => (es[i]?.map (·.1)).getD 0) (hsh prog w u) (stand.getD (t.probeStart (hsh prog w u)))=some (.candidate (itP t.mask (startP t.mask (hsh prog w u)) n).j i (itP t.mask (startP t.mask (hsh prog w u)) (n + 1))):=by rw [hst]; exact hgo
   erw [hpr]
   dsimp only
   have il:i < es.size:=by
    have:=(Array.getElem?_eq_some_iff.mp hpl).1
    rw [K.sz,List.length_map,Array.length_toList] at this
    exact this
   obtain ⟨h',y,hei⟩:∃ h' y,es[i]? = some (h',y):=⟨es[i].1,es[i].2,Array.getElem?_eq_getElem il⟩
   obtain ⟨k,hk⟩:∃ k,ks[i]? = some k:=⟨ks[i],List.getElem?_eq_getElem (by omega)⟩
   obtain ⟨ty,hh,_⟩:=ea.2 i _ k (by rw [Array.getElem?_toList]; exact hei) hk
   have seen:∀ {R:Bool→Shared→Prop},R false s→wpAny (model prog w) A (searchCouldBeSeen x ((es.filter (·.1 == hsh prog w u)).toList.map (·.2))) R E s:=fun {R} hR => by
    refine notSeen hx (fun y hy => ?_) hR
    obtain ⟨e,he,rfl⟩:=List.mem_map.mp hy
    rw [Array.toList_filter] at he
    obtain ⟨m,hm⟩:=List.mem_iff_getElem?.mp (List.mem_filter.mp he).1
    have ml:=(List.getElem?_eq_some_iff.mp hm).1
    have ml2:m < ks.length:=by rw [← ea.1]; exact ml
    exact ⟨ks[m],(ea.2 m e _ hm (List.getElem?_eq_getElem ml2)).1⟩
   have sm:t.sameMemory t.moves t.mask=some true:=by unfold SetTable.sameMemory; simp
   obtain ⟨b,_,_,_,eb,_⟩:=id ty
   have eb:y = .ref b:=eb
   subst eb
   obtain ⟨c',_,_,_,ec,_⟩:=id hx
   subst ec
   by_cases hl:t.led=true
   ·rw [if_neg (by simp [hl])]
    rw [hei]
    dsimp only
    refine wpAny_bind (wpAny_holding (wpAny_eqBool_tuple hu (ty.key (prog:=prog) (w:=w)) (hx.key (prog:=prog) (w:=w)) ?_))
    refine wpAny_bind (wpAny_setState_of ho hd fit ?_)
    dsimp only
    by_cases e:k=u
    ·rw [decide_eq_true e,if_pos (by rfl)]
     exact wpAny_pure (h1 (e ▸ List.mem_of_getElem? hk))
    ·rw [decide_eq_false e,if_neg (by simp),sm]
     dsimp only
     rw [if_pos rfl,slot_live K.tb hpl]
     dsimp only
     rw [hei]
     dsimp only
     refine wpAny_bind (wpAny_isSame_ref_self ?_)
     rw [if_pos rfl]
     refine wpAny_bind (wpAny_pure ?_)
     dsimp only
     rw [if_neg (by simp)]
     refine ih (n + 1) (some _) rfl (by omega) (by omega) fun n' i' k' h3 h4 h5 => ?_
     by_cases z:n' < c
     ·exact acc n' i' k' z h4 h5
     ·rcases Nat.lt_or_eq_of_le (Nat.le_of_lt_succ h3) with q | q
      ·intro ek
       refine hbt n' i' (by omega) q h4 ?_
       have l5:=(List.getElem?_eq_some_iff.mp h5).1
       have l6:es.toList[i']? = some es.toList[i']:=List.getElem?_eq_getElem (by rw [ea.1]; exact l5)
       have l7:=(ea.2 i' _ k' l6 h5).2.1
       show (es[i']?.map (·.1)).getD 0=hsh prog w u
       rw [← Array.getElem?_toList,l6,← ek,← l7]
       rfl
      ·subst q
       have:i=i':=by rw [← below_at K.tb.up hpl,← below_at K.tb.up h4]
       rw [← this,hk] at h5
       cases h5
       exact e
   ·rw [if_pos (by simp [hl])]
    refine wpAny_bind (seen ?_)
    rw [if_neg (by simp)]
    rw [hei]
    dsimp only
    refine wpAny_bind (wpAny_holding (wpAny_eqBool_tuple hu (ty.key (prog:=prog) (w:=w)) (hx.key (prog:=prog) (w:=w)) ?_))
    refine wpAny_bind (wpAny_setState_of ho hd fit ?_)
    dsimp only
    by_cases e:k=u
    ·rw [decide_eq_true e,if_pos (by rfl)]
     exact wpAny_pure (h1 (e ▸ List.mem_of_getElem? hk))
    ·rw [decide_eq_false e,if_neg (by simp),sm]
     dsimp only
     rw [if_pos rfl,slot_live K.tb hpl]
     dsimp only
     rw [hei]
     dsimp only
     refine wpAny_bind (wpAny_isSame_ref_self ?_)
     rw [if_pos rfl]
     refine wpAny_bind (wpAny_pure ?_)
     dsimp only
     rw [if_neg (by simp)]
     refine ih (n + 1) (some _) rfl (by omega) (by omega) fun n' i' k' h3 h4 h5 => ?_
     by_cases z:n' < c
     ·exact acc n' i' k' z h4 h5
     ·rcases Nat.lt_or_eq_of_le (Nat.le_of_lt_succ h3) with q | q
      ·intro ek
       refine hbt n' i' (by omega) q h4 ?_
       have l5:=(List.getElem?_eq_some_iff.mp h5).1
       have l6:es.toList[i']? = some es.toList[i']:=List.getElem?_eq_getElem (by rw [ea.1]; exact l5)
       have l7:=(ea.2 i' _ k' l6 h5).2.1
       show (es[i']?.map (·.1)).getD 0=hsh prog w u
       rw [← Array.getElem?_toList,l6,← ek,← l7]
       rfl
      ·subst q
       have:i=i':=by rw [← below_at K.tb.up hpl,← below_at K.tb.up h4]
       rw [← this,hk] at h5
       cases h5
       exact e
  ·have hpr:t.probe (fun i => (es[i]?.map (·.1)).getD 0) (hsh prog w u) (stand.getD (t.probeStart (hsh prog w u)))=some (.empty (itP t.mask (startP t.mask (hsh prog w u)) N).j none):=by rw [hst]; exact hgo
   erw [hpr]
   dsimp only
   refine wpAny_pure (h2 fun hin => ?_)
   obtain ⟨i,hi⟩:=List.mem_iff_getElem?.mp hin
   have il:=(List.getElem?_eq_some_iff.mp hi).1
   have hei:es.toList[i]? = some es.toList[i]:=List.getElem?_eq_getElem (by rw [ea.1]; exact il)
   obtain ⟨ty,hh,_⟩:=ea.2 i _ u hei hi
   obtain ⟨j,hj,n,n1,n2⟩:=K.rch i (hsh prog w u) (by rw [List.getElem?_map,hei,← hh]; rfl)
   have nN:n < N:=by
    rcases Nat.lt_trichotomy n N with z | z | z
    ·exact z
    ·subst z; exact absurd ⟨i,by rw [n1]; exact hj⟩ hf
    ·exact absurd (n2 N z) hf
   by_cases z:n < c
   ·exact acc n i u z (by rw [n1]; exact hj) hi rfl
   ·refine hno n i (by omega) nN (by rw [n1]; exact hj) ?_
    show (es[i]?.map (·.1)).getD 0=hsh prog w u
    rw [← Array.getElem?_toList,hei,← hh]
    rfl
end
end L2
namespace L2
open PySem PySem.Spec PyProof.Rows
def insL {α:Type} (l:List α) (p:Nat) (x:α):List α:=l.take p ++ x :: l.drop p
theorem insL_len {α:Type} {l:List α} {p:Nat} {x:α} (hp:p ≤ l.length):(insL l p x).length=l.length + 1:=by
 unfold insL; rw [List.length_append,List.length_take,List.length_cons,List.length_drop]; omega
theorem insL_get {α:Type} {l:List α} {p:Nat} {x:α} (hp:p ≤ l.length) (i:Nat):(insL l p x)[i]? = if i < p then l[i]? else if i=p then some x else l[i - 1]?:=by
 unfold insL
 have tl:(l.take p).length=p:=by rw [List.length_take]; omega
 by_cases h:i < p
 ·rw [if_pos h,List.getElem?_append_left (by omega),List.getElem?_take,if_pos h]
 ·rw [if_neg h,List.getElem?_append_right (by omega),tl]
  by_cases e:i=p
  ·rw [if_pos e,e,Nat.sub_self]; rfl
  ·rw [if_neg e]
   obtain ⟨d,hd⟩:∃ d,i - p=d + 1:=⟨i - p - 1,by omega⟩
   rw [hd,List.getElem?_cons_succ,List.getElem?_drop]
   congr 1
   omega
theorem insL_perm {α:Type} (l:List α) (p:Nat) (x:α):(insL l p x).Perm (l ++ [x]):=by
 unfold insL
 refine (List.perm_middle).trans ?_
 rw [List.take_append_drop]
 exact (List.perm_append_singleton x l).symm
theorem insL_map {α β:Type} (f:α→β) (l:List α) (p:Nat) (x:α):(insL l p x).map f=insL (l.map f) p (f x):=by
 unfold insL
 rw [List.map_append,List.map_cons,List.map_take,List.map_drop]
theorem put_ok {t:SetTable} {led:Bool} {hs:List Int} (K:TabOk t led hs) {h:Int} {N:Nat} (hf : ¬ Occ t (itP t.mask (startP t.mask h) N).j) (hoc:∀ n,n < N→Occ t (itP t.mask (startP t.mask h) n).j) :
  TB (t.put (itP t.mask (startP t.mask h) N).j).1 led∧SetTable.below t.place (itP t.mask (startP t.mask h) N).j ≤ hs.length∧(t.put (itP t.mask (startP t.mask h) N).j).1.place.size=hs.length + 1 ∧
  (((t.mask=7∧hs.length + 1 ≤ 4) ∨ (t.mask=31∧hs.length + 1 ≤ 18) ∨ (t.mask=127∧hs.length + 1 ≤ 76) ∨ (t.mask=511∧hs.length + 1 ≤ 306))→TabOk (t.put (itP t.mask (startP t.mask h) N).j).1 led (insL hs (SetTable.below t.place (itP t.mask (startP t.mask h) N).j) h)):=by
 generalize hj:(itP t.mask (startP t.mask h) N).j=j at *
 obtain ⟨b1,_,_⟩:=below_ok K.tb.up j
 have jm:j ≤ t.mask:=by rw [← hj]; exact start_le _ _ _
 have tb:=put_tb K.tb (slot_empty K.tb hf)
 have pl:(t.put j).1.place.toList=insL t.place.toList (SetTable.below t.place j) j:=SetTable.toList_insertAt _ _ _
 have ple:SetTable.below t.place j ≤ t.place.toList.length:=by rw [Array.length_toList]; exact b1
 have hp:SetTable.below t.place j ≤ hs.length:=by rw [← K.sz]; exact b1
 have sz:(t.put j).1.place.size=hs.length + 1:=by rw [← Array.length_toList,pl,insL_len ple,Array.length_toList,K.sz]
 refine ⟨tb,hp,sz,fun hm => ?_⟩
 have gp:∀ i:Nat,(t.put j).1.place[i]? = if i < SetTable.below t.place j then t.place[i]? else if i=SetTable.below t.place j then some j else t.place[i - 1]?:=fun i => by
  rw [← Array.getElem?_toList,pl,insL_get ple,Array.getElem?_toList,Array.getElem?_toList]
 have oc:∀ x,Occ t x→Occ (t.put j).1 x:=fun x ⟨i,hi⟩ => by
  by_cases z:i < SetTable.below t.place j
  ·exact ⟨i,by rw [gp,if_pos z]; exact hi⟩
  ·exact ⟨i + 1,by rw [gp,if_neg (by omega),if_neg (by omega),Nat.add_sub_cancel]; exact hi⟩
 refine ⟨tb,by rw [insL_len hp]; exact hm,by rw [sz,insL_len hp],fun i x hx => ?_,fun i y hy => ?_⟩
 ·show x ≤ t.mask
  rw [gp] at hx
  split at hx
  ·exact K.le _ _ hx
  ·split at hx
   ·cases hx; exact jm
   ·exact K.le _ _ hx
 ·show ∃ x:Nat,(t.put j).1.place[i]? = some x∧∃ n,(itP t.mask (startP t.mask y) n).j=x∧∀ n',n' < n→Occ (t.put j).1 (itP t.mask (startP t.mask y) n').j
  rw [insL_get hp] at hy
  rw [gp]
  split at hy
  ·rename_i z
   rw [if_pos z]
   obtain ⟨x,e,n,n1,n2⟩:=K.rch i y hy
   exact ⟨x,e,n,n1,fun n' hn' => oc _ (n2 n' hn')⟩
  ·rename_i z
   rw [if_neg z]
   split at hy
   ·rename_i z2
    rw [if_pos z2]
    cases hy
    exact ⟨j,rfl,N,hj,fun n' hn' => oc _ (hoc n' hn')⟩
   ·rename_i z2
    rw [if_neg z2]
    obtain ⟨x,e,n,n1,n2⟩:=K.rch (i - 1) y hy
    exact ⟨x,e,n,n1,fun n' hn' => oc _ (n2 n' hn')⟩
def pick {α:Type} (l:List α) (ord:List Nat):List α:=ord.filterMap fun i => l[i]?
theorem pick_get {α:Type} {l:List α} : ∀ {ord:List Nat},(∀ k ∈ ord,k < l.length)→∀ i:Nat,(pick l ord)[i]? = (ord[i]?).bind fun k => l[k]?
 | [],_,i => rfl
 | k :: ord,h,i => by
  have hk:=h k List.mem_cons_self
  have e:pick l (k :: ord)=l[k] :: pick l ord:=by unfold pick; rw [List.filterMap_cons_some (b:=l[k]) (List.getElem?_eq_getElem hk)]
  rw [e]
  cases i with
  | zero => show some l[k]=l[k]?; rw [List.getElem?_eq_getElem hk]
  | succ i => exact pick_get (fun x hx => h x (List.mem_cons_of_mem _ hx)) i
theorem pickL_perm {α:Type} {l:List α} {ord:List Nat} (h:ord.Perm (List.range l.length)):(pick l ord).Perm l:=by
 have e:(List.range l.length).filterMap (fun i => l[i]?)=l:=List.filterMap_getElem?_range_length l
 have:=h.filterMap (fun i => l[i]?)
 rw [e] at this
 exact this
def SetT (prog:Program) (w:World) (V0:Value→Prop) (hp:Heap) (a:Addr) (us:List (List Int)):Prop :=
 ∃ o es ep t ks,hp.get? a=some o∧o.ExactSet∧o.data = .set es ep t∧EA prog w V0 hp es.toList ks∧ks.Perm us∧TabOk t (!w.params.followText "set-order") (es.toList.map (·.1))
theorem EA.keep {prog:Program} {w:World} {V0:Value→Prop} {h h' : Heap} {es:List (Int × Value)} {ks:List (List Int)} (x:EA prog w V0 h es ks) (k:∀ (b:Addr) (o:Obj),o.cls = .type "tuple" → h.get? b=some o→h'.get? b=some o):EA prog w V0 h' es ks :=
 ⟨x.1,fun i e u h1 h2 => ⟨(x.2 i e u h1 h2).1.keep' k,(x.2 i e u h1 h2).2⟩⟩
section
variable {prog:Program} {w:World} {A:Around} {E:Value→Shared→Prop} {s:Shared}
theorem sb_tup {a:Addr} {o:Obj} {h h' : Heap} (ho:h.get? a=some o) (hx:o.ExactSet) (sb:Heap.SameBut a h h') (b:Addr) (ob:Obj) (hc:ob.cls = .type "tuple") (hb:h.get? b=some ob):h'.get? b=some ob:=by
 refine sb.extBut b ob (fun z => ?_) hb
 rw [z,ho] at hb
 cases hb
 rw [hx.1] at hc
 exact absurd hc (by decide)
theorem setAdd_t {V0:Value→Prop} {a:Addr} {us:List (List Int)} {x:Value} {u:List Int} {Q:Bool→Shared→Prop} (hS:SetT prog w V0 s.heap a us) (hx:TupI s.heap x u) (hV:V0 x) (hu:A.units < cLine) (few:us.length + 1 ≤ 301)
  (h:∀ h' : Heap,Heap.SameBut a s.heap h'→SetT prog w V0 h' a (if u ∈ us then us else us ++ [u])→Q (!decide (u ∈ us)) { s with heap:=h' }):wpAny (model prog w) A (setAddHashed a x (hsh prog w u)) Q E s:=by
 obtain ⟨o,es,ep,t,ks,ho,hex,hd,ea,pm,K⟩:=hS
 have kl:es.size=us.length:=by rw [← Array.length_toList,ea.1,pm.length_eq]
 have fit:t.fits es.size=true:=by
  have:=K.fits
  rw [List.length_map,Array.length_toList] at this
  exact this
 have hlen:(es.toList.map (·.1)).length=es.size:=by rw [List.length_map,Array.length_toList]
 obtain ⟨e,em,ef⟩:=K.room
 obtain ⟨N0,N1,N2⟩:=meets_it K.okm (p:=startP t.mask (hsh prog w u)) (bits_lt _) (run_le _ _) (by show SetTable.bits _ % (t.mask + 1) ≤ t.mask; exact Nat.le_of_lt_succ (Nat.mod_lt _ (Nat.succ_pos _))) em
 obtain ⟨N,hN,hf,hoc⟩:=first_free (t:=t) (p:=startP t.mask (hsh prog w u)) ⟨N0,N1,by rw [N2]; exact ef⟩
 have N6:N < 100000:=by
  have:SetTable.turns t.mask ≤ 526:=by unfold SetTable.turns; rcases K.okm with z | z | z | z <;> omega
  omega
 obtain ⟨c,oc,itc,nc,rfl,hoc',hcc,hdc,hic⟩:=id hx
 have sc : ¬ byScan (.ref c) es=true:=by unfold byScan Value.scannable; simp
 unfold setAddHashed
 refine wpAny_holding ?_
 unfold setAddHashedIn
 refine wpAny_bind (wpAny_setState_of ho hd fit ?_)
 dsimp only
 rw [if_neg sc]
 refine wpAny_bind ?_
 unfold setSearch
 refine search_t ho hd K ea hx hu hf hoc hN (fun hin => ?_) (fun hno => ?_) 100000 0 none rfl (Nat.zero_le _) (by omega) (fun n i k hn => absurd hn (Nat.not_lt_zero _))
 ·dsimp only
  have hin' : u ∈ us:=pm.mem_iff.mp hin
  have z:=h s.heap (Heap.SameBut.refl ..) (by rw [if_pos hin']; exact ⟨o,es,ep,t,ks,ho,hex,hd,ea,pm,K⟩)
  rw [decide_eq_true hin'] at z
  exact wpAny_pure z
 ·dsimp only
  have hno' : u ∉ us:=fun q => hno (pm.mem_iff.mpr q)
  obtain ⟨tb1,ple,psz,pok⟩:=put_ok K hf hoc
  refine wpAny_bind (wpAny_setState_of ho hd fit ?_)
  dsimp only
  have hbl:(t.put (itP t.mask (startP t.mask (hsh prog w u)) N).j).2=SetTable.below t.place (itP t.mask (startP t.mask (hsh prog w u)) N).j:=rfl
  have hmk:(t.put (itP t.mask (startP t.mask (hsh prog w u)) N).j).1.mask=t.mask:=rfl
  rw [hbl]
  generalize (t.put (itP t.mask (startP t.mask (hsh prog w u)) N).j).1=t1 at *
  generalize SetTable.below t.place (itP t.mask (startP t.mask (hsh prog w u)) N).j=p at *
  rw [hlen] at ple psz pok
  have ple2:p ≤ es.toList.length:=by rw [Array.length_toList]; exact ple
  have plk:p ≤ ks.length:=by rw [← ea.1]; exact ple2
  have es1l:(SetTable.insertAt es p (hsh prog w u,Value.ref c)).toList=insL es.toList p (hsh prog w u,Value.ref c):=SetTable.toList_insertAt _ _ _
  have es1s:(SetTable.insertAt es p (hsh prog w u,Value.ref c)).size=es.size + 1:=by rw [← Array.length_toList,es1l,insL_len ple2,Array.length_toList]
  have pm1:(insL ks p u).Perm (us ++ [u]):=(insL_perm ks p u).trans (pm.append_right _)
  have last:∀ (h' : Heap) (es2:Array (Int × Value)) (t2:SetTable) (ks2:List (List Int)) (ep2:Nat),Heap.SameBut a s.heap h'→h'.get? a=some { o with data:=.set es2 ep2 t2 }→EA prog w V0 h' es2.toList ks2→ks2.Perm (us ++ [u])→TabOk t2 (!w.params.followText "set-order") (es2.toList.map (·.1))→Q true { s with heap:=h' }:=fun h' es2 t2 ks2 ep2 sb g ea2 p2 K2 => by
   have z:=h h' sb (by rw [if_neg hno']; exact ⟨_,es2,ep2,t2,ks2,g,hex,rfl,ea2,p2,K2⟩)
   rw [decide_eq_false hno'] at z
   exact z
  have fin:wpAny (model prog w) A (do
    storeSet a (SetTable.insertAt es p (hsh prog w u,Value.ref c)) t1
    if (!false && t1.tooFull)=true then do
      setRelay a (SetTable.grown (es.size + 1))
      pure true
     else pure true) Q E s:=by
   have small:es.size + 1 ≤ sizeLine:=Nat.le_trans (show es.size + 1 ≤ 1000 by omega) (by decide)
   refine wpAny_bind (wpAny_storeSet_of ho hd ?_ (by rw [es1s]; exact small))
   have o1:=stored_at ho hd (SetTable.insertAt es p (hsh prog w u,Value.ref c)) t1
   have b1:=Heap.SameBut.update s.heap a (Obj.putSet (SetTable.insertAt es p (hsh prog w u,Value.ref c)) t1)
   have kp1:=sb_tup ho hex b1
   generalize s.heap.update a (Obj.putSet (SetTable.insertAt es p (hsh prog w u,Value.ref c)) t1)=h1 at o1 b1 kp1 ⊢
   have ea1:EA prog w V0 h1 (SetTable.insertAt es p (hsh prog w u,Value.ref c)).toList (insL ks p u):=by
    rw [es1l]
    refine ⟨by rw [insL_len ple2,insL_len plk,ea.1],fun i e k h3 h4 => ?_⟩
    rw [insL_get ple2] at h3
    rw [insL_get plk] at h4
    split at h3
    ·rename_i z; rw [if_pos z] at h4
     exact ⟨(ea.2 i e k h3 h4).1.keep' kp1,(ea.2 i e k h3 h4).2⟩
    ·rename_i z; rw [if_neg z] at h4
     split at h3
     ·rename_i z2; rw [if_pos z2] at h4
      cases h3; cases h4
      exact ⟨hx.keep' kp1,rfl,hV⟩
     ·rename_i z2; rw [if_neg z2] at h4
      exact ⟨(ea.2 _ e k h3 h4).1.keep' kp1,(ea.2 _ e k h3 h4).2⟩
   have hs1:(SetTable.insertAt es p (hsh prog w u,Value.ref c)).toList.map (·.1)=insL (es.toList.map (·.1)) p (hsh prog w u):=by rw [es1l,insL_map]
   have tfl:t1.tooFull=decide ((es.size + 1) * 5 ≥ t.mask * 3):=by
    unfold SetTable.tooFull SetTable.fill
    rw [psz,tb1.dum,hmk]
    rfl
   have mb:=K.m
   rw [hlen] at mb
   by_cases tf:(es.size + 1) * 5 ≥ t.mask * 3
   ·rw [tfl,decide_eq_true tf,if_pos (by rfl)]
    have two:(t.mask=7∧es.size=4) ∨ (t.mask=31∧es.size=18) ∨ (t.mask=127∧es.size=76):=by omega
    have okw:OkM (SetTable.sizeAbove (SetTable.grown (es.size + 1)) - 1)∧SetTable.sizeAbove (SetTable.grown (es.size + 1)) ≤ 512∧es.size + 1 ≤ SetTable.sizeAbove (SetTable.grown (es.size + 1)) - 1∧((SetTable.sizeAbove (SetTable.grown (es.size + 1)) - 1=7∧es.size + 1 ≤ 4) ∨ (SetTable.sizeAbove (SetTable.grown (es.size + 1)) - 1=31∧es.size + 1 ≤ 18) ∨ (SetTable.sizeAbove (SetTable.grown (es.size + 1)) - 1=127∧es.size + 1 ≤ 76) ∨ (SetTable.sizeAbove (SetTable.grown (es.size + 1)) - 1=511∧es.size + 1 ≤ 306)):=by
     rcases two with ⟨_,z⟩ | ⟨_,z⟩ | ⟨_,z⟩
     ·rw [z]
      have e1:SetTable.sizeAbove (SetTable.grown (4 + 1))=32:=by decide
      rw [e1]
      exact ⟨.inr (.inl rfl),by decide,by decide,.inr (.inl ⟨rfl,by decide⟩)⟩
     ·rw [z]
      have e1:SetTable.sizeAbove (SetTable.grown (18 + 1))=128:=by decide
      rw [e1]
      exact ⟨.inr (.inr (.inl rfl)),by decide,by decide,.inr (.inr (.inl ⟨rfl,by decide⟩))⟩
     ·rw [z]
      have e1:SetTable.sizeAbove (SetTable.grown (76 + 1))=512:=by decide
      rw [e1]
      exact ⟨.inr (.inr (.inr rfl)),by decide,by decide,.inr (.inr (.inr ⟨rfl,by decide⟩))⟩
    generalize SetTable.grown (es.size + 1)=W at okw ⊢
    have hs1s:((SetTable.insertAt es p (hsh prog w u,Value.ref c)).map (·.1)).size=es.size + 1:=by rw [Array.size_map,es1s]
    obtain ⟨t2,ord,hr,op,K2⟩:=relaid_ok tb1 (hs:=(SetTable.insertAt es p (hsh prog w u,Value.ref c)).map (·.1)) (want:=W) okw.1 (by rw [hs1s]; exact okw.2.2.1) (by rw [hs1s]; exact okw.2.2.2)
    rw [hs1s] at op
    generalize hes:SetTable.insertAt es p (hsh prog w u,Value.ref c)=es1 at *
    have l1:es1.toList.length=es.size + 1:=by rw [Array.length_toList,es1s]
    have kl1:(insL ks p u).length=es.size + 1:=by rw [← ea1.1,l1]
    have inr:∀ k ∈ ord.toList,k < es.size + 1:=fun k hk => List.mem_range.mp (op.mem_iff.mp hk)
    have e2l:(ord.filterMap (es1[·]?)).toList=pick es1.toList ord.toList:=by
     rw [Array.toList_filterMap]
     unfold pick
     congr 1
     funext i
     rw [Array.getElem?_toList]
    have p2:(pick es1.toList ord.toList).Perm es1.toList:=pickL_perm (by rw [l1]; exact op)
    have e2s:(ord.filterMap (es1[·]?)).size=es1.size:=by rw [← Array.length_toList,e2l,p2.length_eq,Array.length_toList]
    have fit1:t1.fits es1.size=true:=by
     unfold SetTable.fits SetTable.fill
     rw [psz,tb1.dum,hmk,es1s]
     simp
     omega
    refine wpAny_bind ?_
    unfold setRelay
    refine wpAny_bind (wpAny_setState_of (s:={ s with heap:=h1 }) o1 rfl fit1 ?_)
    dsimp only
    rw [if_neg (Nat.not_lt.mpr (Nat.le_trans okw.2.1 (by decide)))]
    rw [hr]
    refine wpAny_bind ?_
    change wpAny _ _ (if ((ord.filterMap (es1[·]?)).size != es1.size)=true then _ else pure (ord.filterMap (es1[·]?),t2)) _ _ _
    rw [if_neg (by rw [e2s]; simp)]
    refine wpAny_pure (wpAny_storeSet_of (s:={ s with heap:=h1 }) o1 rfl (wpAny_pure ?_) (by rw [e2s,es1s]; exact small))
    refine last _ _ t2 (pick (insL ks p u) ord.toList) _ (b1.trans (Heap.SameBut.update h1 a _)) (stored_at o1 rfl _ _) ?_ ((pickL_perm (by rw [kl1]; exact op)).trans pm1) ?_
    ·rw [e2l]
     have g1:=pick_get (l:=es1.toList) (ord:=ord.toList) (fun k hk => by rw [l1]; exact inr k hk)
     have g2:=pick_get (l:=insL ks p u) (ord:=ord.toList) (fun k hk => by rw [kl1]; exact inr k hk)
     refine ⟨by rw [p2.length_eq,(pickL_perm (l:=insL ks p u) (by rw [kl1]; exact op)).length_eq,ea1.1],fun i e k h3 h4 => ?_⟩
     rw [g1] at h3
     rw [g2] at h4
     cases zz:ord.toList[i]? with
     | none => rw [zz] at h3; cases h3
     | some m =>
      rw [zz] at h3 h4
      have q:=ea1.2 m e k h3 h4
      exact ⟨q.1.keep' (sb_tup o1 hex (Heap.SameBut.update h1 a _)),q.2⟩
    ·refine K2 _ (by rw [List.length_map,e2l,p2.length_eq,l1,hs1s]) fun i k hk => ?_
     have g1:=pick_get (l:=es1.toList) (ord:=ord.toList) (fun k hk => by rw [l1]; exact inr k hk) i
     have hk' : ord.toList[i]? = some k:=by rw [Array.getElem?_toList]; exact hk
     rw [hk'] at g1
     rw [List.getElem?_map,e2l,g1,Array.getElem?_map]
     show Option.map _ es1.toList[k]? = _
     rw [Array.getElem?_toList]
   ·rw [tfl,decide_eq_false tf,if_neg (by simp)]
    refine wpAny_pure (last h1 _ t1 (insL ks p u) _ b1 o1 ea1 pm1 ?_)
    rw [hs1]
    exact pok (by omega)
  split
  ·refine wpAny_bind (byValue_tup hx ?_)
   simp only [if_true]
   exact fin
  ·refine wpAny_bind (wpAny_pure ?_)
   simp only [if_true]
   exact fin
end
end L2
set_option maxHeartbeats 4000000
namespace L2
open PySem PySem.Spec PyProof.Rows
def ddT (us:List (List Int)):List (List Int):=us.foldl (fun acc k => if k ∈ acc then acc else acc ++ [k]) []
theorem ddT_snoc (us:List (List Int)) (k:List Int):ddT (us ++ [k])=if k ∈ ddT us then ddT us else ddT us ++ [k]:=by unfold ddT; rw [List.foldl_append]; rfl
theorem ddT_mem (us:List (List Int)) (k:List Int):k ∈ ddT us ↔ k ∈ us:=by
 have:∀ (us acc:List (List Int)),k ∈ us.foldl (fun acc k => if k ∈ acc then acc else acc ++ [k]) acc ↔ k ∈ acc ∨ k ∈ us:=by
  intro us
  induction us with
  | nil => intro acc; simp
  | cons j us ih =>
   intro acc
   rw [List.foldl_cons,ih]
   split
   ·rename_i h
    constructor
    ·rintro (z | z)
     ·exact .inl z
     ·exact .inr (List.mem_cons_of_mem _ z)
    ·rintro (z | z)
     ·exact .inl z
     ·rcases List.mem_cons.mp z with rfl | z
      ·exact .inl h
      ·exact .inr z
   ·simp [or_assoc]
 have:=this us []
 unfold ddT
 simpa using this
theorem ddT_len (us:List (List Int)):(ddT us).length ≤ us.length:=by
 have:∀ (us acc:List (List Int)),(us.foldl (fun acc k => if k ∈ acc then acc else acc ++ [k]) acc).length ≤ acc.length + us.length:=by
  intro us
  induction us with
  | nil => intro acc; exact Nat.le_refl _
  | cons k us ih =>
   intro acc
   have h:=ih (if k ∈ acc then acc else acc ++ [k])
   have h2:(if k ∈ acc then acc else acc ++ [k]).length ≤ acc.length + 1:=by split <;> simp
   rw [List.foldl_cons,List.length_cons]
   omega
 have:=this us []
 unfold ddT
 simpa using this
theorem SetT.keep {prog:Program} {w:World} {V0:Value→Prop} {h h' : Heap} {a:Addr} {us:List (List Int)} (x:SetT prog w V0 h a us) (k:∀ b o,(b=a ∨ o.cls = .type "tuple")→h.get? b=some o→h'.get? b=some o):SetT prog w V0 h' a us:=by
 obtain ⟨o,es,ep,t,ks,ho,hx,hd,ea,r⟩:=x
 exact ⟨o,es,ep,t,ks,k a o (.inl rfl) ho,hx,hd,ea.keep fun b ob c e => k b ob (.inr c) e,r⟩
theorem SetT.other {prog:Program} {w:World} {V0:Value→Prop} {h h' : Heap} {a:Addr} {us:List (List Int)} {v:Value} {u:List Int} (x:SetT prog w V0 h a us) (t:TupI h v u) (sb:Heap.SameBut a h h'):TupI h' v u:=by
 obtain ⟨o,es,ep,tb,ks,ho,hx,_⟩:=x
 exact t.keep' (sb_tup ho hx sb)
section
variable {prog:Program} {w:World} {A:Around} {R:Result→Shared→Prop} {J:Addr} {fp wr:List Addr} {G:Array GenState→Array GenState→Prop} {n:Nat} {P:Nat→Value→Prop} {St:Nat→Shared→Prop}
theorem update_t {V0:Value→Prop} (Wk:WalksS prog w A.in1 J fp wr G n P St) (S:Addr) (hS:S ∉ fp) (hu:A.in1.units < cLine) (us:List (List Int)) (hns:us.length=n) (hb:n + 1 ≤ 301) (hV:∀ i v,P i v→V0 v) (hwt:∀ (s:Shared) (i:Nat),St i s→∀ b ∈ wr,∀ o,s.heap.get? b=some o→o.cls ≠ .type "tuple") :
  ∀ (c i:Nat) (s:Shared),n - i=c→i ≤ n→St i s→SetT prog w V0 s.heap S (ddT (us.take i))→(∀ i v,P i v→TupI s.heap v (us.getD i []))→(∀ s',Moved (S :: wr) G s s'→SetT prog w V0 s'.heap S (ddT us)→R (.ok (.ret .none)) s') →
   codeAny (model prog w) A (.builtin "set.update.loop" ⟨[.ref S,.ref J],[]⟩) R s:=by
 have nw:S ∉ wr:=fun h => hS (Wk.sub _ h)
 have sub:∀ b ∈ wr,b ∈ S :: wr:=fun b hb => List.mem_cons_of_mem _ hb
 intro c
 induction c with
 | zero =>
  intro i s hc hi st hj hv hR
  have e:i=n:=by omega
  subst e
  refine codeAny_builtin PyProof.Rows.F.entry_set_update_loop ?_
  rw [Around.under_plainId PyProof.Rows.F.plain_set_update_loop _]
  show wpAny _ A.in1 (pyNext (.ref J) >>= _) _ _ s
  refine wpAny_bind (Wk.done s _ _ st fun s' hm => ?_)
  show wpAny _ A.in1 (ret Value.none) _ _ s'
  rw [← hns,List.take_length] at hj
  exact wpAny_pure (hR s' (hm.mono sub) (hj.keep fun b o hb ho => hm.heap b _ (fun z => by
   rcases hb with rfl | q
   ·exact nw z
   ·exact hwt s _ st b z o ho q) ho))
 | succ c ih =>
  intro i s hc hi st hj hv hR
  have lt:i < n:=by omega
  refine codeAny_builtin PyProof.Rows.F.entry_set_update_loop ?_
  rw [Around.under_plainId PyProof.Rows.F.plain_set_update_loop _]
  show wpAny _ A.in1 (pyNext (.ref J) >>= _) _ _ s
  refine wpAny_bind (Wk.item i s _ _ lt st fun v s' hP st' hm => ?_)
  have kp:∀ b o,(b=S ∨ o.cls = .type "tuple")→s.heap.get? b=some o→s'.heap.get? b=some o:=fun b o hb ho => hm.heap b _ (fun z => by
   rcases hb with rfl | q
   ·exact nw z
   ·exact hwt s _ st b z o ho q) ho
  have hj' : SetT prog w V0 s'.heap S (ddT (us.take i)):=hj.keep kp
  have hv' : ∀ i v,P i v→TupI s'.heap v (us.getD i []):=fun i v q => (hv i v q).keep' fun b o c e => kp b o (.inr c) e
  have hlen:(ddT (us.take i)).length ≤ i:=Nat.le_trans (ddT_len _) (by rw [List.length_take]; omega)
  have gi:us[i]? = some (us.getD i []):=by rw [List.getD_eq_getElem?_getD,List.getElem?_eq_getElem (by omega)]; rfl
  have tv:=hv' i v hP
  obtain ⟨va,_,_,_,rfl,_⟩:=id tv
  show wpAny _ A.in1 (holding [Value.ref va] (setAdd S (.ref va)) >>= _) _ _ s'
  refine wpAny_bind (wpAny_holding ?_)
  unfold setAdd
  refine wpAny_holding (wpAny_bind (wpAny_pyHash_tuple (knd:=intKind prog w) hu tv.key ?_))
  refine setAdd_t (s:={ s' with toks:=s'.toks + ((us.getD i []).length + 1) }) hj' tv (hV i _ hP) hu (by omega) fun h2 sb j2 => ?_
  have j3:SetT prog w V0 h2 S (ddT (us.take (i + 1))):=by
   rw [take_succ' gi,ddT_snoc]
   exact j2
  refine wpAny_pure ⟨plainId_quiet PyProof.Rows.F.plain_set_update_loop _,ih (i + 1) _ (by omega) lt (Wk.frame _ s' _ _ st' (Nat.le_add_right _ _) fun b hb o e => ?_) j3 (fun i v q => hj'.other (hv' i v q) sb) fun s3 hm3 hj3 => ?_⟩
  ·rw [sb.2 b (fun z:b=S => hS (by rw [← z]; exact hb))]; exact e
  ·refine hR s3 (Moved.trans Wk.gtrans ((hm.mono sub).then_heap (Nat.le_add_right _ _) fun b o hb e => ?_) hm3) hj3
   rw [sb.2 b (fun z:b=S => hb (by rw [z]; exact List.mem_cons_self))]; exact e
end
theorem fresh_t {prog:Program} {w:World} {V0:Value→Prop} {h:Heap} {a:Addr} (ho:h.get? a=some { cls:=.type "set",dict:=none,data:=.set #[] 0 (.fresh 0 0 (!w.params.followText "set-order")) }):SetT prog w V0 h a [] :=
 ⟨_,#[],0,_,[],ho,⟨rfl,rfl,rfl⟩,rfl,⟨rfl,fun i e k h1 => (by cases h1)⟩,.refl _,⟨⟨rfl,rfl,List.Pairwise.nil⟩,.inl ⟨rfl,Nat.zero_le _⟩,rfl,fun i j h1 => (by cases h1),fun i x h1 => (by cases h1)⟩⟩
section
variable {prog:Program} {w:World} {A:Around} {E:Value→Shared→Prop} {s:Shared}
set_option maxHeartbeats 8000000 in
theorem set_of_listT {V0:Value→Prop} {l:Addr} {its:Array Value} {us:List (List Int)} {Q:Value→Shared→Prop} (hh:A.handled=none) (hl:s.heap.IsList l its) (hu:A.units + 8 < cLine) (hln:us.length=its.size) (hi:∀ (i:Nat) (v:Value),its[i]? = some v→TupI s.heap v (us.getD i [])) (hb:its.size + 1 ≤ 301) (hV:∀ v ∈ its.toList,V0 v)
  (h:∀ (h' : Heap) (tk:Nat),SetT prog w V0 h' s.heap.objs.size (ddT us)→(∀ b o,b < s.heap.objs.size→s.heap.get? b=some o→h'.get? b=some o)→Q (.ref s.heap.objs.size) { s with heap:=h',toks:=tk }) :
  wpAny (model prog w) A (call (.type "set") [.ref l]) Q E s:=by
 obtain ⟨c,tl,hmro⟩:=PySem.F.called_set.mro
 have hmade:=PySem.F.called_set.made
 have hsub:=PySem.F.called_set.sub
 refine wpAny_call (codeAny_of_tree ?_)
 show wpAny _ _ (callAny (.type "set") _) _ _ _
 refine wpAny_pure ⟨Code.quiet_builtin _ (by decide +kernel),codeAny_builtin PySem.F.entry_type_call ?_⟩
 rw [Around.under_plain (weight_type_call_type "set" [.ref l] []) rfl]
 have x1:=PySem.F.called_set.notType
 have x2:=PySem.F.called_set.canCreate
 have x3:=PySem.F.typeCall_set_1 (.ref l)
 repeat (any_goals (first | assumption | wp_step))
 refine codeAny_mono (set_new_j (.ref l) (E:=E) (Q1:=fun ob s1 => ob = .ref s.heap.objs.size∧s1 = { s with heap:=s.heap.push { cls:=.type "set",dict:=none,data:=.set #[] 0 (.fresh 0 0 (!w.params.followText "set-order")) } }) ⟨rfl,rfl⟩) fun r s1 hr => ?_
 cases r with
 | error e => exact hr
 | ok fl =>
  cases fl with
  | ret ob =>
   obtain ⟨rfl,rfl⟩:=hr
   generalize hled:(!w.params.followText "set-order")=led
   have hS:(s.heap.push { cls:=.type "set",dict:=none,data:=.set #[] 0 (.fresh 0 0 led) }).get? s.heap.objs.size=some { cls:=.type "set",dict:=none,data:=.set #[] 0 (.fresh 0 0 led) }:=Heap.get?_push_size _ rfl
   have hT:Shared.TypeIs { s with heap:=s.heap.push { cls:=.type "set",dict:=none,data:=.set #[] 0 (.fresh 0 0 led) } } (.ref s.heap.objs.size) "set" := ⟨_,hS,rfl⟩
   have y1:=PySem.F.called_set.init.lookup
   have y2:=PySem.F.called_set.init.bind (.ref s.heap.objs.size)
   repeat (any_goals (first | assumption | wp_step))
   refine codeAny_mono (codeAny_call_builtin (R:=wants (fun r s2 => r = .none∧∃ h' tk,s2 = { s with heap:=h',toks:=tk }∧SetT prog w V0 h' s.heap.objs.size (ddT us)∧(∀ b o,b < s.heap.objs.size→s.heap.get? b=some o→h'.get? b=some o)) E)
    PySem.F.called_set.init.plain PySem.F.entry_set_init (check_set_init_1 hT ?_)) fun r2 s2 hr2 => ?_
   ·obtain ⟨ol,hol,hcl,nl,hdl⟩:=hl
    obtain ⟨ocls,odict,odata,oslots⟩:=ol
    simp only at hcl hdl
    subst hcl; subst hdl
    have hol' : (s.heap.push { cls:=.type "set",dict:=none,data:=.set #[] 0 (.fresh 0 0 led) }).get? l=some { cls:=.type "list",dict:=odict,data:=.seq its nl,slots:=oslots }:=Heap.get?_push_of_some _ hol
    have v1:=PySem.F.sub_list_set
    have v2:=PySem.F.sub_list_frozenset
    have v3:(Value.type "list" == Value.type "dict")=false:=by decide
    have hl1:(s.heap.push { cls:=.type "set",dict:=none,data:=.set #[] 0 (.fresh 0 0 led) }).IsList l its:=⟨_,hol',rfl,nl,rfl⟩
    unfold Builtin.«set.__init__» noKeywords Builtin.Frozenset.updateFrom
    generalize hPI:pyIter=PI
    wp_walk
    subst hPI
    refine wpAny_pyIter_list (l:=l) hl1 ?_
    refine wpAny_bind (m:=runValue _) (wpAny_runValue ?_)
    have ll:l < s.heap.objs.size:=Heap.lt_size hol
    have h3:A.in1.in1.in1.handled=none:=by simp [hh]
    have n1:l ≠ (s.heap.push { cls:=.type "set",dict:=none,data:=.set #[] 0 (.fresh 0 0 led) }).objs.size:=by rw [Heap.size_push]; exact Nat.ne_of_lt (Nat.lt_succ_of_lt ll)
    have n2:s.heap.objs.size ∉ [(s.heap.push { cls:=.type "set",dict:=none,data:=.set #[] 0 (.fresh 0 0 led) }).objs.size,l]:=by
     rw [Heap.size_push]
     simp only [List.mem_cons,List.mem_singleton,List.not_mem_nil,or_false,not_or]
     exact ⟨Nat.ne_of_lt (Nat.lt_succ_self _),Nat.ne_of_gt ll⟩
    have kpp:∀ b o,s.heap.get? b=some o→((s.heap.push { cls:=.type "set",dict:=none,data:=.set #[] 0 (.fresh 0 0 led) }).push { cls:=.type "list_iterator",data:=.fields #[.ref l,.int 0 0] }).get? b=some o:=fun b o e => Heap.get?_push_of_some _ (Heap.get?_push_of_some _ e)
    refine update_t ((Walks.list h3 _ l n1 its).toS) s.heap.objs.size n2 (by simp; omega) us hln hb (fun i v hv => hV v (by rw [← Array.getElem?_toList] at hv; exact List.mem_of_getElem? hv)) ?_ (its.size - 0) 0 _ (by omega) (Nat.zero_le _) ⟨⟨_,Heap.get?_push_size _ rfl,rfl,rfl⟩,(hl1.push _)⟩ ?_ (fun i v hv => (hi i v hv).keep' fun b o _ e => kpp b o e) ?_
    ·rintro s' i ⟨⟨oi,ei,ci,_⟩,_⟩ b hb' o ho hc
     rw [List.mem_singleton.mp hb',ei] at ho
     cases ho
     rw [ci] at hc
     exact absurd hc (by decide)
    ·exact fresh_t (by rw [hled]; exact Heap.get?_push_of_some _ hS)
    ·intro s' hm hj
     obtain ⟨h',g',d',tk',os'⟩:=s'
     have eg:g' = s.gens:=hm.gens
     have ed:d' = s.drawn:=hm.drawn
     have eo:os' = s.os:=hm.os
     subst eg; subst ed; subst eo
     show wpAny _ _ _ _ _ _
     refine wpAny_pure ?_
     show wpAny _ _ (ret Value.none) _ _ _
     refine wpAny_pure ⟨rfl,h',tk',rfl,hj,fun b o hb e => ?_⟩
     have b1:b ≠ s.heap.objs.size:=Nat.ne_of_lt hb
     have b2:b ≠ (s.heap.push { cls:=.type "set",dict:=none,data:=.set #[] 0 (.fresh 0 0 led) }).objs.size:=by rw [Heap.size_push]; exact Nat.ne_of_lt (Nat.lt_succ_of_lt hb)
     exact hm.heap b o (by simp only [List.mem_cons,List.mem_singleton,List.not_mem_nil,or_false,not_or]; exact ⟨b1,b2⟩) (Heap.get?_push_of_some _ (Heap.get?_push_of_some _ e))
   ·cases r2 with
    | error e => exact hr2
    | ok f2 =>
     cases f2 with
     | ret r =>
      obtain ⟨rfl,h',tk,rfl,hj,hk⟩:=hr2
      repeat (any_goals (first | assumption | wp_step))
      exact h _ _ hj hk
     | _ => exact hr2.elim
  | _ => exact hr.elim
end
end L2
set_option maxHeartbeats 1000000
namespace TimG
open PySem PySem.Spec PyProof.Rows
class KO where
 rk:Value→Int
 ik:Keyed→Prop
 kd:SortKind
variable [KO]
def numK (p:Keyed):Int:=KO.rk p.1
def Ik (p:Keyed):Prop:=KO.ik p
def IkA (a:Array Keyed):Prop:=∀ p ∈ a.toList,Ik p
class KL (prog:Program) (w:World) (A:Around) (s:Shared):Prop where
 lt:∀ {E:Value→Shared→Prop} {x y:Keyed} {st:SortSt} {Q:Option Bool→SortSt→Prop},kindOf st=KO.kd→Ik x→Ik y→Q (some (decide (numK x < numK y))) st→wpS (model prog w) A E s (lt' x y) Q st
def K (a:Array Keyed) (i:Nat):Int:=L2.RK KO.rk a i
theorem K_mirror {xs:Array Keyed} {i j:Nat} (hj:j ≤ xs.size) (k:Nat):K (mirror xs i j ((j - i) / 2)) k=if i ≤ k∧k < j then K xs (i + j - 1 - k) else K xs k:=L2.RK_mir hj k
theorem K_mirror_equal {xs:Array Keyed} {i j:Nat} (hj:j ≤ xs.size) (heq:∀ k,i ≤ k→k < j→K xs k=K xs (j - 1)) (k:Nat):K (mirror xs i j ((j - i) / 2)) k=K xs k:=L2.mir_same hj heq k
theorem K_bubble {xs:Array Keyed} {src d:Nat} (hs:src < xs.size) (hd:d ≤ src) (k:Nat):K (bubble xs src d) k=if k=src - d then K xs src else if src - d < k∧k ≤ src then K xs (k - 1) else K xs k:=L2.RK_bub hs hd k
def gallopX:Bool→Keyed→Array Keyed→Nat→Nat→Nat→StateT SortSt Sem (Option Nat):=sortPriv% PySem.Builtin.gallop
def mergeLoX:Array Keyed→Array Keyed→StateT SortSt Sem (Array Keyed):=sortPriv% PySem.Builtin.mergeLo
def mergeHiX:Array Keyed→Array Keyed→StateT SortSt Sem (Array Keyed):=sortPriv% PySem.Builtin.mergeHi
def setMinGallopX:Nat→StateT SortSt Sem Unit:=sortPriv% PySem.Builtin.setMinGallop
abbrev setGal (st:SortSt) (g:Nat):SortSt:=SortSt.mk' (kindOf st) (arrOf st) (pendingOf st) g (failedOf st)
theorem setMinGallopX_eq (g:Nat):setMinGallopX g=modify fun s => setGal s g:=rfl
def beyondX (left:Bool) (key:Keyed) (arr:Array Keyed) (base i:Nat):StateT SortSt Sem (Option Bool):=do
 let x ← elem' arr (base + i)
 if left then lt' x key else return (← lt' key x).map (!·)
theorem gallopX_eq (left:Bool) (key:Keyed) (arr:Array Keyed) (base n hint:Nat):gallopX left key arr base n hint=(do
 let mut lastofs:=0
 let mut ofs:=1
 let mut lo:=0
 let mut hi:=0
 let some right ← beyondX left key arr base hint | return none
 if right then
  let maxofs:=n - hint
  for _ in [0:n] do
   if ofs ≥ maxofs then break
   let some more ← beyondX left key arr base (hint + ofs) | return none
   if !more then break
   lastofs:=ofs
   ofs:=2 * ofs + 1
  lo:=hint + lastofs + 1
  hi:=hint + min ofs maxofs
 else
  let maxofs:=hint + 1
  for _ in [0:n] do
   if ofs ≥ maxofs then break
   let some found ← beyondX left key arr base (hint - ofs) | return none
   if found then break
   lastofs:=ofs
   ofs:=2 * ofs + 1
  lo:=hint + 1 - min ofs maxofs
  hi:=hint - lastofs
 for _ in [0:n] do
  if lo ≥ hi then break
  let m:=lo + (hi - lo) / 2
  let some more ← beyondX left key arr base m | return none
  if more then lo:=m + 1 else hi:=m
 return some hi):=rfl
section
variable {prog:Program} {w:World} {A:Around} {E:Value→Shared→Prop} {s:Shared} [KL prog w A s]
theorem wpS_elem {arr:Array Keyed} {i:Nat} {p:Keyed} {st:SortSt} {Q:Keyed→SortSt→Prop} (e:arr[i]? = some p) (h:Q p st):wpS (model prog w) A E s (elem' arr i) Q st:=by
 rw [elem'_eq,e]
 exact wpS_pure h
theorem wpS_ltN {x y:Keyed} {st:SortSt} {Q:Option Bool→SortSt→Prop} (hk:kindOf st=KO.kd) (hx:Ik x) (hy:Ik y) (h:Q (some (decide (numK x < numK y))) st):wpS (model prog w) A E s (lt' x y) Q st:=KL.lt hk hx hy h
def ahead (left:Bool) (key x:Keyed):Bool:=if left=true then decide (numK x < numK key) else !decide (numK key < numK x)
theorem wpS_beyond {left:Bool} {key p:Keyed} {arr:Array Keyed} {base i:Nat} {st:SortSt} {Q:Option Bool→SortSt→Prop} (hk:kindOf st=KO.kd) (hkey:Ik key) (e:arr[base + i]? = some p) (hp:Ik p) (h:Q (some (ahead left key p)) st):wpS (model prog w) A E s (beyondX left key arr base i) Q st:=by
 unfold beyondX
 refine wpS_bind (wpS_elem e ?_)
 cases left with
 | true => exact wpS_ltN hk hp hkey h
 | false => exact wpS_bind (wpS_ltN hk hkey hp (wpS_pure h))
def binX (left:Bool) (key:Keyed) (arr:Array Keyed) (base n lo hi:Nat):StateT SortSt Sem (Option Nat):=do
 let mut lo:=lo
 let mut hi:=hi
 for _ in [0:n] do
  if lo ≥ hi then break
  let m:=lo + (hi - lo) / 2
  let some more ← beyondX left key arr base m | return none
  if more then lo:=m + 1 else hi:=m
 return some hi
theorem wpS_bin {left:Bool} {key:Keyed} {arr:Array Keyed} {base n lo hi:Nat} {st:SortSt} {Q:Option Nat→SortSt→Prop} {b:Nat→Bool}
  (bey:∀ {i:Nat} {Q:Option Bool→SortSt→Prop},i < n→Q (some (b i)) st→wpS (model prog w) A E s (beyondX left key arr base i) Q st) (anti:∀ i j,i ≤ j→j < n→b j=true→b i=true)
  (hl:lo ≤ hi) (hn:hi ≤ n) (h1:∀ i,i < lo→b i=true) (h2:∀ i,hi ≤ i→i < n→b i=false)
  (h:∀ k,k ≤ n→(∀ i,i < k→b i=true)→(∀ i,k ≤ i→i < n→b i=false)→Q (some k) st):wpS (model prog w) A E s (binX left key arr base n lo hi) Q st:=by
 unfold binX
 refine wpS_bind (wpS_mono (wpS_forRange (I:=fun x c st'' => st'' = st∧∃ l r,c=(none,l,r)∧l ≤ r∧r ≤ n∧r - l ≤ n - x∧(∀ i,i < l→b i=true)∧(∀ i,r ≤ i→i < n→b i=false))
  (Q:=fun c st'' => st'' = st∧∃ l,c=(none,l,l)∧l ≤ n∧(∀ i,i < l→b i=true)∧(∀ i,l ≤ i→i < n→b i=false)) ?step ?fin ⟨rfl,lo,hi,rfl,hl,hn,by omega,h1,h2⟩) ?post)
 case fin =>
  rintro c st'' ⟨rfl,l,r,rfl,a1,a2,a3,a4,a5⟩
  have:l=r:=by omega
  subst this
  exact ⟨rfl,l,rfl,a2,a4,a5⟩
 case step =>
  rintro x c st'' _ hx ⟨rfl,l,r,rfl,a1,a2,a3,a4,a5⟩
  dsimp only
  by_cases hge:l ≥ r
  ·rw [if_pos hge]
   have:l=r:=by omega
   subst this
   exact wpS_pure ⟨rfl,l,rfl,a2,a4,a5⟩
  ·rw [if_neg hge]
   refine wpS_bind (bey (by omega) ?_)
   dsimp only
   cases hm:b (l + (r - l) / 2) with
   | true =>
    refine wpS_pure ⟨rfl,l + (r - l) / 2 + 1,r,rfl,by omega,a2,by omega,fun i hi => ?_,a5⟩
    exact anti i (l + (r - l) / 2) (by omega) (by omega) hm
   | false =>
    refine wpS_pure ⟨rfl,l,l + (r - l) / 2,rfl,by omega,by omega,by omega,a4,fun i hi hin => ?_⟩
    cases z:b i with
    | false => rfl
    | true => rw [anti _ i hi hin z] at hm; cases hm
 case post =>
  rintro c st'' ⟨rfl,l,rfl,a2,a4,a5⟩
  exact wpS_pure (h l a2 a4 a5)
theorem wpS_gallop {left:Bool} {key:Keyed} {arr:Array Keyed} {base n hint:Nat} {st:SortSt} {Q:Option Nat→SortSt→Prop} {b:Nat→Bool} (hk:kindOf st=KO.kd) (hkey:Ik key) (hh:hint < n)
  (hb:∀ i,i < n→∃ p,arr[base + i]? = some p∧Ik p∧b i=ahead left key p) (anti:∀ i j,i ≤ j→j < n→b j=true→b i=true)
  (h:∀ k,k ≤ n→(∀ i,i < k→b i=true)→(∀ i,k ≤ i→i < n→b i=false)→Q (some k) st):wpS (model prog w) A E s (gallopX left key arr base n hint) Q st:=by
 have bey:∀ {i:Nat} {Q:Option Bool→SortSt→Prop},i < n→Q (some (b i)) st→wpS (model prog w) A E s (beyondX left key arr base i) Q st:=fun {i Q} hi q => by
  obtain ⟨p,e,ip,eb⟩:=hb i hi
  exact wpS_beyond hk hkey e ip (by rw [← eb]; exact q)
 rw [gallopX_eq]
 refine wpS_bind (bey hh ?_)
 dsimp only
 have low:∀ {i j:Nat},i ≤ j→j < n→b i=false→b j=false:=fun {i j} hij hj hf => by
  cases z:b j with
  | false => rfl
  | true => rw [anti i j hij hj z] at hf; cases hf
 cases hright:b hint with
 | true =>
  rw [if_pos rfl]
  refine wpS_bind (wpS_mono (wpS_forRange (I:=fun x c st'' => st'' = st∧∃ l o,c=(none,l,o)∧x + 1 ≤ o∧l < o∧hint + l < n∧b (hint + l)=true)
   (Q:=fun c st'' => st'' = st∧∃ l o,c=(none,l,o)∧l < o∧hint + l < n∧b (hint + l)=true∧(n - hint ≤ o ∨ (hint + o < n∧b (hint + o)=false))) ?_ ?_ ⟨rfl,0,1,rfl,by omega,by omega,by omega,hright⟩) ?_)
  ·rintro x c st'' _ hx ⟨rfl,l,o,rfl,a0,a1,a2,a3⟩
   dsimp only
   by_cases hge:o ≥ n - hint
   ·rw [if_pos hge]
    exact wpS_pure ⟨rfl,l,o,rfl,a1,a2,a3,.inl hge⟩
   ·rw [if_neg hge]
    refine wpS_bind (bey (by omega) ?_)
    dsimp only
    cases hm:b (hint + o) with
    | true => exact wpS_pure ⟨rfl,o,2 * o + 1,rfl,by omega,by omega,by omega,hm⟩
    | false => exact wpS_pure ⟨rfl,l,o,rfl,a1,a2,a3,.inr ⟨by omega,hm⟩⟩
  ·rintro c st'' ⟨rfl,l,o,rfl,a0,a1,a2,a3⟩
   exact ⟨rfl,l,o,rfl,a1,a2,a3,.inl (by omega)⟩
  ·rintro c st'' ⟨rfl,l,o,rfl,a1,a2,a3,a4⟩
   refine wpS_bin (lo:=hint + l + 1) (hi:=hint + min o (n - hint)) bey anti (by omega) (by omega) (fun i hi => anti i (hint + l) (by omega) a2 a3) (fun i hi hin => ?_) h
   rcases a4 with a4 | ⟨a4,a5⟩
   ·omega
   ·exact low (by omega) hin a5
 | false =>
  rw [if_neg (by decide)]
  refine wpS_bind (wpS_mono (wpS_forRange (I:=fun x c st'' => st'' = st∧∃ l o,c=(none,l,o)∧x + 1 ≤ o∧l < o∧l ≤ hint∧b (hint - l)=false)
   (Q:=fun c st'' => st'' = st∧∃ l o,c=(none,l,o)∧l < o∧l ≤ hint∧b (hint - l)=false∧(hint + 1 ≤ o ∨ (o ≤ hint∧b (hint - o)=true))) ?_ ?_ ⟨rfl,0,1,rfl,by omega,by omega,by omega,hright⟩) ?_)
  ·rintro x c st'' _ hx ⟨rfl,l,o,rfl,a0,a1,a2,a3⟩
   dsimp only
   by_cases hge:o ≥ hint + 1
   ·rw [if_pos hge]
    exact wpS_pure ⟨rfl,l,o,rfl,a1,a2,a3,.inl hge⟩
   ·rw [if_neg hge]
    refine wpS_bind (bey (by omega) ?_)
    dsimp only
    cases hm:b (hint - o) with
    | true => exact wpS_pure ⟨rfl,l,o,rfl,a1,a2,a3,.inr ⟨by omega,hm⟩⟩
    | false => exact wpS_pure ⟨rfl,o,2 * o + 1,rfl,by omega,by omega,by omega,hm⟩
  ·rintro c st'' ⟨rfl,l,o,rfl,a0,a1,a2,a3⟩
   exact ⟨rfl,l,o,rfl,a1,a2,a3,.inl (by omega)⟩
  ·rintro c st'' ⟨rfl,l,o,rfl,a1,a2,a3,a4⟩
   refine wpS_bin (lo:=hint + 1 - min o (hint + 1)) (hi:=hint - l) bey anti (by omega) (by omega) (fun i hi => ?_) (fun i hi hin => low hi hin a3) h
   rcases a4 with a4 | ⟨a4,a5⟩
   ·omega
   ·exact anti i (hint - o) (by omega) (by omega) a5
end
end TimG
namespace TimG
open PySem PySem.Spec PyProof.Rows
variable [KO]
def Srt (l:List Keyed):Prop:=l.Pairwise fun x y => numK x ≤ numK y
structure MI (L o X Y:List Keyed):Prop where
 perm:(o ++ (X ++ Y)).Perm L
 so:Srt o
 sx:Srt X
 sy:Srt Y
 le:∀ x ∈ o,∀ y ∈ X ++ Y,numK x ≤ numK y
theorem srt_app {a b:List Keyed} (h1:Srt a) (h2:Srt b) (h:∀ x ∈ a,∀ y ∈ b,numK x ≤ numK y):Srt (a ++ b):=List.pairwise_append.mpr ⟨h1,h2,h⟩
theorem srt_l {a b:List Keyed} (h:Srt (a ++ b)):Srt a:=(List.pairwise_append.mp h).1
theorem srt_r {a b:List Keyed} (h:Srt (a ++ b)):Srt b:=(List.pairwise_append.mp h).2.1
theorem srt_lr {a b:List Keyed} (h:Srt (a ++ b)):∀ x ∈ a,∀ y ∈ b,numK x ≤ numK y:=(List.pairwise_append.mp h).2.2
theorem MI.moveA {L o P X Y:List Keyed} (h:MI L o (P ++ X) Y) (hp:∀ p ∈ P,∀ y ∈ Y,numK p ≤ numK y):MI L (o ++ P) X Y:=by
 refine ⟨?_,srt_app h.so (srt_l h.sx) fun x hx y hy => h.le x hx y (List.mem_append_left _ (List.mem_append_left _ hy)),srt_r h.sx,h.sy,fun x hx y hy => ?_⟩
 ·have:=h.perm
  rw [List.append_assoc] at this
  rw [List.append_assoc]
  exact this
 ·rcases List.mem_append.mp hx with hx | hx
  ·refine h.le x hx y ?_
   rcases List.mem_append.mp hy with hy | hy
   ·exact List.mem_append_left _ (List.mem_append_right _ hy)
   ·exact List.mem_append_right _ hy
  ·rcases List.mem_append.mp hy with hy | hy
   ·exact srt_lr h.sx x hx y hy
   ·exact hp x hx y hy
theorem MI.moveB {L o P X Y:List Keyed} (h:MI L o X (P ++ Y)) (hp:∀ p ∈ P,∀ x ∈ X,numK p ≤ numK x):MI L (o ++ P) X Y:=by
 refine ⟨?_,srt_app h.so (srt_l h.sy) fun x hx y hy => h.le x hx y (List.mem_append_right _ (List.mem_append_left _ hy)),h.sx,srt_r h.sy,fun x hx y hy => ?_⟩
 ·refine List.Perm.trans ?_ h.perm
  rw [List.append_assoc]
  refine List.Perm.append_left o ?_
  rw [← List.append_assoc,← List.append_assoc]
  exact List.Perm.append_right Y List.perm_append_comm
 ·rcases List.mem_append.mp hx with hx | hx
  ·refine h.le x hx y ?_
   rcases List.mem_append.mp hy with hy | hy
   ·exact List.mem_append_left _ hy
   ·exact List.mem_append_right _ (List.mem_append_right _ hy)
  ·rcases List.mem_append.mp hy with hy | hy
   ·exact hp x hx y hy
   ·exact srt_lr h.sy x hx y hy
def Fin' (L R:List Keyed):Prop:=R.Perm L∧Srt R
theorem MI.endA {L o X:List Keyed} (h:MI L o X []):Fin' L (o ++ X):=by
 have:=h.perm
 rw [List.append_nil] at this
 exact ⟨this,srt_app h.so h.sx fun x hx y hy => h.le x hx y (List.mem_append_left _ hy)⟩
theorem MI.lastA {L o X Y:List Keyed} (h:MI L o X Y) (hp:∀ y ∈ Y,∀ x ∈ X,numK y ≤ numK x):Fin' L (o ++ Y ++ X):=by
 have h2:MI L o X (Y ++ []):=by rw [List.append_nil]; exact h
 exact (h2.moveB hp).endA
theorem mergeLoX_eq (a b:Array Keyed):mergeLoX a b=(do
 rule "list.sort.merge-lo"
 let total:=a.size + b.size
 let done (out:Array Keyed) (ia ib:Nat):=out ++ a.extract ia a.size ++ b.extract ib b.size
 let lastOfA (out:Array Keyed) (ia ib:Nat):=out ++ b.extract ib b.size ++ a.extract ia a.size
 let mut out:Array Keyed:=#[← elem' b 0]
 let mut ia:=0
 let mut ib:=1
 if ib == b.size then return done out ia ib
 if ia + 1 == a.size then return lastOfA out ia ib
 let mut minGallop:=gallopOf (← get)
 for _ in [0:total] do
  let mut acount:=0
  let mut bcount:=0
  for _ in [0:total] do
   let some bWins ← lt' (← elem' b ib) (← elem' a ia) | return done out ia ib
   if bWins then
    out:=out.push (← elem' b ib); ib:=ib + 1; bcount:=bcount + 1; acount:=0
    if ib == b.size then return done out ia ib
    if bcount ≥ minGallop then break
   else
    out:=out.push (← elem' a ia); ia:=ia + 1; acount:=acount + 1; bcount:=0
    if ia + 1 == a.size then return lastOfA out ia ib
    if acount ≥ minGallop then break
  rule "list.sort.gallop"
  minGallop:=minGallop + 1
  for _ in [0:total] do
   if minGallop > 1 then minGallop:=minGallop - 1
   setMinGallopX minGallop
   let some k ← gallopX false (← elem' b ib) a ia (a.size - ia) 0 | return done out ia ib
   acount:=k
   if k > 0 then
    out:=out ++ a.extract ia (ia + k); ia:=ia + k
    if ia + 1 == a.size then return lastOfA out ia ib
    if ia == a.size then return done out ia ib
   out:=out.push (← elem' b ib); ib:=ib + 1
   if ib == b.size then return done out ia ib
   let some k ← gallopX true (← elem' a ia) b ib (b.size - ib) 0 | return done out ia ib
   bcount:=k
   if k > 0 then
    out:=out ++ b.extract ib (ib + k); ib:=ib + k
    if ib == b.size then return done out ia ib
   out:=out.push (← elem' a ia); ia:=ia + 1
   if ia + 1 == a.size then return lastOfA out ia ib
   if acount < 7 && bcount < 7 then break
  minGallop:=minGallop + 1
  setMinGallopX minGallop
 unsupported "internal:list.sort.merge-bound"):=rfl
theorem ext_full (a:Array Keyed) (i:Nat):(a.extract i a.size).toList=a.toList.drop i:=by
 rw [Array.toList_extract,List.extract_eq_take_drop]
 exact List.take_of_length_le (by rw [List.length_drop,Array.length_toList]; exact Nat.le_refl _)
theorem ext_k (a:Array Keyed) (i k:Nat):(a.extract i (i + k)).toList=(a.toList.drop i).take k:=by
 rw [Array.toList_extract,List.extract_eq_take_drop,Nat.add_sub_cancel_left]
theorem drop_at {a:Array Keyed} {i:Nat} {p:Keyed} (e:a[i]? = some p):a.toList.drop i=p :: a.toList.drop (i + 1):=by
 have h:a.toList[i]? = some p:=by rw [Array.getElem?_toList]; exact e
 obtain ⟨hi,rfl⟩:=List.getElem?_eq_some_iff.mp h
 exact List.drop_eq_getElem_cons hi
theorem at_lt {a:Array Keyed} {i:Nat} (h:i < a.size):∃ p,a[i]? = some p∧p ∈ a.toList:=⟨a[i],Array.getElem?_eq_getElem h,by simp⟩
def Keep (st st' : SortSt):Prop:=kindOf st' = kindOf st∧arrOf st' = arrOf st∧pendingOf st' = pendingOf st∧failedOf st' = failedOf st
theorem Keep.refl (st:SortSt):Keep st st:=⟨rfl,rfl,rfl,rfl⟩
theorem Keep.gal {st st' : SortSt} (h:Keep st st') (g:Nat):Keep st (setGal st' g):=⟨h.1,h.2.1,h.2.2.1,h.2.2.2⟩
structure Two (a b:Array Keyed):Prop where
 ia:∀ p ∈ a.toList,Ik p
 ib:∀ p ∈ b.toList,Ik p
 sa:Srt a.toList
 sb:Srt b.toList
def LoI (a b out:Array Keyed) (i j:Nat):Prop:=MI (a.toList ++ b.toList) out.toList (a.toList.drop i) (b.toList.drop j)
theorem LoI.pushA {a b out:Array Keyed} {i j:Nat} {p:Keyed} (h:LoI a b out i j) (e:a[i]? = some p) (hp:∀ y ∈ b.toList.drop j,numK p ≤ numK y):LoI a b (out.push p) (i + 1) j:=by
 unfold LoI at h ⊢
 rw [drop_at e] at h
 rw [Array.toList_push]
 exact MI.moveA (P:=[p]) h fun q hq y hy => by rw [List.mem_singleton.mp hq]; exact hp y hy
theorem LoI.pushB {a b out:Array Keyed} {i j:Nat} {p:Keyed} (h:LoI a b out i j) (e:b[j]? = some p) (hp:∀ y ∈ a.toList.drop i,numK p ≤ numK y):LoI a b (out.push p) i (j + 1):=by
 unfold LoI at h ⊢
 rw [drop_at e] at h
 rw [Array.toList_push]
 exact MI.moveB (P:=[p]) h fun q hq y hy => by rw [List.mem_singleton.mp hq]; exact hp y hy
theorem LoI.blockA {a b out:Array Keyed} {i j k:Nat} (h:LoI a b out i j) (hp:∀ x ∈ (a.toList.drop i).take k,∀ y ∈ b.toList.drop j,numK x ≤ numK y):LoI a b (out ++ a.extract i (i + k)) (i + k) j:=by
 unfold LoI at h ⊢
 rw [Array.toList_append,ext_k,← List.drop_drop]
 rw [← List.take_append_drop k (a.toList.drop i)] at h
 exact h.moveA hp
theorem LoI.blockB {a b out:Array Keyed} {i j k:Nat} (h:LoI a b out i j) (hp:∀ x ∈ (b.toList.drop j).take k,∀ y ∈ a.toList.drop i,numK x ≤ numK y):LoI a b (out ++ b.extract j (j + k)) i (j + k):=by
 unfold LoI at h ⊢
 rw [Array.toList_append,ext_k,← List.drop_drop]
 rw [← List.take_append_drop k (b.toList.drop j)] at h
 exact h.moveB hp
theorem LoI.done {a b out:Array Keyed} {i j:Nat} (h:LoI a b out i j) (hj:j=b.size):Fin' (a.toList ++ b.toList) (out ++ a.extract i a.size ++ b.extract j b.size).toList:=by
 unfold LoI at h
 rw [Array.toList_append,Array.toList_append,ext_full,ext_full]
 rw [List.drop_of_length_le (l:=b.toList) (by rw [Array.length_toList]; omega)] at h ⊢
 rw [List.append_nil]
 exact h.endA
theorem LoI.last {a b out:Array Keyed} {i j:Nat} (h:LoI a b out i j) (hp:∀ y ∈ b.toList.drop j,∀ x ∈ a.toList.drop i,numK y ≤ numK x):Fin' (a.toList ++ b.toList) (out ++ b.extract j b.size ++ a.extract i a.size).toList:=by
 rw [Array.toList_append,Array.toList_append,ext_full,ext_full]
 exact MI.lastA h hp
theorem srt_head {l:List Keyed} {p:Keyed} (h:Srt (p :: l)):∀ y ∈ p :: l,numK p ≤ numK y:=fun y hy => by
 rcases List.mem_cons.mp hy with rfl | hy
 ·exact Int.le_refl _
 ·exact (List.pairwise_cons.mp h).1 y hy
theorem srt_drop {l:List Keyed} (h:Srt l) (i:Nat):Srt (l.drop i):=List.Pairwise.drop h
theorem srt_at {a:Array Keyed} (h:Srt a.toList) {i:Nat} {p:Keyed} (e:a[i]? = some p):∀ y ∈ a.toList.drop i,numK p ≤ numK y:=by
 have:=srt_drop h i
 rw [drop_at e] at this ⊢
 exact srt_head this
section
variable {prog:Program} {w:World} {A:Around} {E:Value→Shared→Prop} {s:Shared} [KL prog w A s]
theorem wpS_gal {left:Bool} {key:Keyed} {arr:Array Keyed} {base n hint:Nat} {st:SortSt} {Q:Option Nat→SortSt→Prop} (hk:kindOf st=KO.kd) (hkey:Ik key) (hh:hint < n) (hn:base + n ≤ arr.size) (hi:∀ p ∈ arr.toList,Ik p) (hs:∀ (i j:Nat) (p q:Keyed),i ≤ j→j < n→arr[base + i]? = some p→arr[base + j]? = some q→numK p ≤ numK q)
  (h:∀ k,k ≤ n→(∀ i p,i < k→arr[base + i]? = some p→ahead left key p=true)→(∀ i p,k ≤ i→i < n→arr[base + i]? = some p→ahead left key p=false)→Q (some k) st):wpS (model prog w) A E s (gallopX left key arr base n hint) Q st:=by
 refine wpS_gallop (b:=fun i => match arr[base + i]? with | some p => ahead left key p | none => false) hk hkey hh (fun i hi' => ?_) (fun i j hij hj hb => ?_) fun k hk1 hk2 hk3 => h k hk1 (fun i p hik e => ?_) (fun i p hki hin e => ?_)
 ·obtain ⟨p,e,hp⟩:=at_lt (a:=arr) (i:=base + i) (by omega)
  exact ⟨p,e,hi p hp,by rw [e]⟩
 ·obtain ⟨p,e,hp⟩:=at_lt (a:=arr) (i:=base + i) (by omega)
  obtain ⟨q,e',hq⟩:=at_lt (a:=arr) (i:=base + j) (by omega)
  rw [e'] at hb
  rw [e]
  have:=hs i j p q hij hj e e'
  show ahead left key p=true
  have hb:ahead left key q=true:=hb
  unfold ahead at hb ⊢
  cases left with
  | true => rw [if_pos rfl] at hb ⊢; exact decide_eq_true (by have:=of_decide_eq_true hb; omega)
  | false =>
   rw [if_neg (by decide)] at hb ⊢
   rw [decide_eq_false (by intro z; rw [decide_eq_true (show numK key < numK q by omega)] at hb; cases hb)]
   rfl
 ·have:=hk2 i hik
  rw [e] at this
  exact this
 ·have:=hk3 i hki hin
  rw [e] at this
  exact this
end
end TimG
set_option maxHeartbeats 4000000
namespace TimG
open PySem PySem.Spec PyProof.Rows
variable [KO]
abbrev LoS:=Option (Array Keyed) × Array Keyed × Nat × Nat × Nat × Nat × Nat
def loT4 (a b out:Array Keyed) (ia ib mg ac bc:Nat):StateT SortSt Sem (ForInStep LoS):=do
 let p ← elem' a ia
 if (ia + 1 + 1 == a.size)=true then pure (.done (some (out.push p ++ b.extract ib b.size ++ a.extract (ia + 1) a.size),out.push p,ia + 1,ib,mg,ac,bc))
 else if (decide (ac < 7) && decide (bc < 7))=true then pure (.done (none,out.push p,ia + 1,ib,mg,ac,bc)) else pure (.yield (none,out.push p,ia + 1,ib,mg,ac,bc))
def loT3 (a b out:Array Keyed) (ia ib mg ac bc:Nat):StateT SortSt Sem (ForInStep LoS) :=
 if (ib == b.size)=true then pure (.done (some (out ++ a.extract ia a.size ++ b.extract ib b.size),out,ia,ib,mg,ac,bc))
 else do
  let p ← elem' a ia
  let x ← gallopX true p b ib (b.size - ib) 0
  match x with
  | some k =>
   if k > 0 then
    if (ib + k == b.size)=true then pure (.done (some (out ++ b.extract ib (ib + k) ++ a.extract ia a.size ++ b.extract (ib + k) b.size),out ++ b.extract ib (ib + k),ia,ib + k,mg,ac,k))
    else loT4 a b (out ++ b.extract ib (ib + k)) ia (ib + k) mg ac k
   else loT4 a b out ia ib mg ac k
  | _ => pure (.done (some (out ++ a.extract ia a.size ++ b.extract ib b.size),out,ia,ib,mg,ac,bc))
def loT2 (a b out:Array Keyed) (ia ib mg ac bc:Nat):StateT SortSt Sem (ForInStep LoS):=do
 let p ← elem' b ib
 loT3 a b (out.push p) ia (ib + 1) mg ac bc
def loT1 (a b out:Array Keyed) (ia ib mg ac bc:Nat):StateT SortSt Sem (ForInStep LoS):=do
 setMinGallopX mg
 let p ← elem' b ib
 let x ← gallopX false p a ia (a.size - ia) 0
 match x with
 | some k =>
  if k > 0 then
   if (ia + k + 1 == a.size)=true then pure (.done (some (out ++ a.extract ia (ia + k) ++ b.extract ib b.size ++ a.extract (ia + k) a.size),out ++ a.extract ia (ia + k),ia + k,ib,mg,k,bc))
   else if (ia + k == a.size)=true then pure (.done (some (out ++ a.extract ia (ia + k) ++ a.extract (ia + k) a.size ++ b.extract ib b.size),out ++ a.extract ia (ia + k),ia + k,ib,mg,k,bc))
   else loT2 a b (out ++ a.extract ia (ia + k)) (ia + k) ib mg k bc
  else loT2 a b out ia ib mg k bc
 | _ => pure (.done (some (out ++ a.extract ia a.size ++ b.extract ib b.size),out,ia,ib,mg,ac,bc))
def loG (a b:Array Keyed) (s:LoS):StateT SortSt Sem (ForInStep LoS):=if s.2.2.2.2.1 > 1 then loT1 a b s.2.1 s.2.2.1 s.2.2.2.1 (s.2.2.2.2.1 - 1) s.2.2.2.2.2.1 s.2.2.2.2.2.2 else loT1 a b s.2.1 s.2.2.1 s.2.2.2.1 s.2.2.2.2.1 s.2.2.2.2.2.1 s.2.2.2.2.2.2
abbrev LoR:=Option (Array Keyed) × Array Keyed × Nat × Nat × Nat × Nat
def loP (a b:Array Keyed) (mg:Nat) (s:LoR):StateT SortSt Sem (ForInStep LoR):=do
 let p ← elem' b s.2.2.2.1
 let q ← elem' a s.2.2.1
 let x ← lt' p q
 match x with
 | some bWins =>
  if bWins=true then do
   let p ← elem' b s.2.2.2.1
   if (s.2.2.2.1 + 1 == b.size)=true then pure (.done (some (s.2.1.push p ++ a.extract s.2.2.1 a.size ++ b.extract (s.2.2.2.1 + 1) b.size),s.2.1.push p,s.2.2.1,s.2.2.2.1 + 1,0,s.2.2.2.2.2 + 1))
   else if s.2.2.2.2.2 + 1 ≥ mg then pure (.done (none,s.2.1.push p,s.2.2.1,s.2.2.2.1 + 1,0,s.2.2.2.2.2 + 1))
   else pure (.yield (none,s.2.1.push p,s.2.2.1,s.2.2.2.1 + 1,0,s.2.2.2.2.2 + 1))
  else do
   let p ← elem' a s.2.2.1
   if (s.2.2.1 + 1 + 1 == a.size)=true then pure (.done (some (s.2.1.push p ++ b.extract s.2.2.2.1 b.size ++ a.extract (s.2.2.1 + 1) a.size),s.2.1.push p,s.2.2.1 + 1,s.2.2.2.1,s.2.2.2.2.1 + 1,0))
   else if s.2.2.2.2.1 + 1 ≥ mg then pure (.done (none,s.2.1.push p,s.2.2.1 + 1,s.2.2.2.1,s.2.2.2.2.1 + 1,0))
   else pure (.yield (none,s.2.1.push p,s.2.2.1 + 1,s.2.2.2.1,s.2.2.2.2.1 + 1,0))
 | _ => pure (.done (some (s.2.1 ++ a.extract s.2.2.1 a.size ++ b.extract s.2.2.2.1 b.size),s.2.1,s.2.2.1,s.2.2.2.1,s.2.2.2.2.1,s.2.2.2.2.2))
abbrev LoO:=Option (Array Keyed) × Array Keyed × Nat × Nat × Nat
def loO (a b:Array Keyed) (s:LoO):StateT SortSt Sem (ForInStep LoO):=do
 let s1 ← forIn [0:a.size + b.size] ((none,s.2.1,s.2.2.1,s.2.2.2.1,0,0):LoR) fun _ s1 => loP a b s.2.2.2.2 s1
 match s1.1 with
 | some r => pure (.done (some r,s1.2.1,s1.2.2.1,s1.2.2.2.1,s.2.2.2.2))
 | none => do
  liftM (rule "list.sort.gallop")
  let s2 ← forIn [0:a.size + b.size] ((none,s1.2.1,s1.2.2.1,s1.2.2.2.1,s.2.2.2.2 + 1,s1.2.2.2.2.1,s1.2.2.2.2.2):LoS) fun _ s2 => loG a b s2
  match s2.1 with
  | some r => pure (.done (some r,s2.2.1,s2.2.2.1,s2.2.2.2.1,s2.2.2.2.2.1))
  | none => do
   setMinGallopX (s2.2.2.2.2.1 + 1)
   pure (.yield (none,s2.2.1,s2.2.2.1,s2.2.2.2.1,s2.2.2.2.2.1 + 1))
theorem ifc {α:Type} {c:Prop} [Decidable c] {x y z:α} (h:y=z):(if c then x else y)=(if c then x else z):=by rw [h]
theorem ifd {α:Type} {c:Prop} [Decidable c] {x x2 y z:α} (h1:x=x2) (h:y=z):(if c then x else y)=(if c then x2 else z):=by rw [h,h1]
theorem mergeLoX_eq2 (a b:Array Keyed):mergeLoX a b=(do
 liftM (rule "list.sort.merge-lo")
 let p ← elem' b 0
 if (1 == b.size)=true then pure (#[p] ++ a.extract 0 a.size ++ b.extract 1 b.size)
 else if (0 + 1 == a.size)=true then pure (#[p] ++ b.extract 1 b.size ++ a.extract 0 a.size)
 else do
  let g ← get
  let s1 ← forIn [0:a.size + b.size] ((none,#[p],0,1,gallopOf g):LoO) fun _ s1 => loO a b s1
  match s1.1 with
  | some r => pure r
  | none => unsupported "internal:list.sort.merge-bound"):=by
 rw [mergeLoX_eq]
 dsimp only
 refine congrArg _ (funext fun _ => congrArg _ (funext fun p => ?_))
 refine ifc (ifc ?_)
 refine congrArg _ (funext fun g => ?_)
 congr 1
 ·congr 1
  funext x s1
  unfold loO
  refine congrArg _ (funext fun s2 => ?_)
  obtain ⟨r,s2⟩:=s2
  cases r with
  | some r => rfl
  | none =>
   dsimp only
   refine congrArg _ (funext fun _ => congrArg _ (funext fun s3 => ?_))
   obtain ⟨r,s3⟩:=s3
   cases r with
   | some r => rfl
   | none => rfl
 ·funext s1
  obtain ⟨r,s1⟩:=s1
  cases r with
  | some r => rfl
  | none => rfl
end TimG
namespace TimG
open PySem PySem.Spec PyProof.Rows
variable [KO]
theorem idx_drop {a:Array Keyed} {j:Nat} {y:Keyed} (h:y ∈ a.toList.drop j):∃ i,j + i < a.size∧a[j + i]? = some y:=by
 obtain ⟨i,hi⟩:=List.mem_iff_getElem?.mp h
 rw [List.getElem?_drop,Array.getElem?_toList] at hi
 exact ⟨i,(Array.getElem?_eq_some_iff.mp hi).1,hi⟩
theorem idx_take {a:Array Keyed} {j k:Nat} {y:Keyed} (h:y ∈ (a.toList.drop j).take k):∃ i,i < k∧a[j + i]? = some y:=by
 obtain ⟨i,hi⟩:=List.mem_iff_getElem?.mp h
 rw [List.getElem?_take] at hi
 split at hi
 ·rw [List.getElem?_drop,Array.getElem?_toList] at hi
  exact ⟨i,by assumption,hi⟩
 ·cases hi
theorem srt_idx {a:Array Keyed} (h:Srt a.toList) {i j:Nat} {p q:Keyed} (hij:i ≤ j) (e1:a[i]? = some p) (e2:a[j]? = some q):numK p ≤ numK q:=by
 refine srt_at h e1 q ?_
 refine List.mem_iff_getElem?.mpr ⟨j - i,?_⟩
 rw [List.getElem?_drop,Array.getElem?_toList,show i + (j - i)=j by omega]
 exact e2
structure LoV (a b out:Array Keyed) (ia ib:Nat):Prop where
 mi:LoI a b out ia ib
 ha:ia + 1 < a.size
 hb:ib < b.size
section
variable {prog:Program} {w:World} {A:Around} {E:Value→Shared→Prop} {s:Shared} {a b:Array Keyed} {st st' : SortSt} {n0:Nat} [KL prog w A s]
def OkN (a b:Array Keyed) (st:SortSt) (n0:Nat) (c:LoS) (st' : SortSt):Prop:=Keep st st'∧∃ out ia ib mg ac bc,c=(none,out,ia,ib,mg,ac,bc)∧LoV a b out ia ib∧n0 ≤ ia + ib
def OkF (a b:Array Keyed) (st:SortSt) (c:LoS) (st' : SortSt):Prop:=Keep st st'∧∃ r rest,c=(some r,rest)∧Fin' (a.toList ++ b.toList) r.toList
def OkSt (a b:Array Keyed) (st:SortSt) (n0:Nat):ForInStep LoS→SortSt→Prop:=fun r st' => match r with
 | .done c => OkF a b st c st' ∨ OkN a b st n0 c st'
 | .yield c => OkN a b st n0 c st'
theorem last_done (hla:∀ p,a[a.size - 1]? = some p→∀ y ∈ b.toList,numK y < numK p) {out:Array Keyed} {ia ib:Nat} (h:LoI a b out ia ib) (hi:ia + 1=a.size):Fin' (a.toList ++ b.toList) (out ++ b.extract ib b.size ++ a.extract ia a.size).toList:=by
 refine h.last fun y hy x hx => ?_
 obtain ⟨i,hi2,e⟩:=idx_drop hx
 have:ia + i=a.size - 1:=by omega
 rw [this] at e
 exact Int.le_of_lt (hla x e y (List.mem_of_mem_drop hy))
theorem wpS_T4 (hla:∀ p,a[a.size - 1]? = some p→∀ y ∈ b.toList,numK y < numK p) {out:Array Keyed} {ia ib mg ac bc:Nat} (h:LoV a b out ia ib) (hn:n0 ≤ ia + ib) (kp:Keep st st') (hle:∀ p,a[ia]? = some p→∀ y ∈ b.toList.drop ib,numK p ≤ numK y):wpS (model prog w) A E s (loT4 a b out ia ib mg ac bc) (OkSt a b st n0) st':=by
 have ha:=h.ha
 obtain ⟨p,e,_⟩:=at_lt (a:=a) (i:=ia) (by omega)
 unfold loT4
 refine wpS_bind (wpS_elem e ?_)
 have h1:=h.mi.pushA e (hle p e)
 by_cases c1:(ia + 1 + 1 == a.size)=true
 ·rw [if_pos c1]
  exact wpS_pure (.inl ⟨kp,_,_,rfl,last_done hla h1 (by simpa using c1)⟩)
 ·rw [if_neg c1]
  have c1:ia + 1 + 1 ≠ a.size:=by simpa using c1
  have v:LoV a b (out.push p) (ia + 1) ib:=⟨h1,by omega,h.hb⟩
  split
  ·exact wpS_pure (.inr ⟨kp,_,_,_,_,_,_,rfl,v,by omega⟩)
  ·exact wpS_pure ⟨kp,_,_,_,_,_,_,rfl,v,by omega⟩
theorem wpS_T3 (T:Two a b) (hk:kindOf st=KO.kd) (hla:∀ p,a[a.size - 1]? = some p→∀ y ∈ b.toList,numK y < numK p) {out:Array Keyed} {ia ib mg ac bc:Nat} (h:LoI a b out ia ib) (ha:ia + 1 < a.size) (hb:ib ≤ b.size) (hn:n0 ≤ ia + ib) (kp:Keep st st'):wpS (model prog w) A E s (loT3 a b out ia ib mg ac bc) (OkSt a b st n0) st':=by
 unfold loT3
 by_cases c1:(ib == b.size)=true
 ·rw [if_pos c1]
  exact wpS_pure (.inl ⟨kp,_,_,rfl,h.done (by simpa using c1)⟩)
 rw [if_neg c1]
 have c1:ib ≠ b.size:=by simpa using c1
 obtain ⟨p,e,mp⟩:=at_lt (a:=a) (i:=ia) (by omega)
 refine wpS_bind (wpS_elem e (wpS_bind (wpS_gal (kp.1.trans hk) (T.ia p mp) (by omega) (by omega) T.ib (fun i j p q hij _ e1 e2 => srt_idx T.sb (by omega) e1 e2) fun k hk1 hlt hge => ?_)))
 dsimp only
 have ge:∀ y ∈ b.toList.drop (ib + k),numK p ≤ numK y:=fun y hy => by
  obtain ⟨i,hi,ei⟩:=idx_drop hy
  have:=hge (k + i) y (by omega) (by omega) (by rw [← Nat.add_assoc]; exact ei)
  unfold ahead at this
  rw [if_pos rfl] at this
  have:=of_decide_eq_false this
  omega
 by_cases c2:k > 0
 ·rw [if_pos c2]
  have h2:=h.blockB (k:=k) fun x hx y hy => by
   obtain ⟨i,hi,ei⟩:=idx_take hx
   have:=hlt i x hi ei
   unfold ahead at this
   rw [if_pos rfl] at this
   have:=of_decide_eq_true this
   have:=srt_at T.sa e y hy
   omega
  by_cases c3:(ib + k == b.size)=true
  ·rw [if_pos c3]
   exact wpS_pure (.inl ⟨kp,_,_,rfl,h2.done (by simpa using c3)⟩)
  ·rw [if_neg c3]
   have c3:ib + k ≠ b.size:=by simpa using c3
   exact wpS_T4 hla ⟨h2,ha,by omega⟩ (by omega) kp fun p' e' => by rw [e] at e'; cases e'; exact ge
 ·rw [if_neg c2]
  have k0:k=0:=by omega
  subst k0
  exact wpS_T4 hla ⟨h,ha,by omega⟩ hn kp fun p' e' => by rw [e] at e'; cases e'; exact ge
theorem wpS_T2 (T:Two a b) (hk:kindOf st=KO.kd) (hla:∀ p,a[a.size - 1]? = some p→∀ y ∈ b.toList,numK y < numK p) {out:Array Keyed} {ia ib mg ac bc:Nat} (h:LoV a b out ia ib) (hn:n0 ≤ ia + ib) (kp:Keep st st') (hle:∀ p,b[ib]? = some p→∀ y ∈ a.toList.drop ia,numK p ≤ numK y):wpS (model prog w) A E s (loT2 a b out ia ib mg ac bc) (OkSt a b st n0) st':=by
 have hb:=h.hb
 obtain ⟨p,e,_⟩:=at_lt (a:=b) (i:=ib) hb
 unfold loT2
 exact wpS_bind (wpS_elem e (wpS_T3 T hk hla (h.mi.pushB e (hle p e)) h.ha (by omega) (by omega) kp))
theorem wpS_T1 (T:Two a b) (hk:kindOf st=KO.kd) (hla:∀ p,a[a.size - 1]? = some p→∀ y ∈ b.toList,numK y < numK p) {out:Array Keyed} {ia ib mg ac bc:Nat} (h:LoV a b out ia ib) (hn:n0 ≤ ia + ib) (kp:Keep st st'):wpS (model prog w) A E s (loT1 a b out ia ib mg ac bc) (OkSt a b st n0) st':=by
 have hb:=h.hb
 have ha:=h.ha
 obtain ⟨p,e,mp⟩:=at_lt (a:=b) (i:=ib) hb
 unfold loT1
 rw [setMinGallopX_eq]
 refine wpS_bind (wpS_modify ?_)
 have kp:=kp.gal mg
 refine wpS_bind (wpS_elem e (wpS_bind (wpS_gal (kp.1.trans hk) (T.ib p mp) (by omega) (by omega) T.ia (fun i j p q hij _ e1 e2 => srt_idx T.sa (by omega) e1 e2) fun k hk1 hlt hge => ?_)))
 dsimp only
 have ge:∀ y ∈ a.toList.drop (ia + k),numK p ≤ numK y:=fun y hy => by
  obtain ⟨i,hi,ei⟩:=idx_drop hy
  have:=hge (k + i) y (by omega) (by omega) (by rw [← Nat.add_assoc]; exact ei)
  unfold ahead at this
  rw [if_neg (by decide)] at this
  cases z:decide (numK p < numK y) with
  | true => have:=of_decide_eq_true z; omega
  | false => rw [z] at this; cases this
 have lt:∀ (i:Nat) (x:Keyed),i < k→a[ia + i]? = some x→numK x ≤ numK p:=fun i x hi ei => by
  have:=hlt i x hi ei
  unfold ahead at this
  rw [if_neg (by decide)] at this
  cases z:decide (numK p < numK x) with
  | true => rw [z] at this; cases this
  | false => have:=of_decide_eq_false z; omega
 by_cases c2:k > 0
 ·rw [if_pos c2]
  have h2:=h.mi.blockA (k:=k) fun x hx y hy => by
   obtain ⟨i,hi,ei⟩:=idx_take hx
   have:=lt i x hi ei
   have:=srt_at T.sb e y hy
   omega
  by_cases c3:(ia + k + 1 == a.size)=true
  ·rw [if_pos c3]
   exact wpS_pure (.inl ⟨kp,_,_,rfl,last_done hla h2 (by simpa using c3)⟩)
  rw [if_neg c3]
  have c3:ia + k + 1 ≠ a.size:=by simpa using c3
  by_cases c4:(ia + k == a.size)=true
  ·have c4:ia + k=a.size:=by simpa using c4
   exfalso
   obtain ⟨x,ex,_⟩:=at_lt (a:=a) (i:=a.size - 1) (by omega)
   have h3:=hla x ex p mp
   have h4:=lt (k - 1) x (by omega) (by rw [show ia + (k - 1)=a.size - 1 by omega]; exact ex)
   omega
  ·rw [if_neg c4]
   have c4:ia + k ≠ a.size:=by simpa using c4
   exact wpS_T2 T hk hla ⟨h2,by omega,hb⟩ (by omega) kp fun p' e' => by rw [e] at e'; cases e'; exact ge
 ·rw [if_neg c2]
  have k0:k=0:=by omega
  subst k0
  exact wpS_T2 T hk hla h hn kp fun p' e' => by rw [e] at e'; cases e'; exact ge
theorem wpS_G (T:Two a b) (hk:kindOf st=KO.kd) (hla:∀ p,a[a.size - 1]? = some p→∀ y ∈ b.toList,numK y < numK p) {c:LoS} (h:OkN a b st n0 c st'):wpS (model prog w) A E s (loG a b c) (OkSt a b st n0) st':=by
 obtain ⟨kp,out,ia,ib,mg,ac,bc,rfl,v,hn⟩:=h
 unfold loG
 dsimp only
 split
 ·exact wpS_T1 T hk hla v hn kp
 ·exact wpS_T1 T hk hla v hn kp
def OkR (a b:Array Keyed) (st:SortSt) (n0:Nat) (c:LoR) (st' : SortSt):Prop:=Keep st st'∧∃ out ia ib ac bc,c=(none,out,ia,ib,ac,bc)∧LoV a b out ia ib∧n0 ≤ ia + ib
def OkRF (a b:Array Keyed) (st:SortSt) (c:LoR) (st' : SortSt):Prop:=Keep st st'∧∃ r rest,c=(some r,rest)∧Fin' (a.toList ++ b.toList) r.toList
theorem wpS_P (T:Two a b) (hk:kindOf st=KO.kd) (hla:∀ p,a[a.size - 1]? = some p→∀ y ∈ b.toList,numK y < numK p) {c:LoR} {mg:Nat} (h:OkR a b st n0 c st'):wpS (model prog w) A E s (loP a b mg c) (fun r st' => match r with
  | .done c => OkRF a b st c st' ∨ OkR a b st (n0 + 1) c st'
  | .yield c => OkR a b st (n0 + 1) c st') st':=by
 obtain ⟨kp,out,ia,ib,ac,bc,rfl,v,hn⟩:=h
 have hb:=v.hb
 have ha:=v.ha
 obtain ⟨p,e,mp⟩:=at_lt (a:=b) (i:=ib) hb
 obtain ⟨q,e2,mq⟩:=at_lt (a:=a) (i:=ia) (by omega)
 unfold loP
 refine wpS_bind (wpS_elem e (wpS_bind (wpS_elem e2 (wpS_bind (wpS_ltN (kp.1.trans hk) (T.ib p mp) (T.ia q mq) ?_)))))
 dsimp only
 by_cases hlt:numK p < numK q
 ·rw [decide_eq_true hlt,if_pos rfl]
  refine wpS_bind (wpS_elem e ?_)
  have h1:=v.mi.pushB e fun y hy => by have:=srt_at T.sa e2 y hy; omega
  by_cases c1:(ib + 1 == b.size)=true
  ·rw [if_pos c1]
   exact wpS_pure (.inl ⟨kp,_,_,rfl,h1.done (by simpa using c1)⟩)
  rw [if_neg c1]
  have c1:ib + 1 ≠ b.size:=by simpa using c1
  have v1:LoV a b (out.push p) ia (ib + 1):=⟨h1,ha,by omega⟩
  split
  ·exact wpS_pure (.inr ⟨kp,_,_,_,_,_,rfl,v1,by omega⟩)
  ·exact wpS_pure ⟨kp,_,_,_,_,_,rfl,v1,by omega⟩
 ·rw [decide_eq_false hlt,if_neg (by decide)]
  refine wpS_bind (wpS_elem e2 ?_)
  have h1:=v.mi.pushA e2 fun y hy => by have:=srt_at T.sb e y hy; omega
  by_cases c1:(ia + 1 + 1 == a.size)=true
  ·rw [if_pos c1]
   exact wpS_pure (.inl ⟨kp,_,_,rfl,last_done hla h1 (by simpa using c1)⟩)
  rw [if_neg c1]
  have c1:ia + 1 + 1 ≠ a.size:=by simpa using c1
  have v1:LoV a b (out.push q) (ia + 1) ib:=⟨h1,by omega,hb⟩
  split
  ·exact wpS_pure (.inr ⟨kp,_,_,_,_,_,rfl,v1,by omega⟩)
  ·exact wpS_pure ⟨kp,_,_,_,_,_,rfl,v1,by omega⟩
theorem wpS_mergeLo {Q:Array Keyed→SortSt→Prop} (T:Two a b) (hk:kindOf st=KO.kd) (a1:1 ≤ a.size) (b1:1 ≤ b.size) (h0:∀ p,b[0]? = some p→∀ x ∈ a.toList,numK p ≤ numK x) (hla:∀ p,a[a.size - 1]? = some p→∀ y ∈ b.toList,numK y < numK p)
  (h:∀ r st',Keep st st'→Fin' (a.toList ++ b.toList) r.toList→Q r st'):wpS (model prog w) A E s (mergeLoX a b) Q st:=by
 rw [mergeLoX_eq2]
 refine wpS_bind (wpS_lift (wpAny_rule ⟨rfl,?_⟩))
 obtain ⟨p,e,mp⟩:=at_lt (a:=b) (i:=0) (by omega)
 refine wpS_bind (wpS_elem e ?_)
 have st0:LoI a b #[] 0 0:=⟨by show (a.toList ++ b.toList).Perm _; exact List.Perm.refl _,List.Pairwise.nil,by rw [List.drop_zero]; exact T.sa,by rw [List.drop_zero]; exact T.sb,fun x hx => by cases hx⟩
 have st1:LoI a b #[p] 0 1:=st0.pushB e (h0 p e)
 by_cases c1:(1 == b.size)=true
 ·rw [if_pos c1]
  exact wpS_pure (h _ _ (Keep.refl st) (st1.done (by simpa using c1)))
 rw [if_neg c1]
 have c1:1 ≠ b.size:=by simpa using c1
 by_cases c2:(0 + 1 == a.size)=true
 ·rw [if_pos c2]
  exact wpS_pure (h _ _ (Keep.refl st) (last_done hla st1 (by simpa using c2)))
 rw [if_neg c2]
 have c2:1 ≠ a.size:=by simpa using c2
 refine wpS_bind (wpS_get ?_)
 refine wpS_bind (wpS_mono (wpS_forRange (I:=fun x c st' => Keep st st'∧∃ out ia ib mg,c=(none,out,ia,ib,mg)∧LoV a b out ia ib∧x ≤ ia + ib)
  (Q:=fun c st' => Keep st st'∧∃ r rest,c=(some r,rest)∧Fin' (a.toList ++ b.toList) r.toList) ?step ?fin ⟨Keep.refl st,_,_,_,_,rfl,⟨st1,by omega,by omega⟩,by omega⟩) ?post)
 case post =>
  rintro c st' ⟨kp,r,rest,rfl,f⟩
  exact wpS_pure (h r st' kp f)
 case fin =>
  rintro c st' ⟨kp,out,ia,ib,mg,rfl,v,hx⟩
  have:=v.ha
  have:=v.hb
  omega
 case step =>
  rintro x c st1 _ hx ⟨kp,out,ia,ib,mg,rfl,v,hn⟩
  unfold loO
  dsimp only
  refine wpS_bind (wpS_mono (wpS_forRange (I:=fun y c st' => OkR a b st (x + y) c st') (Q:=fun c st' => OkRF a b st c st' ∨ OkR a b st (x + 1) c st') ?_ ?_ ⟨kp,_,_,_,_,_,rfl,v,hn⟩) ?_)
  ·rintro y c st2 _ hy hR
   refine wpS_mono (wpS_P T hk hla hR) fun r st3 hr => ?_
   cases r with
   | done c =>
    rcases hr with hr | ⟨k3,out,ia,ib,ac,bc,e3,v3,n3⟩
    ·exact .inl hr
    ·exact .inr ⟨k3,out,ia,ib,ac,bc,e3,v3,by omega⟩
   | yield c => exact hr
  ·rintro c st2 ⟨k3,out,ia,ib,ac,bc,e3,v3,n3⟩
   exact .inr ⟨k3,out,ia,ib,ac,bc,e3,v3,by omega⟩
  ·rintro c st2 (⟨k2,r,rest,rfl,f⟩ | ⟨k2,out2,ia2,ib2,ac2,bc2,rfl,v2,n2⟩)
   ·exact wpS_pure ⟨k2,_,_,rfl,f⟩
   ·dsimp only
    refine wpS_bind (wpS_lift (wpAny_rule ⟨rfl,?_⟩))
    refine wpS_bind (wpS_mono (wpS_forRange (I:=fun y c st' => OkN a b st (x + 1) c st') (Q:=fun c st' => OkF a b st c st' ∨ OkN a b st (x + 1) c st') ?_ ?_ ⟨k2,_,_,_,_,_,_,rfl,v2,n2⟩) ?_)
    ·rintro y c st3 _ hy hR
     refine wpS_mono (wpS_G T hk hla hR) fun r st4 hr => ?_
     cases r with
     | done c => exact hr
     | yield c => exact hr
    ·exact fun c st3 hR => .inr hR
    ·rintro c st3 (⟨k3,r,rest,rfl,f⟩ | ⟨k3,out3,ia3,ib3,mg3,ac3,bc3,rfl,v3,n3⟩)
     ·exact wpS_pure ⟨k3,_,_,rfl,f⟩
     ·dsimp only
      rw [setMinGallopX_eq]
      exact wpS_bind (wpS_modify (wpS_pure ⟨k3.gal _,_,_,_,_,rfl,v3,by omega⟩))
end
end TimG
namespace TimG
open PySem PySem.Spec PyProof.Rows
variable [KO]
theorem mergeHiX_eq (a b:Array Keyed):mergeHiX a b=(do
 rule "list.sort.merge-hi"
 let total:=a.size + b.size
 let done (out:Array Keyed) (na nb:Nat):=a.extract 0 na ++ b.extract 0 nb ++ out.reverse
 let firstOfB (out:Array Keyed) (na nb:Nat):=b.extract 0 nb ++ a.extract 0 na ++ out.reverse
 let mut na:=a.size - 1
 let mut nb:=b.size
 let mut out:Array Keyed:=#[← elem' a na]
 if na == 0 then return done out na nb
 if nb == 1 then return firstOfB out na nb
 let mut minGallop:=gallopOf (← get)
 for _ in [0:total] do
  let mut acount:=0
  let mut bcount:=0
  for _ in [0:total] do
   let some aWins ← lt' (← elem' b (nb - 1)) (← elem' a (na - 1)) | return done out na nb
   if aWins then
    na:=na - 1; out:=out.push (← elem' a na); acount:=acount + 1; bcount:=0
    if na == 0 then return done out na nb
    if acount ≥ minGallop then break
   else
    nb:=nb - 1; out:=out.push (← elem' b nb); bcount:=bcount + 1; acount:=0
    if nb == 1 then return firstOfB out na nb
    if bcount ≥ minGallop then break
  rule "list.sort.gallop"
  minGallop:=minGallop + 1
  for _ in [0:total] do
   if minGallop > 1 then minGallop:=minGallop - 1
   setMinGallopX minGallop
   let some at_ ← gallopX false (← elem' b (nb - 1)) a 0 na (na - 1) | return done out na nb
   let k:=na - at_
   acount:=k
   if k > 0 then
    out:=out ++ (a.extract at_ na).reverse; na:=at_
    if na == 0 then return done out na nb
   nb:=nb - 1; out:=out.push (← elem' b nb)
   if nb == 1 then return firstOfB out na nb
   let some at_ ← gallopX true (← elem' a (na - 1)) b 0 nb (nb - 1) | return done out na nb
   let k:=nb - at_
   bcount:=k
   if k > 0 then
    out:=out ++ (b.extract at_ nb).reverse; nb:=at_
    if nb == 1 then return firstOfB out na nb
    if nb == 0 then return done out na nb
   na:=na - 1; out:=out.push (← elem' a na)
   if na == 0 then return done out na nb
   if acount < 7 && bcount < 7 then break
  minGallop:=minGallop + 1
  setMinGallopX minGallop
 unsupported "internal:list.sort.merge-bound"):=rfl
structure HI (L X Y o:List Keyed):Prop where
 perm:((X ++ Y) ++ o).Perm L
 so:Srt o
 sx:Srt X
 sy:Srt Y
 le:∀ y ∈ X ++ Y,∀ z ∈ o,numK y ≤ numK z
theorem HI.moveA {L X P Y o:List Keyed} (h:HI L (X ++ P) Y o) (hp:∀ p ∈ P,∀ y ∈ Y,numK y ≤ numK p):HI L X Y (P ++ o):=by
 refine ⟨?_,srt_app (srt_r h.sx) h.so fun x hx y hy => h.le x (List.mem_append_left _ (List.mem_append_right _ hx)) y hy,srt_l h.sx,h.sy,fun y hy z hz => ?_⟩
 ·refine List.Perm.trans ?_ h.perm
  rw [← List.append_assoc]
  refine List.Perm.append_right o ?_
  rw [List.append_assoc,List.append_assoc]
  exact List.Perm.append_left X List.perm_append_comm
 ·rcases List.mem_append.mp hz with hz | hz
  ·rcases List.mem_append.mp hy with hy | hy
   ·exact srt_lr h.sx y hy z hz
   ·exact hp z hz y hy
  ·refine h.le y ?_ z hz
   rcases List.mem_append.mp hy with hy | hy
   ·exact List.mem_append_left _ (List.mem_append_left _ hy)
   ·exact List.mem_append_right _ hy
theorem HI.moveB {L X P Y o:List Keyed} (h:HI L X (Y ++ P) o) (hp:∀ p ∈ P,∀ x ∈ X,numK x ≤ numK p):HI L X Y (P ++ o):=by
 refine ⟨?_,srt_app (srt_r h.sy) h.so fun x hx y hy => h.le x (List.mem_append_right _ (List.mem_append_right _ hx)) y hy,h.sx,srt_l h.sy,fun y hy z hz => ?_⟩
 ·have:=h.perm
  rw [← List.append_assoc,List.append_assoc] at this
  rw [← List.append_assoc] at this
  rw [← List.append_assoc]
  simpa [List.append_assoc] using this
 ·rcases List.mem_append.mp hz with hz | hz
  ·rcases List.mem_append.mp hy with hy | hy
   ·exact hp z hz y hy
   ·exact srt_lr h.sy y hy z hz
  ·refine h.le y ?_ z hz
   rcases List.mem_append.mp hy with hy | hy
   ·exact List.mem_append_left _ hy
   ·exact List.mem_append_right _ (List.mem_append_left _ hy)
theorem HI.endA {L Y o:List Keyed} (h:HI L [] Y o):Fin' L (Y ++ o):=⟨h.perm,srt_app h.sy h.so fun y hy z hz => h.le y hy z hz⟩
theorem HI.firstB {L X Y o:List Keyed} (h:HI L X Y o) (hp:∀ p ∈ X,∀ y ∈ Y,numK y ≤ numK p):Fin' L (Y ++ X ++ o):=by
 have h2:HI L ([] ++ X) Y o:=h
 rw [List.append_assoc]
 exact (h2.moveA hp).endA
theorem ext_low (a:Array Keyed) (n:Nat):(a.extract 0 n).toList=a.toList.take n:=by
 rw [Array.toList_extract,List.extract_eq_take_drop,List.drop_zero,Nat.sub_zero]
theorem ext_mid (a:Array Keyed) (m n:Nat):(a.extract m n).toList=(a.toList.take n).drop m:=by
 rw [Array.toList_extract,List.extract_eq_take_drop,List.drop_take]
theorem take_at {a:Array Keyed} {i:Nat} {p:Keyed} (e:a[i]? = some p):a.toList.take (i + 1)=a.toList.take i ++ [p]:=by
 have h:a.toList[i]? = some p:=by rw [Array.getElem?_toList]; exact e
 rw [List.take_add_one,h]
 rfl
def HiI (a b out:Array Keyed) (na nb:Nat):Prop:=HI (a.toList ++ b.toList) (a.toList.take na) (b.toList.take nb) out.toList.reverse
theorem HiI.pushA {a b out:Array Keyed} {na nb:Nat} {p:Keyed} (h:HiI a b out (na + 1) nb) (e:a[na]? = some p) (hp:∀ y ∈ b.toList.take nb,numK y ≤ numK p):HiI a b (out.push p) na nb:=by
 unfold HiI at h ⊢
 rw [take_at e] at h
 rw [Array.toList_push,List.reverse_append]
 exact HI.moveA (P:=[p]) h fun q hq y hy => by rw [List.mem_singleton.mp hq]; exact hp y hy
theorem HiI.pushB {a b out:Array Keyed} {na nb:Nat} {p:Keyed} (h:HiI a b out na (nb + 1)) (e:b[nb]? = some p) (hp:∀ y ∈ a.toList.take na,numK y ≤ numK p):HiI a b (out.push p) na nb:=by
 unfold HiI at h ⊢
 rw [take_at e] at h
 rw [Array.toList_push,List.reverse_append]
 exact HI.moveB (P:=[p]) h fun q hq y hy => by rw [List.mem_singleton.mp hq]; exact hp y hy
theorem HiI.blockA {a b out:Array Keyed} {na nb m:Nat} (h:HiI a b out na nb) (hm:m ≤ na) (hp:∀ x ∈ (a.toList.take na).drop m,∀ y ∈ b.toList.take nb,numK y ≤ numK x):HiI a b (out ++ (a.extract m na).reverse) m nb:=by
 unfold HiI at h ⊢
 rw [Array.toList_append,List.reverse_append,Array.toList_reverse,List.reverse_reverse,ext_mid]
 rw [← List.take_append_drop m (a.toList.take na),List.take_take,Nat.min_eq_left hm] at h
 exact h.moveA hp
theorem HiI.blockB {a b out:Array Keyed} {na nb m:Nat} (h:HiI a b out na nb) (hm:m ≤ nb) (hp:∀ x ∈ (b.toList.take nb).drop m,∀ y ∈ a.toList.take na,numK y ≤ numK x):HiI a b (out ++ (b.extract m nb).reverse) na m:=by
 unfold HiI at h ⊢
 rw [Array.toList_append,List.reverse_append,Array.toList_reverse,List.reverse_reverse,ext_mid]
 rw [← List.take_append_drop m (b.toList.take nb),List.take_take,Nat.min_eq_left hm] at h
 exact h.moveB hp
theorem HiI.done {a b out:Array Keyed} {nb:Nat} (h:HiI a b out 0 nb):Fin' (a.toList ++ b.toList) (a.extract 0 0 ++ b.extract 0 nb ++ out.reverse).toList:=by
 unfold HiI at h
 rw [Array.toList_append,Array.toList_append,ext_low,ext_low,Array.toList_reverse]
 exact HI.endA h
theorem HiI.first {a b out:Array Keyed} {na nb:Nat} (h:HiI a b out na nb) (hp:∀ p ∈ a.toList.take na,∀ y ∈ b.toList.take nb,numK y ≤ numK p):Fin' (a.toList ++ b.toList) (b.extract 0 nb ++ a.extract 0 na ++ out.reverse).toList:=by
 rw [Array.toList_append,Array.toList_append,ext_low,ext_low,Array.toList_reverse]
 exact HI.firstB h hp
end TimG
namespace TimG
open PySem PySem.Spec PyProof.Rows
variable [KO]
abbrev HiS:=Option (Array Keyed) × Nat × Nat × Array Keyed × Nat × Nat × Nat
def hiT4 (a b:Array Keyed) (na nb:Nat) (out:Array Keyed) (mg ac bc:Nat):StateT SortSt Sem (ForInStep HiS):=do
 let p ← elem' a (na - 1)
 if (na - 1 == 0)=true then pure (.done (some (a.extract 0 (na - 1) ++ b.extract 0 nb ++ (out.push p).reverse),na - 1,nb,out.push p,mg,ac,bc))
 else if (decide (ac < 7) && decide (bc < 7))=true then pure (.done (none,na - 1,nb,out.push p,mg,ac,bc)) else pure (.yield (none,na - 1,nb,out.push p,mg,ac,bc))
def hiT3 (a b:Array Keyed) (na nb:Nat) (out:Array Keyed) (mg ac bc:Nat):StateT SortSt Sem (ForInStep HiS) :=
 if (nb == 1)=true then pure (.done (some (b.extract 0 nb ++ a.extract 0 na ++ out.reverse),na,nb,out,mg,ac,bc))
 else do
  let p ← elem' a (na - 1)
  let x ← gallopX true p b 0 nb (nb - 1)
  match x with
  | some m =>
   if nb - m > 0 then
    if (m == 1)=true then pure (.done (some (b.extract 0 m ++ a.extract 0 na ++ (out ++ (b.extract m nb).reverse).reverse),na,m,out ++ (b.extract m nb).reverse,mg,ac,nb - m))
    else if (m == 0)=true then pure (.done (some (a.extract 0 na ++ b.extract 0 m ++ (out ++ (b.extract m nb).reverse).reverse),na,m,out ++ (b.extract m nb).reverse,mg,ac,nb - m))
    else hiT4 a b na m (out ++ (b.extract m nb).reverse) mg ac (nb - m)
   else hiT4 a b na nb out mg ac (nb - m)
  | _ => pure (.done (some (a.extract 0 na ++ b.extract 0 nb ++ out.reverse),na,nb,out,mg,ac,bc))
def hiT2 (a b:Array Keyed) (na nb:Nat) (out:Array Keyed) (mg ac bc:Nat):StateT SortSt Sem (ForInStep HiS):=do
 let p ← elem' b (nb - 1)
 hiT3 a b na (nb - 1) (out.push p) mg ac bc
def hiT1 (a b:Array Keyed) (na nb:Nat) (out:Array Keyed) (mg ac bc:Nat):StateT SortSt Sem (ForInStep HiS):=do
 setMinGallopX mg
 let p ← elem' b (nb - 1)
 let x ← gallopX false p a 0 na (na - 1)
 match x with
 | some m =>
  if na - m > 0 then
   if (m == 0)=true then pure (.done (some (a.extract 0 m ++ b.extract 0 nb ++ (out ++ (a.extract m na).reverse).reverse),m,nb,out ++ (a.extract m na).reverse,mg,na - m,bc))
   else hiT2 a b m nb (out ++ (a.extract m na).reverse) mg (na - m) bc
  else hiT2 a b na nb out mg (na - m) bc
 | _ => pure (.done (some (a.extract 0 na ++ b.extract 0 nb ++ out.reverse),na,nb,out,mg,ac,bc))
def hiG (a b:Array Keyed) (s:HiS):StateT SortSt Sem (ForInStep HiS):=if s.2.2.2.2.1 > 1 then hiT1 a b s.2.1 s.2.2.1 s.2.2.2.1 (s.2.2.2.2.1 - 1) s.2.2.2.2.2.1 s.2.2.2.2.2.2 else hiT1 a b s.2.1 s.2.2.1 s.2.2.2.1 s.2.2.2.2.1 s.2.2.2.2.2.1 s.2.2.2.2.2.2
abbrev HiR:=Option (Array Keyed) × Nat × Nat × Array Keyed × Nat × Nat
def hiP (a b:Array Keyed) (mg:Nat) (s:HiR):StateT SortSt Sem (ForInStep HiR):=do
 let p ← elem' b (s.2.2.1 - 1)
 let q ← elem' a (s.2.1 - 1)
 let x ← lt' p q
 match x with
 | some aWins =>
  if aWins=true then do
   let p ← elem' a (s.2.1 - 1)
   if (s.2.1 - 1 == 0)=true then pure (.done (some (a.extract 0 (s.2.1 - 1) ++ b.extract 0 s.2.2.1 ++ (s.2.2.2.1.push p).reverse),s.2.1 - 1,s.2.2.1,s.2.2.2.1.push p,s.2.2.2.2.1 + 1,0))
   else if s.2.2.2.2.1 + 1 ≥ mg then pure (.done (none,s.2.1 - 1,s.2.2.1,s.2.2.2.1.push p,s.2.2.2.2.1 + 1,0))
   else pure (.yield (none,s.2.1 - 1,s.2.2.1,s.2.2.2.1.push p,s.2.2.2.2.1 + 1,0))
  else do
   let p ← elem' b (s.2.2.1 - 1)
   if (s.2.2.1 - 1 == 1)=true then pure (.done (some (b.extract 0 (s.2.2.1 - 1) ++ a.extract 0 s.2.1 ++ (s.2.2.2.1.push p).reverse),s.2.1,s.2.2.1 - 1,s.2.2.2.1.push p,0,s.2.2.2.2.2 + 1))
   else if s.2.2.2.2.2 + 1 ≥ mg then pure (.done (none,s.2.1,s.2.2.1 - 1,s.2.2.2.1.push p,0,s.2.2.2.2.2 + 1))
   else pure (.yield (none,s.2.1,s.2.2.1 - 1,s.2.2.2.1.push p,0,s.2.2.2.2.2 + 1))
 | _ => pure (.done (some (a.extract 0 s.2.1 ++ b.extract 0 s.2.2.1 ++ s.2.2.2.1.reverse),s.2.1,s.2.2.1,s.2.2.2.1,s.2.2.2.2.1,s.2.2.2.2.2))
abbrev HiO:=Option (Array Keyed) × Nat × Nat × Array Keyed × Nat
def hiO (a b:Array Keyed) (s:HiO):StateT SortSt Sem (ForInStep HiO):=do
 let s1 ← forIn [0:a.size + b.size] ((none,s.2.1,s.2.2.1,s.2.2.2.1,0,0):HiR) fun _ s1 => hiP a b s.2.2.2.2 s1
 match s1.1 with
 | some r => pure (.done (some r,s1.2.1,s1.2.2.1,s1.2.2.2.1,s.2.2.2.2))
 | none => do
  liftM (rule "list.sort.gallop")
  let s2 ← forIn [0:a.size + b.size] ((none,s1.2.1,s1.2.2.1,s1.2.2.2.1,s.2.2.2.2 + 1,s1.2.2.2.2.1,s1.2.2.2.2.2):HiS) fun _ s2 => hiG a b s2
  match s2.1 with
  | some r => pure (.done (some r,s2.2.1,s2.2.2.1,s2.2.2.2.1,s2.2.2.2.2.1))
  | none => do
   setMinGallopX (s2.2.2.2.2.1 + 1)
   pure (.yield (none,s2.2.1,s2.2.2.1,s2.2.2.2.1,s2.2.2.2.2.1 + 1))
theorem mergeHiX_eq2 (a b:Array Keyed):mergeHiX a b=(do
 liftM (rule "list.sort.merge-hi")
 let p ← elem' a (a.size - 1)
 if (a.size - 1 == 0)=true then pure (a.extract 0 (a.size - 1) ++ b.extract 0 b.size ++ #[p].reverse)
 else if (b.size == 1)=true then pure (b.extract 0 b.size ++ a.extract 0 (a.size - 1) ++ #[p].reverse)
 else do
  let g ← get
  let s1 ← forIn [0:a.size + b.size] ((none,a.size - 1,b.size,#[p],gallopOf g):HiO) fun _ s1 => hiO a b s1
  match s1.1 with
  | some r => pure r
  | none => unsupported "internal:list.sort.merge-bound"):=by
 rw [mergeHiX_eq]
 dsimp only
 refine congrArg _ (funext fun _ => congrArg _ (funext fun p => ?_))
 refine ifc (ifc ?_)
 refine congrArg _ (funext fun g => ?_)
 congr 1
 ·congr 1
  funext x s1
  unfold hiO
  refine congrArg _ (funext fun s2 => ?_)
  obtain ⟨r,s2⟩:=s2
  cases r with
  | some r => rfl
  | none =>
   dsimp only
   refine congrArg _ (funext fun _ => congrArg _ (funext fun s3 => ?_))
   obtain ⟨r,s3⟩:=s3
   cases r with
   | some r => rfl
   | none => rfl
 ·funext s1
  obtain ⟨r,s1⟩:=s1
  cases r with
  | some r => rfl
  | none => rfl
end TimG
namespace TimG
open PySem PySem.Spec PyProof.Rows
variable [KO]
theorem idx_mid {a:Array Keyed} {m n:Nat} {y:Keyed} (h:y ∈ (a.toList.take n).drop m):∃ i,m ≤ i∧i < n∧a[i]? = some y:=by
 obtain ⟨i,hi⟩:=List.mem_iff_getElem?.mp h
 rw [List.getElem?_drop,List.getElem?_take] at hi
 split at hi
 ·rw [Array.getElem?_toList] at hi
  exact ⟨m + i,by omega,by assumption,hi⟩
 ·cases hi
theorem idx_low {a:Array Keyed} {n:Nat} {y:Keyed} (h:y ∈ a.toList.take n):∃ i,i < n∧a[i]? = some y:=by
 obtain ⟨i,_,h2,h3⟩:=idx_mid (m:=0) (n:=n) (a:=a) (y:=y) (by rw [List.drop_zero]; exact h)
 exact ⟨i,h2,h3⟩
theorem srt_top {a:Array Keyed} (h:Srt a.toList) {n:Nat} {p:Keyed} (e:a[n - 1]? = some p):∀ y ∈ a.toList.take n,numK y ≤ numK p:=fun y hy => by
 obtain ⟨i,hi,ei⟩:=idx_low hy
 exact srt_idx h (by omega) ei e
structure HiV (a b out:Array Keyed) (na nb:Nat):Prop where
 mi:HiI a b out na nb
 ha:0 < na
 ha2:na ≤ a.size
 hb:1 < nb
 hb2:nb ≤ b.size
section
variable {prog:Program} {w:World} {A:Around} {E:Value→Shared→Prop} {s:Shared} {a b:Array Keyed} {st st' : SortSt} {n0:Nat} [KL prog w A s]
def OhN (a b:Array Keyed) (st:SortSt) (n0:Nat) (c:HiS) (st' : SortSt):Prop:=Keep st st'∧∃ na nb out mg ac bc,c=(none,na,nb,out,mg,ac,bc)∧HiV a b out na nb∧na + nb + n0 ≤ a.size + b.size
def OhF (a b:Array Keyed) (st:SortSt) (c:HiS) (st' : SortSt):Prop:=Keep st st'∧∃ r rest,c=(some r,rest)∧Fin' (a.toList ++ b.toList) r.toList
def OhSt (a b:Array Keyed) (st:SortSt) (n0:Nat):ForInStep HiS→SortSt→Prop:=fun r st' => match r with
 | .done c => OhF a b st c st' ∨ OhN a b st n0 c st'
 | .yield c => OhN a b st n0 c st'
theorem first_done (h0:∀ p,b[0]? = some p→∀ x ∈ a.toList,numK p < numK x) {out:Array Keyed} {na nb:Nat} (h:HiI a b out na nb) (hi:nb=1):Fin' (a.toList ++ b.toList) (b.extract 0 nb ++ a.extract 0 na ++ out.reverse).toList:=by
 refine h.first fun p hp y hy => ?_
 obtain ⟨i,hi2,e⟩:=idx_low hy
 have:i=0:=by omega
 subst this
 exact Int.le_of_lt (h0 y e p (List.mem_of_mem_take hp))
theorem hi_done {out:Array Keyed} {na nb:Nat} (h:HiI a b out na nb) (hi:na=0):Fin' (a.toList ++ b.toList) (a.extract 0 na ++ b.extract 0 nb ++ out.reverse).toList:=by
 subst hi
 exact h.done
theorem wpS_H4 {out:Array Keyed} {na nb mg ac bc:Nat} (h:HiV a b out na nb) (hn:na + nb + n0 ≤ a.size + b.size) (kp:Keep st st') (hle:∀ p,a[na - 1]? = some p→∀ y ∈ b.toList.take nb,numK y ≤ numK p):wpS (model prog w) A E s (hiT4 a b na nb out mg ac bc) (OhSt a b st n0) st':=by
 have ha:=h.ha
 have ha2:=h.ha2
 obtain ⟨p,e,_⟩:=at_lt (a:=a) (i:=na - 1) (by omega)
 unfold hiT4
 refine wpS_bind (wpS_elem e ?_)
 have h1:HiI a b (out.push p) (na - 1) nb:=HiI.pushA (by rw [show na - 1 + 1=na by omega]; exact h.mi) e (hle p e)
 by_cases c1:(na - 1 == 0)=true
 ·rw [if_pos c1]
  exact wpS_pure (.inl ⟨kp,_,_,rfl,hi_done h1 (by simpa using c1)⟩)
 ·rw [if_neg c1]
  have c1:na - 1 ≠ 0:=by simpa using c1
  have v:HiV a b (out.push p) (na - 1) nb:=⟨h1,by omega,by omega,h.hb,h.hb2⟩
  split
  ·exact wpS_pure (.inr ⟨kp,_,_,_,_,_,_,rfl,v,by omega⟩)
  ·exact wpS_pure ⟨kp,_,_,_,_,_,_,rfl,v,by omega⟩
theorem wpS_H3 (T:Two a b) (hk:kindOf st=KO.kd) (h0:∀ p,b[0]? = some p→∀ x ∈ a.toList,numK p < numK x) {out:Array Keyed} {na nb mg ac bc:Nat} (h:HiI a b out na nb) (ha:0 < na) (ha2:na ≤ a.size) (hb:1 ≤ nb) (hb2:nb ≤ b.size) (hn:na + nb + n0 ≤ a.size + b.size) (kp:Keep st st'):wpS (model prog w) A E s (hiT3 a b na nb out mg ac bc) (OhSt a b st n0) st':=by
 unfold hiT3
 by_cases c1:(nb == 1)=true
 ·rw [if_pos c1]
  exact wpS_pure (.inl ⟨kp,_,_,rfl,first_done h0 h (by simpa using c1)⟩)
 rw [if_neg c1]
 have c1:nb ≠ 1:=by simpa using c1
 obtain ⟨p,e,mp⟩:=at_lt (a:=a) (i:=na - 1) (by omega)
 refine wpS_bind (wpS_elem e (wpS_bind (wpS_gal (kp.1.trans hk) (T.ia p mp) (by omega) (by omega) T.ib (fun i j p q hij _ e1 e2 => srt_idx T.sb (by omega) e1 e2) fun k hk1 hlt hge => ?_)))
 dsimp only
 have ge:∀ (i:Nat) (y:Keyed),k ≤ i→i < nb→b[i]? = some y→numK p ≤ numK y:=fun i y hi1 hi2 ei => by
  have:=hge i y hi1 hi2 (by rw [Nat.zero_add]; exact ei)
  unfold ahead at this
  rw [if_pos rfl] at this
  have:=of_decide_eq_false this
  omega
 have lt:∀ (i:Nat) (y:Keyed),i < k→b[i]? = some y→numK y < numK p:=fun i y hi ei => by
  have:=hlt i y hi (by rw [Nat.zero_add]; exact ei)
  unfold ahead at this
  rw [if_pos rfl] at this
  exact of_decide_eq_true this
 by_cases c2:nb - k > 0
 ·rw [if_pos c2]
  have h2:=h.blockB (m:=k) (by omega) fun x hx y hy => by
   obtain ⟨i,hi1,hi2,ei⟩:=idx_mid hx
   have:=ge i x hi1 hi2 ei
   have:=srt_top T.sa e y hy
   omega
  by_cases c3:(k == 1)=true
  ·rw [if_pos c3]
   exact wpS_pure (.inl ⟨kp,_,_,rfl,first_done h0 h2 (by simpa using c3)⟩)
  rw [if_neg c3]
  have c3:k ≠ 1:=by simpa using c3
  by_cases c4:(k == 0)=true
  ·have c4:k=0:=by simpa using c4
   exfalso
   obtain ⟨x,ex,_⟩:=at_lt (a:=b) (i:=0) (by omega)
   have h3:=h0 x ex p mp
   have h4:=ge 0 x (by omega) (by omega) ex
   omega
  ·rw [if_neg c4]
   have c4:k ≠ 0:=by simpa using c4
   refine wpS_H4 ⟨h2,ha,ha2,by omega,by omega⟩ (by omega) kp fun p' e' y hy => ?_
   rw [e] at e'
   cases e'
   obtain ⟨i,hi,ei⟩:=idx_low hy
   exact Int.le_of_lt (lt i y hi ei)
 ·rw [if_neg c2]
  refine wpS_H4 ⟨h,ha,ha2,by omega,hb2⟩ hn kp fun p' e' y hy => ?_
  rw [e] at e'
  cases e'
  obtain ⟨i,hi,ei⟩:=idx_low hy
  exact Int.le_of_lt (lt i y (by omega) ei)
theorem wpS_H2 (T:Two a b) (hk:kindOf st=KO.kd) (h0:∀ p,b[0]? = some p→∀ x ∈ a.toList,numK p < numK x) {out:Array Keyed} {na nb mg ac bc:Nat} (h:HiV a b out na nb) (hn:na + nb + n0 ≤ a.size + b.size) (kp:Keep st st') (hle:∀ p,b[nb - 1]? = some p→∀ y ∈ a.toList.take na,numK y ≤ numK p):wpS (model prog w) A E s (hiT2 a b na nb out mg ac bc) (OhSt a b st n0) st':=by
 have hb:=h.hb
 have hb2:=h.hb2
 obtain ⟨p,e,_⟩:=at_lt (a:=b) (i:=nb - 1) (by omega)
 unfold hiT2
 exact wpS_bind (wpS_elem e (wpS_H3 T hk h0 (HiI.pushB (by rw [show nb - 1 + 1=nb by omega]; exact h.mi) e (hle p e)) h.ha h.ha2 (by omega) (by omega) (by omega) kp))
theorem wpS_H1 (T:Two a b) (hk:kindOf st=KO.kd) (h0:∀ p,b[0]? = some p→∀ x ∈ a.toList,numK p < numK x) {out:Array Keyed} {na nb mg ac bc:Nat} (h:HiV a b out na nb) (hn:na + nb + n0 ≤ a.size + b.size) (kp:Keep st st'):wpS (model prog w) A E s (hiT1 a b na nb out mg ac bc) (OhSt a b st n0) st':=by
 have hb:=h.hb
 have hb2:=h.hb2
 have ha:=h.ha
 have ha2:=h.ha2
 obtain ⟨p,e,mp⟩:=at_lt (a:=b) (i:=nb - 1) (by omega)
 unfold hiT1
 rw [setMinGallopX_eq]
 refine wpS_bind (wpS_modify ?_)
 have kp:=kp.gal mg
 refine wpS_bind (wpS_elem e (wpS_bind (wpS_gal (kp.1.trans hk) (T.ib p mp) (by omega) (by omega) T.ia (fun i j p q hij _ e1 e2 => srt_idx T.sa (by omega) e1 e2) fun k hk1 hlt hge => ?_)))
 dsimp only
 have ge:∀ (i:Nat) (y:Keyed),k ≤ i→i < na→a[i]? = some y→numK p ≤ numK y:=fun i y hi1 hi2 ei => by
  have:=hge i y hi1 hi2 (by rw [Nat.zero_add]; exact ei)
  unfold ahead at this
  rw [if_neg (by decide)] at this
  cases z:decide (numK p < numK y) with
  | true => have:=of_decide_eq_true z; omega
  | false => rw [z] at this; cases this
 have lt:∀ (i:Nat) (x:Keyed),i < k→a[i]? = some x→numK x ≤ numK p:=fun i x hi ei => by
  have:=hlt i x hi (by rw [Nat.zero_add]; exact ei)
  unfold ahead at this
  rw [if_neg (by decide)] at this
  cases z:decide (numK p < numK x) with
  | true => rw [z] at this; cases this
  | false => have:=of_decide_eq_false z; omega
 by_cases c2:na - k > 0
 ·rw [if_pos c2]
  have h2:=h.mi.blockA (m:=k) (by omega) fun x hx y hy => by
   obtain ⟨i,hi1,hi2,ei⟩:=idx_mid hx
   have:=ge i x hi1 hi2 ei
   have:=srt_top T.sb e y hy
   omega
  by_cases c3:(k == 0)=true
  ·rw [if_pos c3]
   exact wpS_pure (.inl ⟨kp,_,_,rfl,hi_done h2 (by simpa using c3)⟩)
  rw [if_neg c3]
  have c3:k ≠ 0:=by simpa using c3
  refine wpS_H2 T hk h0 ⟨h2,by omega,by omega,hb,hb2⟩ (by omega) kp fun p' e' y hy => ?_
  rw [e] at e'
  cases e'
  obtain ⟨i,hi,ei⟩:=idx_low hy
  exact lt i y hi ei
 ·rw [if_neg c2]
  refine wpS_H2 T hk h0 h hn kp fun p' e' y hy => ?_
  rw [e] at e'
  cases e'
  obtain ⟨i,hi,ei⟩:=idx_low hy
  exact lt i y (by omega) ei
theorem wpS_HG (T:Two a b) (hk:kindOf st=KO.kd) (h0:∀ p,b[0]? = some p→∀ x ∈ a.toList,numK p < numK x) {c:HiS} (h:OhN a b st n0 c st'):wpS (model prog w) A E s (hiG a b c) (OhSt a b st n0) st':=by
 obtain ⟨kp,na,nb,out,mg,ac,bc,rfl,v,hn⟩:=h
 unfold hiG
 dsimp only
 split
 ·exact wpS_H1 T hk h0 v hn kp
 ·exact wpS_H1 T hk h0 v hn kp
def OhR (a b:Array Keyed) (st:SortSt) (n0:Nat) (c:HiR) (st' : SortSt):Prop:=Keep st st'∧∃ na nb out ac bc,c=(none,na,nb,out,ac,bc)∧HiV a b out na nb∧na + nb + n0 ≤ a.size + b.size
def OhRF (a b:Array Keyed) (st:SortSt) (c:HiR) (st' : SortSt):Prop:=Keep st st'∧∃ r rest,c=(some r,rest)∧Fin' (a.toList ++ b.toList) r.toList
theorem wpS_HP (T:Two a b) (hk:kindOf st=KO.kd) (h0:∀ p,b[0]? = some p→∀ x ∈ a.toList,numK p < numK x) {c:HiR} {mg:Nat} (h:OhR a b st n0 c st'):wpS (model prog w) A E s (hiP a b mg c) (fun r st' => match r with
  | .done c => OhRF a b st c st' ∨ OhR a b st (n0 + 1) c st'
  | .yield c => OhR a b st (n0 + 1) c st') st':=by
 obtain ⟨kp,na,nb,out,ac,bc,rfl,v,hn⟩:=h
 have hb:=v.hb
 have hb2:=v.hb2
 have ha:=v.ha
 have ha2:=v.ha2
 obtain ⟨p,e,mp⟩:=at_lt (a:=b) (i:=nb - 1) (by omega)
 obtain ⟨q,e2,mq⟩:=at_lt (a:=a) (i:=na - 1) (by omega)
 unfold hiP
 refine wpS_bind (wpS_elem e (wpS_bind (wpS_elem e2 (wpS_bind (wpS_ltN (kp.1.trans hk) (T.ib p mp) (T.ia q mq) ?_)))))
 dsimp only
 by_cases hlt:numK p < numK q
 ·rw [decide_eq_true hlt,if_pos rfl]
  refine wpS_bind (wpS_elem e2 ?_)
  have h1:HiI a b (out.push q) (na - 1) nb:=HiI.pushA (by rw [show na - 1 + 1=na by omega]; exact v.mi) e2 fun y hy => by have:=srt_top T.sb e y hy; omega
  by_cases c1:(na - 1 == 0)=true
  ·rw [if_pos c1]
   exact wpS_pure (.inl ⟨kp,_,_,rfl,hi_done h1 (by simpa using c1)⟩)
  rw [if_neg c1]
  have c1:na - 1 ≠ 0:=by simpa using c1
  have v1:HiV a b (out.push q) (na - 1) nb:=⟨h1,by omega,by omega,hb,hb2⟩
  split
  ·exact wpS_pure (.inr ⟨kp,_,_,_,_,_,rfl,v1,by omega⟩)
  ·exact wpS_pure ⟨kp,_,_,_,_,_,rfl,v1,by omega⟩
 ·rw [decide_eq_false hlt,if_neg (by decide)]
  refine wpS_bind (wpS_elem e ?_)
  have h1:HiI a b (out.push p) na (nb - 1):=HiI.pushB (by rw [show nb - 1 + 1=nb by omega]; exact v.mi) e fun y hy => by have:=srt_top T.sa e2 y hy; omega
  by_cases c1:(nb - 1 == 1)=true
  ·rw [if_pos c1]
   exact wpS_pure (.inl ⟨kp,_,_,rfl,first_done h0 h1 (by simpa using c1)⟩)
  rw [if_neg c1]
  have c1:nb - 1 ≠ 1:=by simpa using c1
  have v1:HiV a b (out.push p) na (nb - 1):=⟨h1,ha,ha2,by omega,by omega⟩
  split
  ·exact wpS_pure (.inr ⟨kp,_,_,_,_,_,rfl,v1,by omega⟩)
  ·exact wpS_pure ⟨kp,_,_,_,_,_,rfl,v1,by omega⟩
theorem wpS_mergeHi {Q:Array Keyed→SortSt→Prop} (T:Two a b) (hk:kindOf st=KO.kd) (a1:1 ≤ a.size) (b1:1 ≤ b.size) (h0:∀ p,b[0]? = some p→∀ x ∈ a.toList,numK p < numK x) (hla:∀ p,a[a.size - 1]? = some p→∀ y ∈ b.toList,numK y < numK p)
  (h:∀ r st',Keep st st'→Fin' (a.toList ++ b.toList) r.toList→Q r st'):wpS (model prog w) A E s (mergeHiX a b) Q st:=by
 rw [mergeHiX_eq2]
 refine wpS_bind (wpS_lift (wpAny_rule ⟨rfl,?_⟩))
 obtain ⟨p,e,mp⟩:=at_lt (a:=a) (i:=a.size - 1) (by omega)
 refine wpS_bind (wpS_elem e ?_)
 have ta:a.toList.take a.size=a.toList:=List.take_of_length_le (by rw [Array.length_toList]; exact Nat.le_refl _)
 have tb:b.toList.take b.size=b.toList:=List.take_of_length_le (by rw [Array.length_toList]; exact Nat.le_refl _)
 have st0:HiI a b #[] a.size b.size:=by
  unfold HiI
  rw [ta,tb]
  exact ⟨by show ((a.toList ++ b.toList) ++ []).Perm _; rw [List.append_nil],List.Pairwise.nil,T.sa,T.sb,fun y _ z hz => by cases hz⟩
 have st1:HiI a b #[p] (a.size - 1) b.size:=HiI.pushA (out:=#[]) (by rw [show a.size - 1 + 1=a.size by omega]; exact st0) e fun y hy => Int.le_of_lt (hla p e y (List.mem_of_mem_take hy))
 by_cases c1:(a.size - 1 == 0)=true
 ·rw [if_pos c1]
  exact wpS_pure (h _ _ (Keep.refl st) (hi_done st1 (by simpa using c1)))
 rw [if_neg c1]
 have c1:a.size - 1 ≠ 0:=by simpa using c1
 by_cases c2:(b.size == 1)=true
 ·rw [if_pos c2]
  exact wpS_pure (h _ _ (Keep.refl st) (first_done h0 st1 (by simpa using c2)))
 rw [if_neg c2]
 have c2:b.size ≠ 1:=by simpa using c2
 refine wpS_bind (wpS_get ?_)
 refine wpS_bind (wpS_mono (wpS_forRange (I:=fun x c st' => Keep st st'∧∃ na nb out mg,c=(none,na,nb,out,mg)∧HiV a b out na nb∧na + nb + x ≤ a.size + b.size)
  (Q:=fun c st' => Keep st st'∧∃ r rest,c=(some r,rest)∧Fin' (a.toList ++ b.toList) r.toList) ?step ?fin ⟨Keep.refl st,_,_,_,_,rfl,⟨st1,by omega,by omega,by omega,Nat.le_refl _⟩,by omega⟩) ?post)
 case post =>
  rintro c st' ⟨kp,r,rest,rfl,f⟩
  exact wpS_pure (h r st' kp f)
 case fin =>
  rintro c st' ⟨kp,na,nb,out,mg,rfl,v,hx⟩
  have:=v.ha
  have:=v.hb
  omega
 case step =>
  rintro x c st1 _ hx ⟨kp,na,nb,out,mg,rfl,v,hn⟩
  unfold hiO
  dsimp only
  refine wpS_bind (wpS_mono (wpS_forRange (I:=fun y c st' => OhR a b st (x + y) c st') (Q:=fun c st' => OhRF a b st c st' ∨ OhR a b st (x + 1) c st') ?_ ?_ ⟨kp,_,_,_,_,_,rfl,v,hn⟩) ?_)
  ·rintro y c st2 _ hy hR
   refine wpS_mono (wpS_HP T hk h0 hR) fun r st3 hr => ?_
   cases r with
   | done c =>
    rcases hr with hr | ⟨k3,na,nb,out,ac,bc,e3,v3,n3⟩
    ·exact .inl hr
    ·exact .inr ⟨k3,na,nb,out,ac,bc,e3,v3,by omega⟩
   | yield c => exact hr
  ·rintro c st2 ⟨k3,na,nb,out,ac,bc,e3,v3,n3⟩
   exact .inr ⟨k3,na,nb,out,ac,bc,e3,v3,by omega⟩
  ·rintro c st2 (⟨k2,r,rest,rfl,f⟩ | ⟨k2,na2,nb2,out2,ac2,bc2,rfl,v2,n2⟩)
   ·exact wpS_pure ⟨k2,_,_,rfl,f⟩
   ·dsimp only
    refine wpS_bind (wpS_lift (wpAny_rule ⟨rfl,?_⟩))
    refine wpS_bind (wpS_mono (wpS_forRange (I:=fun y c st' => OhN a b st (x + 1) c st') (Q:=fun c st' => OhF a b st c st' ∨ OhN a b st (x + 1) c st') ?_ ?_ ⟨k2,_,_,_,_,_,_,rfl,v2,n2⟩) ?_)
    ·rintro y c st3 _ hy hR
     refine wpS_mono (wpS_HG T hk h0 hR) fun r st4 hr => ?_
     cases r with
     | done c => exact hr
     | yield c => exact hr
    ·exact fun c st3 hR => .inr hR
    ·rintro c st3 (⟨k3,r,rest,rfl,f⟩ | ⟨k3,na3,nb3,out3,mg3,ac3,bc3,rfl,v3,n3⟩)
     ·exact wpS_pure ⟨k3,_,_,rfl,f⟩
     ·dsimp only
      rw [setMinGallopX_eq]
      exact wpS_bind (wpS_modify (wpS_pure ⟨k3.gal _,_,_,_,_,rfl,v3,by omega⟩))
end
end TimG
namespace TimG
open PySem PySem.Spec PyProof.Rows
variable [KO]
theorem mergeAtX_eq (i:Nat):mergeAt' i=(do
 let s ← get
 let (some (sa,na,power),some (sb,nb,_)):=((pendingOf s)[i]?,(pendingOf s)[i + 1]?) | unsupported "internal:list.sort.pending"
 set (setPending s (((pendingOf s).setIfInBounds i (sa,na + nb,power)).eraseIdxIfInBounds (i + 1)))
 let some k ← gallopX false (← elem' (arrOf s) sb) (arrOf s) sa na 0 | return false
 let (sa,na):=(sa + k,na - k)
 if na == 0 then return true
 let some nb ← gallopX true (← elem' (arrOf s) (sa + na - 1)) (arrOf s) sb nb (nb - 1) | return false
 if nb == 0 then return true
 let x:=(arrOf s).extract sa sb
 let y:=(arrOf s).extract sb (sb + nb)
 let merged ← if na ≤ nb then mergeLoX x y else mergeHiX x y
 modify fun s => setArr s (merged.toList.zipIdx.foldl (fun a (p,j) => a.setIfInBounds (sa + j) p) (arrOf s))
 return (failedOf (← get)).isNone):=rfl
theorem put_all:∀ (l:List Keyed) (j o:Nat) (a:Array Keyed),o + j + l.length ≤ a.size→((l.zipIdx j).foldl (fun a (p:Keyed × Nat) => a.setIfInBounds (o + p.2) p.1) a).toList=a.toList.take (o + j) ++ l ++ a.toList.drop (o + j + l.length)
 | [],j,o,a,_ => by
  show a.toList=_
  rw [List.append_nil,List.length_nil,Nat.add_zero,List.take_append_drop]
 | x :: l,j,o,a,h => by
  rw [List.length_cons] at h
  rw [List.zipIdx_cons,List.foldl_cons]
  have ih:=put_all l (j + 1) o (a.setIfInBounds (o + j) x) (by rw [Array.size_setIfInBounds]; omega)
  dsimp only
  rw [ih,Array.toList_setIfInBounds]
  have hl:o + j < a.toList.length:=by rw [Array.length_toList]; omega
  have e1:(a.toList.set (o + j) x).take (o + (j + 1))=a.toList.take (o + j) ++ [x]:=by
   rw [show o + (j + 1)=o + j + 1 by omega,List.take_add_one,List.take_set_of_le (Nat.le_refl _),List.getElem?_set_self hl]
   rfl
  have e2:(a.toList.set (o + j) x).drop (o + (j + 1) + l.length)=a.toList.drop (o + j + (l.length + 1)):=by
   rw [List.drop_set_of_lt (by omega),show o + (j + 1) + l.length=o + j + (l.length + 1) by omega]
  rw [e1,e2,List.length_cons]
  simp
def offs:Nat→List (List Keyed)→List (Nat × Nat)
 | _,[] => []
 | s,R :: Rs => (s,R.length) :: offs (s + R.length) Rs
theorem offs_app:∀ (s:Nat) (A B:List (List Keyed)),offs s (A ++ B)=offs s A ++ offs (s + A.flatten.length) B
 | s,[],B => by simp [offs]
 | s,R :: A,B => by
  show (s,R.length) :: offs (s + R.length) (A ++ B)=(s,R.length) :: offs (s + R.length) A ++ _
  rw [offs_app (s + R.length) A B,List.flatten_cons,List.length_append,Nat.add_assoc]
  rfl
theorem offs_len:∀ (s:Nat) (A:List (List Keyed)),(offs s A).length=A.length
 | s,[] => rfl
 | s,R :: A => by show (offs (s + R.length) A).length + 1=A.length + 1; rw [offs_len]
def bare (P:Array (Nat × Nat × Nat)):List (Nat × Nat):=P.toList.map fun x => (x.1,x.2.1)
theorem extract_eq (a:Array Keyed) (i j:Nat):(a.extract i j).toList=(a.toList.drop i).take (j - i):=by
 rw [Array.toList_extract,List.extract_eq_take_drop]
theorem at_app {a:Array Keyed} {U V W:List Keyed} (e:a.toList=U ++ V ++ W) {i:Nat} (hi:i < V.length):a[U.length + i]? = V[i]?:=by
 rw [← Array.getElem?_toList,e,List.append_assoc,List.getElem?_append_right (by omega),List.getElem?_append_left (by omega)]
 congr 1
 omega
theorem srt_get {l:List Keyed} (h:Srt l) {i j:Nat} {p q:Keyed} (hij:i ≤ j) (e1:l[i]? = some p) (e2:l[j]? = some q):numK p ≤ numK q:=by
 have:=srt_idx (a:=l.toArray) (by simpa using h) hij (by simpa using e1) (by simpa using e2)
 exact this
section
variable {prog:Program} {w:World} {A:Around} {E:Value→Shared→Prop} {s:Shared} {st:SortSt} [KL prog w A s]
theorem wpS_set {x:SortSt} {Q:PUnit→SortSt→Prop} (h:Q ⟨⟩ x):wpS (model prog w) A E s (set x:StateT SortSt Sem PUnit) Q st:=by
 unfold wpS; rw [StateT.run_set]; exact wpAny_pure ⟨rfl,h⟩
theorem wpS_mergeAt {Q:Bool→SortSt→Prop} {U S1 S2 W:List Keyed} {i pw pw2:Nat} (hk:kindOf st=KO.kd) (hf:failedOf st=none) (ea:(arrOf st).toList=U ++ S1 ++ S2 ++ W) (hI:∀ p ∈ (arrOf st).toList,Ik p) (s1:Srt S1) (s2:Srt S2) (n1:1 ≤ S1.length) (n2:1 ≤ S2.length)
  (e1:(pendingOf st)[i]? = some (U.length,S1.length,pw)) (e2:(pendingOf st)[i + 1]? = some (U.length + S1.length,S2.length,pw2))
  (h:∀ (M:List Keyed) (st' : SortSt),kindOf st' = KO.kd→failedOf st' = none→(arrOf st').toList=U ++ M ++ W→M.Perm (S1 ++ S2)→Srt M→pendingOf st' = ((pendingOf st).setIfInBounds i (U.length,S1.length + S2.length,pw)).eraseIdxIfInBounds (i + 1)→Q true st') :
  wpS (model prog w) A E s (mergeAt' i) Q st:=by
 rw [mergeAtX_eq]
 refine wpS_bind (wpS_get ?_)
 rw [e1,e2]
 dsimp only
 refine wpS_bind (wpS_set ?_)
 have hsz:(arrOf st).size=U.length + S1.length + S2.length + W.length:=by rw [← Array.length_toList,ea,List.length_append,List.length_append,List.length_append]
 have ea1:(arrOf st).toList=U ++ S1 ++ (S2 ++ W):=by rw [ea]; simp
 have g1:∀ i,i < S1.length→(arrOf st)[U.length + i]? = S1[i]?:=fun i hi => at_app ea1 hi
 have g2:∀ i,i < S2.length→(arrOf st)[U.length + S1.length + i]? = S2[i]?:=fun i hi => by
  have:=at_app (U:=U ++ S1) ea hi
  rw [List.length_append] at this
  exact this
 have i1:∀ p ∈ S1,Ik p:=fun p hp => hI p (by rw [ea]; simp [hp])
 have i2:∀ p ∈ S2,Ik p:=fun p hp => hI p (by rw [ea]; simp [hp])
 have eb0:S2[0]? = some S2[0]:=List.getElem?_eq_getElem n2
 have mb0:S2[0] ∈ S2:=List.getElem_mem n2
 generalize S2[0]=b0 at eb0 mb0
 have sb0:∀ y ∈ S2,numK b0 ≤ numK y:=fun y hy => by
  obtain ⟨j,hj⟩:=List.mem_iff_getElem?.mp hy
  exact srt_get s2 (Nat.zero_le j) eb0 hj
 refine wpS_bind (wpS_elem (p:=b0) (by have:=g2 0 n2; rw [Nat.add_zero] at this; rw [this]; exact eb0) ?_)
 refine wpS_bind (wpS_gal hk (i2 b0 mb0) n1 (by omega) hI (fun i j p q hij hj x1 x2 => by rw [g1 i (by omega)] at x1; rw [g1 j hj] at x2; exact srt_get s1 hij x1 x2) fun k hk1 hlt hge => ?_)
 have lt1:∀ (i:Nat) (x:Keyed),i < k→S1[i]? = some x→numK x ≤ numK b0:=fun i x hi ei => by
  have:=hlt i x hi (by rw [g1 i (by omega)]; exact ei)
  unfold ahead at this
  rw [if_neg (by decide)] at this
  cases z:decide (numK b0 < numK x) with
  | true => rw [z] at this; cases this
  | false => have:=of_decide_eq_false z; omega
 have ge1:∀ (i:Nat) (y:Keyed),k ≤ i→S1[i]? = some y→numK b0 < numK y:=fun i y hi1 ei => by
  have hi2:=(List.getElem?_eq_some_iff.mp ei).1
  have:=hge i y hi1 hi2 (by rw [g1 i hi2]; exact ei)
  unfold ahead at this
  rw [if_neg (by decide)] at this
  cases z:decide (numK b0 < numK y) with
  | true => exact of_decide_eq_true z
  | false => rw [z] at this; cases this
 dsimp only
 by_cases c1:(S1.length - k == 0)=true
 ·rw [if_pos c1]
  have c1:S1.length - k=0:=by simpa using c1
  refine wpS_pure (h (S1 ++ S2) _ hk hf (by show (arrOf st).toList=_; rw [ea]; simp) (List.Perm.refl _) (srt_app s1 s2 fun x hx y hy => ?_) rfl)
  obtain ⟨j,hj⟩:=List.mem_iff_getElem?.mp hx
  have hj2:=(List.getElem?_eq_some_iff.mp hj).1
  exact Int.le_trans (lt1 j x (by omega) hj) (sb0 y hy)
 rw [if_neg c1]
 have c1:S1.length - k ≠ 0:=by simpa using c1
 have el:S1[S1.length - 1]? = some S1[S1.length - 1]:=List.getElem?_eq_getElem (by omega)
 have ml:S1[S1.length - 1] ∈ S1:=List.getElem_mem (by omega)
 generalize S1[S1.length - 1]=z0 at el ml
 have sz0:∀ y ∈ S1,numK y ≤ numK z0:=fun y hy => by
  obtain ⟨j,hj⟩:=List.mem_iff_getElem?.mp hy
  have hj2:=(List.getElem?_eq_some_iff.mp hj).1
  exact srt_get s1 (by omega) hj el
 refine wpS_bind (wpS_elem (p:=z0) (by rw [show U.length + k + (S1.length - k) - 1=U.length + (S1.length - 1) by omega,g1 _ (by omega)]; exact el) ?_)
 refine wpS_bind (wpS_gal hk (i1 z0 ml) (by omega) (by omega) hI (fun i j p q hij hj x1 x2 => by rw [g2 i (by omega)] at x1; rw [g2 j hj] at x2; exact srt_get s2 hij x1 x2) fun nb hnb hlt2 hge2 => ?_)
 have lt2:∀ (i:Nat) (x:Keyed),i < nb→S2[i]? = some x→numK x < numK z0:=fun i x hi ei => by
  have:=hlt2 i x hi (by rw [g2 i (by omega)]; exact ei)
  unfold ahead at this
  rw [if_pos rfl] at this
  exact of_decide_eq_true this
 have ge2:∀ (i:Nat) (y:Keyed),nb ≤ i→S2[i]? = some y→numK z0 ≤ numK y:=fun i y hi1 ei => by
  have hi2:=(List.getElem?_eq_some_iff.mp ei).1
  have:=hge2 i y hi1 hi2 (by rw [g2 i hi2]; exact ei)
  unfold ahead at this
  rw [if_pos rfl] at this
  have:=of_decide_eq_false this
  omega
 dsimp only
 by_cases c2:(nb == 0)=true
 ·have c2:nb=0:=by simpa using c2
  exfalso
  have h1:=ge2 0 b0 (by omega) eb0
  have h2:=ge1 (S1.length - 1) z0 (by omega) el
  omega
 rw [if_neg c2]
 have c2:nb ≠ 0:=by simpa using c2
 have ex:((arrOf st).extract (U.length + k) (U.length + S1.length)).toList=S1.drop k:=by
  rw [extract_eq,ea1,List.append_assoc,List.drop_append,List.drop_of_length_le (by omega),List.nil_append,show U.length + k - U.length=k by omega,List.drop_append,List.take_append]
  rw [List.take_of_length_le (by rw [List.length_drop]; omega),List.length_drop,show U.length + S1.length - (U.length + k) - (S1.length - k)=0 by omega,List.take_zero,List.append_nil]
 have ey:((arrOf st).extract (U.length + S1.length) (U.length + S1.length + nb)).toList=S2.take nb:=by
  rw [extract_eq,ea,List.append_assoc,List.drop_append,List.drop_of_length_le (by rw [List.length_append]; exact Nat.le_refl _),List.nil_append,List.length_append,Nat.sub_self,List.drop_zero,Nat.add_sub_cancel_left,List.take_append,show nb - S2.length=0 by omega,List.take_zero,List.append_nil]
 have lx:((arrOf st).extract (U.length + k) (U.length + S1.length)).size=S1.length - k:=by rw [← Array.length_toList,ex,List.length_drop]
 have ly:((arrOf st).extract (U.length + S1.length) (U.length + S1.length + nb)).size=nb:=by rw [← Array.length_toList,ey,List.length_take]; omega
 generalize (arrOf st).extract (U.length + k) (U.length + S1.length)=xa at ex lx ⊢
 generalize (arrOf st).extract (U.length + S1.length) (U.length + S1.length + nb)=ya at ey ly ⊢
 have T:Two xa ya:=⟨by rw [ex]; exact fun p hp => i1 p (List.mem_of_mem_drop hp),by rw [ey]; exact fun p hp => i2 p (List.mem_of_mem_take hp),by rw [ex]; exact srt_drop s1 k,by rw [ey]; exact List.Pairwise.take s2⟩
 have H0:∀ p,ya[0]? = some p→∀ x ∈ xa.toList,numK p < numK x:=fun p ep x hx => by
  rw [← Array.getElem?_toList,ey,List.getElem?_take,if_pos (by omega),eb0] at ep
  cases ep
  rw [ex] at hx
  obtain ⟨j,hj⟩:=List.mem_iff_getElem?.mp hx
  rw [List.getElem?_drop] at hj
  exact ge1 (k + j) x (by omega) hj
 have HL:∀ p,xa[xa.size - 1]? = some p→∀ y ∈ ya.toList,numK y < numK p:=fun p ep y hy => by
  rw [← Array.getElem?_toList,ex,List.getElem?_drop,lx,show k + (S1.length - k - 1)=S1.length - 1 by omega,el] at ep
  cases ep
  rw [ey] at hy
  obtain ⟨j,hj⟩:=List.mem_iff_getElem?.mp hy
  rw [List.getElem?_take] at hj
  split at hj
  ·exact lt2 j y (by assumption) hj
  ·cases hj
 have fin:∀ (r:Array Keyed) (st3:SortSt),Keep (setPending st (((pendingOf st).setIfInBounds i (U.length,S1.length + S2.length,pw)).eraseIdxIfInBounds (i + 1))) st3→Fin' (xa.toList ++ ya.toList) r.toList →
   wpS (model prog w) A E s (do
    modify fun s => setArr s (List.foldl (fun a (x:Keyed × Nat) => a.setIfInBounds (U.length + k + x.snd) x.fst) (arrOf s) r.toList.zipIdx)
    let g ← get
    pure (failedOf g).isNone) Q st3:=by
  intro r st3 ⟨q1,q2,q3,q4⟩ ⟨fp,fs⟩
  rw [ex,ey] at fp
  have lr:r.toList.length=(S1.length - k) + nb:=by rw [fp.length_eq,List.length_append,List.length_drop,List.length_take]; omega
  refine wpS_bind (wpS_modify (wpS_bind (wpS_get (wpS_pure ?_))))
  show Q (failedOf st3).isNone _
  rw [q4]
  show Q (failedOf st).isNone _
  rw [hf]
  refine h (S1.take k ++ r.toList ++ S2.drop nb) _ (q1.trans hk) (q4.trans hf) ?_ ?_ ?_ q3
  ·show (List.foldl (fun a (x:Keyed × Nat) => a.setIfInBounds (U.length + k + x.snd) x.fst) (arrOf st3) (r.toList.zipIdx 0)).toList=_
   rw [put_all r.toList 0 (U.length + k) (arrOf st3) (by rw [q2]; show _ ≤ (arrOf st).size; omega),q2]
   show (arrOf st).toList.take _ ++ _ ++ (arrOf st).toList.drop _=_
   have t1:(arrOf st).toList.take (U.length + k + 0)=U ++ S1.take k:=by
    rw [ea1,List.append_assoc,List.take_append,List.take_of_length_le (by omega),show U.length + k + 0 - U.length=k by omega,List.take_append,show k - S1.length=0 by omega,List.take_zero,List.append_nil]
   have t2:(arrOf st).toList.drop (U.length + k + 0 + r.toList.length)=S2.drop nb ++ W:=by
    rw [ea,List.append_assoc,List.drop_append,List.drop_of_length_le (by rw [List.length_append]; omega),List.nil_append,List.length_append,lr,show U.length + k + 0 + (S1.length - k + nb) - (U.length + S1.length)=nb by omega,List.drop_append,show nb - S2.length=0 by omega,List.drop_zero]
   rw [t1,t2]
   simp
  ·have p1:(S1.take k ++ r.toList ++ S2.drop nb).Perm (S1.take k ++ (S1.drop k ++ S2.take nb) ++ S2.drop nb):=List.Perm.append_right _ (List.Perm.append_left _ fp)
   refine p1.trans ?_
   have:S1.take k ++ (S1.drop k ++ S2.take nb) ++ S2.drop nb=S1 ++ S2:=by
    rw [← List.append_assoc,List.take_append_drop,List.append_assoc,List.take_append_drop]
   rw [this]
  ·have inr:∀ y ∈ r.toList,y ∈ S1.drop k ∨ y ∈ S2.take nb:=fun y hy => List.mem_append.mp (fp.mem_iff.mp hy)
   have s1' : Srt (S1.take k ++ S1.drop k):=by rw [List.take_append_drop]; exact s1
   have s2' : Srt (S2.take nb ++ S2.drop nb):=by rw [List.take_append_drop]; exact s2
   refine srt_app (srt_app (srt_l s1') fs fun x hx y hy => ?_) (srt_r s2') fun x hx y hy => ?_
   ·rcases inr y hy with hy | hy
    ·exact srt_lr s1' x hx y hy
    ·obtain ⟨j,hj⟩:=List.mem_iff_getElem?.mp hx
     rw [List.getElem?_take] at hj
     split at hj
     ·exact Int.le_trans (lt1 j x (by assumption) hj) (sb0 y (List.mem_of_mem_take hy))
     ·cases hj
   ·have zy:numK z0 ≤ numK y:=by
     obtain ⟨j,hj⟩:=List.mem_iff_getElem?.mp hy
     rw [List.getElem?_drop] at hj
     exact ge2 (nb + j) y (by omega) hj
    rcases List.mem_append.mp hx with hx | hx
    ·exact Int.le_trans (sz0 x (List.mem_of_mem_take hx)) zy
    ·rcases inr x hx with hx | hx
     ·exact Int.le_trans (sz0 x (List.mem_of_mem_drop hx)) zy
     ·exact srt_lr s2' x hx y hy
 by_cases c3:S1.length - k ≤ nb
 ·rw [if_pos c3]
  exact wpS_bind (wpS_mergeLo T hk (by omega) (by omega) (fun p ep x hx => Int.le_of_lt (H0 p ep x hx)) HL fun r st3 kp f => fin r st3 kp f)
 ·rw [if_neg c3]
  exact wpS_bind (wpS_mergeHi T hk (by omega) (by omega) H0 HL fun r st3 kp f => fin r st3 kp f)
end
end TimG
namespace TimG
open PySem PySem.Spec PyProof.Rows
variable [KO]
def ascY (lo a nrem:Nat):StateT SortSt Sem AscSt :=
 forIn [a:nrem] ((none,a):AscSt) fun _ c => do
  let x ← ltAt' (lo + c.2) (lo + c.2 - 1)
  match x with
  | some smaller => if smaller=true then pure (.done (none,c.2)) else pure (.yield (none,c.2 + 1))
  | _ => pure (.done (some none,c.2))
def tailY (lo n nrem:Nat):StateT SortSt Sem (Option Nat):=do
 reverseSlice' lo (lo + n)
 let c ← ascY lo n nrem
 match c.1 with
 | some r => pure r
 | none => pure (some c.2)
def descY (lo n nrem:Nat):StateT SortSt Sem DescSt :=
 forIn [n:nrem] ((none,n,0):DescSt) fun _ c => do
  let x ← ltAt' (lo + c.2.1) (lo + c.2.1 - 1)
  match x with
  | some smaller =>
   if smaller=true then
    if c.2.2 > 0 then do
     reverseSlice' (lo + c.2.1 - (c.2.2 + 1)) (lo + c.2.1)
     pure (.yield (none,c.2.1 + 1,0))
    else pure (.yield (none,c.2.1 + 1,0))
   else do
    let x ← ltAt' (lo + c.2.1 - 1) (lo + c.2.1)
    match x with
    | some larger => if larger=true then pure (.done (none,c.2.1,c.2.2)) else pure (.yield (none,c.2.1 + 1,c.2.2 + 1))
    | _ => pure (.done (some none,c.2.1,c.2.2))
  | _ => pure (.done (some none,c.2.1,c.2.2))
def descZ (lo n nrem:Nat):StateT SortSt Sem (Option Nat):=do
 liftM (rule "list.sort.descending-run")
 let c ← descY lo (n + 1) nrem
 match c.1 with
 | some r => pure r
 | none =>
  if c.2.2 > 0 then do
   reverseSlice' (lo + c.2.1 - (c.2.2 + 1)) (lo + c.2.1)
   tailY lo c.2.1 nrem
  else tailY lo c.2.1 nrem
theorem countRunX_eq (lo nrem:Nat):countRun' lo nrem=(do
  let c ← ascY lo 1 nrem
  match c.1 with
  | some r => pure r
  | none =>
   if (c.2 == nrem)=true then pure (some c.2)
   else if c.2 > 1 then do
    let x ← ltAt' lo (lo + c.2 - 1)
    match x with
    | some rose => if rose=true then pure (some c.2) else do
      reverseSlice' lo (lo + c.2)
      descZ lo c.2 nrem
    | _ => pure none
   else descZ lo c.2 nrem):=by
 have tl:∀ n,(do
   reverseSlice' lo (lo + n)
   let mut n:=n
   for _ in [n:nrem] do
    let some smaller ← ltAt' (lo + n) (lo + n - 1) | return none
    if smaller then break
    n:=n + 1
   return some n)=tailY lo n nrem:=fun n => by
  unfold tailY
  dsimp only
  refine congrArg _ (funext fun _ => congrArg _ (funext fun c => ?_))
  obtain ⟨r,c⟩:=c
  cases r <;> rfl
 have dz:∀ n,(do
   rule "list.sort.descending-run"
   let mut n:=n + 1
   let mut neq:=0
   for _ in [n:nrem] do
    let some smaller ← ltAt' (lo + n) (lo + n - 1) | return none
    if smaller then
     if neq > 0 then reverseSlice' (lo + n - (neq + 1)) (lo + n)
     neq:=0
    else
     let some larger ← ltAt' (lo + n - 1) (lo + n) | return none
     if larger then break
     neq:=neq + 1
    n:=n + 1
   if neq > 0 then reverseSlice' (lo + n - (neq + 1)) (lo + n)
   reverseSlice' lo (lo + n)
   for _ in [n:nrem] do
    let some smaller ← ltAt' (lo + n) (lo + n - 1) | return none
    if smaller then break
    n:=n + 1
   return some n)=(descZ lo n nrem:StateT SortSt Sem (Option Nat)):=fun n => by
  unfold descZ
  dsimp only
  refine congrArg _ (funext fun _ => congrArg _ (funext fun c => ?_))
  obtain ⟨r,n2,q2⟩:=c
  cases r with
  | some r => rfl
  | none =>
   dsimp only
   refine ifd (congrArg _ (funext fun _ => ?_)) ?_
   ·exact tl n2
   ·exact tl n2
 rw [countRun'_eq]
 dsimp only
 refine congrArg _ (funext fun c => ?_)
 obtain ⟨r,n⟩:=c
 cases r with
 | some r => rfl
 | none =>
  dsimp only
  refine ifc (ifd (congrArg _ (funext fun x => ?_)) ?_)
  ·cases x with
   | none => rfl
   | some rose =>
    dsimp only
    refine ifc (congrArg _ (funext fun _ => ?_))
    exact dz n
  ·exact dz n
end TimG
namespace TimG
open PySem PySem.Spec PyProof.Rows
variable [KO]
structure CB (a₀:Array Keyed) (lo:Nat) (P:Array (Nat × Nat × Nat)) (st:SortSt):Prop where
 kind:kindOf st=KO.kd
 failed:failedOf st=none
 pend:pendingOf st=P
 perm:(arrOf st).Perm a₀
 low:∀ i,i < lo→(arrOf st)[i]? = a₀[i]?
theorem CB.size {a₀:Array Keyed} {lo:Nat} {P:Array (Nat × Nat × Nat)} {st:SortSt} (h:CB a₀ lo P st):(arrOf st).size=a₀.size:=h.perm.size_eq
theorem CB.rev {a₀:Array Keyed} {lo:Nat} {P:Array (Nat × Nat × Nat)} {st:SortSt} (h:CB a₀ lo P st) {i j:Nat} (hi:lo ≤ i) (hj:j ≤ a₀.size):CB a₀ lo P (setArr st (mirror (arrOf st) i j ((j - i) / 2))) :=
 ⟨h.kind,h.failed,h.pend,(mirror_perm _ _ _ _).trans h.perm,fun k hk => by
  show (mirror (arrOf st) i j ((j - i) / 2))[k]? = _
  rw [getElem?_mirror_all (by rw [h.size]; exact hj),if_neg (by omega)]
  exact h.low k hk⟩
theorem CB.at {a₀:Array Keyed} {lo:Nat} {P:Array (Nat × Nat × Nat)} {st:SortSt} (h:CB a₀ lo P st) (h0:IkA a₀) {i:Nat} (hi:i < a₀.size):∃ p,(arrOf st)[i]? = some p∧Ik p∧K (arrOf st) i=numK p:=by
 have hi' : i < (arrOf st).size:=by rw [h.size]; exact hi
 have hm:(arrOf st)[i] ∈ a₀.toList:=(Array.perm_iff_toList_perm.mp h.perm).mem_iff.mp (by simp)
 have e:(arrOf st)[i]? = some (arrOf st)[i]:=getElem?_pos _ i hi'
 refine ⟨_,e,h0 _ hm,?_⟩
 unfold K L2.RK
 rw [e]
 rfl
def SegA (xs:Array Keyed) (lo n:Nat):Prop:=∀ i j,i ≤ j→j < n→K xs (lo + i) ≤ K xs (lo + j)
def SegD (xs:Array Keyed) (lo n:Nat):Prop:=∀ i j,i ≤ j→j < n→K xs (lo + j) ≤ K xs (lo + i)
section
variable {prog:Program} {w:World} {A:Around} {E:Value→Shared→Prop} {s:Shared} {a₀:Array Keyed} {lo nrem:Nat} {P:Array (Nat × Nat × Nat)} {st:SortSt} [KL prog w A s]
theorem wpS_ltC {i j:Nat} {Q:Option Bool→SortSt→Prop} (hB:CB a₀ lo P st) (h0:IkA a₀) (hi:i < a₀.size) (hj:j < a₀.size) (h:Q (some (decide (K (arrOf st) i < K (arrOf st) j))) st):wpS (model prog w) A E s (ltAt' i j) Q st:=by
 obtain ⟨p,e1,i1,k1⟩:=hB.at h0 hi
 obtain ⟨q,e2,i2,k2⟩:=hB.at h0 hj
 rw [k1,k2] at h
 rw [ltAt'_eq]
 refine wpS_bind (wpS_get ?_)
 dsimp only
 rw [elem'_eq,elem'_eq,e1,e2]
 exact wpS_bind (wpS_pure (wpS_bind (wpS_pure (wpS_ltN hB.kind i1 i2 h))))
theorem wpS_rev {i j:Nat} {Q:Unit→SortSt→Prop} (h:Q () (setArr st (mirror (arrOf st) i j ((j - i) / 2)))):wpS (model prog w) A E s (reverseSlice' i j) Q st:=by
 rw [reverseSlice'_eq]
 exact wpS_modify h
theorem wpS_ascY {a:Nat} {Q:AscSt→SortSt→Prop} (h0:IkA a₀) (hn:lo + nrem ≤ a₀.size) (ha:1 ≤ a) (han:a ≤ nrem) (hB:CB a₀ lo P st) (hs:SegA (arrOf st) lo a)
  (h:∀ n,a ≤ n→n ≤ nrem→SegA (arrOf st) lo n→(n < nrem→K (arrOf st) (lo + n) < K (arrOf st) (lo + n - 1))→Q (none,n) st):wpS (model prog w) A E s (ascY lo a nrem) Q st:=by
 unfold ascY
 refine wpS_mono (wpS_forRange (I:=fun x c st' => st' = st∧c=(none,x)∧SegA (arrOf st) lo x) (Q:=fun c st' => st' = st∧∃ n,c=(none,n)∧a ≤ n∧n ≤ nrem∧SegA (arrOf st) lo n∧(n < nrem→K (arrOf st) (lo + n) < K (arrOf st) (lo + n - 1))) ?_ ?_ ⟨rfl,rfl,hs⟩) ?_
 ·rintro x c st' hx hx2 ⟨rfl,rfl,hS⟩
  dsimp only
  refine wpS_bind (wpS_ltC hB h0 (by omega) (by omega) ?_)
  by_cases hlt:K (arrOf st') (lo + x) < K (arrOf st') (lo + x - 1)
  ·rw [decide_eq_true hlt]
   exact wpS_pure ⟨rfl,x,rfl,hx,by omega,hS,fun _ => hlt⟩
  ·rw [decide_eq_false hlt]
   refine wpS_pure ⟨rfl,rfl,fun i j hij hj => ?_⟩
   by_cases c:j < x
   ·exact hS i j hij c
   ·have:j=x:=by omega
    subst this
    by_cases c2:i=j
    ·subst c2; exact Int.le_refl _
    ·have:=hS i (j - 1) (by omega) (by omega)
     rw [show lo + (j - 1)=lo + j - 1 by omega] at this
     omega
 ·rintro c st' ⟨rfl,rfl,hS⟩
  rw [show max a nrem=nrem by omega] at hS ⊢
  exact ⟨rfl,nrem,rfl,han,Nat.le_refl _,hS,fun h => by omega⟩
 ·rintro c st' ⟨rfl,n,rfl,q1,q2,q3,q4⟩
  exact h n q1 q2 q3 q4
theorem wpS_tailY {n:Nat} {Q:Option Nat→SortSt→Prop} (h0:IkA a₀) (hn:lo + nrem ≤ a₀.size) (h1:1 ≤ n) (hnn:n ≤ nrem) (hB:CB a₀ lo P st) (hs:SegD (arrOf st) lo n)
  (h:∀ m st',CB a₀ lo P st'→1 ≤ m→m ≤ nrem→SegA (arrOf st') lo m→Q (some m) st'):wpS (model prog w) A E s (tailY lo n nrem) Q st:=by
 unfold tailY
 refine wpS_bind (wpS_rev ?_)
 have hB2:=hB.rev (i:=lo) (j:=lo + n) (Nat.le_refl _) (by omega)
 refine wpS_bind (wpS_ascY h0 hn h1 hnn hB2 (fun i j hij hj => ?_) fun m q1 q2 q3 _ => wpS_pure (h m _ hB2 (by omega) q2 q3))
 show K (mirror (arrOf st) lo (lo + n) ((lo + n - lo) / 2)) (lo + i) ≤ K (mirror (arrOf st) lo (lo + n) ((lo + n - lo) / 2)) (lo + j)
 rw [K_mirror (by rw [hB.size]; omega),K_mirror (by rw [hB.size]; omega),if_pos (by omega),if_pos (by omega)]
 have:=hs (n - 1 - j) (n - 1 - i) (by omega) (by omega)
 rw [show lo + (n - 1 - j)=lo + (lo + n) - 1 - (lo + j) by omega,show lo + (n - 1 - i)=lo + (lo + n) - 1 - (lo + i) by omega] at this
 exact this
theorem wpS_descZ {n:Nat} {Q:Option Nat→SortSt→Prop} (h0:IkA a₀) (hn:lo + nrem ≤ a₀.size) (hnn:n + 1 ≤ nrem) (hB:CB a₀ lo P st) (hs:SegD (arrOf st) lo (n + 1))
  (h:∀ m st',CB a₀ lo P st'→1 ≤ m→m ≤ nrem→SegA (arrOf st') lo m→Q (some m) st'):wpS (model prog w) A E s (descZ lo n nrem) Q st:=by
 unfold descZ descY
 refine wpS_bind (wpS_lift (wpAny_rule ⟨rfl,?_⟩))
 refine wpS_bind (wpS_mono (wpS_forRange (I:=fun x c st' => CB a₀ lo P st'∧∃ q,c=(none,x,q)∧SegD (arrOf st') lo x∧q < x∧∀ i,lo + x - (q + 1) ≤ i→i < lo + x→K (arrOf st') i=K (arrOf st') (lo + x - 1))
  (Q:=fun c st' => CB a₀ lo P st'∧∃ m q,c=(none,m,q)∧1 ≤ m∧m ≤ nrem∧SegD (arrOf st') lo m∧q < m∧∀ i,lo + m - (q + 1) ≤ i→i < lo + m→K (arrOf st') i=K (arrOf st') (lo + m - 1)) ?_ ?_ ⟨hB,0,rfl,hs,by omega,fun i h1 h2 => by rw [show i=lo + (n + 1) - 1 by omega]⟩) ?_)
 ·rintro x c st' hx hx2 ⟨hB',q,rfl,hD,hq,he⟩
  dsimp only
  refine wpS_bind (wpS_ltC hB' h0 (by omega) (by omega) ?_)
  have step:∀ (ys:Array Keyed),(∀ i,K ys i=K (arrOf st') i)→K (arrOf st') (lo + x) ≤ K (arrOf st') (lo + x - 1)→SegD ys lo (x + 1):=fun ys hy hle i j hij hj => by
   rw [hy,hy]
   by_cases c:j < x
   ·exact hD i j hij c
   ·have:j=x:=by omega
    subst this
    by_cases c2:i=j
    ·subst c2; exact Int.le_refl _
    ·have:=hD i (j - 1) (by omega) (by omega)
     rw [show lo + (j - 1)=lo + j - 1 by omega] at this
     omega
  by_cases hlt:K (arrOf st') (lo + x) < K (arrOf st') (lo + x - 1)
  ·rw [decide_eq_true hlt]
   dsimp only
   rw [if_pos rfl]
   by_cases hq0:q > 0
   ·rw [if_pos hq0]
    refine wpS_bind (wpS_rev (wpS_pure ⟨hB'.rev (by omega) (by omega),0,rfl,?_,by omega,fun i h1 h2 => by rw [show i=lo + (x + 1) - 1 by omega]⟩))
    refine step (mirror (arrOf st') (lo + x - (q + 1)) (lo + x) ((lo + x - (lo + x - (q + 1))) / 2)) (fun i => ?_) (by omega)
    exact K_mirror_equal (by rw [hB'.size]; omega) he i
   ·rw [if_neg hq0]
    exact wpS_pure ⟨hB',0,rfl,step _ (fun _ => rfl) (by omega),by omega,fun i h1 h2 => by rw [show i=lo + (x + 1) - 1 by omega]⟩
  ·rw [decide_eq_false hlt]
   dsimp only
   rw [if_neg (by decide)]
   refine wpS_bind (wpS_ltC hB' h0 (by omega) (by omega) ?_)
   by_cases hgt:K (arrOf st') (lo + x - 1) < K (arrOf st') (lo + x)
   ·rw [decide_eq_true hgt]
    exact wpS_pure ⟨hB',x,q,rfl,by omega,by omega,hD,hq,he⟩
   ·rw [decide_eq_false hgt]
    refine wpS_pure ⟨hB',q + 1,rfl,step _ (fun _ => rfl) (by omega),by omega,fun i h1 h2 => ?_⟩
    rw [show lo + (x + 1) - 1=lo + x by omega]
    by_cases c:i < lo + x
    ·rw [he i (by omega) c]; omega
    ·rw [show i=lo + x by omega]
 ·rintro c st' ⟨hB',q,rfl,hD,hq,he⟩
  rw [show max (n + 1) nrem=nrem by omega] at hD hq he ⊢
  exact ⟨hB',nrem,q,rfl,by omega,Nat.le_refl _,hD,hq,he⟩
 ·rintro c st' ⟨hB',m,q,rfl,m1,m2,hD,hq,he⟩
  dsimp only
  by_cases hq0:q > 0
  ·rw [if_pos hq0]
   refine wpS_bind (wpS_rev (wpS_tailY h0 hn m1 m2 (hB'.rev (by omega) (by omega)) (fun i j hij hj => ?_) h))
   show K (mirror (arrOf st') (lo + m - (q + 1)) (lo + m) ((lo + m - (lo + m - (q + 1))) / 2)) (lo + j) ≤ K (mirror (arrOf st') (lo + m - (q + 1)) (lo + m) ((lo + m - (lo + m - (q + 1))) / 2)) (lo + i)
   rw [K_mirror_equal (by rw [hB'.size]; omega) he,K_mirror_equal (by rw [hB'.size]; omega) he]
   exact hD i j hij hj
  ·rw [if_neg hq0]
   exact wpS_tailY h0 hn m1 m2 hB' hD h
theorem wpS_count {Q:Option Nat→SortSt→Prop} (h0:IkA a₀) (hn:lo + nrem ≤ a₀.size) (h1:1 ≤ nrem) (hB:CB a₀ lo P st)
  (h:∀ m st',CB a₀ lo P st'→1 ≤ m→m ≤ nrem→SegA (arrOf st') lo m→Q (some m) st'):wpS (model prog w) A E s (countRun' lo nrem) Q st:=by
 rw [countRunX_eq]
 refine wpS_bind (wpS_ascY h0 hn (Nat.le_refl 1) h1 hB (fun i j hij hj => by rw [show i=j by omega]; exact Int.le_refl _) fun n n1 n2 hS hlt => ?_)
 dsimp only
 by_cases c1:(n == nrem)=true
 ·rw [if_pos c1]
  exact wpS_pure (h n st hB n1 n2 hS)
 rw [if_neg c1]
 have c1:n ≠ nrem:=by simpa using c1
 have hd:=hlt (by omega)
 by_cases c2:n > 1
 ·rw [if_pos c2]
  refine wpS_bind (wpS_ltC hB h0 (by omega) (by omega) ?_)
  by_cases hr:K (arrOf st) lo < K (arrOf st) (lo + n - 1)
  ·rw [decide_eq_true hr]
   exact wpS_pure (h n st hB n1 n2 hS)
  ·rw [decide_eq_false hr]
   have eqs:∀ i,lo ≤ i→i < lo + n→K (arrOf st) i=K (arrOf st) (lo + n - 1):=fun i hi1 hi2 => by
    have q1:=hS 0 (i - lo) (by omega) (by omega)
    have q2:=hS (i - lo) (n - 1) (by omega) (by omega)
    rw [show lo + (i - lo)=i by omega] at q1 q2
    rw [show lo + (n - 1)=lo + n - 1 by omega] at q2
    rw [Nat.add_zero] at q1
    omega
   refine wpS_bind (wpS_rev (wpS_descZ h0 hn (by omega) (hB.rev (Nat.le_refl _) (by omega)) (fun i j hij hj => ?_) h))
   show K (mirror (arrOf st) lo (lo + n) ((lo + n - lo) / 2)) (lo + j) ≤ K (mirror (arrOf st) lo (lo + n) ((lo + n - lo) / 2)) (lo + i)
   rw [K_mirror_equal (by rw [hB.size]; omega) eqs,K_mirror_equal (by rw [hB.size]; omega) eqs]
   by_cases ci:i < n
   ·rw [eqs (lo + i) (by omega) (by omega)]
    by_cases cj:j < n
    ·rw [eqs (lo + j) (by omega) (by omega)]; exact Int.le_refl _
    ·rw [show j=n by omega]; omega
   ·rw [show i=j by omega]; exact Int.le_refl _
 ·rw [if_neg c2]
  have:n=1:=by omega
  subst this
  refine wpS_descZ h0 hn (by omega) hB (fun i j hij hj => ?_) h
  rw [show lo + 1 - 1=lo by omega] at hd
  by_cases ci:i=j
  ·subst ci; exact Int.le_refl _
  ·have i0:i=0:=by omega
   have j1:j=1:=by omega
   subst i0 j1
   show K (arrOf st) (lo + 1) ≤ K (arrOf st) lo
   exact Int.le_of_lt hd
end
end TimG
namespace TimG
open PySem PySem.Spec PyProof.Rows
variable [KO]
section
variable {prog:Program} {w:World} {A:Around} {E:Value→Shared→Prop} {s:Shared} {a₀:Array Keyed} {lo nrem:Nat} {P:Array (Nat × Nat × Nat)} {st:SortSt} [KL prog w A s]
theorem CB.bub (h:CB a₀ lo P st) {src d:Nat} (hs:src < a₀.size) (hd:d ≤ src) (hl:lo ≤ src - d):CB a₀ lo P (setArr st (bubble (arrOf st) src d)) :=
 ⟨h.kind,h.failed,h.pend,(bubble_perm _ _ _).trans h.perm,fun k hk => by
  show (bubble (arrOf st) src d)[k]? = _
  rw [getElem?_bubble (by rw [h.size]; exact hs) d hd,if_neg (by omega),if_neg (by omega)]
  exact h.low k hk⟩
theorem wpS_bins {n ok:Nat} {Q:Bool→SortSt→Prop} (h0:IkA a₀) (hn:lo + n ≤ a₀.size) (hok:ok ≤ n) (hB:CB a₀ lo P st) (hs:SegA (arrOf st) lo ok)
  (h:∀ st',CB a₀ lo P st'→SegA (arrOf st') lo n→Q true st'):wpS (model prog w) A E s (binarySort' lo n ok) Q st:=by
 rw [binarySort'_eq]
 refine wpS_bind (wpS_mono (wpS_forRange (I:=fun k c st' => c=(none,())∧CB a₀ lo P st'∧SegA (arrOf st') lo (min k n)) (Q:=fun c st' => c=(none,())∧CB a₀ lo P st'∧SegA (arrOf st') lo n) ?step ?fin ?init) ?post)
 case post =>
  rintro c st' ⟨rfl,hB',hs'⟩
  exact wpS_pure (h st' hB' hs')
 case init =>
  refine ⟨rfl,hB,fun i j hij hj => ?_⟩
  by_cases h1:ok=0
  ·rw [show i=j by omega]; exact Int.le_refl _
  ·exact hs i j hij (by omega)
 case fin =>
  rintro c st' ⟨hc,hB',hs'⟩
  refine ⟨hc,hB',?_⟩
  rwa [show min (max (max ok 1) n) n=n by omega] at hs'
 case step =>
  rintro k c st' hak hkn ⟨rfl,hB',hs'⟩
  rw [show min k n=k by omega] at hs'
  have hk:lo + k < a₀.size:=by omega
  refine wpS_bind (wpS_mono (wpS_forRange (I:=fun x c st'' => st'' = st'∧∃ l r,c=(none,l,r)∧l ≤ r∧r ≤ k∧r - l ≤ k - x ∧
    (∀ i,i < l→K (arrOf st') (lo + i) ≤ K (arrOf st') (lo + k))∧(∀ i,r ≤ i→i < k→K (arrOf st') (lo + k) < K (arrOf st') (lo + i)))
   (Q:=fun c st'' => st'' = st'∧∃ l r,c=(none,l,r)∧l ≤ k ∧
    (∀ i,i < l→K (arrOf st') (lo + i) ≤ K (arrOf st') (lo + k))∧(∀ i,l ≤ i→i < k→K (arrOf st') (lo + k) < K (arrOf st') (lo + i))) ?istep ?ifin ?iinit) ?ipost)
  case iinit => exact ⟨rfl,0,k,rfl,by omega,by omega,by omega,fun i hi => by omega,fun i h1 h2 => by omega⟩
  case ifin =>
   rintro c st'' ⟨rfl,l,r,rfl,hlr,hrk,hm,hlo,hhi⟩
   have:l=r:=by omega
   subst this
   exact ⟨rfl,l,l,rfl,hrk,hlo,hhi⟩
  case istep =>
   rintro x c st'' _ hxk ⟨rfl,l,r,rfl,hlr,hrk,hm,hlo,hhi⟩
   dsimp only
   by_cases hge:l ≥ r
   ·rw [if_pos hge]
    have:l=r:=by omega
    subst this
    exact wpS_pure ⟨rfl,l,l,rfl,hrk,hlo,hhi⟩
   ·rw [if_neg hge]
    refine wpS_bind (wpS_ltC hB' h0 hk (by omega) ?_)
    by_cases hless:K (arrOf st'') (lo + k) < K (arrOf st'') (lo + (l + r) / 2)
    ·rw [decide_eq_true hless]
     refine wpS_pure ⟨rfl,l,(l + r) / 2,rfl,by omega,by omega,by omega,hlo,fun i h1 h2 => ?_⟩
     exact Int.lt_of_lt_of_le hless (hs' _ _ h1 h2)
    ·rw [decide_eq_false hless]
     refine wpS_pure ⟨rfl,(l + r) / 2 + 1,r,rfl,by omega,by omega,by omega,fun i h1 => ?_,hhi⟩
     exact Int.le_trans (hs' i ((l + r) / 2) (by omega) (by omega)) (Int.not_lt.mp hless)
  case ipost =>
   rintro c st'' ⟨rfl,l,r,rfl,hlk,hlo,hhi⟩
   show wpS _ _ _ _ (do moveDown' (lo + k) (lo + l); pure (ForInStep.yield (none,()))) _ _
   rw [moveDown'_eq]
   refine wpS_bind (wpS_modify (wpS_pure ⟨rfl,hB'.bub hk (by omega) (by omega),?_⟩))
   rw [show min (k + 1) n=k + 1 by omega]
   have hks:lo + k < (arrOf st'').size:=by rw [hB'.size]; exact hk
   intro i j hij hj
   show K (bubble (arrOf st'') (lo + k) (lo + k - (lo + l))) (lo + i) ≤ K (bubble (arrOf st'') (lo + k) (lo + k - (lo + l))) (lo + j)
   have key:∀ m,m ≤ k→K (bubble (arrOf st'') (lo + k) (lo + k - (lo + l))) (lo + m)=if m=l then K (arrOf st'') (lo + k) else if l < m then K (arrOf st'') (lo + (m - 1)) else K (arrOf st'') (lo + m):=fun m hm => by
    rw [K_bubble hks (by omega)]
    by_cases c1:m=l
    ·rw [if_pos (by omega),if_pos c1]
    ·rw [if_neg (by omega),if_neg c1]
     by_cases c2:l < m
     ·rw [if_pos (by omega),if_pos c2,show lo + m - 1=lo + (m - 1) by omega]
     ·rw [if_neg (by omega),if_neg c2]
   rw [key i (by omega),key j (by omega)]
   repeat' split
   all_goals first
    | (exfalso; omega)
    | exact Int.le_refl _
    | exact hlo _ (by omega)
    | exact Int.le_of_lt (hhi _ (by omega) (by omega))
    | exact hs' _ _ (by omega) (by omega)
end
end TimG
namespace TimG
open PySem PySem.Spec PyProof.Rows
variable [KO]
theorem set_erase {α:Type} (c a b:α):∀ (X Y:List α),((X ++ a :: b :: Y).set X.length c).eraseIdx (X.length + 1)=X ++ c :: Y
 | [],Y => rfl
 | x :: X,Y => by
  show x :: ((X ++ a :: b :: Y).set X.length c).eraseIdx (X.length + 1)=x :: (X ++ c :: Y)
  rw [set_erase c a b X Y]
structure RL (a₀:Array Keyed) (T:List Keyed) (Rs:List (List Keyed)) (st:SortSt):Prop where
 kind:kindOf st=KO.kd
 failed:failedOf st=none
 perm:(arrOf st).toList.Perm a₀.toList
 flat:(arrOf st).toList=Rs.flatten ++ T
 srt:∀ R ∈ Rs,Srt R∧1 ≤ R.length
 pend:bare (pendingOf st)=offs 0 Rs
theorem bare_at {P:Array (Nat × Nat × Nat)} {i:Nat} {x:Nat × Nat} (h:(bare P)[i]? = some x):∃ pw,P[i]? = some (x.1,x.2,pw):=by
 unfold bare at h
 rw [List.getElem?_map,Array.getElem?_toList] at h
 cases z:P[i]? with
 | none => rw [z] at h; cases h
 | some y => rw [z] at h; cases h; exact ⟨y.2.2,rfl⟩
theorem map_er {α β:Type} (f:α→β):∀ (l:List α) (n:Nat),(l.eraseIdx n).map f=(l.map f).eraseIdx n
 | [],n => by cases n <;> rfl
 | a :: l,0 => rfl
 | a :: l,n + 1 => by
  show f a :: (l.eraseIdx n).map f=f a :: (l.map f).eraseIdx n
  rw [map_er f l n]
theorem er_big {α:Type} : ∀ (l:List α) (n:Nat),l.length ≤ n→l.eraseIdx n=l
 | [],n,_ => by cases n <;> rfl
 | a :: l,0,h => by simp at h
 | a :: l,n + 1,h => by
  show a :: l.eraseIdx n=a :: l
  rw [er_big l n (by simpa using h)]
theorem bare_merge (P:Array (Nat × Nat × Nat)) (i a b pw:Nat):bare ((P.setIfInBounds i (a,b,pw)).eraseIdxIfInBounds (i + 1))=((bare P).set i (a,b)).eraseIdx (i + 1):=by
 unfold bare
 have e:((P.setIfInBounds i (a,b,pw)).eraseIdxIfInBounds (i + 1)).toList=(P.toList.set i (a,b,pw)).eraseIdx (i + 1):=by
  unfold Array.eraseIdxIfInBounds
  split
  ·rw [Array.toList_eraseIdx,Array.toList_setIfInBounds]
  ·rw [Array.toList_setIfInBounds,er_big _ _ (by rename_i hh; rw [List.length_set,Array.length_toList]; rw [Array.size_setIfInBounds] at hh; omega)]
 rw [e,map_er,List.map_set]
theorem split2 {α:Type} {Rs:List α} {i:Nat} (h:i + 1 < Rs.length):∃ R1 a b R2,Rs=R1 ++ a :: b :: R2∧R1.length=i:=by
 refine ⟨Rs.take i,Rs[i],Rs[i + 1],Rs.drop (i + 2),?_,by rw [List.length_take]; omega⟩
 rw [← List.drop_eq_getElem_cons h,← List.drop_eq_getElem_cons (by omega),List.take_append_drop]
section
variable {prog:Program} {w:World} {A:Around} {E:Value→Shared→Prop} {s:Shared} {a₀:Array Keyed} {T:List Keyed} {Rs:List (List Keyed)} {st:SortSt} [KL prog w A s]
theorem wpS_mstep {Q:Bool→SortSt→Prop} {i:Nat} (h0:∀ p ∈ a₀.toList,Ik p) (hR:RL a₀ T Rs st) (hi:i + 1 < Rs.length) (h:∀ Rs' st',RL a₀ T Rs' st'→Rs'.length + 1=Rs.length→Q true st'):wpS (model prog w) A E s (mergeAt' i) Q st:=by
 obtain ⟨R1,S1,S2,R2,rfl,rfl⟩:=split2 hi
 have eo:offs 0 (R1 ++ S1 :: S2 :: R2)=offs 0 R1 ++ (R1.flatten.length,S1.length) :: (R1.flatten.length + S1.length,S2.length) :: offs (R1.flatten.length + S1.length + S2.length) R2:=by
  rw [offs_app,Nat.zero_add]
  rfl
 have lo1:=offs_len 0 R1
 have p1:(bare (pendingOf st))[R1.length]? = some (R1.flatten.length,S1.length):=by
  rw [hR.pend,eo,List.getElem?_append_right (by omega),lo1,Nat.sub_self]
  rfl
 have p2:(bare (pendingOf st))[R1.length + 1]? = some (R1.flatten.length + S1.length,S2.length):=by
  rw [hR.pend,eo,List.getElem?_append_right (by omega),lo1,Nat.add_sub_cancel_left]
  rfl
 obtain ⟨pw,e1⟩:=bare_at p1
 obtain ⟨pw2,e2⟩:=bare_at p2
 have q1:=hR.srt S1 (by simp)
 have q2:=hR.srt S2 (by simp)
 refine wpS_mergeAt (U:=R1.flatten) (S1:=S1) (S2:=S2) (W:=R2.flatten ++ T) hR.kind hR.failed (by rw [hR.flat]; simp) (fun p hp => h0 p (hR.perm.mem_iff.mp hp)) q1.1 q2.1 q1.2 q2.2 e1 e2 fun M st' k' f' a' pm sm pd => ?_
 have lm:M.length=S1.length + S2.length:=by rw [pm.length_eq,List.length_append]
 refine h (R1 ++ M :: R2) st' ⟨k',f',?_,by rw [a']; simp,fun R hR' => ?_,?_⟩ (by simp; omega)
 ·rw [a']
  refine List.Perm.trans ?_ hR.perm
  rw [hR.flat]
  have:(R1.flatten ++ M ++ (R2.flatten ++ T)).Perm (R1.flatten ++ (S1 ++ S2) ++ (R2.flatten ++ T)):=List.Perm.append_right _ (List.Perm.append_left _ pm)
  refine this.trans ?_
  simp
 ·rcases List.mem_append.mp hR' with z | z
  ·exact hR.srt R (by simp [z])
  ·rcases List.mem_cons.mp z with rfl | z
   ·exact ⟨sm,by omega⟩
   ·exact hR.srt R (by simp [z])
 ·rw [pd,bare_merge,hR.pend,eo,← lo1,set_erase,offs_app,Nat.zero_add]
  show _=offs 0 R1 ++ (R1.flatten.length,M.length) :: offs (R1.flatten.length + M.length) R2
  rw [lm,Nat.add_assoc]
end
end TimG
namespace TimG
open PySem PySem.Spec PyProof.Rows
variable [KO]
section
variable {prog:Program} {w:World} {A:Around} {E:Value→Shared→Prop} {s:Shared} {a₀:Array Keyed} {T:List Keyed} {Rs:List (List Keyed)} {st:SortSt} [KL prog w A s]
theorem RL.len (h:RL a₀ T Rs st):(pendingOf st).size=Rs.length:=by
 have:=congrArg List.length h.pend
 rw [offs_len] at this
 unfold bare at this
 rw [List.length_map,Array.length_toList] at this
 exact this
theorem bare_mod (P:Array (Nat × Nat × Nat)) (i pw:Nat):bare (P.modify i fun x => (x.1,x.2.1,pw))=bare P:=by
 unfold bare
 refine List.ext_getElem? fun j => ?_
 rw [List.getElem?_map,List.getElem?_map,Array.getElem?_toList,Array.getElem?_toList,Array.getElem?_modify]
 split
 ·cases P[j]? <;> rfl
 ·rfl
theorem bare_push (P:Array (Nat × Nat × Nat)) (x:Nat × Nat × Nat):bare (P.push x)=bare P ++ [(x.1,x.2.1)]:=by
 unfold bare
 rw [Array.toList_push,List.map_append]
 rfl
def tailS (sz lo n:Nat):StateT SortSt Sem (ForInStep (Option Unit × Nat)):=do
 let g ← get
 match (pendingOf g).back? with
 | some (s1,n1,_) => do
  let c ← forIn [0:sz] ((none,()):Option Unit × Unit) fun _ c => do
   let g ← get
   match (if (pendingOf g).size > 1 then (pendingOf g)[(pendingOf g).size - 2]? else none) with
   | some (_,_,older) =>
    if older ≤ power' sz (2 * s1 + n1) (2 * s1 + n1 + n1 + n) sz then pure (.done (none,()))
    else do
     let b ← mergeAt' ((pendingOf g).size - 2)
     if (!b)=true then pure (.done (some (),())) else pure (.yield (none,()))
   | _ => pure (.done (none,()))
  match c.1 with
  | some r => pure (.done (some r,lo))
  | none => do
   modify fun s => setPending s ((pendingOf s).modify ((pendingOf s).size - 1) fun x => (x.1,x.2.1,power' sz (2 * s1 + n1) (2 * s1 + n1 + n1 + n) sz))
   modify fun s => setPending s ((pendingOf s).push (lo,n,0))
   pure (.yield (none,lo + n))
 | _ => do
  modify fun s => setPending s ((pendingOf s).push (lo,n,0))
  pure (.yield (none,lo + n))
theorem RL.push {S W:List Keyed} (hR:RL a₀ (S ++ W) Rs st) (hS:Srt S) (h1:1 ≤ S.length) {P:Array (Nat × Nat × Nat)} (hP:bare P=bare (pendingOf st)):RL a₀ W (Rs ++ [S]) (setPending st (P.push (Rs.flatten.length,S.length,0))):=by
 refine ⟨hR.kind,hR.failed,hR.perm,by show (arrOf st).toList=_; rw [hR.flat]; simp,fun R hr => ?_,?_⟩
 ·rcases List.mem_append.mp hr with z | z
  ·exact hR.srt R z
  ·rw [List.mem_singleton.mp z]; exact ⟨hS,h1⟩
 ·show bare (P.push _)=_
  rw [bare_push,hP,hR.pend,offs_app,Nat.zero_add]
  rfl
theorem wpS_tailS {S W:List Keyed} {sz:Nat} {Q:ForInStep (Option Unit × Nat)→SortSt→Prop} (h0:∀ p ∈ a₀.toList,Ik p) (hR:RL a₀ (S ++ W) Rs st) (hS:Srt S) (h1:1 ≤ S.length)
  (h:∀ Rs' st',RL a₀ W Rs' st'→Rs'.flatten.length=Rs.flatten.length + S.length→Q (.yield (none,Rs.flatten.length + S.length)) st'):wpS (model prog w) A E s (tailS sz Rs.flatten.length S.length) Q st:=by
 unfold tailS
 refine wpS_bind (wpS_get ?_)
 have fl:∀ {Rs' : List (List Keyed)} {st' : SortSt},RL a₀ (S ++ W) Rs' st'→Rs'.flatten.length=Rs.flatten.length:=fun {Rs' st'} h' => by
  have e1:=congrArg List.length h'.flat
  have e2:=congrArg List.length hR.flat
  rw [h'.perm.length_eq,List.length_append] at e1
  rw [hR.perm.length_eq,List.length_append] at e2
  omega
 have fin:∀ {Rs' : List (List Keyed)} {st' : SortSt} {P:Array (Nat × Nat × Nat)},RL a₀ (S ++ W) Rs' st'→bare P=bare (pendingOf st')→Q (.yield (none,Rs.flatten.length + S.length)) (setPending st' (P.push (Rs.flatten.length,S.length,0))):=fun {Rs' st' P} h' hP => by
  have:=h'.push hS h1 hP
  rw [fl h'] at this
  refine h _ _ this ?_
  rw [List.flatten_append,List.length_append,fl h']
  simp
 cases hb:(pendingOf st).back? with
 | none => exact wpS_bind (wpS_modify (wpS_pure (fin hR rfl)))
 | some y =>
  obtain ⟨s1,n1,pw⟩:=y
  dsimp only
  refine wpS_bind (wpS_mono (wpS_forRange (I:=fun x c st' => c=(none,())∧∃ Rs',RL a₀ (S ++ W) Rs' st') (Q:=fun c st' => c=(none,())∧∃ Rs',RL a₀ (S ++ W) Rs' st') ?_ (fun c st' hh => hh) ⟨rfl,Rs,hR⟩) ?_)
  ·rintro x c st' _ _ ⟨rfl,Rs',hR'⟩
   refine wpS_bind (wpS_get ?_)
   by_cases c1:(pendingOf st').size > 1
   ·rw [if_pos c1]
    cases z:(pendingOf st')[(pendingOf st').size - 2]? with
    | none => exact wpS_pure ⟨rfl,Rs',hR'⟩
    | some v =>
     obtain ⟨v1,v2,older⟩:=v
     dsimp only
     split
     ·exact wpS_pure ⟨rfl,Rs',hR'⟩
     ·have hl:=hR'.len
      exact wpS_bind (wpS_mstep h0 hR' (by omega) fun Rs2 st2 hR2 _ => wpS_pure ⟨rfl,Rs2,hR2⟩)
   ·rw [if_neg c1]
    exact wpS_pure ⟨rfl,Rs',hR'⟩
  ·rintro c st' ⟨rfl,Rs',hR'⟩
   refine wpS_bind (wpS_modify (wpS_bind (wpS_modify (wpS_pure ?_))))
   exact fin (st':=st') (P:=(pendingOf st').modify ((pendingOf st').size - 1) fun x => (x.1,x.2.1,power' sz (2 * s1 + n1) (2 * s1 + n1 + n1 + S.length) sz)) hR' (bare_mod _ _ _)
theorem wpS_cg {α:Type} {m1 m2:StateT SortSt Sem α} {Q:α→SortSt→Prop} (e:m1=m2) (h:wpS (model prog w) A E s m1 Q st):wpS (model prog w) A E s m2 Q st:=e ▸ h
theorem if_le (c:Prop) [Decidable c] (a:Nat):(if c then a - 1 else a) ≤ a:=by split <;> omega
theorem numK_K {a:Array Keyed} {i:Nat} {p:Keyed} (e:a[i]? = some p):K a i=numK p:=by
 unfold K L2.RK
 rw [e]
 rfl
theorem wpS_sortAll {Q:Unit→SortSt→Prop} (h0:IkA a₀) (hk:kindOf st=KO.kd) (hf:failedOf st=none) (hp:pendingOf st = #[]) (ha:arrOf st=a₀)
  (h:∀ st',(arrOf st').toList.Perm a₀.toList→failedOf st' = none→Srt (arrOf st').toList→Q () st'):wpS (model prog w) A E s sortRuns' Q st:=by
 have hI:∀ p ∈ a₀.toList,Ik p:=h0
 rw [sortRuns'_eq]
 refine wpS_bind (wpS_get ?_)
 dsimp only
 rw [ha]
 have R0:RL a₀ a₀.toList [] st:=⟨hk,hf,by rw [ha],by rw [ha]; rfl,fun R hR => (by cases hR),by rw [hp]; rfl⟩
 have tl:∀ {st' : SortSt} {x lo n:Nat} {Rs:List (List Keyed)} {T:List Keyed} {st1:SortSt},RL a₀ T Rs st1→Rs.flatten.length=lo→x ≤ lo→lo < a₀.size→CB (arrOf st1) lo (pendingOf st1) st'→1 ≤ n→lo + n ≤ a₀.size→SegA (arrOf st') lo n →
   wpS (model prog w) A E s (tailS a₀.size lo n) (fun r st' => match r with | .done c => c=(none,a₀.size)∧∃ Rs,RL a₀ [] Rs st' | .yield c => ∃ lo Rs T,c=(none,lo)∧RL a₀ T Rs st'∧Rs.flatten.length=lo∧x + 1 ≤ lo∧lo ≤ a₀.size) st':=by
  intro st' x lo n Rs T st1 hR el hx hlo hB n1 hn hs
  subst el
  have szz:(arrOf st1).size=a₀.size:=by rw [← Array.length_toList,hR.perm.length_eq,Array.length_toList]
  have sz2:(arrOf st').size=a₀.size:=by rw [hB.size,szz]
  have pm:(arrOf st').toList.Perm (arrOf st1).toList:=Array.perm_iff_toList_perm.mp hB.perm
  have lowe:(arrOf st').toList.take Rs.flatten.length=Rs.flatten:=by
   have:(arrOf st').toList.take Rs.flatten.length=(arrOf st1).toList.take Rs.flatten.length:=by
    refine List.ext_getElem? fun j => ?_
    rw [List.getElem?_take,List.getElem?_take]
    split
    ·rw [Array.getElem?_toList,Array.getElem?_toList]; exact hB.low j (by assumption)
    ·rfl
   rw [this,hR.flat,List.take_left']
   rfl
  have eS:((arrOf st').toList.drop Rs.flatten.length).take n=((arrOf st').extract Rs.flatten.length (Rs.flatten.length + n)).toList:=(ext_k _ _ _).symm
  generalize hSd:((arrOf st').toList.drop Rs.flatten.length).take n=S at eS
  have lS:S.length=n:=by rw [← hSd,List.length_take,List.length_drop,Array.length_toList]; omega
  have sS:Srt S:=by
   refine List.pairwise_iff_getElem.mpr fun i j hi hj hij => ?_
   have gi:∀ i (hi:i < S.length),(arrOf st')[Rs.flatten.length + i]? = some S[i]:=fun i hi => by
    have:S[i]? = some S[i]:=List.getElem?_eq_getElem hi
    rw [← this,← hSd,List.getElem?_take,if_pos (by omega),List.getElem?_drop,Array.getElem?_toList]
   have:=hs i j (by omega) (by omega)
   rw [numK_K (gi i hi),numK_K (gi j hj)] at this
   exact this
  have hR' : RL a₀ (S ++ (arrOf st').toList.drop (Rs.flatten.length + n)) Rs st':=by
   refine ⟨hB.kind,hB.failed,pm.trans hR.perm,?_,hR.srt,by rw [hB.pend]; exact hR.pend⟩
   rw [← hSd,← List.drop_drop,List.take_append_drop]
   conv => lhs; rw [← List.take_append_drop Rs.flatten.length (arrOf st').toList]
   rw [lowe]
  have:=wpS_tailS (prog:=prog) (w:=w) (A:=A) (E:=E) (s:=s) (sz:=a₀.size) (Q:=fun r st' => match r with | .done c => c=(none,a₀.size)∧∃ Rs,RL a₀ [] Rs st' | .yield c => ∃ lo Rs T,c=(none,lo)∧RL a₀ T Rs st'∧Rs.flatten.length=lo∧x + 1 ≤ lo∧lo ≤ a₀.size) hI hR' sS (by omega) fun Rs2 st2 hR2 e2 => ⟨_,Rs2,_,rfl,hR2,e2,by omega,by omega⟩
  rw [lS] at this
  exact this
 have tnil:∀ {T:List Keyed} {Rs:List (List Keyed)} {st' : SortSt},RL a₀ T Rs st'→Rs.flatten.length=a₀.size→RL a₀ [] Rs st':=fun {T Rs st'} hR el => by
  have e:=congrArg List.length hR.flat
  rw [hR.perm.length_eq,List.length_append,el,Array.length_toList] at e
  have:T=[]:=List.eq_nil_of_length_eq_zero (by omega)
  subst this
  exact hR
 have many:∀ Rs:List (List Keyed),(∀ R ∈ Rs,Srt R∧1 ≤ R.length)→Rs.length ≤ Rs.flatten.length:=fun Rs => by
  induction Rs with
  | nil => intro _; exact Nat.le_refl _
  | cons R Rs ih =>
   intro hh
   rw [List.flatten_cons,List.length_append,List.length_cons]
   have:=ih fun R' hR' => hh R' (List.mem_cons_of_mem _ hR')
   have:=(hh R List.mem_cons_self).2
   omega
 refine wpS_bind (wpS_mono (wpS_forRange (I:=fun x c st' => ∃ lo Rs T,c=(none,lo)∧RL a₀ T Rs st'∧Rs.flatten.length=lo∧x ≤ lo∧lo ≤ a₀.size) (Q:=fun c st' => c=(none,a₀.size)∧∃ Rs,RL a₀ [] Rs st') ?step ?fin ⟨0,[],_,rfl,R0,rfl,Nat.le_refl _,Nat.zero_le _⟩) ?post)
 case fin =>
  rintro c st' ⟨lo,Rs,T,rfl,hR,el,hx,hl⟩
  have:lo=a₀.size:=by omega
  subst this
  exact ⟨rfl,Rs,tnil hR el⟩
 case step =>
  rintro x c st1 _ hx ⟨lo,Rs,T,rfl,hR,el,hxl,hl⟩
  dsimp only
  by_cases c1:lo ≥ a₀.size
  ·rw [if_pos c1]
   have:lo=a₀.size:=by omega
   subst this
   exact wpS_pure ⟨rfl,Rs,tnil hR el⟩
  rw [if_neg c1]
  have szz:(arrOf st1).size=a₀.size:=by rw [← Array.length_toList,hR.perm.length_eq,Array.length_toList]
  have i1:IkA (arrOf st1):=fun p hp => h0 p (hR.perm.mem_iff.mp hp)
  refine wpS_bind (wpS_count (a₀:=arrOf st1) (P:=pendingOf st1) i1 (by omega) (by omega) ⟨hR.kind,hR.failed,rfl,Array.Perm.refl _,fun _ _ => rfl⟩ fun m st2 hB2 m1 m2 hs2 => ?_)
  dsimp only
  by_cases c2:m < minRun' a₀.size a₀.size 0
  ·rw [if_pos c2]
   refine wpS_bind (wpS_lift (wpAny_rule ⟨rfl,?_⟩))
   refine wpS_bind (wpS_bins i1 (by omega) (by omega) hB2 hs2 fun st3 hB3 hs3 => ?_)
   rw [if_neg (by decide)]
   refine wpS_cg ?_ (wpS_mono (tl hR el hxl (by omega) hB3 (by omega) (by omega) hs3) fun r st4 hr => (by cases r with | done c => exact hr | yield c => exact hr))
   ·unfold tailS
    refine congrArg _ (funext fun g => ?_)
    cases (pendingOf g).back? with
    | none => rfl
    | some y =>
     obtain ⟨s1,n1,pw⟩:=y
     dsimp only
     refine congrArg _ (funext fun c => ?_)
     obtain ⟨r,c⟩:=c
     cases r with
     | some r => rfl
     | none => rfl
  ·rw [if_neg c2]
   refine wpS_cg ?_ (wpS_mono (tl hR el hxl (by omega) hB2 m1 (by omega) hs2) fun r st4 hr => (by cases r with | done c => exact hr | yield c => exact hr))
   ·unfold tailS
    refine congrArg _ (funext fun g => ?_)
    cases (pendingOf g).back? with
    | none => rfl
    | some y =>
     obtain ⟨s1,n1,pw⟩:=y
     dsimp only
     refine congrArg _ (funext fun c => ?_)
     obtain ⟨r,c⟩:=c
     cases r with
     | some r => rfl
     | none => rfl
 case post =>
  rintro c st' ⟨rfl,Rs,hR⟩
  dsimp only
  have lR:Rs.length ≤ a₀.size:=by
   have:=many Rs hR.srt
   have e:=congrArg List.length hR.flat
   rw [hR.perm.length_eq,List.append_nil,Array.length_toList] at e
   omega
  refine wpS_bind (wpS_mono (wpS_forRange (I:=fun x c st' => c=(none,())∧∃ Rs,RL a₀ [] Rs st'∧(Rs.length ≤ 1 ∨ Rs.length + x ≤ a₀.size)) (Q:=fun c st' => c=(none,())∧∃ Rs,RL a₀ [] Rs st'∧Rs.length ≤ 1) ?_ ?_ ⟨rfl,Rs,hR,.inr (by omega)⟩) ?_)
  ·rintro x c st1 _ hx ⟨rfl,Rs,hR,hc⟩
   refine wpS_bind (wpS_get ?_)
   have hl:=hR.len
   by_cases c1:(pendingOf st1).size ≤ 1
   ·rw [if_pos c1]
    exact wpS_pure ⟨rfl,Rs,hR,by omega⟩
   ·rw [if_neg c1]
    refine wpS_bind (wpS_mstep hI hR (Nat.lt_of_le_of_lt (Nat.succ_le_succ (if_le _ _)) (by omega)) fun Rs2 st2 hR2 e2 => ?_)
    exact wpS_pure ⟨rfl,Rs2,hR2,by omega⟩
  ·rintro c st1 ⟨rfl,Rs,hR,hc⟩
   exact ⟨rfl,Rs,hR,by omega⟩
  ·rintro c st1 ⟨rfl,Rs,hR,hc⟩
   refine wpS_pure (h st1 hR.perm hR.failed ?_)
   rw [hR.flat,List.append_nil]
   rcases Rs with _ | ⟨R,_ | ⟨R2,Rs⟩⟩
   ·exact List.Pairwise.nil
   ·rw [List.flatten_cons,List.flatten_nil,List.append_nil]
    exact (hR.srt R List.mem_cons_self).1
   ·simp at hc
end
end TimG
set_option maxHeartbeats 1000000
namespace L2
open PySem PySem.Spec PyProof.Rows
section
variable {prog:Program} {w:World} {A:Around} {E:Value→Shared→Prop} {s:Shared} {k0:SortKind} {a0:Array Keyed} {rk:Value→Int}
theorem runsG_ok (hL:LtOk prog w A s k0 a0 rk) {st:SortSt} (b:SB k0 a0 st) (ha:arrOf st=a0) {Q:Unit→SortSt→Prop}
  (h:∀ t,(arrOf t).Perm a0→failedOf t=none→(∀ i j,i ≤ j→j < a0.size→RK rk (arrOf t) i ≤ RK rk (arrOf t) j)→Q () t):wpS (model prog w) A E s sortRuns' Q st:=by
 letI:TimG.KO:=⟨rk,fun p => p ∈ a0.toList,k0⟩
 haveI:TimG.KL prog w A s:=⟨fun {E x y st Q} hk hx hy q => by
  rw [lt'_eq]
  refine wpS_bind (wpS_get (wpS_bind (wpS_lift (wpAny_attempt ?_))))
  rw [show kindOf st=k0 from hk]
  exact hL _ x y _ hx hy ⟨rfl,wpS_pure q⟩⟩
 refine TimG.wpS_sortAll (a₀:=a0) (fun p hp => hp) b.kd b.fl b.pn ha fun t pm ft sr => h t (Array.perm_iff_toList_perm.mpr pm) ft fun i j hij hj => ?_
 have sz:(arrOf t).size=a0.size:=(Array.perm_iff_toList_perm.mpr pm).size_eq
 have e1:(arrOf t)[i]? = some (arrOf t)[i]:=Array.getElem?_eq_getElem (by omega)
 have e2:(arrOf t)[j]? = some (arrOf t)[j]:=Array.getElem?_eq_getElem (by omega)
 have:=TimG.srt_idx sr hij e1 e2
 unfold RK
 rw [e1,e2]
 exact this
end
end L2
namespace L2
open PySem PySem.Spec PyProof.Rows
section
variable {prog:Program} {w:World} {A:Around} {E:Value→Shared→Prop} {s:Shared}
theorem sort_genW {a:Addr} {vs:List Value} {n:Nat} {k0:SortKind} {rk:Value→Int} {P:Fin→Shared→Prop} (hb:s.heap.get? a=some (seqObj "list" vs.toArray n)) (h64:vs.length ≤ 3000)
  (hk:2 ≤ vs.length→∀ h' : Heap,(∀ b o,b ≠ a→s.heap.get? b=some o→h'.get? b=some o)→∀ (E:Value→Shared→Prop) (Q:SortKind→Shared→Prop),Q k0 { s with heap:=h' }→wpAny (model prog w) A (keyKind' vs.toArray) Q E { s with heap:=h' })
  (hL:∀ h' : Heap,(∀ b o,b ≠ a→s.heap.get? b=some o→h'.get? b=some o)→LtOk prog w A { s with heap:=h' } k0 (pairsOf vs) rk)
  (h:∀ xs:Array Keyed,xs.Perm (pairsOf vs)→(∀ i j,i ≤ j→j < (pairsOf vs).size→RK rk xs i ≤ RK rk xs j)→P (.done (.ret .none)) { s with heap:=sortedHeap s.heap a vs (xs.map (·.2)) }) :
  wpAny (model prog w) A (Builtin.«list.sort» ⟨[.ref a],[]⟩) P E s:=by
 have la:a < s.heap.objs.size:=Heap.lt_size hb
 have sv:vs.toArray.size=vs.length:=List.size_toArray ..
 rw [list_sort_plain]
 refine wpAny_bind (listItems_at hb rfl (wpAny_bind (listUpdate_at hb rfl ?_)))
 have g1:=get?_update_seq hb (fun _ => (#[]:Array Value))
 have k1:∀ b o,b ≠ a→s.heap.get? b=some o→(s.heap.update a (Obj.mapSeq fun _ => #[])).get? b=some o:=fun b o nb z => by
  rw [Heap.get?_update_ne _ _ _ _ nb]; exact z
 refine wpAny_bind (seqEpoch_at g1 rfl (wpAny_bind (wpAny_newTuple (wpAny_bind (wpAny_newList (wpAny_holding ?_))))))
 show wpAny (model prog w) A _ P E { s with heap:=((s.heap.update a (Obj.mapSeq fun _ => #[])).push (seqObj "tuple" vs.toArray 0)).push (seqObj "list" #[] 0) }
 have g6:=Heap.get?_push_of_some (seqObj "list" #[] 0) (Heap.get?_push_of_some (seqObj "tuple" vs.toArray 0) g1)
 have k6:∀ b o,b ≠ a→s.heap.get? b=some o→(((s.heap.update a (Obj.mapSeq fun _ => #[])).push (seqObj "tuple" vs.toArray 0)).push (seqObj "list" #[] 0)).get? b=some o:=fun b o nb z => Heap.get?_push_of_some _ (Heap.get?_push_of_some _ (k1 b o nb z))
 have done:∀ (xs:Array Keyed) (t:SortSt),arrOf t=xs→failedOf t=none→xs.Perm (pairsOf vs)→(∀ i j,i ≤ j→j < (pairsOf vs).size→RK rk xs i ≤ RK rk xs j) →
   wpAny (model prog w) A (do
    let touched:=(← seqEpoch a) != (if (#[]:Array Value).size == vs.toArray.size then n else n + 1)
    Builtin.List.listUpdate (.ref a) fun _ => (arrOf t).map (·.2)
    if let some e:=failedOf t then rule "list.sort.comparison-raised"; throw e
    if touched then rule "list.sort.modified"; raiseError "ValueError" "list modified during sort"
    ret .none) P E { s with heap:=((s.heap.update a (Obj.mapSeq fun _ => #[])).push (seqObj "tuple" vs.toArray 0)).push (seqObj "list" #[] 0) }:=by
  rintro xs t rfl ft pm up
  refine wpAny_bind (seqEpoch_at g6 rfl (wpAny_bind (listUpdate_at g6 rfl ?_ (hsz2:=?_))))
  ·rw [ft]
   dsimp only
   rw [if_neg (by simp)]
   exact wpAny_pure (h _ pm up)
  ·show ((arrOf t).map (·.2)).size ≤ sizeLine + 1
   rw [Array.size_map,pm.size_eq,pairsOf_size]
   exact Nat.le_trans (show vs.length ≤ 3000 by omega) (by decide)
 by_cases h2:vs.toArray.size < 2
 ·rw [if_pos h2,if_pos h2]
  refine wpAny_bind (wpAny_pure ?_)
  dsimp only
  rw [StateT.run_pure]
  refine wpAny_bind (wpAny_pure (done _ (SortSt.mk' general' (vs.toArray.zip vs.toArray) #[] 7 none) rfl rfl (Array.Perm.refl _) fun i j ij jl => ?_))
  rw [pairsOf_size] at jl
  rw [show i=j by omega]
  exact Int.le_refl _
 ·rw [if_neg h2,if_neg h2]
  refine wpAny_bind (hk (by omega) _ k6 _ _ ?_)
  refine wpAny_bind (wpAny_mono (runsG_ok (hL _ k6) (st:=SortSt.mk' k0 (vs.toArray.zip vs.toArray) #[] 7 none) (a0:=pairsOf vs) ⟨Array.Perm.refl _,rfl,rfl,rfl⟩ rfl (Q:=fun _ t => (arrOf t).Perm (pairsOf vs)∧failedOf t=none∧∀ i j,i ≤ j→j < (pairsOf vs).size→RK rk (arrOf t) i ≤ RK rk (arrOf t) j) fun t p1 p2 p3 => ⟨p1,p2,p3⟩) ?_ fun _ _ z => z)
  rintro ⟨⟨⟩,t⟩ s' ⟨rfl,p1,p2,p3⟩
  exact done _ t rfl p2 p1 p3
end
end L2
set_option maxHeartbeats 4000000
namespace L2
open PySem PySem.Spec PyProof.Rows
theorem tup_keep {h h' : Heap} {a:Addr} {o:Obj} (ho:h.get? a=some o) (hc:o.cls = .type "list") (k:∀ b ob,b ≠ a→h.get? b=some ob→h'.get? b=some ob) (b:Addr) (ob:Obj) (c:ob.cls = .type "tuple") (e:h.get? b=some ob):h'.get? b=some ob:=by
 refine k b ob (fun z => ?_) e
 rw [z,ho] at e
 cases e
 rw [hc] at c
 exact absurd c (by decide)
section
variable {prog:Program} {w:World} {A:Around} {E:Value→Shared→Prop} {s:Shared}
theorem sort_tups {a:Addr} {vs:List Value} {n:Nat} {P:Fin→Shared→Prop} (hb:s.heap.get? a=some (seqObj "list" vs.toArray n)) (h64:vs.length ≤ 3000) (hv:∀ v ∈ vs,∃ u,TupI s.heap v u∧u ≠ [])
  (h:∀ out:Array Value,out.toList.Perm vs→(out.toList.map (kfI s.heap)).Pairwise (fun x y => lexB y x=false)→P (.done (.ret .none)) { s with heap:=sortedHeap s.heap a vs out }):wpAny (model prog w) A (Builtin.«list.sort» ⟨[.ref a],[]⟩) P E s:=by
 have kt:∀ h' : Heap,(∀ b o,b ≠ a→s.heap.get? b=some o→h'.get? b=some o)→∀ v ∈ vs,∃ u,TupI h' v u∧u ≠ []∧kfI s.heap v=u:=fun h' k v q => by
  obtain ⟨u,t,nu⟩:=hv v q
  exact ⟨u,t.keep' (tup_keep hb rfl k),nu,t.kf⟩
 have mz:∀ p,p ∈ (pairsOf vs).toList→p.1=p.2∧p.1 ∈ vs:=fun p q => by rw [pairsOf_toList] at q; exact mem_zip_self q
 refine sort_genW (k0:=tuples' true) (rk:=fun v => rnk (vs.map (kfI s.heap)) (kfI s.heap v)) hb h64 (fun h2 h' k E' Q' q => ?_) (fun h' k E' x y Q' hx hy q => ?_) fun xs pm up => ?_
 ·refine kind_tups (s:={ s with heap:=h' }) (fun v hv' => ?_) (fun z => by rw [z] at h2; simp at h2) q
  obtain ⟨u,t,nu,_⟩:=kt h' k v hv'
  exact ⟨u,t,nu⟩
 ·obtain ⟨u,t,nu,eu⟩:=kt h' k x.1 (mz x hx).2
  obtain ⟨u',t',nu',eu'⟩:=kt h' k y.1 (mz y hy).2
  refine lt_tups (s:={ s with heap:=h' }) true t t' ?_
  have m1:kfI s.heap x.1 ∈ vs.map (kfI s.heap):=List.mem_map.mpr ⟨_,(mz x hx).2,rfl⟩
  have m2:kfI s.heap y.1 ∈ vs.map (kfI s.heap):=List.mem_map.mpr ⟨_,(mz y hy).2,rfl⟩
  have e3:lexB u u' = decide (rnk (vs.map (kfI s.heap)) (kfI s.heap x.1) < rnk (vs.map (kfI s.heap)) (kfI s.heap y.1)):=by rw [rnk_ok m1 m2,eu,eu']
  rw [e3]
  exact q
 ·have pl:xs.toList.Perm (vs.zip vs):=by rw [← pairsOf_toList]; exact Array.perm_iff_toList_perm.mp pm
  have ps:(xs.map (·.2)).toList.Perm vs:=by
   rw [Array.toList_map]
   have:=pl.map (·.2)
   rw [List.map_snd_zip (Nat.le_refl _)] at this
   exact this
  refine h (xs.map (·.2)) ps ?_
  rw [List.pairwise_iff_getElem]
  intro i j hi hj ij
  have lx:(xs.map (·.2)).toList.length=xs.size:=by rw [Array.length_toList,Array.size_map]
  rw [List.length_map,lx] at hi hj
  have hz:xs.size=(pairsOf vs).size:=pm.size_eq
  have q:=up i j (Nat.le_of_lt ij) (by omega)
  have mi:xs[i] ∈ (pairsOf vs).toList:=(Array.perm_iff_toList_perm.mp pm).subset (Array.getElem_mem_toList hi)
  have mj:xs[j] ∈ (pairsOf vs).toList:=(Array.perm_iff_toList_perm.mp pm).subset (Array.getElem_mem_toList hj)
  unfold RK at q
  rw [Array.getElem?_eq_getElem hi,Array.getElem?_eq_getElem hj] at q
  dsimp only at q
  have e:=rnk_ok (ks:=vs.map (kfI s.heap)) (x:=kfI s.heap xs[j].1) (y:=kfI s.heap xs[i].1) (List.mem_map.mpr ⟨_,(mz _ mj).2,rfl⟩) (List.mem_map.mpr ⟨_,(mz _ mi).2,rfl⟩)
  rw [decide_eq_false (by omega)] at e
  simp only [List.getElem_map,Array.getElem_toList,Array.getElem_map]
  rw [← (mz _ mi).1,← (mz _ mj).1]
  exact e.symm
theorem sorted_setT {V0:Value→Prop} {S:Addr} {us:List (List Int)} {Q:Value→Shared→Prop} (hh:A.handled=none) (hj:SetT prog w V0 s.heap S us) (h64:us.length ≤ 3000) (ne:∀ u ∈ us,u ≠ [])
  (h:∀ (out:Array Value) (ws:List (List Int)) (h1 h' : Heap) (tk:Nat) (d' : Drawn) (e:Nat),(∀ b ob,s.heap.get? b=some ob→h1.get? b=some ob)→(∀ b ob,h1.get? b=some ob→h'.get? b=some ob)→out.size=ws.length→(∀ (i:Nat) (v:Value) (u:List Int),out[i]? = some v→ws[i]? = some u→TupI s.heap v u∧V0 v)→ws.Perm us→ws.Pairwise (fun x y => lexB y x=false)→h'.get? h1.objs.size=some (seqObj "list" out e)→Q (.ref h1.objs.size) { s with heap:=h',toks:=tk,drawn:=d' }) :
  wpAny (model prog w) A (call (.builtin "sorted") [.ref S]) Q E s:=by
 obtain ⟨o,es,ep,t,ks,ho,hx,hd,ea,pm,K⟩:=hj
 have fit:t.fits es.size=true:=by
  have:=K.fits
  rw [List.length_map,Array.length_toList] at this
  exact this
 have hl:es.size=us.length:=by rw [← Array.length_toList,ea.1,pm.length_eq]
 have hb:es.size < scanBound:=by unfold scanBound; omega
 have kv:∀ v ∈ es.toList.map (·.2),∃ u,TupI s.heap v u∧u ∈ us∧V0 v:=fun v q => by
  obtain ⟨e,he,rfl⟩:=List.mem_map.mp q
  obtain ⟨i,hi⟩:=List.mem_iff_getElem?.mp he
  have il:=(List.getElem?_eq_some_iff.mp hi).1
  have ik:i < ks.length:=by rw [← ea.1]; exact il
  have hk:ks[i]? = some ks[i]:=List.getElem?_eq_getElem ik
  exact ⟨ks[i],(ea.2 i e _ hi hk).1,pm.mem_iff.mp (List.mem_of_getElem? hk),(ea.2 i e _ hi hk).2.2⟩
 have ek:(es.toList.map (·.2)).map (kfI s.heap)=ks:=by
  apply List.ext_getElem?
  intro i
  rw [List.getElem?_map,List.getElem?_map]
  by_cases z:i < es.toList.length
  ·have hi:es.toList[i]? = some es.toList[i]:=List.getElem?_eq_getElem z
   have ik2:i < ks.length:=by rw [← ea.1]; exact z
   have hk:ks[i]? = some ks[i]:=List.getElem?_eq_getElem ik2
   rw [hi,hk]
   show some (kfI s.heap _)=_
   rw [(ea.2 i _ _ hi hk).1.kf]
  ·rw [List.getElem?_eq_none (by omega),List.getElem?_eq_none (by rw [← ea.1]; omega)]
   rfl
 refine Calls.call_function_entry kind_sorted plain_sorted entry_sorted (args_sorted1 _) ?_
 unfold Builtin.«sorted»
 refine wpAny_bind (m:=checkCount "sorted" 1 1 _) (wpAny_pure (wpAny_bind (collect_set hh ho hx hd fit hb K.tb fun vs h1 tk d' hpv kp => ?_)))
 have lv:vs.length ≤ 3000:=by rw [hpv.length_eq,List.length_map,Array.length_toList]; omega
 refine wpAny_bind (wpAny_newList ?_)
 have hoL:(h1.push { cls:=.type "list",data:=.seq vs.toArray }).get? h1.objs.size=some (seqObj "list" vs.toArray 0):=Heap.get?_push_size _ rfl
 have tv:∀ v ∈ vs,∃ u,TupI s.heap v u∧u ∈ us∧V0 v:=fun v q => kv v (hpv.mem_iff.mp q)
 have kf:∀ v ∈ vs,kfI (h1.push { cls:=.type "list",data:=.seq vs.toArray }) v=kfI s.heap v:=fun v q => by
  obtain ⟨u,t,_⟩:=tv v q
  rw [t.kf,(t.keep' fun b ob _ e => Heap.get?_push_of_some _ (kp b ob e)).kf]
 refine wpAny_bind (wpAny_holding (wpAny_call_entry slot_list_sort ⟨_,hoL,rfl⟩ entry_list_sort (sort_tups (s:={ s with heap:=h1.push { cls:=.type "list",data:=.seq vs.toArray },toks:=tk,drawn:=d' }) hoL lv (fun v q => ?_) fun out po so => ⟨_,rfl,?_⟩) (args_list_sort _)))
 ·obtain ⟨u,t,mu,_⟩:=tv v q
  exact ⟨u,t.keep' fun b ob _ e => Heap.get?_push_of_some _ (kp b ob e),ne u mu⟩
 ·obtain ⟨e,he⟩:=sortedHeap_at (out:=out) hoL
  have ew:out.toList.map (kfI (h1.push { cls:=.type "list",data:=.seq vs.toArray }))=out.toList.map (kfI s.heap):=List.map_congr_left fun v q => kf v (po.mem_iff.mp q)
  refine wpAny_pure ⟨_,rfl,h out (out.toList.map (kfI s.heap)) h1 _ tk d' e kp (fun b ob z => ?_) (by rw [List.length_map,Array.length_toList]) (fun i v u h3 h4 => ?_) ?_ ?_ he⟩
  ·have hlt:b < h1.objs.size:=Heap.lt_size z
   rw [sortedHeap_old (Nat.ne_of_lt hlt) (by rw [Heap.size_push]; exact Nat.lt_succ_of_lt hlt)]
   exact Heap.get?_push_of_some _ z
  ·rw [List.getElem?_map,Array.getElem?_toList,h3] at h4
   cases h4
   have mv:v ∈ vs:=po.mem_iff.mp (by rw [← Array.getElem?_toList] at h3; exact List.mem_of_getElem? h3)
   obtain ⟨u,t,_,v0⟩:=tv v mv
   rw [t.kf]; exact ⟨t,v0⟩
  ·have p1:=(po.trans hpv).map (kfI s.heap)
   rw [ek] at p1
   exact p1.trans pm
  ·rw [← ew]; exact so
end
end L2
set_option maxHeartbeats 1000000
namespace L2
open PySem PySem.Spec PyProof.Rows
def TuL (H:Hp) (xs:List V) (us:List (List Int)):Prop:=xs.length=us.length∧∀ (i:Nat) (x:V) (u:List Int),xs[i]? = some x→us[i]? = some u→∃ a:Addr,x = .ref a∧H a=some (.tup (u.map V.int))
theorem TuL.nil (H:Hp):TuL H [] []:=⟨rfl,fun i x u h => by cases h⟩
theorem TuL.up {H H' : Hp} {xs:List V} {us:List (List Int)} (h:TuL H xs us) (t:Tups H H'):TuL H' xs us:=⟨h.1,fun i x u h1 h2 => by
 obtain ⟨a,b,c⟩:=h.2 i x u h1 h2
 exact ⟨a,b,t _ _ c⟩⟩
theorem TuL.snoc {H:Hp} {xs:List V} {us:List (List Int)} {a:Addr} {u:List Int} (h:TuL H xs us) (ha:H a=some (.tup (u.map V.int))):TuL H (xs ++ [.ref a]) (us ++ [u]):=by
 refine ⟨by rw [List.length_append,List.length_append,h.1]; rfl,fun i y r h1 h2 => ?_⟩
 by_cases z:i < xs.length
 ·rw [List.getElem?_append_left z] at h1
  rw [List.getElem?_append_left (h.1 ▸ z)] at h2
  exact h.2 i y r h1 h2
 ·rw [List.getElem?_append_right (by omega)] at h1
  rw [List.getElem?_append_right (by have:=h.1; omega),← h.1] at h2
  cases w:i - xs.length with
  | zero => rw [w] at h1 h2; cases h1; cases h2; exact ⟨a,rfl,ha⟩
  | succ m => rw [w] at h1; cases h1
def dTs (us:List (List Int)):PyData:=.list (us.map dT)
theorem TuL.di {K:PySem.W.Frag} {H:Hp} {a:Addr} {xs:List V} {us:List (List Int)} (h:TuL H xs us) (ha:SqL K H a xs):DI K H (.ref a) (dTs us):=by
 refine .lst ha (by rw [List.length_map]; exact h.1) fun i x d h1 h2 => ?_
 rw [List.getElem?_map] at h2
 cases z:us[i]? with
 | none => rw [z] at h2; cases h2
 | some u =>
  rw [z] at h2
  cases h2
  obtain ⟨b,rfl,hb⟩:=h.2 i x u h1 z
  refine .tup (SqT.of hb) (by rw [List.length_map,List.length_map]) fun j y e h3 h4 => ?_
  rw [List.getElem?_map] at h3 h4
  cases zz:u[j]? with
  | none => rw [zz] at h3; cases h3
  | some m => rw [zz] at h3 h4; cases h3; cases h4; exact .int m
theorem lay_dTs:∀ us:List (List Int),(dTs us).canLay0=true:=by
 have:∀ us:List (List Int),PyData.canLayAll0 (us.map dT)=true:=by
  intro us
  induction us with
  | nil => rfl
  | cons u us ih => show ((dT u).canLay0 && PyData.canLayAll0 (us.map dT))=true; rw [lay_dT,ih]; rfl
 exact this
theorem dep_dTs (us:List (List Int)):(dTs us).depth ≤ 60:=by
 have:∀ us:List (List Int),PyData.depthAll (us.map dT) ≤ 1:=by
  intro us
  induction us with
  | nil => exact Nat.zero_le _
  | cons u us ih => show max (dT u).depth _ ≤ 1; rw [dep_dT]; omega
 show PyData.depthAll _ + 1 ≤ 60
 have:=this us
 omega
theorem eqv_dTs (us vs:List (List Int)):PyData.eqv (dTs us) (dTs vs)=decide (us=vs):=by
 have:∀ us vs:List (List Int),PyData.eqvAll (us.map dT) (vs.map dT)=decide (us=vs):=by
  intro us
  induction us with
  | nil => intro vs; cases vs <;> rfl
  | cons u us ih =>
   intro vs
   cases vs with
   | nil => rfl
   | cons v vs =>
    show (PyData.eqv (dT u) (dT v) && PyData.eqvAll (us.map dT) (vs.map dT))=_
    rw [ih,eqv_dT]
    by_cases h:u=v
    ·subst h; by_cases h2:us=vs <;> simp [h2]
    ·simp [h]
 exact this us vs
def vOf:Value→V
 | .ref a => .ref a
 | _ => .non
section
variable {X:Cx} {pins:List (Addr × Obj)} {σ:St} {H:Hp} {s:Shared}
theorem tup_of (I:Inv X pins σ H s) {a:Addr} {u:List Int} (h:H a=some (.tup (u.map V.int))):TupI s.heap (.ref a) u:=by
 obtain ⟨its,r,⟨o,e,c,n,hd⟩,_⟩:=I.tuple (SqT.of (K:=X.K) h)
 exact ⟨a,o,_,n,rfl,e,c,hd,by simpa using intsAre_of r⟩
theorem pe_sortedSetT {k:Nat} {a:Expr} {ta:TE} {p p2 pos pos2:PySem.Pos} (hr:Room k X.A) (hc:X.calm=true) (ha:PE X a ta) (hg:Gl X "sorted") (hm:X.mg "sorted" = none) (hg2:Gl X "set") (hm2:X.mg "set" = none) (hsa:starEach [a] X.env=[(false,eval a X.env)]:=by rfl) :
  PE X (.Call (.Name "sorted" p) [.Call (.Name "set" p2) [a] [] pos2] [] pos) (fun σ H Q => ta σ H fun x H1 => ∃ (l:Addr) (xs:List V) (us:List (List Int)),x = .ref l∧SqL X.K H1 l xs∧TuL H1 xs us∧us.length ≤ 300∧(∀ u ∈ us,u ≠ []) ∧
   ∀ (q:Addr) (ys:List V) (ws:List (List Int)),H1 q=none→TuL H1 ys ws→ws.Perm (ddT us)→ws.Pairwise (fun x y => lexB y x=false)→Q (.ref q) (upd H1 q (.lst ys))):=by
 intro pins s σ H Q I h
 refine wpAny_Call_Name_kw (ld_blt I hg hm boot_sortedX ?_)
 refine PyProof.Rows.callWith_builtin1 (rest:=[]) ?_ rfl rfl
 show wpAny _ _ (spliced ((false,eval (.Call (.Name "set" p2) [a] [] pos2) X.env) :: [])) _ _ s
 refine Calls.spliced_cons (wpAny_Call_Name_kw (ld_blt I hg2 hm2 boot_set ?_))
 refine PyProof.Rows.callWith_type1 (rest:=[]) ?_ hsa rfl
 rw [hsa]
 show wpAny _ _ (spliced ((false,eval a X.env) :: [])) _ _ s
 refine Calls.spliced_cons (thn (ha pins s σ H _ I h) fun u s1 ⟨y,H1,I1,r1,l,xs,us,ey,hq,tt,h62,ne,q⟩ => Calls.spliced_nil ?_)
 subst ey
 cases r1
 obtain ⟨its,r,pl,hz⟩:=I1.list hq
 have hln:its.length=us.length:=by rw [← r.length,tt.1]
 have at' : ∀ (i:Nat) (v:Value),its[i]? = some v→∃ (b:Addr) (u:List Int),v = .ref b∧us[i]? = some u∧H1 b=some (.tup (u.map V.int)):=fun i v hv => by
  have il:=(List.getElem?_eq_some_iff.mp hv).1
  have ix:i < xs.length:=by rw [r.length]; exact il
  obtain ⟨v',e1,e2⟩:=r.get (List.getElem?_eq_getElem ix)
  rw [hv] at e1
  cases e1
  have iu:i < us.length:=by omega
  obtain ⟨b,e3,e4⟩:=tt.2 i _ us[i] (List.getElem?_eq_getElem ix) (List.getElem?_eq_getElem iu)
  rw [e3] at e2
  exact ⟨b,us[i],e2,List.getElem?_eq_getElem iu,e4⟩
 have hu:X.A.units + 8 < cLine:=by have:=hr.units; omega
 refine set_of_listT (V0:=fun v => v ∈ its) (us:=us) (I1.ok.hd hc) pl.isList hu (by rw [List.size_toArray]; exact hln.symm) (fun i v hv => ?_) (by rw [List.size_toArray]; omega) (fun v hv => by simpa using hv) fun h2 tk hj hk => Calls.spliced_nil ?_
 ·obtain ⟨b,u,rfl,eu,hb⟩:=at' i v (by simpa using hv)
  have:us.getD i []=u:=by rw [List.getD_eq_getElem?_getD,eu]; rfl
  rw [this]
  exact tup_of I1 hb
 have I2:Inv X pins σ H1 { s1 with heap:=h2,toks:=tk }:=I1.kept fun b ob z => hk b ob (Heap.lt_size z) z
 refine sorted_setT (s:={ s1 with heap:=h2,toks:=tk }) (I1.ok.hd hc) hj (Nat.le_trans (ddT_len us) (by omega)) (fun u hu' => ne u ((ddT_mem us u).mp hu')) fun out ws h3 h4 tk4 d4 e kp3 kp4 sz at2 hp hs he => ?_
 have I3:Inv X pins σ H1 { s1 with heap:=h3,toks:=tk,drawn:=d4 }:=I2.keptD kp3
 have hml:out.size ≤ 300:=by rw [sz,hp.length_eq]; have:=ddT_len us; omega
 have at3:∀ (i:Nat) (v:Value),out.toList[i]? = some v→∃ (b:Addr) (u:List Int),v = .ref b∧ws[i]? = some u∧H1 b=some (.tup (u.map V.int)):=fun i v hv => by
  have il:=(List.getElem?_eq_some_iff.mp hv).1
  rw [Array.length_toList,sz] at il
  obtain ⟨t1,m1⟩:=at2 i v ws[i] (by rw [← Array.getElem?_toList]; exact hv) (List.getElem?_eq_getElem il)
  obtain ⟨j,hj'⟩:=List.mem_iff_getElem?.mp m1
  obtain ⟨b,u,rfl,eu,hb⟩:=at' j v hj'
  have t2:=tup_of I2 hb
  have:ws[i]=u:=by rw [← t1.kf,← t2.kf]
  exact ⟨b,u,rfl,by rw [List.getElem?_eq_getElem il,this],hb⟩
 have vals:Vals (out.toList.map vOf) out.toList:=by
  have key:∀ l:List Value,(∀ v ∈ l,∃ b:Addr,v = .ref b)→Vals (l.map vOf) l:=by
   intro l
   induction l with
   | nil => intro _; exact .nil
   | cons v l ih =>
    intro hl
    obtain ⟨b,rfl⟩:=hl v List.mem_cons_self
    exact .cons rfl (ih fun z hz => hl z (List.mem_cons_of_mem _ hz))
  refine key _ fun v hv => ?_
  obtain ⟨i,hi⟩:=List.mem_iff_getElem?.mp hv
  obtain ⟨b,_,rfl,_⟩:=at3 i v hi
  exact ⟨b,rfl⟩
 have tt2:TuL H1 (out.toList.map vOf) ws:=by
  refine ⟨by rw [List.length_map,Array.length_toList,sz],fun i x u h5 h6 => ?_⟩
  rw [List.getElem?_map] at h5
  cases zz:out.toList[i]? with
  | none => rw [zz] at h5; cases h5
  | some v =>
   rw [zz] at h5
   obtain ⟨b,u',rfl,eu,hb⟩:=at3 i v zz
   cases h5
   rw [eu] at h6
   cases h6
   exact ⟨b,rfl,hb⟩
 refine ⟨.ref h3.objs.size,_,I3.laid (t':=tk4) (o:=.lst (out.toList.map vOf)) kp4 (Nat.le_refl _) ⟨?_,out.toList,e,vals,?_⟩,rfl,q _ _ ws (I3.hok.fresh (Nat.le_refl _)) tt2 hp hs⟩
 ·rw [List.length_map,Array.length_toList]
  exact Nat.le_trans (show out.size ≤ 1000 by omega) (by decide)
 ·rw [he]
theorem call_tuple_ofKK {K:PySem.W.Frag} (hK:X.K=K:=by rfl):CallR X (.type "tuple") (fun xs H Q => ∃ p ys,xs=[.ref p]∧((SqL K H p ys∧∀ l,H l=none→Q (.ref l) (upd H l (.tup ys))) ∨ (SqT K H p ys∧Q (.ref p) H))):=by subst hK; exact call_tuple_of
end
end L2
namespace L2
open PySem PySem.Spec PyProof.Rows
theorem ints_items {P:Program} {w:World} : ∀ {vs:List Value} {u:List Int},IntsAre vs u→ItemsAre (intKind P w) u vs
 | _,_,.nil => .nil
 | _,_,.cons n t h => .cons (intKind_is _ _ _ _) (ints_items h)
theorem lexB_lt:∀ (u v:List Int),HT.lexLt u v=lexB u v
 | [],[] => rfl
 | [],_ :: _ => rfl
 | _ :: _,[] => rfl
 | a :: u,b :: v => by rw [HT.lexLt_cons,lexB_lt u v]; rfl
end L2
namespace L2
open PySem PySem.Spec PyProof.Rows
def cont (h:Heap) (b:Addr):Option HO:=match h.get? b with
 | some o => match o.data with
  | .seq its _ => match its.toList with
   | [.ref ka,.int m _] => some (.tup [.ref ka,.int m])
   | _ => none
  | _ => none
 | none => none
end L2
namespace L2
open PySem PySem.Spec PyProof.Rows
section
variable {X:Cx}
def upto (lo:Int) (n:Nat):List Int:=(List.range n).map fun (i:Nat) => lo + (i:Int)
theorem call_list_rng2 (hc:X.calm=true):CallR X (.type "list") (fun xs H Q => ∃ (p:Addr) (i j:Int),xs=[.ref p]∧H p=some (.rng i j)∧-1000 ≤ i∧i ≤ j∧j ≤ 1000∧∀ l,H l=none→Q (.ref l) (upd H l (.lst ((upto i (j - i).toNat).map V.int)))):=by
 intro pins s σ H xs us Q I r h
 obtain ⟨p,lo,j,rfl,hp,h0,h1,h2,q⟩:=h
 obtain ⟨u,rfl,rx⟩:=vals1 r
 cases rx
 obtain ⟨t,u,v,e⟩:=I.hok p _ hp
 refine call_list_range (n:=(j - lo).toNat) (I.ok.hd hc) e (small_one (by omega) (by omega) (by omega) (by omega)) (by rw [rangeSize_one]; split <;> omega) (by omega) fun h' tk acc' c' hk hS hacc => ?_
 have hln:((upto lo (j - lo).toNat).map V.int).length=acc'.toList.length:=by unfold upto; simp [hacc.1]
 refine ⟨.ref _,_,I.laid (o:=.lst ((upto lo (j - lo).toNat).map V.int)) hk (Nat.le_refl _) ⟨?_,acc'.toList,c',Vals.of_get hln fun i x w' e1 e2 => ?_,by simpa using hS⟩,rfl,q _ (I.hok.fresh (Nat.le_refl _))⟩
 ·unfold upto
  rw [List.length_map,List.length_map,List.length_range]
  exact Nat.le_trans (show (j - lo).toNat ≤ 2000 by omega) (by decide)
 ·have hi:i < (j - lo).toNat:=by
   have:=(List.getElem?_eq_some_iff.mp e1).1
   unfold upto at this
   rw [List.length_map,List.length_map,List.length_range] at this
   exact this
  unfold upto at e1
  rw [List.getElem?_map,List.getElem?_map,List.getElem?_range hi] at e1
  cases e1
  obtain ⟨tk',z⟩:=hacc.2 i w' (by simpa using e2)
  rw [z]
  exact ⟨tk',by simp⟩
end
end L2
namespace L2
open PySem PySem.Spec PyProof.Rows
def absI (i:Int):Int:=if i < 0 then -i else i
def pool (n:Nat):List Int:=upto 1 n ++ upto 1 n
structure ShOk (S:List (List Int)):Prop where
 even:∃ m:Nat,S.length=2 * m∧1 ≤ m∧m ≤ 6
 three:∀ t ∈ S,t.length=3
 ties:(S.flatten.map absI).Perm (pool (S.length / 2 * 3))
theorem mem_upto {lo:Int} {n:Nat} {i:Int} : i ∈ upto lo n ↔ lo ≤ i∧i < lo + (n:Int):=by
 unfold upto
 rw [List.mem_map]
 constructor
 ·rintro ⟨k,hk,rfl⟩
  have:=List.mem_range.mp hk
  omega
 ·rintro ⟨h1,h2⟩
  exact ⟨(i - lo).toNat,List.mem_range.mpr (by omega),by omega⟩
theorem upto_len (lo:Int) (n:Nat):(upto lo n).length=n:=by unfold upto; rw [List.length_map,List.length_range]
theorem chunks (os:List Int):∀ n:Nat,((List.range n).map fun k => (os.drop (3 * k)).take 3).flatten=os.take (3 * n)
 | 0 => by simp
 | n + 1 => by
  rw [List.range_succ,List.map_append,List.flatten_append,chunks os n]
  simp only [List.map_cons,List.map_nil,List.flatten_cons,List.flatten_nil,List.append_nil]
  rw [show 3 * (n + 1)=3 * n + 3 by omega,List.take_add]
def dI (ns:List Int):PyData:=.list (ns.map .int)
theorem eqv_dI (ns ms:List Int):PyData.eqv (dI ns) (dI ms)=decide (ns=ms):=eqvAll_ints ns ms
theorem lay_dI (ns:List Int):(dI ns).canLay0=true:=lay_ints ns
theorem dep_dI (ns:List Int):(dI ns).depth ≤ 60:=by show PyData.depthAll _ + 1 ≤ 60; rw [dep_ints]; decide
theorem erase_permK {α:Type} : ∀ {l:List α} {k:Nat} {y:α},l[k]? = some y→l.Perm (y :: l.eraseIdx k)
 | [],k,y,h => by cases h
 | a :: l,0,y,h => by cases h; exact List.Perm.refl _
 | a :: l,k + 1,y,h => by
  have ih:=erase_permK (l:=l) (k:=k) (y:=y) (by simpa using h)
  exact (List.Perm.cons a ih).trans (List.Perm.swap y a _)
theorem map_erase {α β:Type} (f:α→β):∀ (l:List α) (k:Nat),(l.map f).eraseIdx k=(l.eraseIdx k).map f
 | [],_ => rfl
 | _ :: _,0 => rfl
 | a :: l,k + 1 => by
  show f a :: (l.map f).eraseIdx k=f a :: (l.eraseIdx k).map f
  rw [map_erase f l k]
theorem mem_pool {n:Nat} {i:Int} (h:i ∈ pool n):1 ≤ i∧i ≤ (n:Int):=by
 unfold pool at h
 rcases List.mem_append.mp h with h | h <;> (have:=mem_upto.mp h; omega)
end L2
namespace L2
open PySem PySem.Spec PyProof.Rows
def wholeD:PyData→Bool
 | .int _ => true
 | _ => false
theorem whole_ib (d:PyData):wholeD d=(isInt d && !isBool d):=by cases d <;> rfl
theorem three3 {α:Type} {xs:List α} (h:xs.length=3):∃ a b c,xs=[a,b,c]:=by
 match xs,h with
 | [a,b,c],_ => exact ⟨a,b,c,rfl⟩
theorem upto_succ (lo:Int) (n:Nat):upto lo (n + 1)=upto lo n ++ [lo + (n:Int)]:=by unfold upto; rw [List.range_succ,List.map_append]; rfl
end L2
namespace L2
open PySem PySem.Spec PyProof.Rows
theorem ShOk.side {S:List (List Int)} (h:ShOk S) {t:List Int} (ht:t ∈ S) {i:Int} (hi:i ∈ t):1 ≤ absI i∧absI i ≤ ((S.length / 2 * 3:Nat):Int):=by
 have:absI i ∈ pool (S.length / 2 * 3):=h.ties.subset (List.mem_map_of_mem (List.mem_flatten.mpr ⟨t,ht,hi⟩))
 exact mem_pool this
theorem ShOk.len {S:List (List Int)} (h:ShOk S):2 ≤ S.length∧S.length ≤ 12∧S.length % 2=0:=by
 obtain ⟨m,a,b,c⟩:=h.even
 omega
end L2
namespace L2
open PySem PySem.Spec PyProof.Rows
inductive Itm (H:Hp):Bool→V→List Int→Prop where
 | int (i:Int):Itm H false (.int i) [i]
 | tup {a:Addr} {u:List Int} : H a=some (.tup (u.map V.int))→Itm H true (.ref a) u
def ItL (H:Hp) (tp:Bool) (xs:List V) (us:List (List Int)):Prop:=xs.length=us.length∧∀ (i:Nat) (x:V) (u:List Int),xs[i]? = some x→us[i]? = some u→Itm H tp x u
theorem Itm.up {H H' : Hp} {tp:Bool} {x:V} {u:List Int} (h:Itm H tp x u) (t:Tups H H'):Itm H' tp x u:=by
 cases h with
 | int i => exact .int i
 | tup e => exact .tup (t _ _ e)
theorem ItL.up {H H' : Hp} {tp:Bool} {xs:List V} {us:List (List Int)} (h:ItL H tp xs us) (t:Tups H H'):ItL H' tp xs us:=⟨h.1,fun i x u h1 h2 => (h.2 i x u h1 h2).up t⟩
theorem ItL.head {H:Hp} {tp:Bool} {x:V} {u:List Int} {xs:List V} {us:List (List Int)} (h:ItL H tp (x :: xs) (u :: us)):Itm H tp x u:=h.2 0 x u rfl rfl
theorem ItL.tail {H:Hp} {tp:Bool} {x:V} {u:List Int} {xs:List V} {us:List (List Int)} (h:ItL H tp (x :: xs) (u :: us)):ItL H tp xs us :=
 ⟨by simpa using h.1,fun i y v h1 h2 => h.2 (i + 1) y v (by simpa using h1) (by simpa using h2)⟩
theorem ItL.append {H:Hp} {tp:Bool} {xs ys:List V} {us vs:List (List Int)} (h:ItL H tp xs us) (k:ItL H tp ys vs):ItL H tp (xs ++ ys) (us ++ vs):=by
 refine ⟨by simp [h.1,k.1],fun i x u h1 h2 => ?_⟩
 by_cases c:i < xs.length
 ·rw [List.getElem?_append_left c] at h1
  rw [List.getElem?_append_left (h.1 ▸ c)] at h2
  exact h.2 i x u h1 h2
 ·rw [List.getElem?_append_right (by omega)] at h1
  rw [List.getElem?_append_right (by rw [← h.1]; omega),← h.1] at h2
  exact k.2 _ x u h1 h2
theorem TuL.it {H:Hp} {xs:List V} {us:List (List Int)} (h:TuL H xs us):ItL H true xs us:=⟨h.1,fun i x u h1 h2 => by
 obtain ⟨a,rfl,e⟩:=h.2 i x u h1 h2
 exact .tup e⟩
theorem ItL.tu {H:Hp} {xs:List V} {us:List (List Int)} (h:ItL H true xs us):TuL H xs us:=⟨h.1,fun i x u h1 h2 => by
 cases h.2 i x u h1 h2 with
 | tup e => exact ⟨_,rfl,e⟩⟩
inductive ItV (h:Heap):Bool→Value→List Int→Prop where
 | int (i:Int) (t:Tok):ItV h false (.int i t) [i]
 | tup {v:Value} {u:List Int} : TupI h v u→ItV h true v u
def cdV (tp:Bool) (h:Heap) (v:Value):List Int:=if tp then kfI h v else [vInt v]
theorem ItV.cd {h:Heap} {tp:Bool} {v:Value} {u:List Int} (x:ItV h tp v u):cdV tp h v=u:=by
 cases x with
 | int i t => rfl
 | tup t => exact t.kf
theorem ItV.keep {h h' : Heap} {tp:Bool} {v:Value} {u:List Int} (x:ItV h tp v u) (k:∀ (b:Addr) (o:Obj),o.cls = .type "tuple" → h.get? b=some o→h'.get? b=some o):ItV h' tp v u:=by
 cases x with
 | int i t => exact .int i t
 | tup t => exact .tup (t.keep' k)
theorem it_of {X:Cx} {pins:List (Addr × Obj)} {σ:L2.St} {H:Hp} {s:Shared} (I:Inv X pins σ H s) {tp:Bool} {x:V} {u:List Int} (h:Itm H tp x u) {v:Value} (r:RelV x v):ItV s.heap tp v u:=by
 cases h with
 | int i => obtain ⟨t,rfl⟩:=r; exact .int i t
 | tup e => cases r; exact .tup (tup_of I e)
theorem its_of {X:Cx} {pins:List (Addr × Obj)} {σ:L2.St} {H:Hp} {s:Shared} (I:Inv X pins σ H s) {tp:Bool} : ∀ {xs:List V} {vs:List Value} {us:List (List Int)},Vals xs vs→ItL H tp xs us→vs.length=us.length∧∀ (i:Nat) (v:Value) (u:List Int),vs[i]? = some v→us[i]? = some u→ItV s.heap tp v u
 | _,_,us,.nil,h => by
  have:=h.1
  refine ⟨by simpa using this,fun i v u e => by cases e⟩
 | _,_,[],.cons r t,h => by have:=h.1; simp at this
 | _,_,u :: us,.cons r t,h => by
  obtain ⟨l,k⟩:=its_of I t h.tail
  refine ⟨by simp [l],fun i v w e1 e2 => ?_⟩
  cases i with
  | zero => cases e1; cases e2; exact it_of I h.head r
  | succ i => exact k i v w (by simpa using e1) (by simpa using e2)
theorem lexB_one (i j:Int):lexB [i] [j]=decide (i < j):=by
 by_cases h:i=j
 ·subst h
  rw [lexB_irr]
  exact (decide_eq_false (by omega)).symm
 ·show (if i=j then lexB [] [] else decide (i < j))=_
  rw [if_neg h]
section
variable {prog:Program} {w:World} {A:Around} {E:Value→Shared→Prop} {s:Shared}
theorem ItV.eq {tp:Bool} {x y:Value} {u v:List Int} (hu:A.units < cLine) (hx:ItV s.heap tp x u) (hy:ItV s.heap tp y v):SeqAt.EqAt A s x y (decide (u=v)):=by
 cases hx with
 | int i t =>
  cases hy with
  | int j t' =>
   have:=SeqAt.EqAt.int_int (A:=A) (s:=s) i t j t'
   have e:(i == j)=decide ([i]=[j]):=by
    by_cases z:i=j <;> simp [z]
   rw [e] at this
   exact this
 | tup tx =>
  cases hy with
  | tup ty =>
   obtain ⟨p,op,ip,np,rfl,g1,g2,g3,g4⟩:=tx
   obtain ⟨q,oq,iq,nq,rfl,k1,k2,k3,k4⟩:=ty
   intro prog w E Q hQ
   exact wpAny_eqBool_tuple (knd:=intKind prog w) hu ⟨op,ip,np,g1,g2,g3,ints_items g4⟩ ⟨oq,iq,nq,k1,k2,k3,ints_items k4⟩ hQ
theorem ItV.lt {tp:Bool} {x y:Value} {u v:List Int} {Q:Value→Shared→Prop} (hu:A.units < cLine) (hx:ItV s.heap tp x u) (hy:ItV s.heap tp y v) (h:Q (.bool (lexB u v)) s):wpAny (model prog w) A (richCompare .Lt x y) Q E s:=by
 cases hx with
 | int i t =>
  cases hy with
  | int j t' =>
   rw [lexB_one] at h
   exact HT.rcLt_int A s i t j t' prog w E Q h
 | tup tx =>
  cases hy with
  | tup ty =>
   obtain ⟨p,op,ip,np,rfl,g1,g2,g3,g4⟩:=tx
   obtain ⟨q,oq,iq,nq,rfl,k1,k2,k3,k4⟩:=ty
   refine HT.lt_tupInts (items:=ip) (items2:=iq) ⟨op,g1,g2,np,g3⟩ ⟨oq,k1,k2,nq,k3⟩ g4 k4 hu ?_
   rw [lexB_lt]
   exact h
end
def lexLL:List (List Int)→List (List Int)→Bool
 | [],[] => false
 | [],_ :: _ => true
 | _ :: _,[] => false
 | a :: u,b :: v => if a=b then lexLL u v else lexB a b
theorem lexLL_irr:∀ u:List (List Int),lexLL u u=false
 | [] => rfl
 | a :: u => by show (if a=a then lexLL u u else _)=false; rw [if_pos rfl]; exact lexLL_irr u
theorem lexLL_cons (a b:List Int) (u v:List (List Int)):lexLL (a :: u) (b :: v)=if a=b then lexLL u v else lexB a b:=rfl
theorem lexLL_trans:∀ {x y z:List (List Int)},lexLL x y=true→lexLL y z=true→lexLL x z=true
 | [],[],_,h,_ => by cases h
 | [],_ :: _,[],_,h => by cases h
 | [],_ :: _,_ :: _,_,_ => rfl
 | _ :: _,[],_,h,_ => by cases h
 | _ :: _,_ :: _,[],_,h => by cases h
 | a :: x,b :: y,c :: z,h1,h2 => by
  rw [lexLL_cons] at h1 h2 ⊢
  by_cases e1:a=b
  ·subst e1
   rw [if_pos rfl] at h1
   by_cases e2:a=c
   ·rw [if_pos e2] at h2 ⊢
    exact lexLL_trans h1 h2
   ·rw [if_neg e2] at h2 ⊢
    exact h2
  ·rw [if_neg e1] at h1
   by_cases e2:b=c
   ·subst e2
    rw [if_neg e1]
    exact h1
   ·rw [if_neg e2] at h2
    have h3:=lexB_trans h1 h2
    have e3:a ≠ c:=fun z => by rw [z,lexB_irr] at h3; cases h3
    rw [if_neg e3]
    exact h3
theorem lexLL_tot:∀ {x y:List (List Int)},lexLL x y=false→lexLL y x=false→x=y
 | [],[],_,_ => rfl
 | [],_ :: _,h,_ => by cases h
 | _ :: _,[],_,h => by cases h
 | a :: x,b :: y,h1,h2 => by
  rw [lexLL_cons] at h1 h2
  by_cases e:a=b
  ·subst e
   rw [if_pos rfl] at h1 h2
   rw [lexLL_tot h1 h2]
  ·rw [if_neg e] at h1
   rw [if_neg (Ne.symm e)] at h2
   exact absurd (lexB_tot h1 h2) e
def rnkG {α:Type} (lt:α→α→Bool) (ks:List α) (u:α):Int:=((ks.filter fun z => lt z u).length:Nat)
theorem rnkG_ok {α:Type} {lt:α→α→Bool} (irr:∀ x,lt x x=false) (tr:∀ {x y z},lt x y=true→lt y z=true→lt x z=true) (tot:∀ {x y},lt x y=false→lt y x=false→x=y) {ks:List α} {x y:α} (hx:x ∈ ks) (hy:y ∈ ks):decide (rnkG lt ks x < rnkG lt ks y)=lt x y:=by
 have less:∀ {a b:α},a ∈ ks→lt a b=true→rnkG lt ks a < rnkG lt ks b:=fun {a b} ha h => by
  have:=filter_less (p:=fun z => lt z a) (q:=fun z => lt z b) (l:=ks) (x:=a) (fun z _ q => tr q h) ha h (irr a)
  show (((ks.filter fun z => lt z a).length:Nat):Int) < ((ks.filter fun z => lt z b).length:Nat)
  omega
 cases h:lt x y with
 | true => exact decide_eq_true (less hx h)
 | false =>
  refine decide_eq_false fun q => ?_
  cases h2:lt y x with
  | true => have:=less hy h2; omega
  | false => rw [tot h h2] at q; omega
section
variable {prog:Program} {w:World} {A:Around} {E:Value→Shared→Prop} {s:Shared}
def LsV (h:Heap) (tp:Bool) (v:Value) (us:List (List Int)):Prop:=∃ (a:Addr) (its:Array Value),v = .ref a∧h.IsList a its∧its.size=us.length∧∀ (i:Nat) (x:Value) (u:List Int),its[i]? = some x→us[i]? = some u→ItV h tp x u
theorem LsV.at {h:Heap} {tp:Bool} {its:Array Value} {us:List (List Int)} (l:its.size=us.length) (k:∀ (i:Nat) (x:Value) (u:List Int),its[i]? = some x→us[i]? = some u→ItV h tp x u) {i:Nat} (hi:i < us.length):∃ x,its[i]? = some x∧ItV h tp x us[i] :=
 ⟨its[i]'(by omega),Array.getElem?_eq_getElem (by omega),k i _ _ (Array.getElem?_eq_getElem (by omega)) (List.getElem?_eq_getElem hi)⟩
section
open PySem.SeqAt
open PySem.AutoSeq1 (wpAny_loadPart')
open PySem.MeetsSeq PySem.MeetsSeq2 PySem.MeetsSeq3
theorem llt_loop (tp:Bool) (l b:Addr) (items items2:Array Value) (n n2:Nat) (dd dd2:Option Addr) (sl sl2:Array (Option Value)) (us vs:List (List Int)) (z1:items.size=us.length) (z2:items2.size=vs.length) (k:Nat) :
  ∀ i:Nat,us.length - i=k→i ≤ us.length→i ≤ vs.length→Meets (Builtin.«list.__eq__.loop» ⟨[.ref l,.ref b,rawInt i,rawInt 0],[]⟩)
   (fun A R s => A.units + 4 < cLine∧s.heap.get? l=some { cls:=.type "list",dict:=dd,data:=.seq items n,slots:=sl }∧s.heap.get? b=some { cls:=.type "list",dict:=dd2,data:=.seq items2 n2,slots:=sl2 } ∧
    (∀ (i:Nat) (x:Value) (u:List Int),items[i]? = some x→us[i]? = some u→ItV s.heap tp x u)∧(∀ (i:Nat) (x:Value) (u:List Int),items2[i]? = some x→vs[i]? = some u→ItV s.heap tp x u) ∧
    R (.ok (.ret (.bool (lexLL (us.drop i) (vs.drop i))))) s):=by
 induction k with
 | zero =>
  intro i hk iu iv prog w A R st hh
  obtain ⟨hp,g,d,tk,os⟩:=st
  obtain ⟨hun,hl,hb,ka,kb,hR⟩:=hh
  wp_walk using wpAny_loadPart' hl,wpAny_loadPart' hb
  have a1:items[((i:Nat):Int).toNat]? = none:=by simp; omega
  have e1:us.drop i=[]:=List.drop_eq_nil_iff.mpr (by omega)
  rw [e1] at hR
  rw [a1]
  wp_walk using wpAny_loadPart' hl,wpAny_loadPart' hb
  show R (.ok (.ret (.bool (decide (items.size < items2.size))))) _
  have e2:lexLL [] (vs.drop i)=decide (items.size < items2.size):=by
   cases q:vs.drop i with
   | nil =>
    have:=List.drop_eq_nil_iff.mp q
    exact (decide_eq_false (by omega)).symm
   | cons c r =>
    have : ¬ vs.length ≤ i:=fun z => by rw [List.drop_eq_nil_iff.mpr z] at q; cases q
    exact (decide_eq_true (by omega)).symm
  rw [e2] at hR
  exact hR
 | succ k ih =>
  intro i hk iu iv prog w A R st hh
  obtain ⟨hp,g,d,tk,os⟩:=st
  obtain ⟨hun,hl,hb,ka,kb,hR⟩:=hh
  wp_walk using wpAny_loadPart' hl,wpAny_loadPart' hb
  have il:i < us.length:=by omega
  have a1:items[((i:Nat):Int).toNat]? = some (items[i]'(by omega)):=by simp [show i < items.size by omega]
  have eu:us.drop i=us[i] :: us.drop (i + 1):=List.drop_eq_getElem_cons il
  by_cases jl:i < vs.length
  ·have a2:items2[((i:Nat):Int).toNat]? = some (items2[i]'(by omega)):=by simp [show i < items2.size by omega]
   have ev:vs.drop i=vs[i] :: vs.drop (i + 1):=List.drop_eq_getElem_cons jl
   rw [eu,ev,lexLL_cons] at hR
   rw [a1,a2]
   have p1:=ka i _ _ (Array.getElem?_eq_getElem (by omega)) (List.getElem?_eq_getElem il)
   have p2:=kb i _ _ (Array.getElem?_eq_getElem (by omega)) (List.getElem?_eq_getElem jl)
   have hu1:A.in1.units < cLine:=by show A.units + 1 < cLine; omega
   refine wpAny_bind (ItV.eq (s:=⟨hp,g,d,tk,os⟩) hu1 p1 p2 prog w _ _ ?_)
   by_cases q:us[i]=vs[i]
   ·rw [decide_eq_true q]
    rw [if_pos q] at hR
    wp_walk
    rw [show ((i:Int) + 1)=((i + 1:Nat):Int) by push_cast; rfl]
    refine ⟨plainId_quiet plain_eq_loop _,codeAny_builtin entry_eq_loop ?_⟩
    rw [Around.under_plainId plain_eq_loop _]
    exact ih (i + 1) (by omega) (by omega) (by omega) prog w A R _ ⟨hun,hl,hb,ka,kb,hR⟩
   ·rw [decide_eq_false q]
    rw [if_neg q] at hR
    wp_walk using wpAny_loadPart' hl,wpAny_loadPart' hb
    rw [a1,a2]
    have fin:=fun (E' : Value→Shared→Prop) (Q' : Value→Shared→Prop) (z:Q' (.bool (lexB us[i] vs[i])) ⟨hp,g,d,tk,os⟩) => ItV.lt (prog:=prog) (w:=w) (E:=E') (s:=⟨hp,g,d,tk,os⟩) (A:=A.in1) hu1 p1 p2 z
    wp_walk using fin
    exact hR
  ·have a2:items2[((i:Nat):Int).toNat]? = none:=by simp; omega
   have ev:vs.drop i=[]:=List.drop_eq_nil_iff.mpr (by omega)
   rw [eu,ev] at hR
   rw [a1,a2]
   wp_walk using wpAny_loadPart' hl,wpAny_loadPart' hb
   show R (.ok (.ret (.bool (decide (items.size < items2.size))))) _
   rw [decide_eq_false (by omega)]
   exact hR
end
end
end L2
namespace L2
open PySem PySem.Spec PyProof.Rows
section
variable {prog:Program} {w:World} {A:Around} {E:Value→Shared→Prop} {s:Shared}
section
open PySem.SeqAt
open PySem.AutoSeq1 (wpAny_loadPart')
open PySem.MeetsSeq PySem.MeetsSeq2 PySem.MeetsSeq3
theorem list_ltL (tp:Bool) (l b:Addr) (items items2:Array Value) (n n2:Nat) (dd dd2:Option Addr) (sl sl2:Array (Option Value)) (us vs:List (List Int)) (z1:items.size=us.length) (z2:items2.size=vs.length) :
  Meets (Builtin.«list.__lt__» ⟨[.ref l,.ref b],[]⟩)
   (fun A R s => A.units + 4 < cLine∧s.heap.get? l=some { cls:=.type "list",dict:=dd,data:=.seq items n,slots:=sl }∧s.heap.get? b=some { cls:=.type "list",dict:=dd2,data:=.seq items2 n2,slots:=sl2 } ∧
    (∀ (i:Nat) (x:Value) (u:List Int),items[i]? = some x→us[i]? = some u→ItV s.heap tp x u)∧(∀ (i:Nat) (x:Value) (u:List Int),items2[i]? = some x→vs[i]? = some u→ItV s.heap tp x u) ∧
    R (.ok (.ret (.bool (lexLL us vs)))) s):=by
 intro prog w A R st hh
 obtain ⟨hp,g,d,tk,os⟩:=st
 obtain ⟨hun,hl,hb,ka,kb,hR⟩:=hh
 have f3:=AutoSeq1.sub_list_list
 wp_walk using wpAny_loadPart' hl,wpAny_loadPart' hb
 refine ⟨plainId_quiet plain_eq_loop _,codeAny_builtin entry_eq_loop ?_⟩
 rw [Around.under_plainId plain_eq_loop _]
 exact llt_loop tp l b items items2 n n2 dd dd2 sl sl2 us vs z1 z2 _ 0 rfl (Nat.zero_le _) (Nat.zero_le _) prog w A R _ ⟨hun,hl,hb,ka,kb,by simpa using hR⟩
end
theorem lt_lists {tp:Bool} {x y:Value} {us vs:List (List Int)} {Q:Bool→Shared→Prop} (hu:A.units + 8 < cLine) (hx:LsV s.heap tp x us) (hy:LsV s.heap tp y vs) (h:Q (lexLL us vs) s):wpAny (model prog w) A (keyLt' oneType' x y) Q E s:=by
 obtain ⟨a,its,rfl,⟨⟨c1,d1,t1,l1⟩,o1,k1,n1,e1⟩,z1,p1⟩:=hx
 obtain ⟨b,jts,rfl,⟨⟨c2,d2,t2,l2⟩,o2,k2,n2,e2⟩,z2,p2⟩:=hy
 simp only at k1 e1 k2 e2
 subst k1 e1 k2 e2
 rw [keyLt'_oneType,oneLt'_eq]
 simp only [if_true]
 refine wpAny_bind (wpAny_cRoomFor (by omega) ?_)
 refine wpAny_bind (wpAny_callSpecialIfBound?_slot (T := "list") ⟨_,o1,rfl⟩ PySem.F.slot_list_lt (call_meets PySem.F.slot_list_lt ⟨_,o1,rfl⟩ PySem.F.entry_list_lt (PySem.F.args_list_lt_2 _ _) (list_ltL tp a b its jts n1 n2 d1 d2 l1 l2 us vs z1 z2) ⟨?_,o1,o2,p1,p2,?_⟩))
 ·omega
 ·exact wpAny_truthy_bool h
end
end L2
namespace L2
open PySem PySem.Spec PyProof.Rows
def Ext (h h' : Heap):Prop:=∀ b o,h.get? b=some o→h'.get? b=some o
section
variable {prog:Program} {w:World} {A:Around} {E:Value→Shared→Prop} {s:Shared}
theorem sorted_any {α:Type} {l:Addr} {vs:List Value} {k0:SortKind} {cv:Value→α} {lt:α→α→Bool} {Q:Value→Shared→Prop} (irr:∀ x,lt x x=false) (tr:∀ {x y z},lt x y=true→lt y z=true→lt x z=true) (tot:∀ {x y},lt x y=false→lt y x=false→x=y)
  (hl:s.heap.IsList l vs.toArray) (h64:vs.length < 64)
  (hk:2 ≤ vs.length→∀ h',Ext s.heap h'→∀ (E:Value→Shared→Prop) (Q:SortKind→Shared→Prop),Q k0 { s with heap:=h' }→wpAny (model prog w) A.in1.in1 (keyKind' vs.toArray) Q E { s with heap:=h' })
  (hL:∀ h',Ext s.heap h'→∀ (E:Value→Shared→Prop) (x y:Value) (Q:Bool→Shared→Prop),x ∈ vs→y ∈ vs→Q (lt (cv x) (cv y)) { s with heap:=h' }→wpAny (model prog w) A.in1.in1 (keyLt' k0 x y) Q E { s with heap:=h' })
  (h:∀ out:Array Value,out.toList.Perm vs→(out.toList.map cv).Pairwise (fun x y => lt y x=false)→Q (.ref (s.heap.objs.size + 1)) { s with heap:=sortedAll s.heap vs out }):wpAny (model prog w) A (call (.builtin "sorted") [.ref l]) Q E s:=by
 refine Calls.call_function_entry kind_sorted plain_sorted entry_sorted (args_sorted1 _) ?_
 unfold Builtin.«sorted»
 refine wpAny_bind (m:=checkCount "sorted" 1 1 _) (wpAny_pure (wpAny_bind (collect_list hl (wpAny_bind (wpAny_newList ?_)) (Nat.le_of_lt (small1000 (by omega))))))
 have hsz:((s.heap.push (seqObj "list" #[] 0)).update s.heap.objs.size (Obj.mapSeq (· ++ vs.toArray))).objs.size=s.heap.objs.size + 1:=by rw [Heap.size_update,size_push']
 have hoL:(((s.heap.push (seqObj "list" #[] 0)).update s.heap.objs.size (Obj.mapSeq (· ++ vs.toArray))).push (seqObj "list" vs.toArray 0)).get? (s.heap.objs.size + 1)=some (seqObj "list" vs.toArray 0):=by
  rw [← hsz]
  exact Heap.get?_push_size _ rfl
 have k1:Ext s.heap (((s.heap.push (seqObj "list" #[] 0)).update s.heap.objs.size (Obj.mapSeq (· ++ vs.toArray))).push (seqObj "list" vs.toArray 0)):=fun b o e => by
  have:=Heap.lt_size e
  refine Heap.get?_push_of_some _ ?_
  rw [Heap.get?_update_ne _ _ _ _ (Nat.ne_of_lt this)]
  exact Heap.get?_push_of_some _ e
 show wpAny _ _ _ _ _ { s with heap:=((s.heap.push (seqObj "list" #[] 0)).update s.heap.objs.size (Obj.mapSeq (· ++ vs.toArray))).push (seqObj "list" vs.toArray 0) }
 rw [hsz]
 have ext:∀ h',(∀ b o,b ≠ s.heap.objs.size + 1→(((s.heap.push (seqObj "list" #[] 0)).update s.heap.objs.size (Obj.mapSeq (· ++ vs.toArray))).push (seqObj "list" vs.toArray 0)).get? b=some o→h'.get? b=some o)→Ext s.heap h':=fun h' k b o e => by
  have:=Heap.lt_size e
  exact k b o (Nat.ne_of_lt (Nat.lt_succ_of_lt this)) (k1 b o e)
 have mz:∀ p,p ∈ (pairsOf vs).toList→p.1=p.2∧p.1 ∈ vs:=fun p q => by rw [pairsOf_toList] at q; exact mem_zip_self q
 refine wpAny_bind (wpAny_holding (wpAny_call_entry slot_list_sort ⟨_,hoL,rfl⟩ entry_list_sort (sort_gen (k0:=k0) (rk:=fun v => rnkG lt (vs.map cv) (cv v)) hoL h64 (fun h2 h' k E' Q' q => hk h2 h' (ext h' k) E' Q' q) (fun h' k E' x y Q' hx hy q => hL h' (ext h' k) E' x.1 y.1 Q' (mz x hx).2 (mz y hy).2 ?_) fun xs pm up => ⟨_,rfl,?_⟩) (args_list_sort _)))
 ·rw [rnkG_ok irr tr tot (List.mem_map.mpr ⟨_,(mz x hx).2,rfl⟩) (List.mem_map.mpr ⟨_,(mz y hy).2,rfl⟩)] at q
  exact q
 ·have pl:xs.toList.Perm (vs.zip vs):=by rw [← pairsOf_toList]; exact Array.perm_iff_toList_perm.mp pm
  have ps:(xs.map (·.2)).toList.Perm vs:=by
   rw [Array.toList_map]
   have:=pl.map (·.2)
   rw [List.map_snd_zip (Nat.le_refl _)] at this
   exact this
  suffices sr:((xs.map (·.2)).toList.map cv).Pairwise (fun x y => lt y x=false) by
   have fin:=h (xs.map (·.2)) ps sr
   unfold sortedAll at fin
   exact wpAny_pure ⟨_,rfl,fin⟩
  rw [List.pairwise_iff_getElem]
  intro i j hi hj ij
  have lx:(xs.map (·.2)).toList.length=xs.size:=by rw [Array.length_toList,Array.size_map]
  rw [List.length_map,lx] at hi hj
  have hz:xs.size=(pairsOf vs).size:=pm.size_eq
  have q:=up i j (Nat.le_of_lt ij) (by omega)
  have mi:xs[i] ∈ (pairsOf vs).toList:=(Array.perm_iff_toList_perm.mp pm).subset (Array.getElem_mem_toList hi)
  have mj:xs[j] ∈ (pairsOf vs).toList:=(Array.perm_iff_toList_perm.mp pm).subset (Array.getElem_mem_toList hj)
  unfold RK at q
  rw [Array.getElem?_eq_getElem hi,Array.getElem?_eq_getElem hj] at q
  dsimp only at q
  have e:=rnkG_ok irr tr tot (ks:=vs.map cv) (x:=cv xs[j].1) (y:=cv xs[i].1) (List.mem_map.mpr ⟨_,(mz _ mj).2,rfl⟩) (List.mem_map.mpr ⟨_,(mz _ mi).2,rfl⟩)
  rw [decide_eq_false (by omega)] at e
  simp only [List.getElem_map,Array.getElem_toList,Array.getElem_map]
  rw [← (mz _ mi).1,← (mz _ mj).1]
  exact e.symm
theorem LsV.keep {h h' : Heap} {tp:Bool} {v:Value} {us:List (List Int)} (x:LsV h tp v us) (k:Ext h h'):LsV h' tp v us:=by
 obtain ⟨a,its,rfl,⟨o,e,c,n,d⟩,z,p⟩:=x
 exact ⟨a,its,rfl,⟨o,k _ _ e,c,n,d⟩,z,fun i y u h1 h2 => (p i y u h1 h2).keep fun b o _ q => k b o q⟩
def cvL (tp:Bool) (h:Heap) (v:Value):List (List Int):=match v with
 | .ref a => match h.get? a with
  | some o => match o.data with
   | .seq its _ => its.toList.map (cdV tp h)
   | _ => []
  | none => []
 | _ => []
theorem LsV.cv {h:Heap} {tp:Bool} {v:Value} {us:List (List Int)} (x:LsV h tp v us):cvL tp h v=us:=by
 obtain ⟨a,its,rfl,⟨o,e,c,n,d⟩,z,p⟩:=x
 unfold cvL
 dsimp only
 rw [e]
 dsimp only
 rw [d]
 dsimp only
 apply List.ext_getElem?
 intro i
 rw [List.getElem?_map,Array.getElem?_toList]
 by_cases il:i < us.length
 ·obtain ⟨y,e1,e2⟩:=LsV.at z p il
  rw [e1,List.getElem?_eq_getElem il]
  show some (cdV tp h y)=some us[i]
  rw [e2.cd]
 ·rw [Array.getElem?_eq_none (by omega),List.getElem?_eq_none (by omega)]
  rfl
theorem mapM_typeL {s:Shared} : ∀ {vs:List Value} {Q:List Value→Shared→Prop},(∀ v ∈ vs,∃ a o,v = .ref a∧s.heap.get? a=some o∧o.cls = .type "list")→Q (vs.map fun _ => .type "list") s→wpAny (model prog w) A (vs.mapM typeOf) Q E s
 | [],Q,_,h => by rw [List.mapM_nil]; exact wpAny_pure h
 | v :: vs,Q,hv,h => by
  rw [List.mapM_cons]
  obtain ⟨a,o,rfl,e,c⟩:=hv v List.mem_cons_self
  exact wpAny_bind (wpAny_typeOf (T := "list") ⟨o,e,c⟩ (wpAny_bind (mapM_typeL (fun z hz => hv z (List.mem_cons_of_mem _ hz)) (wpAny_pure h))))
theorem mapM_nones {s:Shared} : ∀ {vs:List Value} {Q:List (Option Value)→Shared→Prop},(∀ v ∈ vs,∃ a o,v = .ref a∧s.heap.get? a=some o∧o.cls = .type "list")→Q (vs.map fun _ => none) s→wpAny (model prog w) A (vs.mapM firstOfTuple') Q E s
 | [],Q,_,h => by rw [List.mapM_nil]; exact wpAny_pure h
 | v :: vs,Q,hv,h => by
  rw [List.mapM_cons]
  obtain ⟨a,o,rfl,e,c⟩:=hv v List.mem_cons_self
  rw [first'_eq]
  refine wpAny_bind (wpAny_bind (wpAny_typeOf (T := "list") ⟨o,e,c⟩ ?_))
  rw [if_pos (by decide)]
  exact wpAny_pure (wpAny_bind (mapM_nones (fun z hz => hv z (List.mem_cons_of_mem _ hz)) (wpAny_pure h)))
theorem kind_lists {vs:List Value} (hv:∀ v ∈ vs,∃ a o,v = .ref a∧s.heap.get? a=some o∧o.cls = .type "list") (h1:2 ≤ vs.length) {Q:SortKind→Shared→Prop} (h:Q oneType' s):wpAny (model prog w) A (keyKind' vs.toArray) Q E s:=by
 obtain ⟨v0,vr,rfl⟩:∃ v0 vr,vs=v0 :: vr:=by
  cases vs with
  | nil => simp at h1
  | cons a r => exact ⟨a,r,rfl⟩
 rw [keyKind'_eq,List.mapM_toArray,oneTypeOnly'_eq,List.mapM_toArray]
 refine wpAny_bind ?_
 simp only [map_eq_pure_bind]
 refine wpAny_bind (mapM_nones hv (wpAny_pure ?_))
 rw [if_neg (by simp),if_neg (by simp)]
 refine wpAny_bind (wpAny_bind (wpAny_bind (mapM_typeL hv (wpAny_pure ?_))))
 have e0:(List.map (fun _ => Value.type "list") (v0 :: vr)).toArray[0]? = some (Value.type "list"):=by simp
 rw [e0]
 dsimp only
 have ea:((List.map (fun _ => Value.type "list") (v0 :: vr)).toArray.all fun x => x == Value.type "list")=true:=by
  simp only [List.all_toArray,List.all_map,List.all_eq_true]
  intro _ _
  rfl
 rw [if_pos ea]
 exact wpAny_pure (wpAny_pure h)
end
def LsL (H:Hp) (tp:Bool) (ys:List V) (uss:List (List (List Int))):Prop:=ys.length=uss.length∧∀ (i:Nat) (y:V) (us:List (List Int)),ys[i]? = some y→uss[i]? = some us→∃ (a:Addr) (xs:List V),y = .ref a∧H a=some (.lst xs)∧ItL H tp xs us
theorem LsL.up {H H' : Hp} {tp:Bool} {ys:List V} {uss:List (List (List Int))} (h:LsL H tp ys uss) (s:Same H H'):LsL H' tp ys uss:=⟨h.1,fun i y us h1 h2 => by
 obtain ⟨a,xs,rfl,e,k⟩:=h.2 i y us h1 h2
 exact ⟨a,xs,rfl,s _ _ e,k.up s.tups⟩⟩
theorem LsL.nil (H:Hp) (tp:Bool):LsL H tp [] []:=⟨rfl,fun i x u h => by cases h⟩
theorem LsL.snoc {H:Hp} {tp:Bool} {ys xs:List V} {uss:List (List (List Int))} {us:List (List Int)} {a:Addr} (h:LsL H tp ys uss) (ha:H a=some (.lst xs)) (k:ItL H tp xs us):LsL H tp (ys ++ [.ref a]) (uss ++ [us]):=by
 refine ⟨by simp [h.1],fun i y vs h1 h2 => ?_⟩
 by_cases il:i < ys.length
 ·rw [List.getElem?_append_left il] at h1
  rw [List.getElem?_append_left (h.1 ▸ il)] at h2
  exact h.2 i y vs h1 h2
 ·rw [List.getElem?_append_right (by omega)] at h1
  rw [List.getElem?_append_right (by rw [← h.1]; omega),← h.1] at h2
  cases e:i - ys.length with
  | zero =>
   rw [e] at h1 h2
   cases h1
   cases h2
   exact ⟨a,xs,rfl,ha,k⟩
  | succ j => rw [e] at h1; cases h1
section
variable {X:Cx} {pins:List (Addr × Obj)} {σ:L2.St} {H:Hp} {s:Shared}
theorem ls_of (I:Inv X pins σ H s) {tp:Bool} {a:Addr} {xs:List V} {us:List (List Int)} (e:H a=some (.lst xs)) (k:ItL H tp xs us):LsV s.heap tp (.ref a) us:=by
 obtain ⟨its,rv,pl,hz⟩:=I.list (SqL.of (K:=X.K) e)
 obtain ⟨l,p⟩:=its_of I rv k
 exact ⟨a,its.toArray,rfl,pl.isList,by rw [List.size_toArray]; exact l,fun i x u h1 h2 => p i x u (by simpa using h1) h2⟩
theorem vals_refs:∀ {l:List Value},(∀ v ∈ l,∃ a,v=Value.ref a)→Vals (l.map vOf) l
 | [],_ => .nil
 | v :: l,h => by
  obtain ⟨a,rfl⟩:=h v List.mem_cons_self
  exact .cons rfl (vals_refs fun z hz => h z (List.mem_cons_of_mem _ hz))
theorem perm_at {α:Type} {l m:List α} (p:l.Perm m) {i:Nat} {x:α} (e:l[i]? = some x):∃ j:Nat,m[j]? = some x:=List.mem_iff_getElem?.mp (p.subset (List.mem_of_getElem? e))
theorem call_sortedLL (tp:Bool) {k:Nat} (hr:Room k X.A):CallR X (.builtin "sorted") (fun xs H Q => ∃ (p:Addr) (ys:List V) (uss:List (List (List Int))),xs=[.ref p]∧SqL X.K H p ys∧LsL H tp ys uss∧uss.length < 64 ∧
  ∀ (l:Addr) (zs:List V) (ws:List (List (List Int))),H l=none→LsL H tp zs ws→ws.Perm uss→ws.Pairwise (fun x y => lexLL y x=false)→Q (.ref l) (upd H l (.lst zs))):=by
 intro pins s σ H xs us Q I r h
 obtain ⟨p,ys,uss,rfl,hp,hL,h64,q⟩:=h
 obtain ⟨u,rfl,rx⟩:=vals1 r
 cases rx
 obtain ⟨its,rv,pl,hz⟩:=I.list hp
 have hlen:its.length=uss.length:=by rw [← rv.length]; exact hL.1
 have row:∀ (i:Nat) (v:Value),its[i]? = some v→∃ (a:Addr) (xs:List V) (us:List (List Int)),v = .ref a∧ys[i]? = some (.ref a)∧uss[i]? = some us∧H a=some (.lst xs)∧ItL H tp xs us∧LsV s.heap tp v us:=fun i v e => by
  have il:i < its.length:=(List.getElem?_eq_some_iff.mp e).1
  have e1:ys[i]? = some (ys[i]'(by rw [hL.1]; omega)):=List.getElem?_eq_getElem _
  have e2:uss[i]? = some (uss[i]'(by omega)):=List.getElem?_eq_getElem _
  obtain ⟨a,xs,ea,ha,k⟩:=hL.2 i _ _ e1 e2
  obtain ⟨v',ev',rr⟩:=rv.get e1
  rw [e] at ev'
  cases ev'
  rw [ea] at rr e1
  cases rr
  exact ⟨a,xs,_,rfl,e1,e2,ha,k,ls_of I ha k⟩
 have mem:∀ v ∈ its,∃ us,LsV s.heap tp v us∧∃ a o,v = .ref a∧s.heap.get? a=some o∧o.cls = .type "list" := fun v hv => by
  obtain ⟨i,hi⟩:=List.mem_iff_getElem?.mp hv
  obtain ⟨a,xs,us,rfl,_,_,_,_,L⟩:=row i v hi
  have L':=L
  obtain ⟨a',jts,ea,⟨o,eo,c,_⟩,_⟩:=L'
  cases ea
  exact ⟨us,L,a,o,rfl,eo,c⟩
 have hu:=hr.un
 refine sorted_any (k0:=oneType') (cv:=cvL tp s.heap) (lt:=lexLL) lexLL_irr lexLL_trans lexLL_tot pl.isList (by omega) (fun h2 h' k E' Q' q' => ?_) (fun h' k E' x y Q' hx hy q' => ?_) fun out pm sr => ?_
 ·refine kind_lists (s:={ s with heap:=h' }) (fun v hv => ?_) h2 q'
  obtain ⟨_,_,a,o,ev,eo,c⟩:=mem v hv
  exact ⟨a,o,ev,k _ _ eo,c⟩
 ·obtain ⟨us,L,_⟩:=mem x hx
  obtain ⟨vs,L',_⟩:=mem y hy
  rw [L.cv,L'.cv] at q'
  exact lt_lists (s:={ s with heap:=h' }) (by show X.A.units + 1 + 1 + 8 < cLine; omega) (L.keep k) (L'.keep k) q'
 ·obtain ⟨e,he⟩:=sortedAll_at s.heap its out
  have ol:out.toList.length=its.length:=pm.length_eq
  have refs:∀ v ∈ out.toList,∃ a,v=Value.ref a:=fun v hv => by
   obtain ⟨_,_,a,_,ev,_⟩:=mem v (pm.subset hv)
   exact ⟨a,ev⟩
  have cvs:its.map (cvL tp s.heap)=uss:=by
   apply List.ext_getElem?
   intro i
   rw [List.getElem?_map]
   cases z:its[i]? with
   | none => rw [List.getElem?_eq_none (by have:=List.getElem?_eq_none_iff.mp z; omega)]; rfl
   | some v =>
    obtain ⟨a,xs,us,_,_,e2,_,_,L⟩:=row i v z
    rw [e2]
    show some (cvL tp s.heap v)=some us
    rw [L.cv]
  refine ⟨.ref _,upd H (s.heap.objs.size + 1) (.lst (out.toList.map vOf)),I.laid (t':=s.toks) (fun b ob z => sortedAll_old z) (Nat.le_succ _) ⟨?_,out.toList,e,vals_refs refs,?_⟩,rfl,q _ (out.toList.map vOf) (out.toList.map (cvL tp s.heap)) (I.hok.fresh (Nat.le_succ _)) ⟨by rw [List.length_map,List.length_map],fun i y us h1 h2 => ?_⟩ ?_ sr⟩
  ·rw [List.length_map,ol]
   exact Nat.le_of_lt (small1000 (by omega))
  ·rw [he]
  ·rw [List.getElem?_map] at h1 h2
   cases z:out.toList[i]? with
   | none => rw [z] at h1; cases h1
   | some v =>
    rw [z] at h1 h2
    obtain ⟨j,hj⟩:=perm_at pm z
    obtain ⟨a,xs,us',rfl,_,_,ha,k,L⟩:=row j v hj
    cases h1
    cases h2
    refine ⟨a,xs,rfl,ha,?_⟩
    rw [L.cv]
    exact k
  ·rw [← cvs]
   exact pm.map _
def rInC (K:PySem.W.Frag) (tp:Bool):R2:=fun x y H Q => ∃ p xs u us,y = .ref p∧SqL K H p xs∧Itm H tp x u∧ItL H tp xs us∧Q (.bl (decide (u ∈ us))) H
theorem op_inC (tp:Bool) {k:Nat} (hr:Room k X.A):OpR X (compareOp .In) (rInC X.K tp):=by
 intro pins s σ H x y v v' Q I rx ry h
 obtain ⟨p,xs,u,us,rfl,hp,hx,hL,q⟩:=h
 cases ry
 obtain ⟨its,rv,pl,hz⟩:=I.list hp
 have hv:=it_of I hx rx
 obtain ⟨l,at'⟩:=its_of I rv hL
 have hu:=hr.un
 refine SeqAt.in_listAt (fun z => decide (cdV tp s.heap z=u)) pl.isList (fun z hz => ?_) ⟨.bl _,H,I,rfl,?_⟩
 ·obtain ⟨i,hi⟩:=List.mem_iff_getElem?.mp (by simpa using hz)
  have il:=(List.getElem?_eq_some_iff.mp hi).1
  have hz':=at' i z _ hi (List.getElem?_eq_getElem (by omega))
  rw [hz'.cd]
  exact ItV.eq (by show X.A.units + 1 < cLine; omega) hz' hv
 ·have cvs:its.map (cdV tp s.heap)=us:=by
   apply List.ext_getElem?
   intro i
   rw [List.getElem?_map]
   cases z:its[i]? with
   | none => rw [List.getElem?_eq_none (by have:=List.getElem?_eq_none_iff.mp z; omega)]; rfl
   | some w' =>
    have il:=(List.getElem?_eq_some_iff.mp z).1
    have e2:=List.getElem?_eq_getElem (show i < us.length by omega)
    rw [e2]
    show some (cdV tp s.heap w')=some _
    rw [(at' i w' _ z e2).cd]
  have e:(its.toArray.any fun z => decide (cdV tp s.heap z=u))=decide (u ∈ us):=by
   rw [← cvs,List.any_toArray]
   rw [Bool.eq_iff_iff,List.any_eq_true,decide_eq_true_iff,List.mem_map]
   exact ⟨fun ⟨a,b,c⟩ => ⟨a,b,of_decide_eq_true c⟩,fun ⟨a,b,c⟩ => ⟨a,b,decide_eq_true c⟩⟩
  rw [e]
  exact q
end
end L2
namespace L2
open PySem PySem.Spec PyProof.Rows
section
variable {X:Cx}
theorem op_inCK {K:PySem.W.Frag} (tp:Bool) {k:Nat} (hr:Room k X.A) (hK:X.K=K:=by rfl):OpR X (compareOp .In) (rInC K tp):=by subst hK; exact op_inC tp hr
end
end L2
namespace L2
open PySem PySem.Spec PyProof.Rows
theorem Same.nw {p:Addr} {H H' : Hp} {o:HO} (a:Same H H') (h:H' p=none):Same H (upd H' p o):=fun c u e => by
 have:=a c u e
 rw [upd_ne (ne_of_none this h)]; exact this
theorem Same.ow {p:Addr} {H H' : Hp} {o:HO} (a:Same H H') (h:H p=none):Same H (upd H' p o):=fun c u e => by
 rw [upd_ne (ne_of_none e h)]; exact a c u e
def RL (L:List (List Int × List Int)) (u v:List Int):Prop:=(u,v) ∈ L ∨ (v,u) ∈ L
end L2
namespace L2
open PySem PySem.Spec PyProof.Rows
theorem TuL.take {H:Hp} {xs:List V} {us:List (List Int)} (h:TuL H xs us) {i:Nat} {x:V} (e:xs[i]? = some x):∃ u a,us[i]? = some u∧x = .ref a∧H a=some (.tup (u.map V.int)):=by
 have il:i < us.length:=by rw [← h.1]; exact (List.getElem?_eq_some_iff.mp e).1
 obtain ⟨a,ea,ha⟩:=h.2 i x _ e (List.getElem?_eq_getElem il)
 exact ⟨us[i],a,List.getElem?_eq_getElem il,ea,ha⟩
end L2
namespace L2
open PySem PySem.Spec PyProof.Rows
def crs (r:List Int) (s:Int):Int:=r.getD (absI s - 1).toNat 0
structure EvRow (S:List (List Int)) (r:List Int):Prop where
 len:r.length=S.length / 2 * 3
 nn:∀ x ∈ r,0 ≤ x
 tri:∀ a b c:Int,[a,b,c] ∈ S→(crs r a + crs r b + crs r c) % 2=0∧crs r a ≤ crs r b + crs r c∧crs r b ≤ crs r a + crs r c∧crs r c ≤ crs r a + crs r b
theorem crs_at {S:List (List Int)} {r:List Int} (oS:ShOk S) (l:r.length=S.length / 2 * 3) {t:List Int} (ht:t ∈ S) {s:Int} (hs:s ∈ t):r[(absI s - 1).toNat]? = some (crs r s):=by
 have:=oS.side ht hs
 have il:(absI s - 1).toNat < r.length:=by omega
 unfold crs
 rw [List.getD_eq_getElem?_getD,List.getElem?_eq_getElem il]
 rfl
end L2
namespace L2
open PySem PySem.Spec PyProof.Rows
def nc (m:Nat):List Int:=[(m:Int)]
end L2
namespace L2
open PySem PySem.Spec PyProof.Rows
theorem ixN_nat {n j:Nat} (h:j < n):ixN n (j:Int)=some j:=by
 unfold ixN
 rw [if_pos (by omega)]
 first
  | (rw [if_pos (by omega)]; simp)
  | (simp; omega)
end L2
namespace L2
open PySem PySem.Spec PyProof.Rows
def spTiesZ (K:PySem.W.Frag):Sp:=fun vs H Q _ => ∃ (a:Addr) (xs:List V),vs=[.ref a]∧SqL K H a xs∧Q (.int ((xs.length / 2 * 3:Nat):Int)) H
end L2
namespace L2
open PySem PySem.Spec PyProof.Rows
section
variable {X:Cx}
theorem int_items:∀ {ns:List Int} {its:List Value},Vals (ns.map V.int) its→∃ ps:List (Int × Tok),its=ps.map (fun p => Value.int p.1 p.2)∧ps.map (·.1)=ns
 | [],its,r => by cases r; exact ⟨[],rfl,rfl⟩
 | n :: ns,its,r => by
  cases r with
  | cons a b =>
   obtain ⟨t,rfl⟩:=a
   obtain ⟨ps,rfl,e⟩:=int_items b
   exact ⟨(n,t) :: ps,rfl,by rw [List.map_cons,e]⟩
theorem call_maxL (hc:X.calm=true):CallR X (.builtin "max") (fun xs H Q => ∃ (p:Addr) (ns:List Int),xs=[.ref p]∧SqL X.K H p (ns.map V.int)∧ns ≠ []∧∀ m ∈ ns,(∀ n ∈ ns,n ≤ m)→Q (.int m) H):=by
 intro pins s σ H xs us Q I r h
 obtain ⟨p,ns,rfl,hq,ne,q⟩:=h
 obtain ⟨u,rfl,rx⟩:=vals1 r
 cases rx
 obtain ⟨its,rv,pl,hz⟩:=I.list hq
 obtain ⟨ps,rfl,e⟩:=int_items rv
 have hl:=pl.isList
 have ei:(ps.map (fun p => Value.int p.1 p.2)).toArray=intItems ps.toArray:=by simp [intItems]
 rw [ei] at hl
 have pn:0 < ps.length:=by
  cases ps with
  | nil => exact absurd e.symm ne
  | cons a b => simp
 have at1:∀ j,j < ps.length→ns[j]? = some (numAt ps.toArray j):=fun j hj => by
  rw [← e,List.getElem?_map,List.getElem?_eq_getElem hj]
  simp [numAt,hj]
 refine max_intList (I.ok.hd hc) hl (by simpa using pn) fun v h' tk hv hk => ?_
 obtain ⟨t,rfl⟩:=intItems_at hv
 obtain ⟨b1,b2⟩:=argBest_gt (numAt ps.toArray) (ps.toArray.size - 1)
 generalize argBest (fun i' j' => decide (numAt ps.toArray i' > numAt ps.toArray j')) (ps.toArray.size - 1)=k at b1 b2 ⊢
 rw [List.size_toArray] at b1 b2
 refine ⟨.int _,H,I.kept hk,⟨t,rfl⟩,q _ (List.mem_of_getElem? (at1 k (by omega))) fun n hn => ?_⟩
 obtain ⟨j,hj⟩:=List.mem_iff_getElem?.mp hn
 have jl:j < ps.length:=by
  have:=(List.getElem?_eq_some_iff.mp hj).1
  rw [← e,List.length_map] at this
  exact this
 rw [at1 j jl] at hj
 cases hj
 exact b2 j (by omega)
end
def addR (r q:List Int):List Int:=(List.range r.length).map fun k => r.getD k 0 + q.getD k 0
theorem addR_at {r q:List Int} {k:Nat} (hk:k < r.length):(addR r q)[k]? = some (r.getD k 0 + q.getD k 0):=by
 unfold addR
 rw [List.getElem?_map,List.getElem?_range hk]
 rfl
theorem addR_len (r q:List Int):(addR r q).length=r.length:=by unfold addR; rw [List.length_map,List.length_range]
theorem crs_add {r q:List Int} (h:r.length=q.length) (s:Int):crs (addR r q) s=crs r s + crs q s:=by
 unfold crs
 by_cases hk:(absI s - 1).toNat < r.length
 ·rw [List.getD_eq_getElem?_getD,addR_at hk]
  rfl
 ·have n1:(addR r q)[(absI s - 1).toNat]? = none:=by rw [List.getElem?_eq_none_iff,addR_len]; omega
  have n2:r[(absI s - 1).toNat]? = none:=by rw [List.getElem?_eq_none_iff]; omega
  have n3:q[(absI s - 1).toNat]? = none:=by rw [List.getElem?_eq_none_iff]; omega
  rw [List.getD_eq_getElem?_getD,List.getD_eq_getElem?_getD,List.getD_eq_getElem?_getD,n1,n2,n3]
  rfl
theorem EvRow.add {S:List (List Int)} {r q:List Int} (h:EvRow S r) (k:EvRow S q):EvRow S (addR r q):=by
 have e:r.length=q.length:=by rw [h.len,k.len]
 refine ⟨by rw [addR_len,h.len],fun x hx => ?_,fun a b c hm => ?_⟩
 ·obtain ⟨j,hj⟩:=List.mem_iff_getElem?.mp hx
  have jl:j < r.length:=by have:=(List.getElem?_eq_some_iff.mp hj).1; rwa [addR_len] at this
  rw [addR_at jl] at hj
  cases hj
  have g1:r.getD j 0 ∈ r:=by rw [List.getD_eq_getElem?_getD,List.getElem?_eq_getElem jl]; exact List.getElem_mem jl
  have g2:q.getD j 0 ∈ q:=by rw [List.getD_eq_getElem?_getD,List.getElem?_eq_getElem (e ▸ jl)]; exact List.getElem_mem _
  have:=h.nn _ g1
  have:=k.nn _ g2
  omega
 ·rw [crs_add e,crs_add e,crs_add e]
  obtain ⟨p1,p2,p3,p4⟩:=h.tri a b c hm
  obtain ⟨q1,q2,q3,q4⟩:=k.tri a b c hm
  omega
def ringE (g:List (List Int)) (e:List Int):Int:=if e ∈ g then 1 else 0
def ringR (n:Nat) (g:List (List Int)):List Int:=(List.range n).map fun (t:Nat) => ringE g [1 + (t:Int),0] + ringE g [1 + (t:Int),1]
theorem ringR_len (n:Nat) (g:List (List Int)):(ringR n g).length=n:=by unfold ringR; rw [List.length_map,List.length_range]
theorem ringR_at {n t:Nat} {g:List (List Int)} (h:t < n):(ringR n g)[t]? = some (ringE g [1 + (t:Int),0] + ringE g [1 + (t:Int),1]):=by
 unfold ringR
 rw [List.getElem?_map,List.getElem?_range h]
 rfl
end L2
namespace L2
open PySem PySem.Spec PyProof.Rows
def isDg (c:Nat):Bool:=decide (c ∈ ("0123456789" : Str).cps.toList)
def bareS (w:Str):Str:=if Txt.startswith w "-" = true then subS w 1 w.length else w
def digsB (b:Str):Bool:=decide (1 ≤ b.length∧b.length ≤ 60) && b.cps.toList.all isDg
def isNum (w:Str):Bool:=digsB (bareS w) && ((bareS w).cps.toList.head? != some 48 || decide (w = "0"))
def numI (w:Str):Int:=(PySem.intText? w).getD 0
theorem dg_of {c:Nat} (h:isDg c=true):48 ≤ c∧c ≤ 57:=by
 have h:=of_decide_eq_true h
 have e:("0123456789" : Str).cps.toList=[48,49,50,51,52,53,54,55,56,57]:=by decide +kernel
 rw [e] at h
 simp only [List.mem_cons,List.not_mem_nil,or_false] at h
 omega
theorem str_ext {a b:Str} (h:a.cps.toList=b.cps.toList):a=b:=by
 obtain ⟨⟨a⟩⟩:=a
 obtain ⟨⟨b⟩⟩:=b
 simp at h
 rw [h]
theorem len_list (w:Str):w.length=w.cps.toList.length:=by simp [Str.length]
theorem minus_cps:("-" : Str).cps.toList=[45]:=by decide +kernel
theorem starts_minus (w:Str):Txt.startswith w "-" = decide (w.cps.toList.head? = some 45):=by
 have e1:("-" : Str).length=1:=by decide +kernel
 have e2:("-" : Str).cps = #[45]:=by decide +kernel
 unfold Txt.startswith Builtin.Str.subAt
 rw [e1,e2]
 obtain ⟨⟨l⟩⟩:=w
 cases l with
 | nil => rfl
 | cons c l =>
  have:decide (0 + 1 ≤ Str.length ⟨⟨c :: l⟩⟩)=true:=decide_eq_true (by simp [Str.length])
  rw [this]
  simp
  exact Bool.beq_eq_decide_eq _ _
theorem bare_pos {w:Str} (h:Txt.startswith w "-" = true):1 ≤ w.length∧∃ cs,w.cps.toList=45 :: cs∧(subS w 1 w.length).cps.toList=cs:=by
 rw [starts_minus] at h
 have h:=of_decide_eq_true h
 cases e:w.cps.toList with
 | nil => rw [e] at h; cases h
 | cons c cs =>
  rw [e] at h
  cases h
  refine ⟨by rw [len_list,e]; simp,cs,rfl,?_⟩
  unfold subS
  rw [List.toList_toArray,e,len_list,e]
  simp
theorem num_val {w:Str} (h:isNum w=true) (hl:w.length ≤ 6000):PySem.intText? w=some (numI w)∧w.length ≤ 61:=by
 unfold isNum digsB at h
 rw [Bool.and_eq_true,Bool.and_eq_true] at h
 obtain ⟨⟨h1,h2⟩,_⟩:=h
 have h1:=of_decide_eq_true h1
 have ad:PySem.NumText.AllDigits (bareS w).cps.toList:=fun d hd => dg_of (List.all_eq_true.mp h2 d hd)
 have ne:(bareS w).cps.toList ≠ []:=fun z => by rw [len_list,z] at h1; exact absurd h1.1 (by decide)
 have wl:w.length ≤ 61:=by
  by_cases hs:Txt.startswith w "-" = true
  ·obtain ⟨hp,cs,e1,e2⟩:=bare_pos hs
   have eb:bareS w=subS w 1 w.length:=by unfold bareS; rw [if_pos hs]
   rw [eb,len_list,e2] at h1
   rw [len_list,e1,List.length_cons]
   omega
  ·have eb:bareS w=w:=by unfold bareS; rw [if_neg hs]
   rw [eb] at h1
   omega
 have key:∃ n,PySem.intText? w=some n:=by
  by_cases hs:Txt.startswith w "-" = true
  ·obtain ⟨hp,cs,e1,e2⟩:=bare_pos hs
   have eb:bareS w=subS w 1 w.length:=by unfold bareS; rw [if_pos hs]
   rw [eb,e2] at ad ne
   exact ⟨_,PySem.intText_neg e1 ad ne (by omega)⟩
  ·have eb:bareS w=w:=by unfold bareS; rw [if_neg hs]
   rw [eb] at ad ne
   exact ⟨_,PySem.intText_digits ad ne (by omega)⟩
 obtain ⟨n,hn⟩:=key
 exact ⟨by unfold numI; rw [hn]; rfl,wl⟩
def tDigs (K:PySem.W.Frag):TT:=(tOr (tNot (tTest (tChain (rI0 fun i j => V.bl (decide (i ≤ j))) (rI0 fun i j => V.bl (decide (i ≤ j))) (tC (V.int 1)) (tCB (fun xs H Q => ∃ z,xs=[V.str z]∧z.length ≤ sizeLine∧Q (V.int (z.length:Int)) H) (tCons (tVar 1) tNil)) (tC (V.int 60))))) (tNot (tB (tCB (fun xs H_1 Q => ∃ p bs,xs=[V.ref p]∧SqL K H_1 p (List.map V.bl bs)∧Q (V.bl (bs.all id)) H_1) (tCons (tCompG 1 (iStr (tVar 1)) (gName 0) tYes (tOp (fun x y H Q => ∃ i j,x=V.str i∧y=V.str j∧Q (V.bl (!(Builtin.Str.occurrences j i 0 j.length 1).isEmpty)) H) (tVar 0) (tC (V.str ("0123456789"))))) tNil)))))
theorem digs_reads {K:PySem.W.Frag} {H:Hp} {Q:Bool→Hp→Prop} {b:Str} {σ:L2.St} (e1:σ[1]? = some (some (.str b))) (bl:b.length ≤ 6000) (k:∀ H',Same H H'→Q (!digsB b) H'):tDigs K σ H Q:=by
 have bs:b.length ≤ sizeLine:=Nat.le_trans bl (by decide)
 have cs:b.cps.size=b.length:=rfl
 refine ⟨_,e1,b,rfl,bs,1,(b.length:Int),rfl,rfl,?_⟩
 refine ⟨_,rfl,?_⟩
 have rest:∀ (h1:1 ≤ b.length∧b.length ≤ 60),tNot (tB (tCB (fun xs H_1 Q => ∃ p bs,xs=[V.ref p]∧SqL K H_1 p (List.map V.bl bs)∧Q (V.bl (bs.all id)) H_1) (tCons (tCompG 1 (iStr (tVar 1)) (gName 0) tYes (tOp (fun x y H Q => ∃ i j,x=V.str i∧y=V.str j∧Q (V.bl (!(Builtin.Str.occurrences j i 0 j.length 1).isEmpty)) H) (tVar 0) (tC (V.str "0123456789")))) tNil))) σ H Q:=fun h1 => by
  refine ⟨_,e1,b,rfl,compX (x:=b) (fun n ys H' => ys=((b.cps.toList.take n).map isDg).map V.bl∧H=H') ⟨rfl,rfl⟩ (by omega) (fun n ys H' h => by rw [h.1,List.length_map,List.length_map,List.length_take]; exact Nat.min_le_left _ _) ?_ ?_⟩
  ·rintro n c ys H' pre hpl hc ⟨rfl,rfl⟩
   have hc' : b.cps.toList[n]? = some c:=by rw [Array.getElem?_toList]; exact hc
   rcases pre with _ | ⟨q0,_ | ⟨q1,pre⟩⟩
   ·cases hpl
   ·refine ⟨⟨[some _],rfl,rfl⟩,?_⟩
    unfold tYes
    dsimp only
    rw [if_pos (rfl:true=true)]
    refine ⟨_,rfl,_,_,rfl,rfl,?_,rfl⟩
    rw [StrLaws.found_one,take_succ' hc',List.map_append,List.map_append]
    rfl
   ·cases hpl
  ·rintro ys H' ⟨rfl,rfl⟩ D hD
   have e:b.cps.toList.take b.cps.size=b.cps.toList:=List.take_of_length_le (by simp)
   rw [e]
   refine ⟨D,_,rfl,SqL.of upd_same,_,rfl,?_⟩
   have:=k _ (Same.nw (o:=.lst ((b.cps.toList.map isDg).map V.bl)) (Same.refl H) hD)
   unfold digsB at this
   rw [decide_eq_true h1,Bool.true_and] at this
   show Q (!((b.cps.toList.map isDg).all id)) _
   rw [show ((b.cps.toList.map isDg).all id)=b.cps.toList.all isDg by rw [List.all_map]; rfl]
   exact this
 by_cases c1:1 ≤ b.length
 ·rw [decide_eq_true (show (1:Int) ≤ (b.length:Int) by omega)]
  refine iteT ⟨(b.length:Int),60,rfl,rfl,_,rfl,?_⟩
  by_cases c2:b.length ≤ 60
  ·rw [decide_eq_true (show (b.length:Int) ≤ 60 by omega)]
   exact iteF (rest ⟨c1,c2⟩)
  ·rw [decide_eq_false (show ¬ (b.length:Int) ≤ 60 by omega)]
   have:=k H (Same.refl H)
   unfold digsB at this
   rw [decide_eq_false (fun z => c2 z.2)] at this
   exact iteT this
 ·rw [decide_eq_false (show ¬ (1:Int) ≤ (b.length:Int) by omega)]
  have:=k H (Same.refl H)
  unfold digsB at this
  rw [decide_eq_false (fun z => c1 z.1)] at this
  exact iteF ⟨_,rfl,iteT this⟩
def spIsNum:Sp:=fun vs H Q _ => ∃ w:Str,vs=[.str w]∧w.length ≤ 6000∧∀ H',Same H H'→Q (.bl (isNum w)) H'
def tIsNum (K:PySem.W.Frag):TS:=tSeq (tAsg (tIf (tB (tBM K "str" (fun x vs H Q => ∃ z y,x=V.str z∧vs=[V.str y]∧Q (V.bl (Txt.startswith z y)) H) (tVar 0) (tCons (tC (V.str ("-"))) tNil))) (tSl rSlS (tVar 0) (tPart (tC (V.int 1))) tNoPart) (tVar 0)) (gName 1)) (tSeq (tIfS (tDigs K) (tRet (tC (V.bl false))) tNext) (tRet (tOrV (tOp rNe (tOp rIxS (tVar 1) (tC (V.int 0))) (tC (V.str ("0")))) (tOp rEq (tVar 0) (tC (V.str ("0")))))))
theorem zero_cps:("0" : Str)=⟨#[48]⟩:=by decide +kernel
theorem first_is {b:Str} {c:Nat} (h:b.cps.toList.head? = some c):atI b.cps.toList 0=some c:=atI_nat (j:=0) (by rw [← List.head?_eq_getElem?]; exact h)
theorem one_ne {c:Nat} : decide (V.str ⟨#[c]⟩=V.str "0")=decide (c=48):=by
 rw [zero_cps]
 by_cases h:c=48
 ·subst h; rw [decide_eq_true rfl,decide_eq_true rfl]
 ·rw [decide_eq_false h,decide_eq_false (fun z => h (by injection z with z; injection z with z; simpa using z))]
theorem head_of {b:Str} (h:digsB b=true):∃ c,b.cps.toList.head? = some c:=by
 unfold digsB at h
 rw [Bool.and_eq_true] at h
 have h1:=of_decide_eq_true h.1
 cases e:b.cps.toList with
 | nil => rw [len_list,e] at h1; exact absurd h1.1 (by decide)
 | cons c cs => exact ⟨c,rfl⟩
theorem bare_len (w:Str):(bareS w).length ≤ w.length:=by
 unfold bareS
 split
 ·unfold subS
  rw [len_list,List.toList_toArray,List.length_take,List.length_drop,← len_list]
  omega
 ·exact Nat.le_refl _
theorem isnum_reads {K:PySem.W.Frag} {H:Hp} {Q:VK} {Z:L2.St→Hp→Prop} {w:Str} (wl:w.length ≤ 6000) (k:∀ H',Same H H'→Q (.bl (isNum w)) H'):tIsNum K { nx:=Z,rt:=Q } [some (.str w),none] H:=by
 have ws:w.length ≤ sizeLine:=Nat.le_trans wl (by decide)
 have rest:tSeq (tIfS (tDigs K) (tRet (tC (V.bl false))) tNext) (tRet (tOrV (tOp rNe (tOp rIxS (tVar 1) (tC (V.int 0))) (tC (V.str "0"))) (tOp rEq (tVar 0) (tC (V.str "0"))))) { nx:=Z,rt:=Q } [some (.str w),some (.str (bareS w))] H:=by
  refine digs_reads (K:=K) (b:=bareS w) rfl (Nat.le_trans (bare_len w) wl) fun H1 s1 => ?_
  have:=k H1 s1
  unfold isNum at this
  cases hd:digsB (bareS w) with
  | false => rw [hd] at this; exact iteT this
  | true =>
   rw [hd,Bool.true_and] at this
   obtain ⟨c,hc⟩:=head_of hd
   refine iteF ?_
   refine ⟨_,rfl,bareS w,0,c,rfl,rfl,Nat.le_trans (bare_len w) ws,first_is hc,rfl,_,rfl,?_⟩
   rw [one_ne]
   rw [hc] at this
   by_cases c0:c=48
   ·subst c0
    rw [decide_eq_true rfl]
    refine iteF ⟨_,rfl,rfl,?_⟩
    rw [show (some 48 != some (48:Nat))=false from rfl,Bool.false_or] at this
    rw [show decide (V.str w=V.str "0")=decide (w = "0") by by_cases z:w = "0" <;> simp [z]]
    exact this
   ·rw [decide_eq_false c0]
    rw [show (some c != some 48)=true by simpa using c0,Bool.true_or] at this
    exact iteT this
 refine ⟨_,rfl,rfl,w, "-",rfl,rfl,_,rfl,?_⟩
 by_cases hs:Txt.startswith w "-" = true
 ·rw [hs]
  obtain ⟨hp,_⟩:=bare_pos hs
  refine iteT ⟨_,rfl,1,rfl,w,1,w.length,rfl,.inr ⟨1,rfl,by omega⟩,.inl ⟨rfl,rfl⟩,hp,ws,?_⟩
  have eb:bareS w=subS w 1 w.length:=by unfold bareS; rw [if_pos hs]
  rw [eb] at rest
  exact rest
 ·rw [Bool.eq_false_iff.mpr hs]
  have eb:bareS w=w:=by unfold bareS; rw [if_neg hs]
  rw [eb] at rest
  exact iteF ⟨_,rfl,rest⟩
def figV (w:Str):V:=if isNum w=true then .int (numI w) else .non
def spFig:Sp:=fun vs H Q _ => ∃ w:Str,vs=[.str w]∧w.length ≤ 6000∧∀ H',Same H H'→Q (figV w) H'
def tFig (K:PySem.W.Frag):TS:=tSeq (tAsg (tSl rSlS (tVar 0) (tPart (tCB (fun xs H Q => (∃ i,xs=[V.int i]∧Q (V.int i) H) ∨ ∃ k,xs=[V.bl k]∧Q (V.int (if k=true then 1 else 0)) H) (tCons (tOp rEq (tSl rSlS (tVar 0) tNoPart (tPart (tC (V.int 1)))) (tC (V.str ("-")))) tNil))) tNoPart) (gName 1)) (tSeq (tIfS (tDigs K) (tRet (tC V.non)) tNext) (tSeq (tIfS (tAnd (tTest (tOp rEq (tOp rIxS (tVar 1) (tC (V.int 0))) (tC (V.str ("0"))))) (tTest (tOp rNe (tVar 0) (tC (V.str ("0")))))) (tRet (tC V.non)) tNext) (tRet (tCB (fun xs H Q => ∃ z n,xs=[V.str z]∧intText? z=some n∧z.length ≤ 640∧Q (V.int n) H) (tCons (tVar 0) tNil)))))
theorem sub_one (w:Str):decide (V.str (subS w 0 (min 1 w.length))=V.str "-")=Txt.startswith w "-" := by
 rw [starts_minus]
 have key:(V.str (subS w 0 (min 1 w.length))=V.str "-") ↔ w.cps.toList.head? = some 45:=by
  constructor
  ·intro h
   injection h with h
   have h2:=congrArg (fun s:Str => s.cps.toList) h
   have e:(subS w 0 (min 1 w.length)).cps.toList=w.cps.toList.take (min 1 w.length):=by unfold subS; rw [List.toList_toArray]; simp
   have h2:(subS w 0 (min 1 w.length)).cps.toList=("-" : Str).cps.toList:=h2
   rw [e,minus_cps] at h2
   cases e3:w.cps.toList with
   | nil => rw [e3] at h2; simp at h2
   | cons c cs =>
    rw [e3,len_list,e3] at h2
    simp at h2
    rw [h2]; rfl
  ·intro h
   congr 1
   refine str_ext ?_
   have e:(subS w 0 (min 1 w.length)).cps.toList=w.cps.toList.take (min 1 w.length):=by unfold subS; rw [List.toList_toArray]; simp
   rw [e,minus_cps]
   cases e3:w.cps.toList with
   | nil => rw [e3] at h; cases h
   | cons c cs =>
    rw [e3] at h
    cases h
    rw [len_list,e3]
    simp
 by_cases h:w.cps.toList.head? = some 45
 ·rw [decide_eq_true h,decide_eq_true (key.mpr h)]
 ·rw [decide_eq_false h,decide_eq_false (fun z => h (key.mp z))]
theorem fig_reads {K:PySem.W.Frag} {H:Hp} {Q:VK} {Z:L2.St→Hp→Prop} {w:Str} (wl:w.length ≤ 6000) (k:∀ H',Same H H'→Q (figV w) H'):tFig K { nx:=Z,rt:=Q } [some (.str w),none] H:=by
 have ws:w.length ≤ sizeLine:=Nat.le_trans wl (by decide)
 have rest:tSeq (tIfS (tDigs K) (tRet (tC V.non)) tNext) (tSeq (tIfS (tAnd (tTest (tOp rEq (tOp rIxS (tVar 1) (tC (V.int 0))) (tC (V.str "0")))) (tTest (tOp rNe (tVar 0) (tC (V.str "0"))))) (tRet (tC V.non)) tNext) (tRet (tCB (fun xs H Q => ∃ z n,xs=[V.str z]∧intText? z=some n∧z.length ≤ 640∧Q (V.int n) H) (tCons (tVar 0) tNil)))) { nx:=Z,rt:=Q } [some (.str w),some (.str (bareS w))] H:=by
  refine digs_reads (K:=K) (b:=bareS w) rfl (Nat.le_trans (bare_len w) wl) fun H1 s1 => ?_
  have:=k H1 s1
  unfold figV at this
  cases hd:digsB (bareS w) with
  | false =>
   have en:isNum w=false:=by unfold isNum; rw [hd]; rfl
   rw [en] at this
   exact iteT this
  | true =>
   obtain ⟨c,hc⟩:=head_of hd
   refine iteF ?_
   refine ⟨_,rfl,bareS w,0,c,rfl,rfl,Nat.le_trans (bare_len w) ws,first_is hc,rfl,_,rfl,?_⟩
   rw [one_ne]
   have fin:isNum w=true→tRet (tCB (fun xs H Q => ∃ z n,xs=[V.str z]∧intText? z=some n∧z.length ≤ 640∧Q (V.int n) H) (tCons (tVar 0) tNil)) { nx:=Z,rt:=Q } [some (.str w),some (.str (bareS w))] H1:=fun en => by
    rw [en,if_pos rfl] at this
    obtain ⟨v1,v2⟩:=num_val en (by omega)
    exact ⟨_,rfl,w,numI w,rfl,v1,by omega,this⟩
   by_cases c0:c=48
   ·subst c0
    rw [decide_eq_true rfl]
    refine iteT ⟨_,rfl,rfl,_,rfl,?_⟩
    rw [show decide (V.str w=V.str "0")=decide (w = "0") by by_cases z:w = "0" <;> simp [z]]
    by_cases z:w = "0"
    ·rw [decide_eq_true z]
     refine iteF (fin ?_)
     unfold isNum
     rw [hd,decide_eq_true z]
     simp
    ·rw [decide_eq_false z]
     have en:isNum w=false:=by unfold isNum; rw [hd,hc,decide_eq_false z]; rfl
     rw [en] at this
     exact iteT this
   ·rw [decide_eq_false c0]
    refine iteF (iteF (fin ?_))
    unfold isNum
    rw [hd,hc,show (some c != some 48)=true by simpa using c0]
    rfl
 refine ⟨_,rfl,_,rfl,1,rfl,w,0,min 1 w.length,rfl,.inl ⟨rfl,rfl⟩,.inr ⟨1,rfl,rfl⟩,Nat.zero_le _,ws,rfl,.inr ⟨_,rfl,_,rfl,w,if Txt.startswith w "-" = true then 1 else 0,w.length,rfl,.inr ⟨if Txt.startswith w "-" = true then 1 else 0,?_,?_⟩,.inl ⟨rfl,rfl⟩,?_,ws,?_⟩⟩
 ·rw [sub_one]
  split <;> rfl
 ·split
  ·have:=(bare_pos (by assumption)).1; omega
  ·omega
 ·split
  ·exact (bare_pos (by assumption)).1
  ·exact Nat.zero_le _
 ·have eb:subS w (if Txt.startswith w "-" = true then 1 else 0) w.length=bareS w:=by
   unfold bareS
   split
   ·rfl
   ·refine str_ext ?_
    unfold subS
    rw [List.toList_toArray,List.drop_zero,Nat.sub_zero]
    exact List.take_of_length_le (by rw [len_list]; exact Nat.le_refl _)
  rw [eb]
  exact rest
end L2
namespace L2
open PySem PySem.Spec PyProof.Rows
theorem smallW {n:Nat} (h:n ≤ 100000):n < sizeLine:=Nat.lt_of_le_of_lt h (by decide)
theorem compLW {K:PySem.W.Frag} {k:Nat} {a:Addr} {xs:List V} {g:TG} {tt:TT} {te:TE} {Q:VK} {σ:St} {H:Hp} (Pv:Nat→List V→Hp→Prop) (h0:Pv 0 [] H) (hb:xs.length ≤ 100000) (hz:∀ i ys H,Pv i ys H→ys.length ≤ i) (hl:∀ i ys H,i ≤ xs.length→Pv i ys H→SqL K H a xs)
  (hs:∀ i x ys H (pre:St),pre.length=k→xs[i]? = some x→Pv i ys H→g x (pre ++ σ) H fun σ' H2 => (∃ pre' : St,σ' = pre' ++ σ∧pre'.length=k)∧tt σ' H2 fun ok H3 => if ok=true then te σ' H3 fun y H4 => Pv (i + 1) (ys ++ [y]) H4 else Pv (i + 1) ys H3) (hd:∀ ys H,Pv xs.length ys H→∀ D,H D=none→Q (.ref D) (upd H D (.lst ys))):CGo k (Itl K a) g tt te Q σ H:=by
 refine ⟨fun i m ys H => m=xs.length - i∧i ≤ xs.length∧Pv i ys H,⟨xs.length,by simp,Nat.zero_le _,h0⟩,?_⟩
 rintro i m ys H ⟨rfl,hi,p⟩
 have q:=hl i ys H hi p
 by_cases hlt:i < xs.length
 ·refine .inr ⟨⟨xs,xs[i],q,by simp [hlt]⟩,Nat.lt_of_le_of_lt (hz i ys H p) (smallW (by omega)),Pv (i + 1),fun zs H' p' => ⟨xs.length - (i + 1),by omega,rfl,hlt,p'⟩,fun x H' pre hp y => ?_⟩
  obtain ⟨e,y⟩:=y
  subst e
  exact hs i x ys _ pre hp (y xs q) p
 ·have e:i=xs.length:=by omega
  subst e
  exact .inl ⟨⟨xs,q,Nat.le_refl _⟩,hd ys H p⟩
end L2
namespace L2
open PySem PySem.Spec PyProof.Rows
structure XCls (K:PySem.W.Frag) (C:Addr):Prop where
 ga:PySem.W.findIn K (.ref C) "__getattribute__" = some (some (.builtin "BaseException.__getattribute__"))
 na:PySem.W.findIn K (.ref C) "__getattr__" = some none
 cl:PySem.W.findIn K (.ref C) "__class__" = some (some (.builtin "object.__class__"))
 be:PySem.W.subIn K (.ref C) (.type "BaseException")=some true
 ob:PySem.W.subIn K (.ref C) (.type "object")=some true
 ty:PySem.W.typeIn K (.ref C)=some (.type "type")
 co:(PySem.W.clsIn K C).isSome=true
 rf:PySem.W.subIn K (.ref C) (.ref C)=some true
section
variable {prog:Program} {w:World} {A:Around} {E:Value→Shared→Prop} {h:Heap} {g:Array GenState} {d:Drawn} {t:Nat} {os:OsState} {a C:Addr} {o:Obj} {K:PySem.W.Frag}
theorem xc_get {R:Result→Shared→Prop} (X:K.In h) (c:XCls K C) (hx:h.get? a=some o) (hc:o.cls = .ref C) (hq:R (.ok (.ret (.ref C))) ⟨h,g,d,t,os⟩) :
  codeAny (model prog w) A (.call (.builtin "getset_descriptor.__get__") ⟨[.builtin "object.__class__",.ref a,.ref C],[]⟩) R ⟨h,g,d,t,os⟩:=by
 have hT5:(⟨h,g,d,t,os⟩:Shared).TypeIs (.builtin "object.__class__") "getset_descriptor" := F.typeOf_object_class
 have hs:PySem.W.Looks (model prog w) h (isSubtype (.ref C) (.type (".".intercalate ("object.__class__".cutAt '.').dropLast))) true:=by
  rw [F.owner_object_class]
  exact PySem.W.looks_subIn X c.ob
 refine codeAny_call_builtin F.slot_gs_get.plain F.entry_gs_get (F.slot_gs_get.check _ _ _ _ _ _ _ _ hT5 (F.args_gs_get _ _ _) ?_)
 repeat (any_goals (first | assumption | (with_reducible refine wpAny_loadPart_at hx ?_; rw [hc]) | with_reducible refine hs.at ?_ | wp_step))
 refine ⟨Code.quiet_builtin _ (by decide +kernel),codeAny_builtin F.entry_object_class ?_⟩
 repeat (any_goals (first | assumption | (with_reducible refine wpAny_loadPart_at hx ?_; rw [hc]) | wp_step))
theorem xc_entry {tk:Tok} {Q:Fin→Shared→Prop} (X:K.In h) (c:XCls K C) (hx:h.get? a=some o) (hc:o.cls = .ref C) (hq:Q (.done (.ret (.ref C))) ⟨h,g,d,t,os⟩) :
  wpAny (model prog w) A (Builtin.«object.__getattribute__» ⟨[.ref a,.str "__class__" tk],[]⟩) Q E ⟨h,g,d,t,os⟩:=by
 have hT5:(⟨h,g,d,t,os⟩:Shared).TypeIs (.builtin "object.__class__") "getset_descriptor" := F.typeOf_object_class
 have f4:PySem.W.Looks (model prog w) h (typeLookup (.ref C) "__class__") _:=PySem.W.looks_findIn X c.cl
 have f5:=F.typeOf_object_class
 have f6:=F.slot_gs_get.lookup
 have f7:=F.slot_gs_set.lookup
 repeat (any_goals (first | assumption | (with_reducible refine wpAny_loadPart_at hx ?_; rw [hc]) | with_reducible refine f4.at ?_ | wp_step))
 refine xc_get X c hx hc ?_
 repeat (any_goals (first | assumption | wp_step))
theorem xc_check {M:Model} {nameV:Value} {Q:Unit→Shared→Prop} (X:K.In h) (c:XCls K C) (hx:h.get? a=some o) (hc:o.cls = .ref C) (hq:Q () ⟨h,g,d,t,os⟩):wpAny M A (checkBuiltinCall "BaseException.__getattribute__" ⟨[.ref a,nameV],[]⟩) Q E ⟨h,g,d,t,os⟩:=by
 have hk:builtinKind "BaseException.__getattribute__" = some .slot:=by decide +kernel
 have hsplit:splitId "BaseException.__getattribute__" = some ("BaseException", "__getattribute__"):=by decide +kernel
 have hs:PySem.W.Looks M h (isSubtype (.ref C) (.type "BaseException")) true:=PySem.W.looks_subIn X c.be
 have ha:=F.args_bexc_ga (.ref a) nameV
 simp only [checkBuiltinCall,hk,hsplit]
 refine wpAny_bind ?_
 ·unfold isInstance
  repeat (first | (with_reducible refine wpAny_loadPart_at hx ?_; rw [hc]) | with_reducible refine hs.at ?_ | wp_step)
  exact hq
theorem xc_call {tk:Tok} {R:Result→Shared→Prop} (X:K.In h) (c:XCls K C) (hx:h.get? a=some o) (hc:o.cls = .ref C) (hq:R (.ok (.ret (.ref C))) ⟨h,g,d,t,os⟩) :
  codeAny (model prog w) A (.call (.builtin "BaseException.__getattribute__") ⟨[.ref a,.str "__class__" tk],[]⟩) R ⟨h,g,d,t,os⟩ :=
 codeAny_call_builtin (PySem.F.attr_ValueError).ga.plain F.entry_bexc_ga (xc_check X c hx hc (xc_entry X c hx hc hq))
theorem xc_by {tk:Tok} {Q:Value→Shared→Prop} (X:K.In h) (c:XCls K C) (hx:h.get? a=some o) (hc:o.cls = .ref C) (hq:Q (.ref C) ⟨h,g,d,t,os⟩) :
  wpAny (model prog w) A (getAttrBy (.ref a) (.str "__class__" tk) false) Q E ⟨h,g,d,t,os⟩:=by
 have f3:=(PySem.F.attr_ValueError).ga.bind (.ref a)
 have hx2:(Value.builtin "BaseException.__getattribute__" == Value.builtin "object.__getattribute__")=false:=by decide +kernel
 have hx1:(onTheHeap (Value.ref C) && Value.builtin "BaseException.__getattribute__" == Value.builtin "object.__getattribute__")=false:=by rw [hx2]; rfl
 have f1:PySem.W.Looks (model prog w) h (typeLookup (.ref C) "__getattribute__") _:=PySem.W.looks_findIn X c.ga
 have f2:PySem.W.Looks (model prog w) h (typeLookup (.ref C) "__getattr__") _:=PySem.W.looks_findIn X c.na
 repeat (any_goals (first | assumption | (with_reducible refine wpAny_loadPart_at hx ?_; rw [hc]) | with_reducible refine f1.at ?_ | with_reducible refine f2.at ?_ | wp_step))
 refine xc_call X c hx hc ?_
 repeat (any_goals (first | assumption | wp_step))
theorem xc_attr {Q:Option Value→Shared→Prop} (X:K.In h) (c:XCls K C) (hx:h.get? a=some o) (hc:o.cls = .ref C) (hq:Q (some (.ref C)) ⟨h,g,d,t + 1,os⟩):wpAny (model prog w) A (getAttr? (.ref a) "__class__") Q E ⟨h,g,d,t,os⟩:=by
 unfold getAttr? getAttrBy?
 repeat (any_goals (first | assumption | with_reducible apply xc_by X c hx hc | wp_step))
end
theorem kitx_exc {K:PySem.W.Frag} {a C:Addr} (c:XCls K C):PySem.W.KitX K (.ref a) (.ref C) (fun h => ∃ o,h.get? a=some o∧o.cls = .ref C) where
 ty:=fun M h _ ⟨o,h1,h2⟩ => h2 ▸ (PySem.W.Looks.ld h1).andThen .now
 it:=fun M h X _ => by
  have z:=c.co
  unfold PySem.W.clsIn at z
  split at z
  ·rename_i c' d' cd' sl' ho
   intro A' Q' E' s' k q
   unfold isType loadHead
   exact wpAny_bind (wpAny_loadPart (k _ _ (X _ _ ho)) (wpAny_pure q))
  ·cases z
 ne:=fun h tp dd its n sl X htp => by
  have z:=c.co
  refine Bool.eq_false_iff.mpr fun q => ?_
  have e:C=tp:=Value.ref.inj (beq_iff_eq.mp q)
  subst e
  unfold PySem.W.clsIn at z
  split at z
  ·rename_i c' d' cd' sl' ho
   have z:=(X _ _ ho).symm.trans htp
   cases z
  ·cases z
 ca:=fun {_ _ _ _ _ s} X ⟨o,h1,h2⟩ k => by
  obtain ⟨h,g,d,t,os⟩:=s
  exact xc_attr X c h1 h2 k
end L2
namespace L2
open PySem PySem.Spec PyProof.Rows
def CXE (P:Program) (w:World):CXT:=fun outer H s E e s' => ∃ (a C:Addr) (a0:Value) (B:Heap) (H' : Hp),e = .ref a∧s'.os=s.os∧AllBare s'.gens∧Un (frs outer) [] H H' s.heap s'.heap∧HOk P w H' s'.heap ∧
 Heap.FlyingW B outer a (.ref C) a0 s'.heap∧(∀ b o,s.heap.get? b=some o→b ∉ frs outer→∃ o',B.get? b=some o')∧(∀ b o,H' b=some o→∃ o',B.get? b=some o')∧E (.ref C) none H'
theorem ObjOk.there {P:Program} {w:World} {H:Hp} {h:Heap} {a:Addr} {o:HO} (x:ObjOk P w H h a o):∃ ob,h.get? a=some ob:=by
 cases o with
 | lst xs => obtain ⟨_,_,_,_,e⟩:=x; exact ⟨_,e⟩
 | tup xs => obtain ⟨_,_,_,o,e,_⟩:=x; exact ⟨_,e⟩
 | dK kvs => obtain ⟨_,_,_,_,o,_,_,e,_⟩:=x; exact ⟨_,e⟩
 | dT kvs => obtain ⟨_,_,_,_,o,_,_,e,_⟩:=x; exact ⟨_,e⟩
 | set S n => obtain ⟨o,_,_,_,e,_⟩:=x; exact ⟨_,e⟩
 | ins C dx fs => obtain ⟨_,_,_,e,_⟩:=x; exact ⟨_,e⟩
 | own y => exact x
 | xd fs => obtain ⟨_,⟨_,_,_,e,_⟩,_⟩:=x; exact ⟨_,e⟩
 | rng lo hi => obtain ⟨_,_,_,e⟩:=x; exact ⟨_,e⟩
 | frz ob u => exact ⟨_,x.1⟩
 | tbl ps => exact ⟨_,x⟩
 | met f y => exact ⟨_,x⟩
 | ext φ => exact x.2.1
section
variable {X:Cx} {pins:List (Addr × Obj)} {σ:St} {H1 H' : Hp} {s1:Shared} {h1 h' B:Heap}
theorem leave_un (I:Inv X pins σ H1 s1) (hex:X.ex=[]) (u:Un (frs X.stack) [] H1 H' s1.heap h1) (hok:HOk X.prog X.w H' h1) (b1:B.StaysIn h1) (b2:B.StaysIn h') (sm:h1.UpToSlots h')
  (c1:∀ b o,s1.heap.get? b=some o→b ∉ frs X.stack→∃ o',B.get? b=some o') (c2:∀ b o,H' b=some o→∃ o',B.get? b=some o') :
  Un X.fs [] X.H₀ H' X.s₀.heap h'∧HOk X.prog X.w H' h'∧∀ b o,X.s₀.heap.get? b=some o→b ∉ X.fs→∃ o',B.get? b=some o':=by
 have nex:∀ b:Addr,b ∉ X.ex:=fun b z => by rw [hex] at z; cases z
 have c0:∀ b o,X.s₀.heap.get? b=some o→b ∉ X.fs→∃ o',B.get? b=some o':=fun b o e hb => by
  obtain ⟨o1,e1⟩:=I.base.there b o e (nex b)
  refine c1 b o1 e1 fun z => ?_
  rcases List.mem_cons.mp (I.stkSub b z) with q | q
  ·exact absurd (Nat.lt_of_lt_of_le (Heap.lt_size e) I.ok.above) (by rw [q]; exact Nat.lt_irrefl _)
  ·exact hb q
 have J:=(I.call (g':=s1.gens) (t':=s1.toks) (d':=s1.drawn) (ch:=[]) u hok I.bare (fun b z => nomatch z)).base
 rw [hex] at J
 have same:∀ b o,h1.get? b=some o→(∃ o',B.get? b=some o')→h'.get? b=some o:=fun b o e ⟨o',q⟩ => by
  have:=b1 b o' q
  rw [e] at this
  cases this
  exact b2 b _ q
 have frm:∀ b ∈ X.fs,∀ o,h1.get? b=some o→∃ sl,h'.get? b=some { o with slots:=sl }:=fun b hb o e => by
  obtain ⟨_,o0,e0,hd⟩:=I.ok.funs.mem hb
  obtain ⟨sl,e1⟩:=J.slot b o0 e0 (I.ok.frf b hb) hb (by simp)
  have e1:h1.get? b=some _:=e1
  rw [e] at e1
  cases e1
  exact sm b _ e hd
 refine ⟨⟨fun b o e n hb _ => ?_,fun b o e n hb _ => ?_,J.free,fun b o e _ => ?_,J.tups,J.frzs,J.tbls⟩,fun b u' e => ?_,c0⟩
 ·exact same b o (J.keep b o e n hb (by simp)) (c0 b o e hb)
 ·obtain ⟨sl,e1⟩:=J.slot b o e n hb (by simp)
  obtain ⟨sl',e2⟩:=frm b hb _ e1
  exact ⟨sl',e2⟩
 ·obtain ⟨o1,e1⟩:=J.there b o e (by simp)
  by_cases hb:b ∈ X.fs
  ·obtain ⟨sl,e2⟩:=frm b hb _ e1
   exact ⟨_,e2⟩
  ·exact ⟨o1,same b o1 e1 (c0 b o e hb)⟩
 ·refine (hok b u' e).stay (fun c v hc r => same c v r ?_) (fun _ q => q) fun _ _ q => q
  rcases hc with rfl | hc
  ·exact c2 _ _ e
  ·exact c2 _ _ hc
end
section
variable {P:Program} {w:World} {K:PySem.W.Frag} {mg:Str→Option Value} {base:Heap} {N:List Str} {qual:Str} {scope:Scope} {f:Addr} {cd:Value} {A:Around} {outer:List Env} {s:Shared} {H:Hp} {E:XK}
def PassesX (X:Cx) (Ex:Value→St→Hp→Prop):Prop:=∀ (pins:List (Addr × Obj)) (σ:St) (H:Hp) (s:Shared) (e:Value) (s' : Shared),Inv X pins σ H s→CXE X.prog X.w X.stack H s (fun c _ H' => Ex c σ H') e s'→X.xe e s'
theorem passE:PassesX (cxOf (CXE P w) P w K mg base N qual scope f cd A outer s H E) (fun c _ H' => E c none H'):=by
 rintro pins σ H1 s1 e s' I ⟨a,C,a0,B,H',rfl,ho,hb,un,hok,fl,c1,c2,q⟩
 refine wpAny_leaves_onW (I.ok.frames) rfl fl fun h' fl' sm => ?_
 obtain ⟨u2,hok2,c0⟩:=leave_un I rfl un hok fl.1 fl'.1 sm c1 c2
 exact ⟨a,C,a0,B,H',rfl,ho.trans I.os,hb,u2,hok2,fl',c0,c2,q⟩
def tRaise (E:XK) (C:Addr):TS:=fun _ _ H => E (.ref C) none H
theorem own_of {K:PySem.W.Frag} {h:Heap} {C:Addr} {bmB:List Value} {newId:String} (X:K.In h) (q:PySem.W.excIn K C bmB newId=true) :
  ∃ bm N nm q bs hdct sn sub ab col dd k0 k1 k2 k3 k5 mN,h.get? C=some (excClassObj nm q C N bs bm hdct sn sub ab col dd k0 k1 k2 k3 k5 newId)∧h.Ns N mN∧mN "__init__" = none∧OwnTail h bmB bm:=by
 unfold PySem.W.excIn at q
 split at q
 ·rename_i dd cd sl ho
  split at q
  ·rename_i C' bm k0 k1 k2 k3 n k5 hm hs
   simp only [Bool.and_eq_true,beq_iff_eq,Bool.not_eq_true'] at q
   obtain ⟨⟨⟨⟨⟨rfl,rfl⟩,hdel⟩,ht⟩,hok⟩,hni⟩:=q
   obtain ⟨nm,bs,mro,ns,qn,hd,sn,sub,ab,col,del⟩:=cd
   dsimp only at hm hdel hok hni
   subst hm hdel
   have hsl:sl = #[k0,k1,k2,k3,some (.builtin n),k5]:=by
    obtain ⟨l⟩:=sl
    simp only at hs
    rw [hs]
   subst hsl
   exact ⟨bm,ns,nm,qn,bs,hd,sn,sub,ab,col,dd,k0,k1,k2,k3,k5,_,X _ _ ho,.of_isNs (PySem.W.isNs_of_in X hok),PySem.W.nsMap_none_of_in X hok hni,PySem.W.tail_of_in X ht⟩
  ·cases q
 ·cases q
abbrev bmV:List Value:=[.type "ValueError",.type "Exception",.type "BaseException",.type "object"]
theorem funs_hide {base h:Heap} {as:List Addr} {l:List Env} (hl:h.FunFrames base l) (hin:∀ b ∈ frs l,b ∈ as):h.FunFrames (PySem.W.hideAll h as) l:=by
 refine PySem.W.funFrames_hide hl fun env he a hf => hin a ?_
 exact List.mem_filterMap.mpr ⟨env,he,hf⟩
theorem ps_raise {C:Addr} {x:Str} {np cpos pos:PySem.Pos} {e₀:Expr} {v:V} (hc:PySem.W.excIn K C bmV "ValueError.__new__" = true) (hd:A.handled=none) (hm:mg x=some (.ref C)) (he₀:PE (cxOf (CXE P w) P w K mg base N qual scope f cd A outer s H E) e₀ (tC v))
  (hg:Gl (cxOf (CXE P w) P w K mg base N qual scope f cd A outer s H E) x)
  (he:starEach [e₀] (cxOf (CXE P w) P w K mg base N qual scope f cd A outer s H E).env=(false,eval e₀ (cxOf (CXE P w) P w K mg base N qual scope f cd A outer s H E).env) :: starEach [] (cxOf (CXE P w) P w K mg base N qual scope f cd A outer s H E).env:=by rfl) (hdb:(x == ("__debug__" : Str))=false:=by decide) :
  PS (cxOf (CXE P w) P w K mg base N qual scope f cd A outer s H E) (.Raise (some (.Call (.Name x np) [e₀] [] cpos)) none pos) (tRaise E C):=by
 intro pins s1 σ H1 D I h
 obtain ⟨tl,NN,nm,q,bs,hdct,sn,sub,ab,col,dd,k0,k1,k2,k3,k5,mN,hC,hN,hni,T⟩:=own_of I.ok.mod.kin hc
 refine wpAny_Raise_call_subU (C:=C) (nm:=nm) (q:=q) (N:=NN) (bs:=bs) (bm:=tl) (hdct:=hdct) (sn:=sn) (sub:=sub) (ab:=ab) (col:=col) (dd:=dd) (k0:=k0) (k1:=k1) (k2:=k2) (k3:=k3) (k5:=k5)
  PySem.F.excBase_ValueError (by decide) PySem.F.excBase_ValueError (mN:=mN) (T.hasType PySem.F.excBase_ValueError.hasBase) hd (by rw [he]; rfl) hni (ld_glob I hg hm ⟨rfl,?_⟩ hdb)
 have hp:PA (cxOf (CXE P w) P w K mg base N qual scope f cd A outer s H E) [e₀] (tCons (tC v) tNil):=pa_cons he₀ pa_nil he
 have hs:=hp cpos pins s1 σ H1 (fun vs H' => vs.length=1∧E (.ref C) none H') I ⟨rfl,h⟩
 rw [he] at hs ⊢
 refine Calls.evalArgs_plain (wpAny_mono hs (fun us s2 h2 => ?_) fun _ _ y => y)
 obtain ⟨vs,H2,I2,rv,l1,q2⟩:=h2
 have lu:us.length=1:=by rw [← rv.length]; exact l1
 refine ⟨rfl,by rw [lu]; decide,I2.bk _ _ hC,hN.keeps I2.bk,T.keeps I2.bk,fun h3 e mk => ?_⟩
 have hin:∀ b ∈ frs (cxOf (CXE P w) P w K mg base N qual scope f cd A outer s H E).stack,b ∈ frs (cxOf (CXE P w) P w K mg base N qual scope f cd A outer s H E).stack:=fun b z => z
 refine wpAny_leaves_madeW (h:=s2.heap) (base:=PySem.W.hideAll s2.heap (frs (cxOf (CXE P w) P w K mg base N qual scope f cd A outer s H E).stack)) I2.ok.frames rfl (fun b o z => PySem.W.of_hideAll _ z) (funs_hide I2.stack hin) mk fun h' t fl _ _ sm => ?_
 have c1:∀ b o,s2.heap.get? b=some o→b ∉ frs (cxOf (CXE P w) P w K mg base N qual scope f cd A outer s H E).stack→∃ o',(PySem.W.hideAll s2.heap (frs (cxOf (CXE P w) P w K mg base N qual scope f cd A outer s H E).stack)).get? b=some o':=fun b o z n => ⟨o,PySem.W.hideAll_get _ z n⟩
 have c2:∀ b o,H2 b=some o→∃ o',(PySem.W.hideAll s2.heap (frs (cxOf (CXE P w) P w K mg base N qual scope f cd A outer s H E).stack)).get? b=some o':=fun b o z => by
  obtain ⟨o',e'⟩:=ObjOk.there (I2.hok b o z)
  exact c1 b o' e' fun n => by rw [I2.stkFree b n] at z; cases z
 obtain ⟨u2,hok2,c0⟩:=leave_un I2 rfl (Un.kept mk.keeps) (I2.hok.kept mk.keeps) (fun b o z => mk.keeps b o (PySem.W.of_hideAll _ z)) fl.1 sm c1 c2
 exact ⟨e,C,_,_,H2,rfl,I2.os,I2.bare,u2,hok2,fl,c0,c2,q2⟩
end
end L2
namespace L2
open PySem PySem.Spec PyProof.Rows
structure KnX (P:Program) (w:World) (K:PySem.W.Frag) (mg:Str→Option Value) (base:Heap) (x:Str) (k:Nat) (ps:List Str) (sp:Sp):Prop where
 ex:∃ (f:Addr) (fd:FuncData),FnOk P w K mg base (CXE P w) k f fd ps sp∧mg x=some (.ref f)∧PySem.W.keepIn K (.ref f)=true∧Binds K fd ps []
def tCallX (sp:Sp) (Ex:Value→St→Hp→Prop) (t:TA):TE:=fun σ H Q => t σ H fun vs H1 => sp vs H1 Q (fun c _ H' => Ex c σ H')
theorem pe_callX {X:Cx} {x:Str} {k j:Nat} {ps:List Str} {sp:Sp} {e:Expr} {es:List Expr} {t:TA} {p pos:PySem.Pos} {Ex:Value→St→Hp→Prop} (G:KnX X.prog X.w X.K X.mg X.base x k ps sp) (px:PassesX X Ex) (hr:Room j X.A) (hg:Gl X x) (ha:PA X (e :: es) t) (hle:k ≤ j:=by decide)
  (hdb:(x == ("__debug__" : Str))=false:=by decide)
  (he:starEach (e :: es) X.env=(false,eval e X.env) :: starEach es X.env:=by rfl) (hpl:(backTo pos (starEach es X.env)).any (·.1)=false:=by rfl):PE X (.Call (.Name x p) (e :: es) [] pos) (tCallX sp Ex t):=by
 obtain ⟨f,fd,F,hm,hk,hb⟩:=G.ex
 intro pins s σ H Q I h
 refine wpAny_Call_Name_kw (ld_glob I hg hm ?_ hdb)
 refine PySem.W.callWith_K (h₀:=X.base) I.ok.mod.kin hk (thn (ha pos pins s σ H _ I h) fun us s1 ⟨vs,H1,I1,r,q⟩ => ⟨I1.kIn,?_⟩) he hpl
 have hl:us.length=ps.length:=by rw [← r.length]; exact F.len _ _ _ _ q
 have hb1:=hb s1 us I1.kIn (by rw [List.append_nil]; exact hl)
 rw [List.append_nil] at hb1
 refine wpAny_call (codeAny_mono (F.run X.A X.stack s1 H1 ⟨us,[]⟩ us vs Q (fun c _ H' => Ex c σ H') (hr.mono hle) I1.env0 hb1 r q) fun r s' hq => ?_)
 cases r with
 | error e => exact px pins σ H1 s1 e s' I1 hq
 | ok fl =>
  cases fl with
  | ret u => exact I1.after hq
  | next => exact False.elim hq
  | brk => exact False.elim hq
  | cont => exact False.elim hq
theorem Fun.okX {P:Program} {w:World} {K:PySem.W.Frag} {mg:Str→Option Value} {base:Heap} {x qual:Str} {st:Stmt} {f:Addr} {fd:FuncData} {N ps:List Str} {k:Nat} {sp:Sp} (F:Fun K x qual st f fd) (S:FnScope N ps (defScope st)) (len:∀ vs H Q E,sp vs H Q E→vs.length=ps.length)
  (hbody:∀ (cdv:Value) (A:Around) (outer:List Env) (s:Shared) (H:Hp) (vs:List V) (Q:VK) (E:XK),A.handled=none→Room k (A.deeper (envOfC qual (defScope st) s.heap.objs.size f cdv))→sp vs H Q E →
   ∃ t,PSs (cxOf (CXE P w) P w K mg base N qual (defScope st) f cdv A outer s H E) (defBody st) t∧t { nx:=fun _ H' => Q .non H',rt:=Q } (start N vs) H):FnOk P w K mg base (CXE P w) (k + 1) f fd ps sp:=by
 obtain ⟨oc,od,kV,doc,pm,an,cdv,ct,osl,rfl,lk,hcd⟩:=F.ex
 exact fn_of lk hcd S len fun A outer s H vs Q E hr hsp => hbody cdv A outer s H vs Q E hr.hd hr hsp
theorem PS.nox {X:Cx} {st:Stmt} {t:TS} (h:PS X.nox st t):PS X st t:=fun pins s σ H D I hw =>
 wpAny_mono (h pins s σ H D (I.wish _) hw) (fun _ _ q => q.unwish) fun _ _ z => False.elim z
theorem flown {P:Program} {w:World} {fs:List Addr} {H1 H' : Hp} {h1 hs h' B:Heap} (un:Un fs [] H1 H' h1 hs) (hok:HOk P w H' hs) (b1:B.StaysIn hs) (b2:B.StaysIn h') (sm:hs.UpToSlots h')
  (c1:∀ b o,h1.get? b=some o→b ∉ fs→∃ o',B.get? b=some o') (c2:∀ b o,H' b=some o→∃ o',B.get? b=some o') (ff:∀ b ∈ fs,H1 b=none∧∃ o,h1.get? b=some o∧∀ vs,o.data ≠ .fields vs):Un fs [] H1 H' h1 h'∧HOk P w H' h':=by
 have same:∀ b o,hs.get? b=some o→(∃ o',B.get? b=some o')→h'.get? b=some o:=fun b o e ⟨o',q⟩ => by
  have:=b1 b o' q
  rw [e] at this
  cases this
  exact b2 b _ q
 have frm:∀ b ∈ fs,∀ o,hs.get? b=some o→∃ sl,h'.get? b=some { o with slots:=sl }:=fun b hb o e => by
  obtain ⟨hn,o0,e0,hd⟩:=ff b hb
  obtain ⟨sl,e1⟩:=un.slot b o0 e0 hn hb (by simp)
  rw [e] at e1
  cases e1
  exact sm b _ e hd
 refine ⟨⟨fun b o e n hb _ => ?_,fun b o e n hb _ => ?_,un.free,fun b o e _ => ?_,un.tups,un.frzs,un.tbls⟩,fun b u' e => ?_⟩
 ·exact same b o (un.keep b o e n hb (by simp)) (c1 b o e hb)
 ·obtain ⟨sl,e1⟩:=un.slot b o e n hb (by simp)
  obtain ⟨sl',e2⟩:=frm b hb _ e1
  exact ⟨sl',e2⟩
 ·obtain ⟨o1,e1⟩:=un.there b o e (by simp)
  by_cases hb:b ∈ fs
  ·obtain ⟨sl,e2⟩:=frm b hb _ e1
   exact ⟨_,e2⟩
  ·exact ⟨o1,same b o1 e1 (c1 b o e hb)⟩
 ·refine (hok b u' e).stay (fun c v hc r => same c v r ?_) (fun _ q => q) fun _ _ q => q
  rcases hc with rfl | hc
  ·exact c2 _ _ e
  ·exact c2 _ _ hc
abbrev Cx.tried (X:Cx) (pins:List (Addr × Obj)) (xe:Value→Shared→Prop):Cx:={ X with pn:=X.pn ++ pins,xe:=xe }
abbrev Cx.suite (X:Cx) (a:Addr) (oe:Obj):Cx:={ X with A:=X.A.mark (some (.ref a)),calm:=false,pn:=X.pn ++ [(a,oe)],xe:=fun _ _ => False }
section
variable {X:Cx} {pins:List (Addr × Obj)} {σ:St} {H:Hp} {s:Shared} {xe:Value→Shared→Prop}
theorem Cx.Ok.tried (ok:X.Ok):(X.tried pins xe).Ok:=⟨ok.mod,ok.kind,ok.glob,ok.blt,ok.above,ok.inj,ok.has,ok.cab,ok.hd,ok.frames,ok.stk,ok.exf,ok.bs,ok.bsz,ok.noex,ok.exfs,ok.funs,ok.frf⟩
theorem Cx.Ok.untried (ok:(X.tried pins xe).Ok):X.Ok:=⟨ok.mod,ok.kind,ok.glob,ok.blt,ok.above,ok.inj,ok.has,ok.cab,ok.hd,ok.frames,ok.stk,ok.exf,ok.bs,ok.bsz,ok.noex,ok.exfs,ok.funs,ok.frf⟩
theorem Inv.tried (I:Inv X pins σ H s):Inv (X.tried pins xe) [] σ H s:=⟨I.ok.tried,I.os,I.bare,I.base,I.loc,I.cell,I.free,I.freeC,fun p hp => I.pin p (by simpa using hp),I.hok,I.len⟩
theorem Inv.untried {pins' : List (Addr × Obj)} (I:Inv (X.tried pins xe) pins' σ H s):Inv X pins σ H s:=⟨I.ok.untried,I.os,I.bare,I.base,I.loc,I.cell,I.free,I.freeC,fun p hp => I.pin p (List.mem_append_left _ hp),I.hok,I.len⟩
theorem SP.untried {D:Ends} {f:Flow} {s' : Shared} {pins' : List (Addr × Obj)} (h:SP (X.tried pins xe) pins' D f s'):SP X pins D f s':=by
 cases f with
 | next => obtain ⟨σ',H',I,q⟩:=h; exact ⟨σ',H',I.untried,q⟩
 | brk => obtain ⟨σ',H',I,q⟩:=h; exact ⟨σ',H',I.untried,q⟩
 | cont => obtain ⟨σ',H',I,q⟩:=h; exact ⟨σ',H',I.untried,q⟩
 | ret u => obtain ⟨v,σ',H',I,r,q⟩:=h; exact ⟨v,σ',H',I.untried,r,q⟩
theorem Cx.Ok.suite {a:Addr} {oe:Obj} (ok:X.Ok):(X.suite a oe).Ok:=⟨ok.mod,ok.kind,ok.glob,ok.blt,ok.above,ok.inj,ok.has,ok.cab,fun z => (nomatch z),ok.frames,ok.stk,ok.exf,ok.bs,ok.bsz,ok.noex,ok.exfs,ok.funs,ok.frf⟩
theorem Inv.suite {a:Addr} {oe:Obj} (I:Inv X pins σ H s) (ha:s.heap.get? a=some oe) (hn:H a=none) (hl:a ≠ X.env.locals) (hf:a ∉ X.fs) (hc:∀ v,oe.data ≠ .cell v):Inv (X.suite a oe) pins σ H s :=
 ⟨I.ok.suite,I.os,I.bare,I.base,I.loc,I.cell,I.free,I.freeC,fun p hp => by
  have hp:p ∈ X.pn ++ [(a,oe)] ++ pins:=hp
  rcases List.mem_append.mp hp with hp | hp
  ·rcases List.mem_append.mp hp with hp | hp
   ·exact I.pin p (List.mem_append_left _ hp)
   ·rcases List.mem_singleton.mp hp with rfl
    exact ⟨ha,hn,hl,hf,hc⟩
  ·exact I.pin p (List.mem_append_right _ hp),I.hok,I.len⟩
theorem Inv.unsuite {a:Addr} {oe:Obj} (ok:X.Ok) (I:Inv (X.suite a oe) pins σ H s):Inv X pins σ H s :=
 ⟨ok,I.os,I.bare,I.base,I.loc,I.cell,I.free,I.freeC,fun p hp => I.pin p (by
  rcases List.mem_append.mp hp with hp | hp
  ·exact List.mem_append_left _ (List.mem_append_left _ hp)
  ·exact List.mem_append_right _ hp),I.hok,I.len⟩
theorem Inv.gone {h' : Heap} {m' : Str→Option Value} {t' : Nat} (I:Inv X pins σ H s) (hn:h'.Ns X.env.locals m') (hs:Heap.SameBut X.env.locals s.heap h'):Inv X pins (List.replicate X.N.length none) H { s with heap:=h',toks:=t' }:=by
 obtain ⟨m,hm,_⟩:=id I.loc
 obtain ⟨oL,_,_,hoL,_⟩:=id hm
 have cne:=I.cne
 refine ⟨I.ok,I.os,I.bare,⟨fun b o e n hb hx => ?_,fun b o e n hb hx => ?_,I.base.free,fun b o e hx => ?_,I.base.tups,I.base.frzs,I.base.tbls⟩,⟨m',hn,fun j y v' e1 e2 e3 => ?_⟩,fun y c e => ?_,I.free,I.freeC,fun p hp => ?_,fun b ob e => ?_,by simp⟩
 ·exact (hs.2 b (Nat.ne_of_lt (Nat.lt_of_lt_of_le (Heap.lt_size e) I.ok.above))).trans (I.base.keep b o e n hb hx)
 ·obtain ⟨sl,e1⟩:=I.base.slot b o e n hb hx
  exact ⟨sl,(hs.2 b (Nat.ne_of_lt (Nat.lt_of_lt_of_le (Heap.lt_size e) I.ok.above))).trans e1⟩
 ·obtain ⟨o',e1⟩:=I.base.there b o e hx
  exact ⟨o',(hs.2 b (Nat.ne_of_lt (Nat.lt_of_lt_of_le (Heap.lt_size e) I.ok.above))).trans e1⟩
 ·rw [List.getElem?_replicate] at e2
  split at e2 <;> cases e2
 ·obtain ⟨w',z⟩:=I.cell y c e
  exact ⟨w',z.sameBut hs (cne y c e)⟩
 ·obtain ⟨e,n,ne,nf,d⟩:=I.pin p hp
  exact ⟨(hs.2 p.1 ne).trans e,n,ne,nf,d⟩
 ·refine (I.hok b ob e).stay (fun c w' hc q => (hs.2 c ?_).trans q) (fun _ q => q) fun _ _ q => q
  rintro rfl
  rcases hc with rfl | hc
  ·rw [I.free] at e; cases e
  ·rw [I.free] at hc; cases hc
end
end L2
namespace L2
open PySem PySem.Spec PyProof.Rows
theorem x_matches {M:Model} {A:Around} {E:Value→Shared→Prop} {K:PySem.W.Frag} {h:Heap} {g:Array GenState} {d:Drawn} {t:Nat} {os:OsState} {a C C' : Addr} {oe:Obj} {Q:Bool→Shared→Prop} (X:K.In h) (c:XCls K C') (he:h.get? a=some oe) (hcls:oe.cls = .ref C)
  (hsub:PySem.W.subIn K (.ref C) (.ref C')=some true) (hq:Q true ⟨h,g,d,t,os⟩):wpAny M A (excMatches (.ref a) (.ref C')) Q E ⟨h,g,d,t,os⟩:=by
 have l1:PySem.W.Looks M h (typeOf (.ref C')) (.type "type"):=PySem.W.looks_typeIn X c.ty
 have l2:PySem.W.Looks M h (isSubtype (.ref C') (.type "BaseException")) true:=PySem.W.looks_subIn X c.be
 have l3:PySem.W.Looks M h (typeOf (.ref a)) (.ref C):=hcls ▸ (PySem.W.Looks.ld he).andThen .now
 have l4:PySem.W.Looks M h (isSubtype (.ref C) (.ref C')) true:=PySem.W.looks_subIn X hsub
 have f:=tc_notTuple
 have z:=c.co
 unfold PySem.W.clsIn at z
 split at z
 ·rename_i c' d' cd' sl' ho
  have hC:=X _ _ ho
  unfold excMatches isInstance isExcClass
  repeat (first | with_reducible refine l1.at ?_ | with_reducible refine l2.at ?_ | with_reducible refine l3.at ?_ | with_reducible refine l4.at ?_ | with_reducible refine wpAny_loadPart_at hC ?_ | wp_step)
  exact hq
 ·cases z
def endsAs (n:Nat) (D:Ends):Ends:={ nx:=fun _ H => D.nx (List.replicate n none) H,rt:=D.rt,bk:=fun _ H => D.bk (List.replicate n none) H,ct:=fun _ H => D.ct (List.replicate n none) H }
def tTry (K:PySem.W.Frag) (n i:Nat) (C' : Addr) (tb:(Value→St→Hp→Prop)→TS) (ts:Addr→Addr→TS):TS:=fun D σ H =>
 tb (fun c σ' H' => ∃ C,c = .ref C∧PySem.W.subIn K (.ref C) (.ref C')=some true∧∀ a,H' a=none→ts C a (endsAs n D) (σ'.set i (some (.ref a))) H') D σ H
theorem frs_mem {X:Cx} {pins:List (Addr × Obj)} {σ:St} {H:Hp} {s:Shared} (I:Inv X pins σ H s):∀ b ∈ frs X.stack,H b=none∧∃ o,s.heap.get? b=some o∧∀ vs,o.data ≠ .fields vs:=fun b hb => ⟨I.stkFree b hb,(I.stack.mem hb).2⟩
theorem ps_try {X:Cx} {x n:Str} {i:Nat} {C' : Addr} {np hp pos:PySem.Pos} {body:List Stmt} {b₀:Stmt} {suite:List Stmt} {tb:(Value→St→Hp→Prop)→TS} {ts:Addr→Addr→TS} (hN:X.N.Nodup) (hi:X.N[i]? = some n) (hloc:X.env.scope.names.lookup n=some .local)
  (hst:X.stack=X.env :: X.outer) (hfr:X.env.frame=some X.env.locals) (hm:X.mg x=some (.ref C')) (hg:Gl X x) (hcl:XCls X.K C')
  (hb:∀ pins xe Ex,PassesX (X.tried pins xe) Ex→PSs (X.tried pins xe) body (tb Ex))
  (hs:∀ (C a:Addr) (oe:Obj),oe.cls = .ref C→PSs (X.suite a oe) (b₀ :: suite) (ts C a)) (hdb:(x == ("__debug__" : Str))=false:=by decide) :
  PS X (.Try body [.ExceptHandler (some (.Name x np)) (some n) (b₀ :: suite) hp] [] [] pos) (tTry X.K X.N.length i C' tb ts):=by
 intro pins s σ H D I h
 refine wpAny_Try_except ?_
 refine wpAny_mono (hb pins _ _ ?_ [] s σ H D I.tried h) (fun f s1 q => ?_) fun e s1 q => q
 ·rintro pins' σ1 H1 s1 e s' I1 ⟨a,C,a0,B,H',rfl,ho,hbare,un,hok,fl,c1,c2,C0,ec,hsub,q⟩
  cases ec
  have ff:=frs_mem I1
  refine wpAny_looks_onW (by rw [← hst]; exact I1.ok.frames) hfr (by rw [← hst]; exact fl) fun h4 held4 sm4 => ?_
  refine wpAny_landsW held4 fun h5 fl5 sm5 => ?_
  obtain ⟨u5,hok5⟩:=flown un hok fl.1 fl5.1 (sm4.trans sm5) c1 c2 ff
  have J5:Inv X pins σ1 H' { s' with heap:=h5 }:=(I1.call' (s':={ s' with heap:=h5 }) ho u5 hok5 hbare (fun b z => nomatch z)).untried
  obtain ⟨oe5,he5,hc5⟩:=fl5.there
  refine wpAny_handleBy_cons (codeAny_handlers_test ?_) (by intro q; cases q)
  refine Calls.Name_function_global J5.ok.kind hg (Calls.loadGlobal_global (by rw [J5.ok.glob]; exact J5.mod.glob.keeps J5.bk) hm ?_) hdb
  refine x_matches J5.kIn hcl he5 hc5 hsub (codeAny_handlers_suite_as ?_)
  refine lands_againW fl5 fun h6 fl6 sm6 => ?_
  obtain ⟨u6,hok6⟩:=flown un hok fl.1 fl6.1 ((sm4.trans sm5).trans sm6) c1 c2 ff
  have J6:Inv X pins σ1 H' { s' with heap:=h6 }:=(I1.call' (s':={ s' with heap:=h6 }) ho u6 hok6 hbare (fun b z => nomatch z)).untried
  obtain ⟨oe,vs,T,oT,tss,he,⟨hc,h0⟩,hd,_⟩:=fl6.2.2.2
  have hna:H' a=none:=by
   cases z:H' a with
   | none => rfl
   | some o =>
    obtain ⟨o',e'⟩:=c2 a o z
    rw [fl.2.1] at e'
    cases e'
  have nfr:a ∉ frs X.stack:=fun z => by
   obtain ⟨_,o,e,nd⟩:=frs_mem J6 a z
   rw [he] at e
   cases e
   exact nd _ hd
  have nl:a ≠ X.env.locals:=fun z => nfr (by rw [hst]; unfold frs; rw [List.filterMap_cons,hfr,z]; exact List.mem_cons_self)
  have nfs:a ∉ X.fs:=fun z => nfr (by
   rw [hst]; unfold frs; rw [List.filterMap_cons,hfr]; exact List.mem_cons_of_mem _ z)
  have J7:Inv (X.suite a oe) pins σ1 H' { s' with heap:=h6 }:=J6.suite he hna nl nfs (fun v z => by rw [hd] at z; cases z)
  refine store_ok (X:=X.suite a oe) (i:=i) (v:=.ref a) J7 hN hi (.inl hloc) rfl (fun s7 J8 => ?_) (.inr hloc)
  refine wpAny_mono (hs C a oe hc pins s7 (σ1.set i (some (.ref a))) H' (endsAs X.N.length D) J8 (q a hna)) (fun f s8 r8 => ?_) fun e s8 z => False.elim z
  have fin:∀ {σ8:St} {H8:Hp},Inv (X.suite a oe) pins σ8 H8 s8→(∀ s9,Inv X pins (List.replicate X.N.length none) H8 s9→SP X pins D f s9)→wpAny (model X.prog X.w) X.A (do bindName X.env n .none; unbindBehindTheSuite X.env n hp) (fun _ s9 => SP X pins D f s9) X.xe s8:=fun {σ8 H8} J k => by
   obtain ⟨m,hn,_⟩:=J.loc
   refine wpAny_nameGoes hloc hn (by rw [show X.env.scope.kind = .function from J.ok.kind]; rfl) fun h' m' hn' hs' => k _ ?_
   exact (J.unsuite J6.ok).gone hn' hs'
  cases f with
  | next => obtain ⟨σ8,H8,J,r⟩:=r8; exact fin J fun s9 J9 => ⟨_,_,J9,r⟩
  | brk => obtain ⟨σ8,H8,J,r⟩:=r8; exact fin J fun s9 J9 => ⟨_,_,J9,r⟩
  | cont => obtain ⟨σ8,H8,J,r⟩:=r8; exact fin J fun s9 J9 => ⟨_,_,J9,r⟩
  | ret u => obtain ⟨v,σ8,H8,J,rv,r⟩:=r8; exact fin J fun s9 J9 => ⟨v,_,_,J9,rv,r⟩
 ·cases f with
  | next => exact wpAny_execs_nil (SP.untried q)
  | brk => exact SP.untried q
  | cont => exact SP.untried q
  | ret u => exact SP.untried q
end L2
namespace L2
open PySem PySem.Spec PyProof.Rows
def rIsi (K:PySem.W.Frag) (C a:Addr):List V→Hp→VK→Prop:=fun xs H Q => XCls K C∧∃ b,((∃ C2,xs=[.ref a,.ref C2]∧XCls K C2∧PySem.W.subIn K (.ref C) (.ref C2)=some b) ∨ (∃ T,xs=[.ref a,.ty T]∧PySem.W.kitMeta T=true∧PySem.W.subIn K (.ref C) (.type T)=some b) ∨
 (∃ (tp:Addr) (Cs:List Addr),xs=[.ref a,.ref tp]∧H tp=some (.tup (Cs.map V.ref))∧(∀ c ∈ Cs,XCls K c)∧(∀ c ∈ Cs,PySem.W.subIn K (.ref C) (.ref c)=some false)∧b=false))∧Q (.bl b) H
theorem kitOne_own {K:PySem.W.Frag} {C C2:Addr} {b:Bool} (c:XCls K C) (c2:XCls K C2) (h:PySem.W.subIn K (.ref C) (.ref C2)=some b):PySem.W.kitOne K (.ref C) (.ref C2)=some b:=by
 unfold PySem.W.kitOne
 by_cases q:C=C2
 ·subst q
  rw [c.rf] at h
  cases h
  rw [if_pos (by simp)]
 ·rw [if_neg (by simpa using q)]
  unfold PySem.W.kitCls
  dsimp only
  rw [if_pos (by rw [c2.co,c2.ty]; rfl)]
  exact h
theorem kitAny_own {K:PySem.W.Frag} {C:Addr} (c:XCls K C):∀ {Cs:List Addr},(∀ x ∈ Cs,XCls K x)→(∀ x ∈ Cs,PySem.W.subIn K (.ref C) (.ref x)=some false)→PySem.W.kitAny K (.ref C) (Cs.map Value.ref)=some false
 | [],_,_ => rfl
 | x :: r,h1,h2 => by
  show PySem.W.kitAny K (.ref C) (Value.ref x :: r.map Value.ref)=some false
  unfold PySem.W.kitAny
  rw [kitOne_own c (h1 x List.mem_cons_self) (h2 x List.mem_cons_self)]
  exact kitAny_own c (fun y hy => h1 y (List.mem_cons_of_mem _ hy)) fun y hy => h2 y (List.mem_cons_of_mem _ hy)
theorem vals_cls:∀ {Cs:List Addr} {us:List Value},Vals (Cs.map V.ref) us→us=Cs.map Value.ref
 | [],us,h => by cases h; rfl
 | c :: r,us,h => by
  cases h with
  | cons r1 r2 =>
   cases (show _=Value.ref c from r1)
   rw [vals_cls r2]
   rfl
theorem call_isiX {X:Cx} {a C:Addr} {oe:Obj} {K:PySem.W.Frag} (hoe:oe.cls = .ref C) (hK:X.K=K:=by rfl):CallR (X.suite a oe) (.builtin "isinstance") (rIsi K C a):=by
 subst hK
 intro pins s σ H xs us Q I r h
 obtain ⟨c,b,h,q⟩:=h
 have he:s.heap.get? a=some oe:=(I.pin (a,oe) (List.mem_append_left _ (List.mem_append_right _ (List.mem_singleton.mpr rfl)))).1
 have hx:Value.ref a ≠ .builtin "__main__.__loader__#opaque" := fun z => nomatch z
 have fin:∀ tk,EP (X.suite a oe) pins σ Q (.bool b) { s with toks:=tk }:=fun tk => ⟨.bl b,H,I.tok _,rfl,q⟩
 rcases h with ⟨C2,rfl,c2,e⟩ | ⟨T,rfl,hm,e⟩ | ⟨tp,Cs,rfl,ht,h1,h2,rfl⟩
 ·obtain ⟨u,v,rfl,r1,r2⟩:=vals2 r
  cases (show u=Value.ref a from r1)
  cases (show v=Value.ref C2 from r2)
  exact PySem.W.kia_one (kitx_exc c) I.kIn ⟨oe,he,hoe⟩ (kitOne_own c c2 e) hx fin
 ·obtain ⟨u,v,rfl,r1,r2⟩:=vals2 r
  cases (show u=Value.ref a from r1)
  cases (show v=Value.type T from r2)
  refine PySem.W.kia_one (kitx_exc c) I.kIn ⟨oe,he,hoe⟩ ?_ hx fin
  unfold PySem.W.kitOne PySem.W.kitCls
  rw [if_neg (by simp)]
  dsimp only
  rw [if_pos hm]
  exact e
 ·obtain ⟨u,v,rfl,r1,r2⟩:=vals2 r
  cases (show u=Value.ref a from r1)
  cases (show v=Value.ref tp from r2)
  obtain ⟨_,its,rv,ob,h3,h4,n,h5⟩:=(show ObjOk X.prog X.w H s.heap tp (.tup (Cs.map V.ref)) from I.hok tp _ ht)
  obtain rfl:=vals_cls rv
  obtain ⟨oc,od,odt,osl⟩:=ob
  cases h4
  cases h5
  exact PySem.W.kia_tup (kitx_exc c) I.kIn ⟨oe,he,hoe⟩ h3 (kitAny_own c h1 h2) hx fin
end L2
namespace L2
open PySem PySem.Spec PyProof.Rows
theorem getD_of {r:List Int} {k:Nat} (h:k < r.length):r[k]? = some (r.getD k 0):=by rw [List.getD_eq_getElem?_getD,List.getElem?_eq_getElem h]; rfl
theorem int_at {r:List Int} {k:Nat} (h:k < r.length):atI (r.map V.int) (k:Int)=some (V.int (r.getD k 0)):=atI_nat (by rw [List.getElem?_map,getD_of h]; rfl)
def spFromZ:Sp:=fun vs H Q _ => ∃ i l:Int,vs=[.int i,.int l]∧Q (.bl (decide (l ≤ i))) H
def spCrossZ:Sp:=fun vs H Q _ => ∃ (q c:Addr) (t r:List Int),vs=[.ref q,.ref c]∧H q=some (.tup (t.map V.int))∧H c=some (.lst (r.map V.int))∧t.length ≤ 10∧(∀ s ∈ t,1 ≤ absI s∧r[(absI s - 1).toNat]? = some (crs r s))∧∀ l,H l=none→Q (.ref l) (upd H l (.lst ((t.map (crs r)).map V.int)))
end L2
namespace L2
open PySem PySem.Spec PyProof.Rows
section
variable {X:Cx}
theorem op_inK {K:PySem.W.Frag} (hK:X.K=K:=by rfl):OpR X (compareOp .In) (rIn K false):=by subst hK; exact op_in_seq
end
end L2
namespace L2
open PySem PySem.Spec PyProof.Rows
theorem meta_ve:PySem.W.kitMeta "ValueError" = true:=by decide +kernel
end L2
namespace L2
open PySem PySem.Spec PyProof.Rows
def wordsS (p:Str):List Str:=Txt.split p " "
def rowOk (p:Str):Bool:=(wordsS p).all isNum
def rowI (p:Str):List Int:=(wordsS p).map numI
theorem kit_str {K:PySem.W.Frag} : PySem.W.kitOne K (.type "str") (.type "str")=some true:=by with_unfolding_all rfl
def spPartsX (cT:Addr):Sp:=fun vs H Q E => ∃ t y:Str,vs=[.str t,.str y]∧(y.length == 0)=false∧t.length ≤ 4900∧∀ (l:Addr) (H' : Hp),Same H H'→H l=none→H' l=some (.lst ((Txt.split t y).map V.str))→Q (.ref l) H'
section
variable {K:PySem.W.Frag} {H:Hp} {Q:VK} {Z:L2.St→Hp→Prop} {E:XK} {cT cS cE:Addr}
def tPartsX (K:PySem.W.Frag) (E:XK) (cT:Addr):TS:=tSeq (tIfS (tNot (tB (tCB (fun xs H Q => ∃ x t b,xs=[x,V.ty "str"]∧TyOf K H x t∧W.kitOne K t (Value.type "str")=some b∧Q (V.bl b) H) (tCons (tVar 0) (tCons (tC (V.ty "str")) tNil))))) (tRaise E cT) tNext) (tRet (tBM K "str" (fun x vs H Q => ∃ z y,x=V.str z∧vs=[V.str y]∧(y.length == 0)=false∧z.length ≤ 100000∧∀ (l:Addr),H l=none→Q (V.ref l) (upd H l (HO.lst (List.map V.str (Txt.split z y))))) (tVar 0) (tCons (tVar 1) tNil)))
theorem parts_reads {t y:Str} (hy:(y.length == 0)=false) (tl:t.length ≤ 4900) (k:∀ (l:Addr) (H' : Hp),Same H H'→H l=none→H' l=some (.lst ((Txt.split t y).map V.str))→Q (.ref l) H'):tPartsX K E cT { nx:=Z,rt:=Q } [some (.str t),some (.str y)] H:=by
 refine ⟨_,rfl,.str t,_,_,rfl,.str _,kit_str,_,rfl,iteF ?_⟩
 exact ⟨_,rfl,rfl,_,rfl,t,y,rfl,rfl,hy,by omega,fun l hl => k l _ (Same.nw (Same.refl H) hl) hl upd_same⟩
theorem blank_ne:((" " : Str).length == 0)=false:=by decide +kernel
theorem words_len {m:Nat} (p:Str) (h:p.length ≤ m):(wordsS p).length ≤ m + 2∧∀ w ∈ wordsS p,w.length ≤ m:=by
 refine ⟨by have:=split_len p " "; unfold wordsS; omega,fun w hw => ?_⟩
 have:w.length ≤ p.length:=part_short hw
 omega
def spNumX (cT:Addr):Sp:=fun vs H Q E => ∃ t:Str,vs=[.str t]∧t.length ≤ 4900∧(rowOk t=false→∀ H',Same H H'→E (.ref cT) none H')∧(rowOk t=true→∀ (l:Addr) (H' : Hp),Same H H'→H l=none→H' l=some (.lst ((rowI t).map V.int))→Q (.ref l) H')
def tNumX (K:PySem.W.Frag) (E:XK) (cT:Addr):TS:=tSeq (tAsg (tCallX (spPartsX cT) (fun c x H' => E c none H') (tCons (tVar 0) (tCons (tC (V.str (" "))) tNil))) (gName 1)) (tSeq (tIfS (tNot (tB (tCB (fun xs H_1 Q => ∃ p bs,xs=[V.ref p]∧SqL K H_1 p (List.map V.bl bs)∧Q (V.bl (bs.all id)) H_1) (tCons (tCompG 1 (iList K (tVar 1)) (gName 0) tYes (tCall spIsNum [] E0 (tCons (tVar 0) tNil))) tNil)))) (tRaise E cT) tNext) (tRet (tCompG 1 (iList K (tVar 1)) (gName 0) tYes (tCB (fun xs H Q => ∃ z n,xs=[V.str z]∧intText? z=some n∧z.length ≤ 640∧Q (V.int n) H) (tCons (tVar 0) tNil)))))
set_option maxHeartbeats 4000000 in
theorem numbers_reads {t:Str} (tl:t.length ≤ 4900) (k1:rowOk t=false→∀ H',Same H H'→E (.ref cT) none H') (k2:rowOk t=true→∀ (l:Addr) (H' : Hp),Same H H'→H l=none→H' l=some (.lst ((rowI t).map V.int))→Q (.ref l) H'):tNumX K E cT { nx:=Z,rt:=Q } [some (.str t),none] H:=by
 obtain ⟨wl,ww⟩:=words_len t tl
 refine ⟨_,rfl,t, " ",rfl,blank_ne,tl,fun p H1 s1 pf hp => ?_⟩
 have hp:H1 p=some (.lst ((wordsS t).map V.str)):=hp
 refine ⟨_,rfl,p,rfl,⟨_,SqL.of hp⟩,compLW (K:=K) (a:=p) (xs:=(wordsS t).map V.str) (fun n ys H' => Same H1 H'∧ys=(((wordsS t).take n).map isNum).map V.bl) ⟨Same.refl _,rfl⟩ (by rw [List.length_map]; omega) (fun n ys H' h => by rw [h.2,List.length_map,List.length_map,List.length_take]; exact Nat.min_le_left _ _) (fun n ys H' _ h => SqL.of (h.1 _ _ hp)) ?_ ?_⟩
 ·rintro n z ys H2 pre hpl hz ⟨s2,rfl⟩
  rw [List.getElem?_map] at hz
  cases ez:(wordsS t)[n]? with
  | none => rw [ez] at hz; cases hz
  | some w =>
   rw [ez] at hz
   cases hz
   have lw:=ww w (List.mem_of_getElem? ez)
   rcases pre with _ | ⟨q0,_ | ⟨q1,pre⟩⟩
   ·cases hpl
   ·refine ⟨⟨[some _],rfl,rfl⟩,?_⟩
    unfold tYes
    dsimp only
    rw [if_pos (rfl:true=true)]
    refine ⟨_,rfl,w,rfl,by omega,fun H3 s3 => ⟨s2.trans s3,?_⟩⟩
    rw [take_succ' ez,List.map_append,List.map_append]
    rfl
   ·cases hpl
 ·rintro ys H2 ⟨s2,rfl⟩ D hD
  rw [List.length_map,List.take_length]
  have s3:=Same.nw (o:=.lst (((wordsS t).map isNum).map V.bl)) (Same.refl H2) hD
  refine ⟨D,_,rfl,SqL.of upd_same,_,rfl,?_⟩
  have s13:=s1.trans (s2.trans s3)
  have hp3:=s3 _ _ (s2 _ _ hp)
  change if (!((wordsS t).map isNum).all id)=true then _ else _
  rw [show (((wordsS t).map isNum).all id)=rowOk t by unfold rowOk; rw [List.all_map]; rfl]
  generalize upd H2 D (.lst (((wordsS t).map isNum).map V.bl))=H3 at s13 hp3 ⊢
  cases hk:rowOk t with
  | false => exact iteT (k1 hk H3 s13)
  | true =>
   refine iteF ?_
   refine ⟨_,rfl,p,rfl,⟨_,SqL.of hp3⟩,compLW (K:=K) (a:=p) (xs:=(wordsS t).map V.str) (fun n ys H' => H3=H'∧ys=(((wordsS t).take n).map numI).map V.int) ⟨rfl,rfl⟩ (by rw [List.length_map]; omega) (fun n ys H' h => by rw [h.2,List.length_map,List.length_map,List.length_take]; exact Nat.min_le_left _ _) (fun n ys H' _ h => by rw [← h.1]; exact SqL.of hp3) ?_ ?_⟩
   ·rintro n z ys H4 pre hpl hz ⟨rfl,rfl⟩
    rw [List.getElem?_map] at hz
    cases ez:(wordsS t)[n]? with
    | none => rw [ez] at hz; cases hz
    | some w =>
     rw [ez] at hz
     cases hz
     have lw:=ww w (List.mem_of_getElem? ez)
     obtain ⟨v1,v2⟩:=num_val (w:=w) (List.all_eq_true.mp hk w (List.mem_of_getElem? ez)) (by omega)
     rcases pre with _ | ⟨q0,_ | ⟨q1,pre⟩⟩
     ·cases hpl
     ·refine ⟨⟨[some _],rfl,rfl⟩,?_⟩
      unfold tYes
      dsimp only
      rw [if_pos (rfl:true=true)]
      refine ⟨_,rfl,w,numI w,rfl,v1,by omega,rfl,?_⟩
      rw [take_succ' ez,List.map_append,List.map_append]
      rfl
     ·cases hpl
   ·rintro ys H4 ⟨rfl,rfl⟩ D2 hD2
    rw [List.length_map,List.take_length]
    exact k2 hk D2 _ (s13.trans (Same.nw (Same.refl H3) hD2)) (s13.free hD2) upd_same
end
end L2
namespace L2
open PySem PySem.Spec PyProof.Rows
section
variable {X:Cx}
def rNotInD (K:PySem.W.Frag):R2:=fun x y H Q => ∃ (dx:PyData) (ds:List PyData),DI K H y (.list ds)∧DI K H x dx∧PyData.canLayAll0 ds=true∧dx.canLay0=true∧PyData.depthAll ds ≤ 40∧Q (.bl (!(ds.any fun d => PyData.eqv d dx))) H
theorem op_notInD {K:PySem.W.Frag} {k:Nat} (hr:Room k X.A) (hK:X.K=K:=by rfl):OpR X (compareOp .NotIn) (rNotInD K):=by
 subst hK
 intro pins s σ H x y v v' Q I rx ry h
 obtain ⟨dx,ds,hy,hx,cy,cx,hd,q⟩:=h
 obtain ⟨as,ra⟩:=hx.reads I rx
 obtain ⟨bs,rb⟩:=hy.reads I ry
 have hu:=hr.units
 exact SeqAt.notIn_list_reads rb ra cy cx (by have:=Nat.min_le_left (PyData.depthAll ds) dx.depth; omega) ⟨.bl _,H,I,rfl,q⟩
end
end L2
namespace L2
open PySem PySem.Spec PyProof.Rows
section
variable {K:PySem.W.Frag} {H:Hp} {Q:VK} {Z:L2.St→Hp→Prop} {E:XK} {cT cS cE:Addr}
def spFigsX:Sp:=fun vs H Q _ => ∃ t:Str,vs=[.str t]∧t.length ≤ 4900∧(rowOk t=false→∀ H',Same H H'→Q .non H')∧(rowOk t=true→∀ (l:Addr) (H' : Hp),Same H H'→H l=none→H' l=some (.lst ((rowI t).map V.int))→Q (.ref l) H')
def tFigsX (K:PySem.W.Frag):TS:=tSeq (tAsg (tCompG 1 (iList K (tBM K "str" (fun x vs H Q => ∃ z y,x=V.str z∧vs=[V.str y]∧(y.length == 0)=false∧z.length ≤ 100000∧∀ (l:Addr),H l=none→Q (V.ref l) (upd H l (HO.lst (List.map V.str (Txt.split z y))))) (tVar 0) (tCons (tC (V.str (" "))) tNil))) (gName 0) tYes (tCall spFig [] E0 (tCons (tVar 0) tNil))) (gName 1)) (tSeq (tIfS (tTest (tOp (rIn K false) (tC V.non) (tVar 1))) (tRet (tC V.non)) tNext) (tRet (tVar 1)))
theorem in_fig:∀ ws:List Str,inV .non (ws.map figV) = !(ws.all isNum)
 | [] => rfl
 | w :: ws => by
  show (eqV (figV w) .non || inV .non (ws.map figV)) = !(isNum w && ws.all isNum)
  rw [in_fig ws]
  unfold figV
  cases isNum w <;> rfl
theorem flat_fig (ws:List Str):(ws.map figV).all flatV=true:=by
 rw [List.all_eq_true]
 intro x hx
 obtain ⟨w,_,rfl⟩:=List.mem_map.mp hx
 unfold figV
 split <;> rfl
theorem figs_reads {t:Str} (tl:t.length ≤ 4900) (k1:rowOk t=false→∀ H',Same H H'→Q .non H') (k2:rowOk t=true→∀ (l:Addr) (H' : Hp),Same H H'→H l=none→H' l=some (.lst ((rowI t).map V.int))→Q (.ref l) H'):tFigsX K { nx:=Z,rt:=Q } [some (.str t),none] H:=by
 obtain ⟨wl,ww⟩:=words_len t tl
 refine ⟨_,rfl,rfl,t, " ",rfl,rfl,blank_ne,by omega,fun p hp => ?_⟩
 have s1:=Same.nw (o:=.lst ((Txt.split t " ").map V.str)) (Same.refl H) hp
 have f1:(upd H p (.lst ((Txt.split t " ").map V.str))) p=some (.lst ((wordsS t).map V.str)):=upd_same
 have hpf:H p=none:=hp
 generalize upd H p (.lst ((Txt.split t " ").map V.str))=H1 at s1 f1 ⊢
 refine ⟨p,rfl,⟨_,SqL.of f1⟩,compLW (K:=K) (a:=p) (xs:=(wordsS t).map V.str) (fun n ys H' => Same H1 H'∧ys=((wordsS t).take n).map figV) ⟨Same.refl _,rfl⟩ (by rw [List.length_map]; omega) (fun n ys H' h => by rw [h.2,List.length_map,List.length_take]; exact Nat.min_le_left _ _) (fun n ys H' _ h => SqL.of (h.1 _ _ f1)) ?_ ?_⟩
 ·rintro n z ys H2 pre hpl hz ⟨s2,rfl⟩
  rw [List.getElem?_map] at hz
  cases ez:(wordsS t)[n]? with
  | none => rw [ez] at hz; cases hz
  | some w =>
   rw [ez] at hz
   cases hz
   have lw:=ww w (List.mem_of_getElem? ez)
   rcases pre with _ | ⟨q0,_ | ⟨q1,pre⟩⟩
   ·cases hpl
   ·refine ⟨⟨[some _],rfl,rfl⟩,?_⟩
    unfold tYes
    dsimp only
    rw [if_pos (rfl:true=true)]
    refine ⟨_,rfl,w,rfl,by omega,fun H3 s3 => ⟨s2.trans s3,?_⟩⟩
    rw [take_succ' ez,List.map_append]
    rfl
   ·cases hpl
 ·rintro ys H2 ⟨s2,rfl⟩ D hD
  rw [List.length_map,List.take_length]
  have s3:=Same.nw (o:=.lst ((wordsS t).map figV)) (Same.refl H2) hD
  have f3:(upd H2 D (.lst ((wordsS t).map figV))) D=some (.lst ((wordsS t).map figV)):=upd_same
  change gName 1 _ _ (upd H2 D (.lst ((wordsS t).map figV))) _
  have s13:=s1.trans (s2.trans s3)
  have hDf:H D=none:=(s1.trans s2).free hD
  generalize upd H2 D (.lst ((wordsS t).map figV))=H3 at s13 f3 ⊢
  refine ⟨_,rfl,D,_,rfl,.inl (SqL.of f3),rfl,flat_fig _,_,rfl,?_⟩
  change if (inV .non ((wordsS t).map figV))=true then _ else _
  rw [in_fig]
  change if (!rowOk t)=true then _ else _
  cases hk:rowOk t with
  | false => exact iteT (k1 hk H3 s13)
  | true =>
   have e:(wordsS t).map figV=(rowI t).map V.int:=by
    unfold rowI
    rw [List.map_map]
    refine List.map_congr_left fun w hw => ?_
    unfold figV
    rw [if_pos (List.all_eq_true.mp hk w hw)]
    rfl
   rw [e] at f3
   exact iteF ⟨_,rfl,k2 hk D H3 s13 hDf f3⟩
end
end L2
namespace L2
open PySem PySem.Spec PyProof.Rows
def numT (i:Int):Str:=toString i
def rowT (ns:List Int):Str:=Str.join " " (ns.map numT)
theorem numT_len {i:Int} (h0:0 ≤ i) (h1:i ≤ 10 ^ 60):(numT i).length ≤ 80:=int_short (i:=i) (by omega) (by omega)
theorem numT_log {i:Int} (h0:0 ≤ i) (h1:i ≤ 10 ^ 60):i.natAbs.log2 < 1920:=by
 by_cases z:i=0
 ·subst z; decide
 ·refine Nat.lt_trans ((Nat.log2_lt (k:=300) (by omega)).mpr ?_) (by decide)
  have:(10:Int) ^ 60 < 2 ^ 300:=by decide +kernel
  omega
theorem join_len (sep:Str) (n:Nat):∀ {ss:List Str},(∀ x ∈ ss,x.length ≤ n)→(Str.join sep ss).length ≤ ss.length * (n + sep.length)
 | [],_ => Nat.zero_le _
 | [x],h => by
  show x.length ≤ _
  have:=h x (by simp)
  simp
  omega
 | x :: y :: r,h => by
  rw [show Str.join sep (x :: y :: r)=x ++ sep ++ Str.join sep (y :: r) from rfl,strLen_append,strLen_append]
  have h1:=h x (by simp)
  have h2:=join_len sep n (ss:=y :: r) (fun z hz => h z (by simp at hz ⊢; right; exact hz))
  have e:(x :: y :: r).length * (n + sep.length)=(y :: r).length * (n + sep.length) + (n + sep.length):=by rw [List.length_cons,Nat.succ_mul]
  omega
theorem sum_len (n:Nat):∀ {ss:List Str},(∀ x ∈ ss,x.length ≤ n)→(ss.map (·.length)).sum ≤ ss.length * n
 | [],_ => Nat.zero_le _
 | x :: r,h => by
  rw [List.map_cons,List.sum_cons,List.length_cons,Nat.succ_mul]
  have h1:=h x (by simp)
  have h2:=sum_len n (ss:=r) (fun z hz => h z (by simp [hz]))
  omega
def Sixty (ns:List Int):Prop:=∀ i ∈ ns,0 ≤ i∧i ≤ 10 ^ 60
theorem Sixty.nums {ns:List Int} (h:Sixty ns):∀ x ∈ ns.map numT,x.length ≤ 80:=fun x hx => by
 obtain ⟨i,hi,rfl⟩:=List.mem_map.mp hx
 exact numT_len (h i hi).1 (h i hi).2
theorem rowT_len {ns:List Int} (h:Sixty ns) (hl:ns.length ≤ 18):(rowT ns).length ≤ 1458:=by
 have:=join_len " " 80 h.nums
 rw [List.length_map] at this
 have e:(" " : Str).length=1:=by decide +kernel
 rw [e] at this
 exact Nat.le_trans this (by omega)
end L2
namespace L2
open PySem PySem.Spec PyProof.Rows
section
variable {K:PySem.W.Frag} {H:Hp} {Q:VK} {Z:L2.St→Hp→Prop}
def PurseZ (H:Hp) (d:Addr):Prop:=∃ a b:Int,H d=some (.lst [.int a,.int b])∧0 ≤ b∧b < 2147483648
def ButZ (d:Addr) (H H' : Hp):Prop:=∀ c o,H c=some o→c ≠ d→H' c=some o
theorem ButZ.refl (d:Addr) (H:Hp):ButZ d H H:=fun _ _ e _ => e
theorem ButZ.trans {d:Addr} {H H1 H2:Hp} (a:ButZ d H H1) (b:ButZ d H1 H2):ButZ d H H2:=fun c o e n => b c o (a c o e n) n
theorem ButZ.new {d p:Addr} {H H' : Hp} {o:HO} (a:ButZ d H H') (h:H' p=none):ButZ d H (L2.upd H' p o):=fun c u e n => by
 have:=a c u e n
 rw [upd_ne (ne_of_none this h)]; exact this
theorem ButZ.own {d p:Addr} {H H' : Hp} {o:HO} (B:ButZ d H H') (h:H p=none):ButZ d H (L2.upd H' p o):=fun c u e n => by
 rw [upd_ne (ne_of_none e h)]; exact B c u e n
theorem ButZ.same {d:Addr} {H H1 H2:Hp} (B:ButZ d H H1) (s:Same H1 H2):ButZ d H H2:=fun c o e n => s c o (B c o e n)
theorem PurseZ.new {d p:Addr} {H:Hp} {o:HO} (a:PurseZ H d) (h:H p=none):PurseZ (L2.upd H p o) d:=by
 obtain ⟨x,y,e,r⟩:=a
 exact ⟨x,y,by rw [upd_ne (ne_of_none e h)]; exact e,r⟩
theorem PurseZ.at {d p:Addr} {H:Hp} {o:HO} (a:PurseZ H d) (h:p ≠ d):PurseZ (L2.upd H p o) d:=by
 obtain ⟨x,y,e,r⟩:=a
 exact ⟨x,y,by rw [upd_ne (Ne.symm h)]; exact e,r⟩
theorem PurseZ.up {d:Addr} {H H' : Hp} (a:PurseZ H d) (s:Same H H'):PurseZ H' d:=by
 obtain ⟨x,y,e,r⟩:=a
 exact ⟨x,y,s _ _ e,r⟩
theorem PurseZ.ne {d p:Addr} {H:Hp} (a:PurseZ H d) (h:H p=none):p ≠ d:=by
 obtain ⟨x,y,e,_⟩:=a
 rintro rfl
 rw [e] at h; cases h
theorem ButZ.fr {d p:Addr} {H H' : Hp} (b:ButZ d H H') (P:PurseZ H' d) (h:H' p=none):H p=none:=by
 cases z:H p with
 | none => rfl
 | some o => rw [b p o z (P.ne h)] at h; cases h
def spTakeZ:Sp:=fun vs H Q _ => ∃ (d:Addr) (m:Int),vs=[.ref d,.int m]∧PurseZ H d∧0 < m∧m < 10 ^ 100∧∀ (r:Int) (H' : Hp),0 ≤ r→r < m→PurseZ H' d→ButZ d H H'→Q (.int r) H'
def strI (i:Int):Str:=(toString i)
theorem str18 {i:Int} (h1 : -18 ≤ i) (h2:i ≤ 18):i.natAbs.log2 < 1920∧(strI i).length ≤ 3:=by
 have key:∀ n:Fin 37,((n.val:Int) - 18).natAbs.log2 < 1920∧(strI ((n.val:Int) - 18)).length ≤ 3:=by decide +kernel
 have:=key ⟨(i + 18).toNat,by omega⟩
 rw [show (((⟨(i + 18).toNat,by omega⟩:Fin 37).val:Nat):Int) - 18=i by show ((i + 18).toNat:Int) - 18=i; omega] at this
 exact this
def sgA:Str:=" !\"#$&'()*+,-./0123456789:;<=>?@ABCDEFGHIJKLMNOPQRSTUVWXYZ[\\]^_`"
def sgB:Str := "abcdefghijklmnopqrstuvwxyz{|}~"
def spSgn:Sp:=fun vs H Q _ => vs=[]∧Q (.str (sgA ++ sgB)) H
def tSgn (K:PySem.W.Frag):TS:=tSeq (tAsg (tC (V.str (" !\"#$&'()*+,-./0123456789:;<=>?@ABCDEFGHIJKLMNOPQRSTUVWXYZ[\\]^_`"))) (gName 0)) (tRet (tOp (fun x y H Q => ∃ i j,x=V.str i∧y=V.str j∧i.length + j.length ≤ sizeLine∧Q (V.str (i ++ j)) H) (tVar 0) (tC (V.str ("abcdefghijklmnopqrstuvwxyz{|}~")))))
theorem sg_len:(sgA ++ sgB).length=94:=by decide +kernel
theorem sgn_reads (k:Q (.str (sgA ++ sgB)) H):tSgn K { nx:=Z,rt:=Q } [none] H:=⟨_,rfl,_,_,rfl,rfl,(by decide +kernel),k⟩
def tLShX (K:PySem.W.Frag):TS:=tSeq (tAsg (tOp (rI0 fun i j => V.int (i + j)) (tC (V.int 1)) (tOp (rIxL K) (tLst (tCons (tCall spTakeZ [] E0 (tCons (tVar 0) (tCons (tC (V.int 4)) tNil))) (tCons (tCall spTakeZ [] E0 (tCons (tVar 0) (tCons (tC (V.int 6)) tNil))) tNil))) (tCB (fun xs H Q => (∃ i,xs=[V.int i]∧Q (V.int i) H) ∨ ∃ k,xs=[V.bl k]∧Q (V.int (if k=true then 1 else 0)) H) (tCons (tOp rEq (tCall spTakeZ [] E0 (tCons (tVar 0) (tCons (tC (V.int 8)) tNil))) (tC (V.int 3))) tNil)))) (gName 1)) (tSeq (tAsg (tCB (fun xs H Q => ∃ p i j,xs=[V.ref p]∧H p=some (HO.rng i j)∧-1000 ≤ i∧i ≤ j∧j ≤ 1000∧∀ (l:Addr),H l=none→Q (V.ref l) (upd H l (HO.lst (List.map V.int (upto i (j - i).toNat))))) (tCons (tCB (fun xs H Q => ∃ j,xs=[V.int j]∧-(2 ^ 62) ≤ j∧j < 2 ^ 62∧∀ (p:Addr),H p=none→Q (V.ref p) (upd H p (HO.rng 0 j))) (tCons (tOp (rI CMul fun i j => V.int (i * j)) (tC (V.int 6)) (tVar 1)) tNil)) tNil)) (gName 2)) (tSeq (tAsg (tCompG 1 (iList K (tVar 2)) (gName 0) tYes (tC (V.int 0))) (gName 3)) (tSeq (tFor (iRng2 (tCons (tC (V.int 1)) (tCons (tOp (rI0 fun i j => V.int (i + j)) (tOp (rI CMul fun i j => V.int (i * j)) (tC (V.int 3)) (tVar 1)) (tC (V.int 1))) tNil))) (gName 4) (tFor (iRng1 (tCons (tC (V.int 2)) tNil)) (gName 5) (tSeq (tAsg (tBM K "list" rPopAt (tVar 2) (tCons (tCall spTakeZ [] E0 (tCons (tVar 0) (tCons (tCB (fun xs H Q => ∃ p ys,xs=[V.ref p]∧(SqL K H p ys ∨ SqT K H p ys)∧Q (V.int ys.length) H) (tCons (tVar 2) tNil)) tNil))) tNil)) (gName 6)) (tAsg (tOp (rI CMul fun i j => V.int (i * j)) (tVar 4) (tOp (rI0 fun i j => V.int (i - j)) (tC (V.int 1)) (tOp (rI CMul fun i j => V.int (i * j)) (tC (V.int 2)) (tCall spTakeZ [] E0 (tCons (tVar 0) (tCons (tC (V.int 2)) tNil)))))) (gSub (tVar 3) (tVar 6) rSetL))))) (tRet (tCompG 1 (iRng1 (tCons (tOp (rI CMul fun i j => V.int (i * j)) (tC (V.int 2)) (tVar 1)) tNil)) (gName 0) tYes (tCB (fun xs H Q => ∃ p ys,xs=[V.ref p]∧((SqL K H p ys∧∀ (l:Addr),H l=none→Q (V.ref l) (upd H l (HO.tup ys))) ∨ SqT K H p ys∧Q (V.ref p) H)) (tCons (tSl (rSlL K) (tVar 4) (tPart (tOp (rI CMul fun i j => V.int (i * j)) (tC (V.int 3)) (tVar 0))) (tPart (tOp (rI0 fun i j => V.int (i + j)) (tOp (rI CMul fun i j => V.int (i * j)) (tC (V.int 3)) (tVar 0)) (tC (V.int 3))))) tNil)))))))
theorem at_ex {α:Type} (xs:List α) {i:Int} (h0:0 ≤ i) (h1:i < (xs.length:Nat)):∃ (n:Nat) (c:α),i=(n:Int)∧xs[n]? = some c∧atI xs i=some c:=by
 have hn:i.toNat < xs.length:=by omega
 refine ⟨i.toNat,xs[i.toNat],by omega,List.getElem?_eq_getElem hn,?_⟩
 have:=atI_nat (List.getElem?_eq_getElem hn)
 rw [show ((i.toNat:Nat):Int)=i by omega] at this
 exact this
end
end L2
namespace L2
open PySem PySem.Spec PyProof.Rows
def endI (s:Int) (b:Bool):List Int:=[absI s,if decide (0 < s)=b then 1 else 0]
def mineH (p q:List Int) (hs:List (List (List Int))):List (List (List Int)):=hs.filter fun h => decide (p ∈ h) || decide (q ∈ h)
def restH (p q:List Int) (hs:List (List (List Int))):List (List (List Int)):=hs.filter fun h => !decide (h ∈ mineH p q hs)
theorem mem_mineH {p q:List Int} {hs:List (List (List Int))} {h:List (List Int)} : h ∈ mineH p q hs ↔ h ∈ hs∧(p ∈ h ∨ q ∈ h):=by
 unfold mineH
 rw [List.mem_filter,Bool.or_eq_true,decide_eq_true_eq,decide_eq_true_eq]
theorem mem_restH {p q:List Int} {hs:List (List (List Int))} {h:List (List Int)} : h ∈ restH p q hs ↔ h ∈ hs∧h ∉ mineH p q hs:=by
 unfold restH
 rw [List.mem_filter,Bool.not_eq_true',decide_eq_false_iff_not]
theorem two_filt {α:Type} {f g:List α→Bool} : ∀ {hs:List (List α)},(∀ h ∈ hs,f h=true→g h=true→False)→((hs.filter f).map List.length).sum + ((hs.filter g).map List.length).sum ≤ (hs.map List.length).sum
 | [],_ => Nat.le_refl _
 | h :: hs,k => by
  have ih:=two_filt (f:=f) (g:=g) (hs:=hs) fun x hx => k x (List.mem_cons_of_mem _ hx)
  have kh:=k h List.mem_cons_self
  rw [List.filter_cons,List.filter_cons]
  cases ef:f h <;> cases eg:g h
  ·simp only [if_neg Bool.false_ne_true,List.map_cons,List.sum_cons]; omega
  ·simp only [if_neg Bool.false_ne_true,if_pos rfl,List.map_cons,List.sum_cons]; simp; omega
  ·simp only [if_neg Bool.false_ne_true,if_pos rfl,List.map_cons,List.sum_cons]; simp; omega
  ·exact (kh ef eg).elim
structure HpI (ps:List (List Int × List Int)) (hs:List (List (List Int))):Prop where
 n:hs.length ≤ ps.length
 tot:(hs.map List.length).sum ≤ 2 * ps.length
 two:∀ h ∈ hs,∀ u ∈ h,u.length=2
 has:∀ x ∈ ps,∃ h ∈ hs,x.1 ∈ h
 ifs:∀ x ∈ ps,∀ h ∈ hs,x.1 ∈ h ↔ x.2 ∈ h
theorem HpI.nil:HpI [] []:=⟨Nat.le_refl _,Nat.le_refl _,fun h hh => (by cases hh),fun h hh => (by cases hh),fun h hh => (by cases hh)⟩
theorem flat_len {α:Type} (l:List (List α)):l.flatten.length=(l.map List.length).sum:=List.length_flatten
theorem HpI.mine {ps:List (List Int × List Int)} {hs:List (List (List Int))} (I:HpI ps hs) (p q:List Int):(mineH p q hs).flatten.length ≤ 2 * ps.length:=by
 rw [flat_len]
 have:=two_filt (f:=fun h => !decide (h ∈ mineH p q hs)) (g:=fun h => decide (p ∈ h) || decide (q ∈ h)) (hs:=hs) fun h hh e1 e2 => by
  rw [Bool.not_eq_true',decide_eq_false_iff_not] at e1
  rw [Bool.or_eq_true,decide_eq_true_eq,decide_eq_true_eq] at e2
  exact e1 (mem_mineH.mpr ⟨hh,e2⟩)
 have:=I.tot
 unfold mineH
 unfold mineH at *
 omega
theorem HpI.step {ps:List (List Int × List Int)} {hs:List (List (List Int))} {p q:List Int} {w:List (List Int)} (I:HpI ps hs) (hp:p.length=2) (hq:q.length=2) (hw:w.Perm (ddT ([p,q] ++ (mineH p q hs).flatten))):HpI (ps ++ [(p,q)]) (restH p q hs ++ [w]):=by
 have mw:∀ u,u ∈ w ↔ u=p ∨ u=q ∨ ∃ h ∈ mineH p q hs,u ∈ h:=fun u => by
  rw [hw.mem_iff,ddT_mem,List.mem_append,List.mem_flatten]
  simp only [List.mem_cons,List.not_mem_nil,or_false]
  constructor
  ·rintro ((e | e) | ⟨h,a,b⟩)
   ·exact .inl e
   ·exact .inr (.inl e)
   ·exact .inr (.inr ⟨h,a,b⟩)
  ·rintro (e | e | ⟨h,a,b⟩)
   ·exact .inl (.inl e)
   ·exact .inl (.inr e)
   ·exact .inr ⟨h,a,b⟩
 refine ⟨?_,?_,fun h hh u hu => ?_,fun x hx => ?_,fun x hx h hh => ?_⟩
 ·rw [List.length_append,List.length_append]
  have:(restH p q hs).length ≤ hs.length:=List.length_filter_le _ _
  have:=I.n
  simp only [List.length_singleton]
  omega
 ·have wl:w.length ≤ 2 + (mineH p q hs).flatten.length:=by
   rw [hw.length_eq]
   have:=ddT_len ([p,q] ++ (mineH p q hs).flatten)
   rw [List.length_append] at this
   exact this
  rw [flat_len] at wl
  have:=two_filt (f:=fun h => !decide (h ∈ mineH p q hs)) (g:=fun h => decide (p ∈ h) || decide (q ∈ h)) (hs:=hs) fun h hh e1 e2 => by
   rw [Bool.not_eq_true',decide_eq_false_iff_not] at e1
   rw [Bool.or_eq_true,decide_eq_true_eq,decide_eq_true_eq] at e2
   exact e1 (mem_mineH.mpr ⟨hh,e2⟩)
  have t:=I.tot
  rw [List.map_append,List.sum_append,List.length_append]
  simp only [List.map_cons,List.map_nil,List.sum_cons,List.sum_nil,List.length_singleton]
  have e1:restH p q hs=hs.filter fun h => !decide (h ∈ mineH p q hs):=rfl
  have e2:mineH p q hs=hs.filter fun h => decide (p ∈ h) || decide (q ∈ h):=rfl
  rw [← e1,← e2] at this
  omega
 ·rcases List.mem_append.mp hh with z | z
  ·exact I.two h (mem_restH.mp z).1 u hu
  ·rw [List.mem_singleton.mp z,mw] at hu
   rcases hu with rfl | rfl | ⟨h',a,b⟩
   ·exact hp
   ·exact hq
   ·exact I.two h' (mem_mineH.mp a).1 u b
 ·rcases List.mem_append.mp hx with z | z
  ·obtain ⟨h,a,b⟩:=I.has x z
   by_cases c:h ∈ mineH p q hs
   ·exact ⟨w,List.mem_append_right _ List.mem_cons_self,(mw _).mpr (.inr (.inr ⟨h,c,b⟩))⟩
   ·exact ⟨h,List.mem_append_left _ (mem_restH.mpr ⟨a,c⟩),b⟩
  ·rw [List.mem_singleton.mp z]
   exact ⟨w,List.mem_append_right _ List.mem_cons_self,(mw _).mpr (.inl rfl)⟩
 ·rcases List.mem_append.mp hx with z | z
  ·rcases List.mem_append.mp hh with y | y
   ·exact I.ifs x z h (mem_restH.mp y).1
   ·rw [List.mem_singleton.mp y]
    obtain ⟨h0,a0,b0⟩:=I.has x z
    have c0:=(I.ifs x z h0 a0).mp b0
    constructor
    ·intro hu
     have:∃ h ∈ mineH p q hs,x.1 ∈ h:=by
      rcases (mw _).mp hu with e | e | e
      ·exact ⟨h0,mem_mineH.mpr ⟨a0,.inl (e ▸ b0)⟩,b0⟩
      ·exact ⟨h0,mem_mineH.mpr ⟨a0,.inr (e ▸ b0)⟩,b0⟩
      ·exact e
     obtain ⟨h,a,b⟩:=this
     exact (mw _).mpr (.inr (.inr ⟨h,a,(I.ifs x z h (mem_mineH.mp a).1).mp b⟩))
    ·intro hu
     have:∃ h ∈ mineH p q hs,x.2 ∈ h:=by
      rcases (mw _).mp hu with e | e | e
      ·exact ⟨h0,mem_mineH.mpr ⟨a0,.inl (e ▸ c0)⟩,c0⟩
      ·exact ⟨h0,mem_mineH.mpr ⟨a0,.inr (e ▸ c0)⟩,c0⟩
      ·exact e
     obtain ⟨h,a,b⟩:=this
     exact (mw _).mpr (.inr (.inr ⟨h,a,(I.ifs x z h (mem_mineH.mp a).1).mpr b⟩))
  ·rw [List.mem_singleton.mp z]
   rcases List.mem_append.mp hh with y | y
   ·obtain ⟨y1,y2⟩:=mem_restH.mp y
    exact ⟨fun e => (y2 (mem_mineH.mpr ⟨y1,.inl e⟩)).elim,fun e => (y2 (mem_mineH.mpr ⟨y1,.inr e⟩)).elim⟩
   ·rw [List.mem_singleton.mp y]
    exact ⟨fun _ => (mw _).mpr (.inr (.inl rfl)),fun _ => (mw _).mpr (.inl rfl)⟩
def triP (t:List Int):List (List Int × List Int):=(List.range 3).map fun i => (endI (t.getD i 0) true,endI (t.getD ((i + 1) % 3) 0) false)
theorem triP_at {t:List Int} {i:Nat} (h:i < 3):(triP t)[i]? = some (endI (t.getD i 0) true,endI (t.getD ((i + 1) % 3) 0) false):=by
 unfold triP
 rw [List.getElem?_map,List.getElem?_range h]
 rfl
theorem ends2 {s:Int} {n:Nat} (g:List (List Int)) (h1:1 ≤ absI s) (h2:absI s ≤ (n:Int)):crs (ringR n g) s=ringE g (endI s true) + ringE g (endI s false):=by
 have e:(ringR n g)[(absI s - 1).toNat]? = some (ringE g [1 + (((absI s - 1).toNat:Nat):Int),0] + ringE g [1 + (((absI s - 1).toNat:Nat):Int),1]):=ringR_at (by omega)
 unfold crs
 rw [List.getD_eq_getElem?_getD,e]
 show _ + _=_
 rw [show 1 + (((absI s - 1).toNat:Nat):Int)=absI s by omega]
 unfold endI
 by_cases c:0 < s
 ·simp only [c,decide_true,if_pos]
  simp
  omega
 ·simp only [c,decide_false]
  simp
theorem ring_ev {S:List (List Int)} (oS:ShOk S) {g:List (List Int)} (h:∀ x ∈ S.flatMap triP,x.1 ∈ g ↔ x.2 ∈ g):EvRow S (ringR (S.length / 2 * 3) g):=by
 have rE:∀ {x y:List Int},(x ∈ g ↔ y ∈ g)→ringE g x=ringE g y:=fun {x y} q => by
  unfold ringE
  by_cases z:x ∈ g
  ·rw [if_pos z,if_pos (q.mp z)]
  ·rw [if_neg z,if_neg fun w => z (q.mpr w)]
 have nn:∀ x,0 ≤ ringE g x:=fun x => by unfold ringE; split <;> decide
 refine ⟨ringR_len _ _,fun x hx => ?_,fun a b c hm => ?_⟩
 ·obtain ⟨j,hj⟩:=List.mem_iff_getElem?.mp hx
  have jl:j < S.length / 2 * 3:=by have:=(List.getElem?_eq_some_iff.mp hj).1; rwa [ringR_len] at this
  rw [ringR_at jl] at hj
  cases hj
  have:=nn [1 + (j:Int),0]
  have:=nn [1 + (j:Int),1]
  omega
 ·have sa:=oS.side hm (i:=a) (by simp)
  have sb:=oS.side hm (i:=b) (by simp)
  have sc:=oS.side hm (i:=c) (by simp)
  rw [ends2 g sa.1 sa.2,ends2 g sb.1 sb.2,ends2 g sc.1 sc.2]
  have e1:=rE (h (endI a true,endI b false) (List.mem_flatMap.mpr ⟨_,hm,List.mem_of_getElem? (triP_at (t:=[a,b,c]) (i:=0) (by decide))⟩))
  have e2:=rE (h (endI b true,endI c false) (List.mem_flatMap.mpr ⟨_,hm,List.mem_of_getElem? (triP_at (t:=[a,b,c]) (i:=1) (by decide))⟩))
  have e3:=rE (h (endI c true,endI a false) (List.mem_flatMap.mpr ⟨_,hm,List.mem_of_getElem? (triP_at (t:=[a,b,c]) (i:=2) (by decide))⟩))
  dsimp only at e1 e2 e3
  rw [e1,e2,e3]
  have:=nn (endI a false)
  have:=nn (endI b false)
  have:=nn (endI c false)
  omega
def mulR (c:Int) (r:List Int):List Int:=r.map (c * ·)
theorem crs_mul (c:Int) (r:List Int) (s:Int):crs (mulR c r) s=c * crs r s:=by
 unfold crs mulR
 rw [List.getD_eq_getElem?_getD,List.getD_eq_getElem?_getD,List.getElem?_map]
 cases r[(absI s - 1).toNat]? with
 | none => exact (Int.mul_zero c).symm
 | some x => rfl
theorem EvRow.mul {S:List (List Int)} {r:List Int} {c:Int} (h:EvRow S r) (hc:0 ≤ c):EvRow S (mulR c r):=by
 refine ⟨by unfold mulR; rw [List.length_map,h.len],fun x hx => ?_,fun a b d hm => ?_⟩
 ·obtain ⟨y,hy,rfl⟩:=List.mem_map.mp hx
  exact Int.mul_nonneg hc (h.nn y hy)
 ·obtain ⟨p1,p2,p3,p4⟩:=h.tri a b d hm
  rw [crs_mul,crs_mul,crs_mul,← Int.mul_add,← Int.mul_add,← Int.mul_add,← Int.mul_add]
  refine ⟨?_,Int.mul_le_mul_of_nonneg_left p2 hc,Int.mul_le_mul_of_nonneg_left p3 hc,Int.mul_le_mul_of_nonneg_left p4 hc⟩
  rw [Int.mul_emod,p1,Int.mul_zero]
  rfl
theorem ev_base {S:List (List Int)} {r:List Int} {b:Int} (oS:ShOk S) (l:r.length=S.length / 2 * 3) (hb:0 ≤ b) (hr:∀ x ∈ r,∃ d,0 ≤ d∧d ≤ b∧x=2 * (b + d)):EvRow S r:=by
 refine ⟨l,fun x hx => ?_,fun a c d hm => ?_⟩
 ·obtain ⟨d,h1,h2,rfl⟩:=hr x hx
  omega
 ·have at' : ∀ s ∈ [a,c,d],∃ e,0 ≤ e∧e ≤ b∧crs r s=2 * (b + e):=fun s hs => hr _ (List.mem_of_getElem? (crs_at oS l hm hs))
  obtain ⟨x,x1,x2,x3⟩:=at' a (by simp)
  obtain ⟨y,y1,y2,y3⟩:=at' c (by simp)
  obtain ⟨z,z1,z2,z3⟩:=at' d (by simp)
  rw [x3,y3,z3]
  omega
end L2
namespace L2
open PySem PySem.Spec PyProof.Rows
def dnT (m:Nat):List Int:=(List.range m).map fun k => 1 + ((k / 2:Nat):Int)
theorem dnT_succ (m:Nat):dnT (m + 1)=dnT m ++ [1 + ((m / 2:Nat):Int)]:=by unfold dnT; rw [List.range_succ,List.map_append]; rfl
theorem dnT_pool:∀ n:Nat,(dnT (2 * n)).Perm (pool n)
 | 0 => List.Perm.refl _
 | n + 1 => by
  have ih:=dnT_pool n
  unfold pool at ih ⊢
  rw [upto_succ,show 2 * (n + 1)=2 * n + 1 + 1 by omega,dnT_succ,dnT_succ,show 2 * n / 2=n by omega,show (2 * n + 1) / 2=n by omega]
  refine ((ih.append_right _).append_right _).trans ?_
  generalize upto 1 n=A
  generalize [1 + (n:Int)]=B
  show (((A ++ A) ++ B) ++ B).Perm ((A ++ B) ++ (A ++ B))
  rw [List.append_assoc A A B,List.append_assoc A B,List.append_assoc]
  refine List.Perm.append_left A ?_
  rw [← List.append_assoc B A B]
  exact List.Perm.append_right B List.perm_append_comm
structure GnA (h m:Nat) (us vs:List Int):Prop where
 lu:us.length + m=6 * h
 au:∀ u ∈ us,0 ≤ u∧u < 6 * (h:Int)
 nd:us.Nodup
 lv:vs.length=6 * h
 z:∀ u ∈ us,vs[u.toNat]? = some 0
 pm:(vs.map absI).Perm (List.replicate (6 * h - m) 0 ++ dnT m)
theorem gen0 (h:Nat):GnA h 0 (upto 0 (6 * h)) (List.replicate (6 * h) (0:Int)):=by
 refine ⟨by rw [upto_len]; rfl,fun u hu => by have:=mem_upto.mp hu; omega,?_,List.length_replicate,fun u hu => ?_,?_⟩
 ·unfold upto
  exact List.Pairwise.map _ (fun a b (ne:a ≠ b) => by show ¬ (0 + (a:Int)=0 + (b:Int)); omega) (List.nodup_range (n:=6 * h))
 ·have:=mem_upto.mp hu
  rw [List.getElem?_replicate,if_pos (by omega)]
 ·rw [List.map_replicate]
  show (List.replicate (6 * h) (absI 0)).Perm (List.replicate (6 * h) 0 ++ [])
  rw [List.append_nil]
  exact List.Perm.refl _
theorem gen_step {h m n:Nat} {us vs:List Int} {c x:Int} (G:GnA h m us vs) (ec:us[n]? = some c) (hx:absI x=1 + ((m / 2:Nat):Int)):GnA h (m + 1) (us.eraseIdx n) (vs.set c.toNat x):=by
 have nl:n < us.length:=(List.getElem?_eq_some_iff.mp ec).1
 have mc:c ∈ us:=List.mem_of_getElem? ec
 have p1:=erase_permK ec
 have nd1:=List.nodup_cons.mp (p1.nodup_iff.mp G.nd)
 have zc:=G.z c mc
 have lu:=G.lu
 refine ⟨by rw [List.length_eraseIdx,if_pos nl]; omega,fun u hu => G.au u (List.mem_of_mem_eraseIdx hu),nd1.2,by rw [List.length_set]; exact G.lv,fun u hu => ?_,?_⟩
 ·have mu:=List.mem_of_mem_eraseIdx hu
  have ne:u ≠ c:=fun e => nd1.1 (e ▸ hu)
  have a1:=G.au u mu
  have a2:=G.au c mc
  rw [List.getElem?_set,if_neg (by omega)]
  exact G.z u mu
 ·have il:c.toNat < vs.length:=(List.getElem?_eq_some_iff.mp zc).1
  have s1:=erase_permK (l:=vs.set c.toNat x) (k:=c.toNat) (y:=x) (by rw [List.getElem?_set,if_pos rfl,if_pos il])
  rw [List.eraseIdx_set_eq] at s1
  have s0:=(erase_permK zc).map absI
  have k1:6 * h - m=(6 * h - (m + 1)) + 1:=by omega
  have pm:=s0.symm.trans G.pm
  rw [k1,List.replicate_succ] at pm
  have pm2:((vs.eraseIdx c.toNat).map absI).Perm (List.replicate (6 * h - (m + 1)) 0 ++ dnT m):=List.Perm.cons_inv pm
  refine (s1.map absI).trans ?_
  rw [List.map_cons,hx,dnT_succ,← List.append_assoc]
  exact (pm2.cons _).trans (List.perm_append_singleton _ _).symm
theorem gen_ok {h:Nat} {us vs:List Int} (h1:1 ≤ h) (h6:h ≤ 6) (G:GnA h (6 * h) us vs):ShOk ((List.range (2 * h)).map fun k => (vs.drop (3 * k)).take 3):=by
 refine ⟨⟨h,by rw [List.length_map,List.length_range],h1,h6⟩,fun t ht => ?_,?_⟩
 ·obtain ⟨k,hk,rfl⟩:=List.mem_map.mp ht
  have:=List.mem_range.mp hk
  have:=G.lv
  rw [List.length_take,List.length_drop]; omega
 ·rw [chunks,List.length_map,List.length_range,show 3 * (2 * h)=vs.length by rw [G.lv]; omega,List.take_length,show 2 * h / 2 * 3=3 * h by omega]
  have:=G.pm
  rw [show 6 * h - 6 * h=0 by omega] at this
  refine this.trans ?_
  show (dnT (6 * h)).Perm _
  rw [show 6 * h=2 * (3 * h) by omega]
  exact dnT_pool (3 * h)
section
variable {K:PySem.W.Frag} {H:Hp} {Q:VK} {Z:L2.St→Hp→Prop}
def spShO:Sp:=fun vs H Q _ => ∃ d:Addr,vs=[.ref d]∧PurseZ H d∧∀ (l:Addr) (ys:List V) (U:List (List Int)) (H' : Hp),ButZ d H H'→PurseZ H' d→H' l=some (.lst ys)→TuL H' ys U→ShOk U→Q (.ref l) H'
structure GenO (d:Addr) (H:Hp) (h m:Nat) (a b:Addr) (H' : Hp):Prop where
 bu:ButZ d H H'
 pu:PurseZ H' d
 ex:∃ us vs:List Int,H' a=some (.lst (us.map V.int))∧H' b=some (.lst (vs.map V.int))∧GnA h m us vs
set_option maxHeartbeats 8000000 in
theorem shO_reads {d:Addr} (P:PurseZ H d) (k:∀ (l:Addr) (ys:List V) (U:List (List Int)) (H' : Hp),ButZ d H H'→PurseZ H' d→H' l=some (.lst ys)→TuL H' ys U→ShOk U→Q (.ref l) H'):tLShX K { nx:=Z,rt:=Q } [some (.ref d),none,none,none,none,none,none] H:=by
 refine ⟨_,rfl,d,4,rfl,P,by decide,by decide,fun r1 H1 a1 b1 P1 B1 => ?_⟩
 refine ⟨_,rfl,d,6,rfl,P1,by decide,by decide,fun r2 H2 a2 b2 P2 B2 => ⟨(by show 2 ≤ sizeLine; decide),fun p hp => ?_⟩⟩
 have P2':=P2.new (o:=.lst [.int r1,.int r2]) hp
 have f2:(upd H2 p (.lst [.int r1,.int r2])) p=some (.lst [.int r1,.int r2]):=upd_same
 have B2':=(B1.trans B2).new (o:=.lst [.int r1,.int r2]) hp
 have np:=P2.ne hp
 refine ⟨_,rfl,d,8,rfl,P2',by decide,by decide,fun r3 H3 a3 b3 P3 B3 => ⟨rfl,.inr ⟨_,rfl,?_⟩⟩⟩
 have B13:=B2'.trans B3
 have f3:=B3 _ _ f2 np
 have hex:∃ h:Nat,1 ≤ h∧h ≤ 6∧∃ i:Int,atI [V.int r1,V.int r2] (if decide (V.int r3=V.int 3)=true then 1 else 0)=some (.int i)∧1 + i=(h:Int):=by
  by_cases e:decide (V.int r3=V.int 3)=true
  ·rw [if_pos e]
   exact ⟨(1 + r2).toNat,by omega,by omega,r2,rfl,by omega⟩
  ·rw [if_neg e]
   exact ⟨(1 + r1).toNat,by omega,by omega,r1,rfl,by omega⟩
 obtain ⟨h,h1,h6,i,ei,eh⟩:=hex
 refine ⟨p,_,_,.int i,rfl,rfl,SqL.of f3,ei,1,i,rfl,rfl,?_⟩
 dsimp only [gName]
 rw [eh]
 refine ⟨_,rfl,6,(h:Int),rfl,rfl,.inl ⟨by decide,by decide⟩,_,rfl,by omega,by omega,fun g hg => ?_⟩
 have P4:=P3.new (o:=.rng 0 (6 * (h:Int))) hg
 have B4:=B13.new (o:=.rng 0 (6 * (h:Int))) hg
 have f4:(upd H3 g (.rng 0 (6 * (h:Int)))) g=some (.rng 0 (6 * (h:Int))):=upd_same
 generalize upd H3 g (.rng 0 (6 * (h:Int)))=H4 at P4 B4 f4 ⊢
 refine ⟨g,_,_,rfl,f4,by omega,by omega,by omega,fun a ha => ?_⟩
 rw [show (6 * (h:Int) - 0).toNat=6 * h by omega]
 have P5:=P4.new (o:=.lst ((upto 0 (6 * h)).map V.int)) ha
 have B5:=B4.new (o:=.lst ((upto 0 (6 * h)).map V.int)) ha
 have f5:(upd H4 a (.lst ((upto 0 (6 * h)).map V.int))) a=some (.lst ((upto 0 (6 * h)).map V.int)):=upd_same
 have ha0:=B4.fr P4 ha
 have hna:=P4.ne ha
 dsimp only [gName]
 generalize upd H4 a (.lst ((upto 0 (6 * h)).map V.int))=H5 at P5 B5 f5 ⊢
 have lu:(upto 0 (6 * h)).length=6 * h:=upto_len _ _
 refine ⟨_,rfl,a,rfl,⟨_,SqL.of f5⟩,compL (K:=K) (a:=a) (xs:=(upto 0 (6 * h)).map V.int) (fun m zs H' => zs=(List.replicate m (0:Int)).map V.int∧H5=H') ⟨rfl,rfl⟩ (by rw [List.length_map,lu]; omega) (fun m zs H' h => by rw [h.1,List.length_map,List.length_replicate]; exact Nat.le_refl _) (fun m zs H' _ h => by rw [← h.2]; exact SqL.of f5) ?_ ?_⟩
 ·rintro n z zs H4 pre hpl hz ⟨rfl,rfl⟩
  rcases pre with _ | ⟨q0,_ | ⟨q1,pre⟩⟩
  ·cases hpl
  ·refine ⟨⟨[some _],rfl,rfl⟩,?_⟩
   unfold tYes
   dsimp only
   rw [if_pos (rfl:true=true)]
   refine ⟨?_,rfl⟩
   rw [List.replicate_succ',List.map_append]
   rfl
  ·cases hpl
 rintro zs H6 ⟨rfl,rfl⟩ b hb
 rw [List.length_map,lu]
 have P6:=P5.new (o:=.lst ((List.replicate (6 * h) (0:Int)).map V.int)) hb
 have B6:=B5.new (o:=.lst ((List.replicate (6 * h) (0:Int)).map V.int)) hb
 have f6:(upd H5 b (.lst ((List.replicate (6 * h) (0:Int)).map V.int))) b=some (.lst ((List.replicate (6 * h) (0:Int)).map V.int)):=upd_same
 have fa6:(upd H5 b (.lst ((List.replicate (6 * h) (0:Int)).map V.int))) a=some (.lst ((upto 0 (6 * h)).map V.int)):=by rw [upd_ne (ne_of_none f5 hb)]; exact f5
 have hb0:=B5.fr P5 hb
 have hnb:=P5.ne hb
 have nab:a ≠ b:=ne_of_none f5 hb
 dsimp only [gName]
 generalize upd H5 b (.lst ((List.replicate (6 * h) (0:Int)).map V.int))=H6 at P6 B6 f6 fa6 ⊢
 have g0:GenO d H h 0 a b H6:=⟨B6,P6,_,_,fa6,f6,gen0 h⟩
 refine ⟨_,rfl,3,(h:Int),rfl,rfl,.inl ⟨by decide,by decide⟩,_,_,rfl,rfl,_,_,rfl,⟨by decide,by decide,by omega,by omega⟩,?_⟩
 rw [show (3 * (h:Int) + 1 - 1).toNat=3 * h by omega]
 refine for_range (fun i σ H' => ∃ x4 x5 x6:Option V,σ=[some (.ref d),some (.int (h:Int)),some (.ref a),some (.ref b),x4,x5,x6]∧GenO d H h (2 * i) a b H') ⟨_,_,_,rfl,g0⟩ ?_ ?_
 ·rintro i σ H7 hi ⟨x4,x5,x6,rfl,g7⟩
  dsimp only [gName]
  refine ⟨_,rfl,by decide,by decide,for_range (fun j σ H' => ∃ x5 x6:Option V,σ=[some (.ref d),some (.int (h:Int)),some (.ref a),some (.ref b),some (.int (1 + (i:Int))),x5,x6]∧GenO d H h (2 * i + j) a b H') ⟨_,_,rfl,g7⟩ ?_ fun σ H' h => ?_⟩
  ·rintro j σ H8 hj ⟨x5,x6,rfl,B8,P8,us,vs,fu,fv,G8⟩
   dsimp only [gName]
   have hj:j < 2:=hj
   have lu8:=G8.lu
   have au:=G8.au
   have lv8:=G8.lv
   refine ⟨_,rfl,.inl ⟨rfl,_,SqL.of fu⟩,_,rfl,_,rfl,a,_,rfl,.inl (SqL.of fu),d,_,rfl,P8,by rw [List.length_map]; omega,Int.lt_of_lt_of_le (show _ < (1000:Int) by rw [List.length_map]; omega) (by decide),fun r H9 r0 rm P9 B9 => ?_⟩
   rw [List.length_map] at rm
   obtain ⟨n,c,en,ec,_⟩:=at_ex us r0 rm
   have nl:n < us.length:=(List.getElem?_eq_some_iff.mp ec).1
   have fu9:=B9 _ _ fu hna
   have fv9:=B9 _ _ fv hnb
   refine ⟨a,_,r,n,.int c,rfl,rfl,fu9,by omega,by omega,by rw [seqIndex_of r0 (by rw [List.length_map]; exact rm)]; congr 1; omega,by rw [List.getElem?_map,ec]; rfl,?_⟩
   have hc:=au c (List.mem_of_getElem? ec)
   have P10:=P9.at (o:=.lst ((us.map V.int).eraseIdx n)) hna
   have B10:=(B8.trans B9).own (o:=.lst ((us.map V.int).eraseIdx n)) ha0
   have fu10:(upd H9 a (.lst ((us.map V.int).eraseIdx n))) a=some (.lst ((us.map V.int).eraseIdx n)):=upd_same
   have fv10:(upd H9 a (.lst ((us.map V.int).eraseIdx n))) b=_:=(upd_ne (Ne.symm nab)).trans fv9
   generalize upd H9 a (.lst ((us.map V.int).eraseIdx n))=H10 at P10 B10 fu10 fv10 ⊢
   dsimp only [gName]
   refine ⟨_,rfl,_,rfl,d,2,rfl,P10,by decide,by decide,fun r' H11 r0' rm' P11 B11 => ?_⟩
   have fu11:=B11 _ _ fu10 hna
   have fv11:=B11 _ _ fv10 hnb
   refine ⟨2,r',rfl,rfl,.inl ⟨by decide,by decide⟩,1,_,rfl,rfl,_,_,rfl,rfl,.inr ⟨by omega,by omega⟩,_,rfl,_,rfl,?_⟩
   refine ⟨b,_,c,c.toNat,rfl,rfl,fv11,?_,?_⟩
   ·rw [List.length_map]
    have:=ixN_nat (n:=vs.length) (j:=c.toNat) (by omega)
    rw [show ((c.toNat:Nat):Int)=c by omega] at this
    exact this
   refine ⟨_,_,rfl,(B10.trans B11).own hb0,P11.at hnb,us.eraseIdx n,vs.set c.toNat ((1 + (i:Int)) * (1 - 2 * r')),?_,?_,?_⟩
   ·rw [upd_ne nab,fu11,map_erase]
   ·rw [upd_same,List.map_set]
   ·refine gen_step G8 ec ?_
    show _=1 + (((2 * i + j) / 2:Nat):Int)
    rw [show (2 * i + j) / 2=i by omega]
    have:r' = 0 ∨ r' = 1:=by omega
    unfold absI
    rcases this with rfl | rfl
    ·rw [if_neg (by omega)]; omega
    ·rw [if_pos (by omega)]; omega
  ·obtain ⟨x5,x6,rfl,g⟩:=h
   exact ⟨_,_,_,rfl,by rw [show 2 * (i + 1)=2 * i + (2:Int).toNat from rfl]; exact g⟩
 ·rintro σ H7 ⟨x4,x5,x6,rfl,B7,P7,us,vs,_,fv,G7⟩
  have lv:=G7.lv
  refine ⟨_,rfl,2,(h:Int),rfl,rfl,.inl ⟨by decide,by decide⟩,_,rfl,by omega,by omega,?_⟩
  rw [show (2 * (h:Int)).toNat=2 * h by omega]
  refine compR (fun n zs H' => Same H7 H'∧TuL H' zs ((List.range n).map fun k => (vs.drop (3 * k)).take 3)) ⟨Same.refl _,TuL.nil _⟩ (by omega) (fun i ys H' h => by rw [h.2.1,List.length_map,List.length_range]; exact Nat.le_refl _) ?_ ?_
  ·rintro i zs H8 pre hpl hi ⟨s8,t8⟩
   rcases pre with _ | ⟨q0,_ | ⟨q1,pre⟩⟩
   ·cases hpl
   ·refine ⟨⟨[some _],rfl,rfl⟩,?_⟩
    unfold tYes
    dsimp only
    rw [if_pos (rfl:true=true)]
    refine ⟨_,rfl,_,rfl,3,(i:Int),rfl,by rw [Int.zero_add],.inl ⟨by decide,by decide⟩,_,rfl,_,rfl,3,(i:Int),rfl,by rw [Int.zero_add],.inl ⟨by decide,by decide⟩,_,_,rfl,rfl,_,rfl,b,_,rfl,SqL.of (s8 _ _ fv),fun q hq => ?_⟩
    have ecut:cutV (vs.map V.int) (some (3 * (i:Int))) (some (3 * (i:Int) + 3))=((vs.drop (3 * i)).take 3).map V.int:=by
     have:=HT.sIx_nat (vs.map V.int).length 0 (3 * i)
     have e1:HT.sIx (vs.map V.int).length 0 (some (3 * (i:Int)))=3 * i:=by
      rw [show (3 * (i:Int))=((3 * i:Nat):Int) by omega,HT.sIx_nat,List.length_map]; omega
     have e2:HT.sIx (vs.map V.int).length (vs.map V.int).length (some (3 * (i:Int) + 3))=3 * i + 3:=by
      rw [show (3 * (i:Int) + 3)=((3 * i + 3:Nat):Int) by omega,HT.sIx_nat,List.length_map]; omega
     unfold cutV
     rw [e1,e2,List.map_take,List.map_drop,show 3 * i + 3 - 3 * i=3 by omega]
    rw [ecut]
    have s9:=Same.nw (o:=.lst (((vs.drop (3 * i)).take 3).map V.int)) (Same.refl H8) hq
    have f9:(upd H8 q (.lst (((vs.drop (3 * i)).take 3).map V.int))) q=some (.lst (((vs.drop (3 * i)).take 3).map V.int)):=upd_same
    dsimp only [tNil]
    generalize upd H8 q (.lst (((vs.drop (3 * i)).take 3).map V.int))=H9 at s9 f9 ⊢
    refine ⟨q,_,rfl,.inl ⟨SqL.of f9,fun q' hq' => ?_⟩⟩
    have s10:=Same.nw (o:=.tup (((vs.drop (3 * i)).take 3).map V.int)) (Same.refl H9) hq'
    refine ⟨s8.trans (s9.trans s10),?_⟩
    rw [List.range_succ,List.map_append]
    exact TuL.snoc (t8.up (s9.trans s10).tups) upd_same
   ·cases hpl
  ·rintro zs H8 ⟨s8,t8⟩ D hD
   have s9:=Same.nw (o:=.lst zs) (Same.refl H8) hD
   exact k D zs _ _ (B7.same (s8.trans s9)) (P7.up (s8.trans s9)) upd_same (t8.up s9.tups) (gen_ok h1 h6 (show GnA h (6 * h) us vs by rw [show 6 * h=2 * (3 * h) by omega]; exact G7))
end
end L2
namespace L2
open PySem PySem.Spec PyProof.Rows
section
variable {K:PySem.W.Frag} {H:Hp} {Q:VK} {Z:L2.St→Hp→Prop}
def wtS (ss:List Str):Nat:=(ss.map (·.length)).sum + ss.length
theorem wtS_app (a b:List Str):wtS (a ++ b)=wtS a + wtS b:=by unfold wtS; rw [List.map_append,List.sum_append,List.length_append]; omega
theorem wtS_take (ss:List Str) (n:Nat):wtS (ss.take n) ≤ wtS ss:=by
 have:=wtS_app (ss.take n) (ss.drop n)
 rw [List.take_append_drop] at this
 omega
theorem wtS_drop (ss:List Str) (n:Nat):wtS (ss.drop n) ≤ wtS ss:=by
 have:=wtS_app (ss.take n) (ss.drop n)
 rw [List.take_append_drop] at this
 omega
theorem wtS_set:∀ (ss:List Str) (n:Nat) (w:Str),wtS (ss.set n w) ≤ wtS ss + w.length
 | [],n,w => Nat.zero_le _
 | a :: ss,0,w => by
  have e1:=wtS_app [w] ss
  have e2:=wtS_app [a] ss
  have e3:wtS [w]=w.length + 1:=rfl
  have e4:wtS [a]=a.length + 1:=rfl
  show wtS ([w] ++ ss) ≤ wtS ([a] ++ ss) + w.length
  omega
 | a :: ss,n + 1,w => by
  have ih:=wtS_set ss n w
  have e1:=wtS_app [a] (ss.set n w)
  have e2:=wtS_app [a] ss
  show wtS ([a] ++ ss.set n w) ≤ wtS ([a] ++ ss) + w.length
  omega
theorem wtS_mem {ss:List Str} {w:Str} (h:w ∈ ss):w.length + 1 ≤ wtS ss:=by
 obtain ⟨a,b,rfl⟩:=List.append_of_mem h
 have e1:=wtS_app a (w :: b)
 have e2:=wtS_app [w] b
 have e4:wtS [w]=w.length + 1:=rfl
 have:wtS (w :: b)=wtS ([w] ++ b):=rfl
 omega
theorem wtS_split (t:Str):wtS (wordsS t) ≤ t.length + 1:=by
 have one:wtS [t]=t.length + 1:=rfl
 unfold wordsS Txt.split
 split
 ·rw [one]; exact Nat.le_refl _
 ·split
  ·rw [one]; exact Nat.le_refl _
  ·have h:=StrLaws.glued_between_self t " " (t.length + 1)
   have h2:=size_glued " " (Builtin.Str.partsBetween t (Builtin.Str.occurrences t " " 0 t.length (t.length + 1)) (" " : Str).length)
   rw [h,show (" " : Str).length=1 from by decide +kernel] at h2
   unfold wtS
   rw [show (" " : Str).length=1 from by decide +kernel]
   omega
theorem wtS_join (ss:List Str):(Str.join " " ss).length ≤ wtS ss:=by
 have:=StrLaws.join_length_le " " ss
 rw [show (" " : Str).length=1 from by decide +kernel] at this
 unfold wtS
 omega
theorem cut_strs (ss:List Str) (lo hi:Option Int):∃ rs:List Str,cutV (ss.map V.str) lo hi=rs.map V.str∧wtS rs ≤ wtS ss:=by
 refine ⟨(ss.drop (HT.sIx (ss.map V.str).length 0 lo)).take (HT.sIx (ss.map V.str).length (ss.map V.str).length hi - HT.sIx (ss.map V.str).length 0 lo),?_,Nat.le_trans (wtS_take _ _) (wtS_drop _ _)⟩
 unfold cutV
 rw [List.map_take,List.map_drop]
theorem iteN {p:Bool} {A B:Prop} (h:p=false) (b:B):if p=true then A else B:=by rw [if_neg (by rw [h]; decide)]; exact b
theorem iteY {p:Bool} {A B:Prop} (h:p=true) (a:A):if p=true then A else B:=by rw [if_pos h]; exact a
theorem sub_le (z:Str) (a b:Nat):(subS z a b).length ≤ z.length:=by
 rw [len_list,len_list]
 unfold subS
 show (((z.cps.toList.drop a).take (b - a)).toArray.toList).length ≤ _
 rw [List.length_take,List.length_drop]
 omega
theorem mul_ok01 (z:Str) (b:Bool):MulOk z (if b=true then 1 else 0):=by
 cases b
 ·exact ⟨by decide,fun h => absurd (by decide) h,fun h => absurd (by decide) h⟩
 ·refine ⟨by decide,fun _ h => ?_,fun _ h => ?_⟩ <;> exact absurd h (by simp)
theorem mul_len01 (z:Str) (b:Bool):(Txt.mul z (if b=true then 1 else 0)).length ≤ z.length:=by
 cases b
 ·exact Nat.zero_le _
 ·exact Nat.le_refl _
theorem mul_61:MulOk "1" 61:=⟨by decide,fun _ _ => by decide +kernel,fun _ _ => by decide +kernel⟩
theorem mul_60:MulOk "1" 60:=⟨by decide,fun _ _ => by decide +kernel,fun _ _ => by decide +kernel⟩
theorem len_61:(Txt.mul "1" 61).length=61:=by decide +kernel
theorem len_60:(Txt.mul "1" 60).length=60:=by decide +kernel
def spSplt:Sp:=fun vs H Q _ => ∃ (d:Addr) (t:Str),vs=[.ref d,.str t]∧PurseZ H d∧t.length ≤ 1500∧∀ (s:Str) (H' : Hp),ButZ d H H'→PurseZ H' d→s.length ≤ 3 * t.length + 300→Q (.str s) H'
def tWords (K:PySem.W.Frag):TS:=(tSeq (tAsg (tBM K "str" (fun x vs H Q => ∃ z y,x=V.str z∧vs=[V.str y]∧(y.length == 0)=false∧z.length ≤ 100000∧∀ (l:Addr),H l=none→Q (V.ref l) (upd H l (HO.lst (List.map V.str (Txt.split z y))))) (tVar 1) (tCons (tC (V.str (" "))) tNil)) (gName 5)) (tSeq (tAsg (tCall spTakeZ [] E0 (tCons (tVar 0) (tCons (tCB (fun xs H Q => ∃ p ys,xs=[V.ref p]∧(SqL K H p ys ∨ SqT K H p ys)∧Q (V.int ys.length) H) (tCons (tVar 5) tNil)) tNil))) (gName 2)) (tSeq (tIfS (tTest (tOp rEq (tVar 4) (tC (V.int 4)))) (tAsg (tCB (fun xs H Q => ∃ i,xs=[V.int i]∧i.natAbs.log2 < 1920∧Q (V.str ((toString i))) H) (tCons (tOp (rI0 fun i j => V.int (i - j)) (tCall spTakeZ [] E0 (tCons (tVar 0) (tCons (tC (V.int 20)) tNil))) (tC (V.int 9))) tNil)) (gSub (tVar 5) (tVar 2) rSetL)) tNext) (tSeq (tIfS (tTest (tOp rEq (tVar 4) (tC (V.int 5)))) (tSeq (tAsg (tLst (tCons (tC (V.str ("-0"))) (tCons (tC (V.str ("00"))) (tCons (tOp (fun x y H Q => ∃ i j,x=V.str i∧y=V.str j∧i.length + j.length ≤ sizeLine∧Q (V.str (i ++ j)) H) (tC (V.str ("0"))) (tOp (rIxL K) (tVar 5) (tVar 2))) (tCons (tOp (fun x y H Q => ∃ i j,x=V.str i∧y=V.str j∧i.length + j.length ≤ sizeLine∧Q (V.str (i ++ j)) H) (tC (V.str ("+"))) (tOp (rIxL K) (tVar 5) (tVar 2))) (tCons (tOp (fun x y H Q => ∃ z i,x=V.str z∧y=V.int i∧MulOk z i∧Q (V.str (Txt.mul z i)) H) (tC (V.str ("1"))) (tC (V.int 61))) (tCons (tOp (fun x y H Q => ∃ z i,x=V.str z∧y=V.int i∧MulOk z i∧Q (V.str (Txt.mul z i)) H) (tC (V.str ("1"))) (tC (V.int 60))) (tCons (tC (V.str (""))) (tCons (tC (V.str ("-"))) tNil))))))))) (gName 6)) (tAsg (tOp (rIxL K) (tVar 6) (tCall spTakeZ [] E0 (tCons (tVar 0) (tCons (tC (V.int 8)) tNil)))) (gSub (tVar 5) (tVar 2) rSetL))) tNext) (tSeq (tIfS (tTest (tOp rEq (tVar 4) (tC (V.int 6)))) (tAsg (tOp rCat (tSl (rSlL K) (tVar 5) tNoPart (tPart (tVar 2))) (tSl (rSlL K) (tVar 5) (tPart (tOp (rI0 fun i j => V.int (i + j)) (tVar 2) (tC (V.int 1)))) tNoPart)) (gName 5)) tNext) (tSeq (tIfS (tTest (tOp rEq (tVar 4) (tC (V.int 7)))) (tAsg (tOp rCat (tOp rCat (tSl (rSlL K) (tVar 5) tNoPart (tPart (tVar 2))) (tSl (rSlL K) (tVar 5) (tPart (tVar 2)) (tPart (tOp (rI0 fun i j => V.int (i + j)) (tVar 2) (tC (V.int 4)))))) (tSl (rSlL K) (tVar 5) (tPart (tVar 2)) tNoPart)) (gName 5)) tNext) (tSeq (tIfS (tTest (tOp rEq (tVar 4) (tC (V.int 8)))) (tRet (tOp (rIxL K) (tLst (tCons (tC (V.str (""))) (tCons (tC (V.str (" "))) (tCons (tC (V.str ("/"))) (tCons (tC (V.str (" / "))) (tCons (tC (V.str ("none"))) (tCons (tC (V.str ("1"))) (tCons (tC (V.str ("1 2 3"))) (tCons (tC (V.str ("1 / 2"))) tNil))))))))) (tCall spTakeZ [] E0 (tCons (tVar 0) (tCons (tC (V.int 8)) tNil))))) tNext) (tRet (tBM K "str" (fun x vs H_1 Q => ∃ sep p ss,x=V.str sep∧vs=[V.ref p]∧SqL K H_1 p (List.map V.str ss)∧sep.length ≤ 16∧(List.map (fun x => x.length) ss).sum + ss.length ≤ 1048576∧Q (V.str (sep.join ss)) H_1) (tC (V.str (" "))) (tCons (tVar 5) tNil))))))))))
def tSplt (K:PySem.W.Frag):TS:=tSeq (tAsg (tCall spTakeZ [] E0 (tCons (tVar 0) (tCons (tOp (rI0 fun i j => V.int (i + j)) (tCB (fun xs H Q => ∃ z,xs=[V.str z]∧z.length ≤ sizeLine∧Q (V.int (z.length:Int)) H) (tCons (tVar 1) tNil)) (tC (V.int 1))) tNil))) (gName 2)) (tSeq (tAsg (tOp (rIxL K) (tLst (tCons (tOp rIxS (tC (V.str (" /-0123456789aX,+._x"))) (tCall spTakeZ [] E0 (tCons (tVar 0) (tCons (tC (V.int 20)) tNil)))) (tCons (tOp rIxS (tCall spSgn [] E0 tNil) (tCall spTakeZ [] E0 (tCons (tVar 0) (tCons (tC (V.int 94)) tNil)))) tNil))) (tCall spTakeZ [] E0 (tCons (tVar 0) (tCons (tC (V.int 2)) tNil)))) (gName 3)) (tSeq (tAsg (tCall spTakeZ [] E0 (tCons (tVar 0) (tCons (tC (V.int 9)) tNil))) (gName 4)) (tSeq (tIfS (tTest (tOp (rI0 fun i j => V.bl (decide (i < j))) (tVar 4) (tC (V.int 3)))) (tRet (tOp (fun x y H Q => ∃ i j,x=V.str i∧y=V.str j∧i.length + j.length ≤ sizeLine∧Q (V.str (i ++ j)) H) (tOp (fun x y H Q => ∃ i j,x=V.str i∧y=V.str j∧i.length + j.length ≤ sizeLine∧Q (V.str (i ++ j)) H) (tSl rSlS (tVar 1) tNoPart (tPart (tVar 2))) (tOp (fun x y H Q => ∃ z i,x=V.str z∧y=V.int i∧MulOk z i∧Q (V.str (Txt.mul z i)) H) (tVar 3) (tCB (fun xs H Q => (∃ i,xs=[V.int i]∧Q (V.int i) H) ∨ ∃ k,xs=[V.bl k]∧Q (V.int (if k=true then 1 else 0)) H) (tCons (tOp (rI0 fun i j => V.bl (decide (i < j))) (tVar 4) (tC (V.int 2))) tNil)))) (tSl rSlS (tVar 1) (tPart (tOp (rI0 fun i j => V.int (i + j)) (tVar 2) (tC (V.int 1)))) tNoPart))) tNext) (tSeq (tIfS (tTest (tOp rEq (tVar 4) (tC (V.int 3)))) (tRet (tOp (fun x y H Q => ∃ i j,x=V.str i∧y=V.str j∧i.length + j.length ≤ sizeLine∧Q (V.str (i ++ j)) H) (tOp (fun x y H Q => ∃ i j,x=V.str i∧y=V.str j∧i.length + j.length ≤ sizeLine∧Q (V.str (i ++ j)) H) (tSl rSlS (tVar 1) tNoPart (tPart (tVar 2))) (tVar 3)) (tSl rSlS (tVar 1) (tPart (tVar 2)) tNoPart))) tNext) (tWords K)))))
set_option maxHeartbeats 8000000 in
theorem words_reads {d:Addr} {t sg:Str} {H0:Hp} {x2 x5 x6:Option V} {way:Int} (P:PurseZ H d) (B:ButZ d H0 H) (tl:t.length ≤ 1500) (w4:4 ≤ way) (w9:way < 9) (k:∀ (s:Str) (H' : Hp),ButZ d H0 H'→PurseZ H' d→s.length ≤ 3 * t.length + 300→Q (.str s) H'):tWords K { nx:=Z,rt:=Q } [some (.ref d),some (.str t),x2,some (.str sg),some (.int way),x5,x6] H:=by
 have fin:∀ (ss:List Str) (H' : Hp),wtS ss ≤ 3 * t.length + 200→ButZ d H0 H'→PurseZ H' d→Q (.str (Str.join " " ss)) H':=fun ss H' h1 h2 h3 => k _ _ h2 h3 (by have:=wtS_join ss; omega)
 refine ⟨_,rfl,rfl,t, " ",rfl,rfl,blank_ne,by omega,fun l hl => ?_⟩
 have P1:=P.new (o:=.lst ((Txt.split t " ").map V.str)) hl
 have B1:=B.new (o:=.lst ((Txt.split t " ").map V.str)) hl
 have l0:=B.fr P hl
 have nl:=P.ne hl
 have f1:(upd H l (.lst ((Txt.split t " ").map V.str))) l=some (.lst ((wordsS t).map V.str)):=upd_same
 dsimp only [gName]
 generalize upd H l (.lst ((Txt.split t " ").map V.str))=H1 at P1 B1 f1 ⊢
 have wt:=wtS_split t
 have ne:0 < (wordsS t).length:=List.length_pos_iff.mpr (split_ne t " ")
 have wl:(wordsS t).length ≤ 1501:=by unfold wtS at wt; omega
 generalize wordsS t=ws at wt ne wl f1
 refine ⟨_,rfl,_,rfl,l,_,rfl,.inl (SqL.of f1),d,_,rfl,P1,by rw [List.length_map]; omega,Int.lt_of_lt_of_le (show _ < (6000:Int) by rw [List.length_map]; omega) (by decide),fun r H2 r0 rm P2 B2 => ?_⟩
 rw [List.length_map] at rm
 have f2:=B2 _ _ f1 nl
 have B02:=B1.trans B2
 obtain ⟨n,c,rfl,ec,eat⟩:=at_ex ws r0 rm
 have nw:n < ws.length:=(List.getElem?_eq_some_iff.mp ec).1
 have ix:ixN (ws.map V.str).length (n:Int)=some n:=ixN_nat (by rw [List.length_map]; exact nw)
 have atv:atI (ws.map V.str) (n:Int)=some (.str c):=atI_nat (by rw [List.getElem?_map,ec]; rfl)
 have cl:=wtS_mem (List.mem_of_getElem? ec)
 dsimp only [gName]
 rcases (by omega:way=4 ∨ way=5 ∨ way=6 ∨ way=7 ∨ way=8) with rfl | rfl | rfl | rfl | rfl
 ·refine ⟨_,rfl,rfl,_,rfl,iteY (by decide) ?_⟩
  refine ⟨_,rfl,d,20,rfl,P2,by decide,by decide,fun q H3 q0 qm P3 B3 => ?_⟩
  have hs:=str18 (i:=q - 9) (by omega) (by omega)
  refine ⟨q,9,rfl,rfl,_,rfl,hs.1,_,rfl,_,rfl,?_⟩
  refine ⟨l,_,_,n,rfl,rfl,B3 _ _ f2 nl,ix,?_⟩
  have P4:=P3.at (o:=.lst ((ws.map V.str).set n (.str (strI (q - 9))))) nl
  have B4:=(B02.trans B3).own (o:=.lst ((ws.map V.str).set n (.str (strI (q - 9))))) l0
  have f4:(upd H3 l (.lst ((ws.map V.str).set n (.str (strI (q - 9)))))) l=some (.lst ((ws.set n (strI (q - 9))).map V.str)):=by rw [upd_same,List.map_set]
  have w4:=wtS_set ws n (strI (q - 9))
  change tSeq _ _ _ _ (upd H3 l (.lst ((ws.map V.str).set n (.str (strI (q - 9))))))
  generalize upd H3 l (.lst ((ws.map V.str).set n (.str (strI (q - 9)))))=H4 at P4 B4 f4 ⊢
  have wl4:wtS (ws.set n (strI (q - 9))) ≤ 3 * t.length + 200:=by have:=hs.2; omega
  refine ⟨_,rfl,rfl,_,rfl,iteN (by decide) ⟨_,rfl,rfl,_,rfl,iteN (by decide) ⟨_,rfl,rfl,_,rfl,iteN (by decide) ⟨_,rfl,rfl,_,rfl,iteN (by decide) ?_⟩⟩⟩⟩
  refine ⟨rfl,_,rfl, " ",l,_,rfl,rfl,SqL.of f4,by decide,?_,fin _ _ wl4 B4 P4⟩
  unfold wtS at wl4
  omega
 ·refine ⟨_,rfl,rfl,_,rfl,iteN (by decide) ⟨_,rfl,rfl,_,rfl,iteY (by decide) ?_⟩⟩
  refine ⟨_,rfl,_,rfl,l,_,_,_,rfl,rfl,SqL.of f2,atv,_,_,rfl,rfl,?_,?_⟩
  ·exact Nat.le_trans (show _ ≤ 6000 by rw [show ("0" : Str).length=1 from by decide +kernel]; omega) (by decide)
  refine ⟨_,rfl,_,rfl,l,_,_,_,rfl,rfl,SqL.of f2,atv,_,_,rfl,rfl,?_,?_⟩
  ·exact Nat.le_trans (show _ ≤ 6000 by rw [show ("+" : Str).length=1 from by decide +kernel]; omega) (by decide)
  refine ⟨_,_,rfl,rfl,mul_61,_,_,rfl,rfl,mul_60,(by show 8 ≤ sizeLine; decide),fun p hp => ?_⟩
  have hod:∃ od:List Str,od=[("-0" : Str),("00" : Str),("0" : Str) ++ c,("+" : Str) ++ c,Txt.mul "1" 61,Txt.mul "1" 60,("" : Str),("-" : Str)]:=⟨_,rfl⟩
  obtain ⟨od,eod⟩:=hod
  have lod:od.length=8:=by rw [eod]; rfl
  have aod:∀ w ∈ od,w.length ≤ t.length + 62:=fun w hw => by
   rw [eod] at hw
   simp only [List.mem_cons,List.not_mem_nil,or_false] at hw
   rcases hw with rfl | rfl | rfl | rfl | rfl | rfl | rfl | rfl
   ·exact Nat.le_trans (show _ ≤ 62 by decide +kernel) (by omega)
   ·exact Nat.le_trans (show _ ≤ 62 by decide +kernel) (by omega)
   ·rw [Str.length_append,show ("0" : Str).length=1 from by decide +kernel]; omega
   ·rw [Str.length_append,show ("+" : Str).length=1 from by decide +kernel]; omega
   ·rw [len_61]; omega
   ·rw [len_60]; omega
   ·exact Nat.le_trans (show _ ≤ 62 by decide +kernel) (by omega)
   ·exact Nat.le_trans (show _ ≤ 62 by decide +kernel) (by omega)
  have eh:(HO.lst [V.str "-0",V.str "00",V.str (("0" : Str) ++ c),V.str (("+" : Str) ++ c),V.str (Txt.mul "1" 61),V.str (Txt.mul "1" 60),V.str "",V.str "-"]) = .lst (od.map V.str):=by rw [eod]; rfl
  have P3:=P2.new (o:=.lst (od.map V.str)) hp
  have B3:=B02.new (o:=.lst (od.map V.str)) hp
  have f3:(upd H2 p (.lst (od.map V.str))) l=some (.lst (ws.map V.str)):=(upd_ne (ne_of_none f2 hp)).trans f2
  have fo:(upd H2 p (.lst (od.map V.str))) p=some (.lst (od.map V.str)):=upd_same
  have np:=P2.ne hp
  dsimp only [gName]
  rw [eh]
  generalize upd H2 p (.lst (od.map V.str))=H3 at P3 B3 f3 fo ⊢
  refine ⟨_,rfl,_,rfl,d,8,rfl,P3,by decide,by decide,fun q H4 q0 qm P4 B4 => ?_⟩
  obtain ⟨m,w,rfl,ew,_⟩:=at_ex od q0 (by rw [lod]; exact qm)
  have lw:=aod w (List.mem_of_getElem? ew)
  refine ⟨p,_,_,.str w,rfl,rfl,SqL.of (B4 _ _ fo np),atI_nat (by rw [List.getElem?_map,ew]; rfl),_,rfl,_,rfl,?_⟩
  refine ⟨l,_,_,n,rfl,rfl,B4 _ _ f3 nl,ix,?_⟩
  have P5:=P4.at (o:=.lst ((ws.map V.str).set n (.str w))) nl
  have B5:=(B3.trans B4).own (o:=.lst ((ws.map V.str).set n (.str w))) l0
  have f5:(upd H4 l (.lst ((ws.map V.str).set n (.str w)))) l=some (.lst ((ws.set n w).map V.str)):=by rw [upd_same,List.map_set]
  have w5:=wtS_set ws n w
  change tSeq _ _ _ _ (upd H4 l (.lst ((ws.map V.str).set n (.str w))))
  generalize upd H4 l (.lst ((ws.map V.str).set n (.str w)))=H5 at P5 B5 f5 ⊢
  have wl5:wtS (ws.set n w) ≤ 3 * t.length + 200:=by omega
  refine ⟨_,rfl,rfl,_,rfl,iteN (by decide) ⟨_,rfl,rfl,_,rfl,iteN (by decide) ⟨_,rfl,rfl,_,rfl,iteN (by decide) ?_⟩⟩⟩
  refine ⟨rfl,_,rfl, " ",l,_,rfl,rfl,SqL.of f5,by decide,?_,fin _ _ wl5 B5 P5⟩
  unfold wtS at wl5
  omega
 ·refine ⟨_,rfl,rfl,_,rfl,iteN (by decide) ⟨_,rfl,rfl,_,rfl,iteN (by decide) ⟨_,rfl,rfl,_,rfl,iteY (by decide) ?_⟩⟩⟩
  obtain ⟨ra,ea,wa⟩:=cut_strs ws none (some (n:Int))
  obtain ⟨rb,eb,wb⟩:=cut_strs ws (some ((n:Int) + 1)) none
  refine ⟨_,rfl,_,rfl,_,rfl,l,_,rfl,SqL.of f2,fun p hp => ?_⟩
  rw [ea]
  have P3:=P2.new (o:=.lst (ra.map V.str)) hp
  have B3:=B02.new (o:=.lst (ra.map V.str)) hp
  have f3:(upd H2 p (.lst (ra.map V.str))) l=some (.lst (ws.map V.str)):=(upd_ne (ne_of_none f2 hp)).trans f2
  have fp:(upd H2 p (.lst (ra.map V.str))) p=some (.lst (ra.map V.str)):=upd_same
  generalize upd H2 p (.lst (ra.map V.str))=H3 at P3 B3 f3 fp ⊢
  refine ⟨_,rfl,_,rfl,_,_,rfl,rfl,_,rfl,l,_,rfl,SqL.of f3,fun q hq => ?_⟩
  rw [eb]
  have P4:=P3.new (o:=.lst (rb.map V.str)) hq
  have B4:=B3.new (o:=.lst (rb.map V.str)) hq
  have f4:(upd H3 q (.lst (rb.map V.str))) p=some (.lst (ra.map V.str)):=(upd_ne (ne_of_none fp hq)).trans fp
  have fq:(upd H3 q (.lst (rb.map V.str))) q=some (.lst (rb.map V.str)):=upd_same
  generalize upd H3 q (.lst (rb.map V.str))=H4 at P4 B4 f4 fq ⊢
  have la:ra.length ≤ wtS ra:=by unfold wtS; omega
  have lb:rb.length ≤ wtS rb:=by unfold wtS; omega
  refine ⟨p,q,_,_,rfl,rfl,f4,fq,Nat.le_trans (show _ ≤ 6000 by rw [List.length_map,List.length_map]; omega) (by decide),fun m hm => ?_⟩
  have f5:(upd H4 m (.lst (ra.map V.str ++ rb.map V.str))) m=some (.lst ((ra ++ rb).map V.str)):=by rw [upd_same,List.map_append]
  have P5:=P4.new (o:=.lst (ra.map V.str ++ rb.map V.str)) hm
  have B5:=B4.new (o:=.lst (ra.map V.str ++ rb.map V.str)) hm
  dsimp only [gName]
  generalize upd H4 m (.lst (ra.map V.str ++ rb.map V.str))=H5 at P5 B5 f5 ⊢
  have wl5:wtS (ra ++ rb) ≤ 3 * t.length + 200:=by rw [wtS_app]; omega
  refine ⟨_,rfl,rfl,_,rfl,iteN (by decide) ⟨_,rfl,rfl,_,rfl,iteN (by decide) ?_⟩⟩
  refine ⟨rfl,_,rfl, " ",m,_,rfl,rfl,SqL.of f5,by decide,?_,fin _ _ wl5 B5 P5⟩
  unfold wtS at wl5
  omega
 ·refine ⟨_,rfl,rfl,_,rfl,iteN (by decide) ⟨_,rfl,rfl,_,rfl,iteN (by decide) ⟨_,rfl,rfl,_,rfl,iteN (by decide) ⟨_,rfl,rfl,_,rfl,iteY (by decide) ?_⟩⟩⟩⟩
  obtain ⟨ra,ea,wa⟩:=cut_strs ws none (some (n:Int))
  obtain ⟨rb,eb,wb⟩:=cut_strs ws (some (n:Int)) (some ((n:Int) + 4))
  obtain ⟨rc,ec',wc⟩:=cut_strs ws (some (n:Int)) none
  refine ⟨_,rfl,_,rfl,_,rfl,l,_,rfl,SqL.of f2,fun p hp => ?_⟩
  rw [ea]
  have P3:=P2.new (o:=.lst (ra.map V.str)) hp
  have B3:=B02.new (o:=.lst (ra.map V.str)) hp
  have f3:(upd H2 p (.lst (ra.map V.str))) l=some (.lst (ws.map V.str)):=(upd_ne (ne_of_none f2 hp)).trans f2
  have fp:(upd H2 p (.lst (ra.map V.str))) p=some (.lst (ra.map V.str)):=upd_same
  generalize upd H2 p (.lst (ra.map V.str))=H3 at P3 B3 f3 fp ⊢
  refine ⟨_,rfl,_,rfl,_,rfl,_,rfl,_,_,rfl,rfl,_,rfl,l,_,rfl,SqL.of f3,fun q hq => ?_⟩
  rw [eb]
  have P4:=P3.new (o:=.lst (rb.map V.str)) hq
  have B4:=B3.new (o:=.lst (rb.map V.str)) hq
  have f4:(upd H3 q (.lst (rb.map V.str))) p=some (.lst (ra.map V.str)):=(upd_ne (ne_of_none fp hq)).trans fp
  have f4l:(upd H3 q (.lst (rb.map V.str))) l=some (.lst (ws.map V.str)):=(upd_ne (ne_of_none f3 hq)).trans f3
  have fq:(upd H3 q (.lst (rb.map V.str))) q=some (.lst (rb.map V.str)):=upd_same
  generalize upd H3 q (.lst (rb.map V.str))=H4 at P4 B4 f4 f4l fq ⊢
  have la:ra.length ≤ wtS ra:=by unfold wtS; omega
  have lb:rb.length ≤ wtS rb:=by unfold wtS; omega
  have lc:rc.length ≤ wtS rc:=by unfold wtS; omega
  refine ⟨p,q,_,_,rfl,rfl,f4,fq,Nat.le_trans (show _ ≤ 6000 by rw [List.length_map,List.length_map]; omega) (by decide),fun m hm => ?_⟩
  have f5:(upd H4 m (.lst (ra.map V.str ++ rb.map V.str))) m=some (.lst ((ra ++ rb).map V.str)):=by rw [upd_same,List.map_append]
  have f5l:(upd H4 m (.lst (ra.map V.str ++ rb.map V.str))) l=some (.lst (ws.map V.str)):=(upd_ne (ne_of_none f4l hm)).trans f4l
  have P5:=P4.new (o:=.lst (ra.map V.str ++ rb.map V.str)) hm
  have B5:=B4.new (o:=.lst (ra.map V.str ++ rb.map V.str)) hm
  generalize upd H4 m (.lst (ra.map V.str ++ rb.map V.str))=H5 at P5 B5 f5 f5l ⊢
  refine ⟨_,rfl,_,rfl,_,rfl,l,_,rfl,SqL.of f5l,fun q2 hq2 => ?_⟩
  rw [ec']
  have P6:=P5.new (o:=.lst (rc.map V.str)) hq2
  have B6:=B5.new (o:=.lst (rc.map V.str)) hq2
  have f6:(upd H5 q2 (.lst (rc.map V.str))) m=some (.lst ((ra ++ rb).map V.str)):=(upd_ne (ne_of_none f5 hq2)).trans f5
  have fc:(upd H5 q2 (.lst (rc.map V.str))) q2=some (.lst (rc.map V.str)):=upd_same
  generalize upd H5 q2 (.lst (rc.map V.str))=H6 at P6 B6 f6 fc ⊢
  refine ⟨m,q2,_,_,rfl,rfl,f6,fc,Nat.le_trans (show _ ≤ 6000 by rw [List.length_map,List.length_map,List.length_append]; omega) (by decide),fun m2 hm2 => ?_⟩
  have f7:(upd H6 m2 (.lst ((ra ++ rb).map V.str ++ rc.map V.str))) m2=some (.lst ((ra ++ rb ++ rc).map V.str)):=by rw [upd_same,← List.map_append]
  have P7:=P6.new (o:=.lst ((ra ++ rb).map V.str ++ rc.map V.str)) hm2
  have B7:=B6.new (o:=.lst ((ra ++ rb).map V.str ++ rc.map V.str)) hm2
  dsimp only [gName]
  generalize upd H6 m2 (.lst ((ra ++ rb).map V.str ++ rc.map V.str))=H7 at P7 B7 f7 ⊢
  have wl5:wtS (ra ++ rb ++ rc) ≤ 3 * t.length + 200:=by rw [wtS_app,wtS_app]; omega
  refine ⟨_,rfl,rfl,_,rfl,iteN (by decide) ?_⟩
  refine ⟨rfl,_,rfl, " ",m2,_,rfl,rfl,SqL.of f7,by decide,?_,fin _ _ wl5 B7 P7⟩
  unfold wtS at wl5
  omega
 ·refine ⟨_,rfl,rfl,_,rfl,iteN (by decide) ⟨_,rfl,rfl,_,rfl,iteN (by decide) ⟨_,rfl,rfl,_,rfl,iteN (by decide) ⟨_,rfl,rfl,_,rfl,iteN (by decide) ⟨_,rfl,rfl,_,rfl,iteY (by decide) ?_⟩⟩⟩⟩⟩
  refine ⟨(by show 8 ≤ sizeLine; decide),fun p hp => ?_⟩
  have hod:∃ od:List Str,od=[("" : Str),(" " : Str),("/" : Str),(" / " : Str),("none" : Str),("1" : Str),("1 2 3" : Str),("1 / 2" : Str)]:=⟨_,rfl⟩
  obtain ⟨od,eod⟩:=hod
  have lod:od.length=8:=by rw [eod]; rfl
  have aod:∀ w ∈ od,w.length ≤ 202:=by rw [eod]; decide +kernel
  have eh:(HO.lst [V.str "",V.str " ",V.str "/",V.str " / ",V.str "none",V.str "1",V.str "1 2 3",V.str "1 / 2"]) = .lst (od.map V.str):=by rw [eod]; rfl
  have P3:=P2.new (o:=.lst (od.map V.str)) hp
  have B3:=B02.new (o:=.lst (od.map V.str)) hp
  have fo:(upd H2 p (.lst (od.map V.str))) p=some (.lst (od.map V.str)):=upd_same
  have np:=P2.ne hp
  rw [eh]
  generalize upd H2 p (.lst (od.map V.str))=H3 at P3 B3 fo ⊢
  refine ⟨_,rfl,d,8,rfl,P3,by decide,by decide,fun q H4 q0 qm P4 B4 => ?_⟩
  obtain ⟨m,w,rfl,ew,_⟩:=at_ex od q0 (by rw [lod]; exact qm)
  have lw:=aod w (List.mem_of_getElem? ew)
  refine ⟨p,_,_,.str w,rfl,rfl,SqL.of (B4 _ _ fo np),atI_nat (by rw [List.getElem?_map,ew]; rfl),k w _ (B3.trans B4) P4 (by omega)⟩
set_option maxHeartbeats 8000000 in
theorem splt_reads {d:Addr} {t:Str} (P:PurseZ H d) (tl:t.length ≤ 1500) (k:∀ (s:Str) (H' : Hp),ButZ d H H'→PurseZ H' d→s.length ≤ 3 * t.length + 300→Q (.str s) H'):tSplt K { nx:=Z,rt:=Q } [some (.ref d),some (.str t),none,none,none,none,none] H:=by
 refine ⟨_,rfl,_,rfl,t,rfl,Nat.le_trans (show _ ≤ 6000 by omega) (by decide),_,_,rfl,rfl,d,_,rfl,P,by omega,Int.lt_of_lt_of_le (show _ < (6000:Int) by omega) (by decide),fun r1 H1 r0 rm P1 B1 => ?_⟩
 refine ⟨_,rfl,d,20,rfl,P1,by decide,by decide,fun r2 H2 a2 b2 P2 B2 => ?_⟩
 obtain ⟨_,c1,_,_,e1⟩:=at_ex (" /-0123456789aX,+._x" : Str).cps.toList a2 (by rw [show (" /-0123456789aX,+._x" : Str).cps.toList.length=20 from by decide +kernel]; exact b2)
 refine ⟨_,r2,c1,rfl,rfl,by decide +kernel,e1,?_⟩
 refine ⟨rfl,?_⟩
 refine ⟨_,rfl,d,94,rfl,P2,by decide,by decide,fun r3 H3 a3 b3 P3 B3 => ?_⟩
 obtain ⟨_,c2,_,_,e2⟩:=at_ex (sgA ++ sgB).cps.toList a3 (by rw [← len_list,sg_len]; exact b3)
 refine ⟨_,r3,c2,rfl,rfl,by rw [sg_len]; decide,e2,?_⟩
 refine ⟨(by show 2 ≤ sizeLine; decide),fun p hp => ?_⟩
 have P4:=P3.new (o:=.lst [.str ⟨#[c1]⟩,.str ⟨#[c2]⟩]) hp
 have B4:=((B1.trans B2).trans B3).new (o:=.lst [.str ⟨#[c1]⟩,.str ⟨#[c2]⟩]) hp
 have f4:(upd H3 p (.lst [.str ⟨#[c1]⟩,.str ⟨#[c2]⟩])) p=some (.lst [.str ⟨#[c1]⟩,.str ⟨#[c2]⟩]):=upd_same
 have np:=P3.ne hp
 generalize upd H3 p (.lst [.str ⟨#[c1]⟩,.str ⟨#[c2]⟩])=H4 at P4 B4 f4 ⊢
 refine ⟨_,rfl,d,2,rfl,P4,by decide,by decide,fun r4 H5 a5 b5 P5 B5 => ?_⟩
 have f5:=B5 _ _ f4 np
 have hz:∃ z:Str,atI [V.str ⟨#[c1]⟩,V.str ⟨#[c2]⟩] r4=some (.str z)∧z.length=1:=by
  rcases (by omega:r4=0 ∨ r4=1) with rfl | rfl
  ·exact ⟨_,rfl,rfl⟩
  ·exact ⟨_,rfl,rfl⟩
 obtain ⟨sg,esg,lsg⟩:=hz
 refine ⟨p,_,r4,.str sg,rfl,rfl,SqL.of f5,esg,?_⟩
 dsimp only [gName]
 refine ⟨_,rfl,d,9,rfl,P5,by decide,by decide,fun way H6 w0 w9 P6 B6 => ?_⟩
 have B06:=(B4.trans B5).trans B6
 dsimp only [gName]
 refine ⟨_,rfl,_,_,rfl,rfl,_,rfl,?_⟩
 have sb:=fun a b => sub_le t a b
 by_cases w3:way < 3
 ·refine iteY (decide_eq_true w3) ?_
  refine ⟨_,rfl,_,rfl,_,rfl,t,0,min r1.toNat t.length,rfl,.inl ⟨rfl,rfl⟩,.inr ⟨r1.toNat,by congr 1; omega,rfl⟩,Nat.zero_le _,Nat.le_trans (show _ ≤ 6000 by omega) (by decide),?_⟩
  refine ⟨_,rfl,_,rfl,_,_,rfl,rfl,.inr ⟨_,rfl,sg,_,rfl,rfl,mul_ok01 _ _,?_⟩⟩
  have ml:=mul_len01 sg (decide (way < 2))
  refine ⟨_,_,rfl,rfl,Nat.le_trans (show _ ≤ 6000 by have:=sb 0 (min r1.toNat t.length); omega) (by decide),?_⟩
  refine ⟨_,rfl,_,rfl,_,_,rfl,rfl,_,rfl,t,min (r1.toNat + 1) t.length,t.length,rfl,.inr ⟨r1.toNat + 1,by congr 1; omega,rfl⟩,.inl ⟨rfl,rfl⟩,by omega,Nat.le_trans (show _ ≤ 6000 by omega) (by decide),?_⟩
  refine ⟨_,_,rfl,rfl,Nat.le_trans (show _ ≤ 6000 by rw [Str.length_append]; have:=sb 0 (min r1.toNat t.length); have:=sb (min (r1.toNat + 1) t.length) t.length; omega) (by decide),?_⟩
  refine k _ _ B06 P6 ?_
  rw [Str.length_append,Str.length_append]
  have:=sb 0 (min r1.toNat t.length)
  have:=sb (min (r1.toNat + 1) t.length) t.length
  omega
 refine iteN (decide_eq_false w3) ?_
 refine ⟨_,rfl,rfl,_,rfl,?_⟩
 by_cases w4:way=3
 ·subst w4
  refine iteY (by decide) ?_
  refine ⟨_,rfl,_,rfl,_,rfl,t,0,min r1.toNat t.length,rfl,.inl ⟨rfl,rfl⟩,.inr ⟨r1.toNat,by congr 1; omega,rfl⟩,Nat.zero_le _,Nat.le_trans (show _ ≤ 6000 by omega) (by decide),?_⟩
  refine ⟨_,rfl,_,_,rfl,rfl,Nat.le_trans (show _ ≤ 6000 by have:=sb 0 (min r1.toNat t.length); omega) (by decide),?_⟩
  refine ⟨_,rfl,_,rfl,_,rfl,t,min r1.toNat t.length,t.length,rfl,.inr ⟨r1.toNat,by congr 1; omega,rfl⟩,.inl ⟨rfl,rfl⟩,by omega,Nat.le_trans (show _ ≤ 6000 by omega) (by decide),?_⟩
  refine ⟨_,_,rfl,rfl,Nat.le_trans (show _ ≤ 6000 by rw [Str.length_append]; have:=sb 0 (min r1.toNat t.length); have:=sb (min r1.toNat t.length) t.length; omega) (by decide),?_⟩
  refine k _ _ B06 P6 ?_
  rw [Str.length_append,Str.length_append]
  have:=sb 0 (min r1.toNat t.length)
  have:=sb (min r1.toNat t.length) t.length
  omega
 refine iteN (decide_eq_false fun q => w4 (V.int.inj q)) ?_
 exact words_reads P6 B06 tl (by omega) w9 k
end
end L2
namespace L2
open PySem PySem.Spec PyProof.Rows
section
variable {K:PySem.W.Frag} {H:Hp} {Q:VK} {Z:L2.St→Hp→Prop}
def spPurseZ (K:PySem.W.Frag):Sp:=fun vs H Q _ => ∃ (a:Addr) (ns:List Int) (k:Int),vs=[.ref a,.int k]∧SqL K H a (ns.map V.int)∧0 ≤ k∧k ≤ 1000∧∀ (d:Addr) (H' : Hp),H d=none→PurseZ H' d→Same H H'→Q (.ref d) H'
end
end L2
namespace L2
open PySem PySem.Spec PyProof.Rows
theorem lookup_relabel_cellX {env:Env} {x:Str} (hk:env.scope.kind = .function) (hx:env.kindOf x=some .cell):∀ {names:List (Str × NameKind)},names.lookup x=some .free→(names.map fun (n,k) => if (k == NameKind.free && env.scope.kind == .function && env.kindOf n == some .cell) then (n,NameKind.cell) else (n,k)).lookup x=some .cell
 | [],h => by cases h
 | (n,k) :: ns,h => by
  rw [List.map_cons]
  by_cases e:x == n
  ·have e' : x=n:=by simpa using e
   subst e'
   rw [List.lookup_cons,e] at h
   have hk' : k = .free:=Option.some.inj h
   subst hk'
   have hb:(NameKind.free == NameKind.free && env.scope.kind == .function && env.kindOf x == some .cell)=true:=by rw [hk,hx]; rfl
   show List.lookup x ((if (NameKind.free == NameKind.free && env.scope.kind == .function && env.kindOf x == some .cell) then (x,NameKind.cell) else (x,NameKind.free)) :: _)=_
   rw [if_pos hb,List.lookup_cons,e]
  ·have e1:(x == n)=false:=by simpa using e
   rw [List.lookup_cons,e1] at h
   have ih:=lookup_relabel_cellX hk hx h
   show List.lookup x ((if (k == NameKind.free && env.scope.kind == .function && env.kindOf n == some .cell) then (n,NameKind.cell) else (n,k)) :: _)=_
   split
   ·rw [List.lookup_cons,e1]; exact ih
   ·rw [List.lookup_cons,e1]; exact ih
end L2
set_option maxHeartbeats 4000000
namespace L2
open PySem PySem.Spec PyProof.Rows
section
variable {X:Cx}
def cxD (X:Cx) (x:Str) (xs Nb:List Str) (scope:Scope) (cl:List (Str × Addr)) (C:Addr) (s₂:Shared) (H₂:Hp) (fp:List Addr):Cx :=
 { X with N:=xs ++ Nb,s₀:=s₂,H₀:=H₂,env:=compEnvC scope ((x,C + 1) :: cl) C X.env,outer:=X.stack,stack:=X.stack,ex:=fp,fn:=fun y => y == x,pn:=[],xe:=fun _ _ => False }
def InD (X:Cx) (x:Str) (xs Nb:List Str) (scope:Scope) (φ:Cx→Prop):Prop:=∀ (cl:List (Str × Addr)) (C:Addr) (s₂:Shared) (H₂:Hp) (fp:List Addr),φ (cxD X x xs Nb scope cl C s₂ H₂ fp)
theorem lkD {x y:Str} {d c:Addr} {cl:List (Str × Addr)} (h:List.lookup y ((x,d) :: cl)=some c):(y=x∧c=d) ∨ cl.lookup y=some c:=by
 rw [List.lookup_cons] at h
 cases z:y == x with
 | true => rw [z] at h; exact .inl ⟨eq_of_beq z,(Option.some.inj h).symm⟩
 | false => rw [z] at h; exact .inr h
theorem lkD_ex {x y:Str} {d:Addr} {cl:List (Str × Addr)} (h:y=x ∨ ∃ c,cl.lookup y=some c):∃ c,List.lookup y ((x,d) :: cl)=some c:=by
 rw [List.lookup_cons]
 cases z:y == x with
 | true => exact ⟨_,rfl⟩
 | false =>
  rcases h with h | h
  ·rw [h,beq_self_eq_true] at z; cases z
  ·exact h
theorem relabel_kindD {names:List (Str × NameKind)} {env:Env} {x:Str} {k:NameKind} (h:(names.map fun (n,k) => if (k == NameKind.free && env.scope.kind == .function && env.kindOf n == some .cell) then (n,NameKind.cell) else (n,k)).lookup x=some k) :
  (k = .cell ∨ k = .free)→names.lookup x=some .free ∨ names.lookup x=some .cell:=by
 induction names with
 | nil => cases h
 | cons p r ih =>
  obtain ⟨n,k0⟩:=p
  intro hk
  have h:List.lookup x ((if (k0 == NameKind.free && env.scope.kind == .function && env.kindOf n == some .cell)=true then (n,NameKind.cell) else (n,k0)) :: _)=some k:=h
  by_cases c:(k0 == NameKind.free && env.scope.kind == .function && env.kindOf n == some .cell)=true
  ·rw [if_pos c] at h
   rw [List.lookup_cons] at h ⊢
   cases z:x == n with
   | true =>
    simp only [Bool.and_eq_true,beq_iff_eq] at c
    exact .inl (by rw [c.1.1])
   | false => rw [z] at h; exact ih h hk
  ·rw [if_neg c] at h
   rw [List.lookup_cons] at h ⊢
   cases z:x == n with
   | true =>
    rw [z] at h
    have e:k0=k:=Option.some.inj h
    subst e
    rcases hk with rfl | rfl
    ·exact .inr rfl
    ·exact .inl rfl
   | false => rw [z] at h; exact ih h hk
theorem lookup_relabel_own {env:Env} : ∀ {names:List (Str × NameKind)} {x:Str},names.lookup x=some .cell →
  (names.map fun (n,k) => if (k == NameKind.free && env.scope.kind == .function && env.kindOf n == some .cell) then (n,NameKind.cell) else (n,k)).lookup x=some .cell
 | [],_,h => by cases h
 | (n,k) :: r,x,h => by
  have ih:=@lookup_relabel_own env r x
  show List.lookup x ((if (k == NameKind.free && env.scope.kind == .function && env.kindOf n == some .cell)=true then (n,NameKind.cell) else (n,k)) :: _)=_
  rw [List.lookup_cons] at h
  cases hx:x == n with
  | true =>
   rw [hx] at h
   cases h
   simp [List.lookup_cons,hx]
  | false =>
   rw [hx] at h
   by_cases hc:(k == NameKind.free && env.scope.kind == .function && env.kindOf n == some .cell)=true
   ·rw [if_pos hc]; rw [List.lookup_cons,hx]; exact ih h
   ·rw [if_neg hc]; rw [List.lookup_cons,hx]; exact ih h
theorem wpAny_newEnvD {M:Model} {A:Around} {E:Value→Shared→Prop} {s:Shared} {x:Str} {scope:Scope} {globals:Addr} {cl:List (Str × Addr)} {qual:Str} {env:Env} {Q:Env→Shared→Prop}
  (hcs:∀ n acc,cellsFrom n scope.names acc=(x,n) :: acc) (hps:∀ h,pushCells h scope.names=h.push { cls:=.type "cell",data:=.cell none })
  (h:∀ h₁:Heap,h₁.Ns s.heap.objs.size (fun _ => none)→h₁.IsCell (s.heap.objs.size + 1) none→(∀ b o,s.heap.get? b=some o→h₁.get? b=some o) →
   Q { scope:=scope,locals:=s.heap.objs.size,globals:=globals,cells:=(x,s.heap.objs.size + 1) :: cl,qual:=qual,func:=none,code:=env.code,frame:=env.frame,builtins:=env.builtins } { s with heap:=h₁ }) :
  wpAny M A (newFunctionEnv scope globals cl [] qual none .none (some env)) Q E s:=by
 simp only [newFunctionEnv,Option.isSome_some,if_true]
 refine wpAny_bind (wpAny_alloc ?_)
 refine wpAny_bind (wpAny_layCells _ (fun name kind cells => by cases hkc:kind == NameKind.cell <;> simp [hkc]) _ _ _ _ ?_)
 rw [hcs,hps]
 have sz:({ s with heap:=s.heap.push { cls:=.type "dict",data:=.dict #[] } } : Shared).heap.objs.size=s.heap.objs.size + 1:=Heap.size_push ..
 rw [sz]
 rw [List.forIn_nil]
 refine wpAny_bind (wpAny_pure (wpAny_pure ?_))
 have kp:∀ b o,(s.heap.push { cls:=.type "dict",data:=.dict #[] }).get? b=some o→((s.heap.push { cls:=.type "dict",data:=.dict #[] }).push { cls:=.type "cell",data:=.cell none }).get? b=some o:=fun b o e => Heap.get?_push_of_some _ e
 refine h _ ((Heap.Ns.new s.heap (.type "dict")).keeps kp) ⟨{ cls:=.type "cell",data:=.cell none },?_,rfl⟩ fun b o e => kp b o (Heap.get?_push_of_some _ e)
 have:=Heap.get?_push_size (s.heap.push { cls:=.type "dict",data:=.dict #[] }) (o:={ cls:=.type "cell",data:=.cell none }) rfl
 rw [Heap.size_push] at this
 exact this
theorem comp_coreD {elt iter tg:Expr} {x:Str} {xs Nb:List Str} {ifs:List Expr} {scope:Scope} {pos:PySem.Pos} {wi:TI} {g:TG} {tt:TT} {te:TE}
  (hc:X.calm=true) (hi:PI X tg iter wi) (hlen:Nb.length=X.N.length) (hNb:∀ p ∈ Nb.zip X.N,p.1=p.2 ∨ scope.names.lookup p.1=none) (hxN:∀ y ∈ Nb,scope.names.lookup y ≠ some .local∧scope.names.lookup y ≠ some .cell)
  (hg:InD X x xs Nb scope fun Y => PG Y tg g) (ht:InD X x xs Nb scope fun Y => PIf Y ifs tt) (he:InD X x xs Nb scope fun Y => PE Y elt te)
  (hcs:∀ n acc,cellsFrom n scope.names acc=(x,n) :: acc) (hps:∀ h,pushCells h scope.names=h.push { cls:=.type "cell",data:=.cell none }) (hcx:∀ y ∈ scope.names,y.2 = .cell→y.1=x) (hxc:scope.names.lookup x=some .cell) (hkind:scope.kind = .function) (hnames:∀ y ∈ scope.names,y.2 = .local→scope.names.lookup y.1=some .local)
  (hfree:∀ y ∈ scope.names,y.2 = .free→X.env.kindOf y.1=some .cell)
  (hs:∀ x,foldedSetIterable iter X.env x=pure x) {pos2:PySem.Pos} {use:Option (Value→Sem Unit)} {QQ:Value→Shared→Prop} {pins:List (Addr × Obj)} {s:Shared} {σ:St} {H:Hp} {Q:VK} (I:Inv X pins σ H s) (h:tCompG xs.length wi g tt te σ H Q)
  (post:∀ (s2 s4:Shared) (H2 H4:Hp) (C D:Addr) (m4:Str→Option Value),Inv X pins σ H2 s2→s2.heap.objs.size ≤ C→s4.heap.Ns C m4→H4 C=none→(∀ h',Heap.SameBut C s4.heap h'→Inv X pins σ H4 { s4 with heap:=h' })→Q (.ref D) H4→compPost (model X.prog X.w) X.A X.xe use QQ (.ref D) C (.ok .next) s4) :
  wpAny (model X.prog X.w) X.A (comprehension (.ListComp elt [⟨tg,iter,ifs,0⟩] scope pos) scope X.env pos2 (newList []) false (eval iter X.env) use) QQ X.xe s:=by
 obtain ⟨cl,hcl,cl1,cl2⟩:=clos_ok (scope:=scope) (env:=X.env) (fun y hy hf => I.ok.has y.1 (.inl (hfree y hy hf)))
 refine wpAny_comprehension_free rfl hs hcl hkind hnames (thn (hi pins s σ H _ I h) fun v s1 h1 => thn h1 fun itv s2 h2 => ?_)
 obtain ⟨it,fp,tn,J,H2,e,I2,T,st2,f2,W,⟨m0,w0⟩,turn⟩:=h2
 subst e
 refine wpAny_newObj_type (wpAny_newEnvD hcs hps fun h₁ hns₁ hcl₁ hkp₁ => ?_)
 dsimp only at hns₁ hcl₁ hkp₁ ⊢
 generalize hHp:s2.heap.push { cls:=.type "list",dict:=none,data:=.seq ([]:List Value).toArray } = Hp2 at hns₁ hcl₁ hkp₁ ⊢
 have hC:Hp2.objs.size=s2.heap.objs.size + 1:=by rw [← hHp,Heap.size_push]
 have hDC:s2.heap.objs.size ≠ Hp2.objs.size:=by rw [hC]; exact Nat.ne_of_lt (Nat.lt_succ_self _)
 have below:∀ b,b < s2.heap.objs.size→b ≠ Hp2.objs.size∧b ≠ s2.heap.objs.size:=fun b hb => ⟨by rw [hC]; exact Nat.ne_of_lt (Nat.lt_succ_of_lt hb),Nat.ne_of_lt hb⟩
 have old:∀ b o,s2.heap.get? b=some o→h₁.get? b=some o:=fun b o e => hkp₁ b o (hHp ▸ Heap.get?_push_of_some _ e)
 have hacc:h₁.PlainList s2.heap.objs.size #[]:=⟨_,hkp₁ _ _ (hHp ▸ Heap.get?_push_size _ rfl)⟩
 have hC1:∀ c:Addr,c=Hp2.objs.size + 1→¬ (c < s2.heap.objs.size):=fun c e h => by
  have h:Hp2.objs.size + 1 < s2.heap.objs.size:=by rw [← e]; exact h
  omega
 have hC2 : ¬ s2.heap.objs.size=Hp2.objs.size + 1:=by omega
 generalize hY:cxD X x xs Nb scope cl Hp2.objs.size s2 H2 fp=Y
 have Yprog:Y.prog=X.prog:=by rw [← hY]; rfl
 have fpLt:∀ b ∈ fp,b < s2.heap.objs.size:=fun b hb => by
  obtain ⟨o,e,_⟩:=T.obj _ _ st2 b hb
  exact Heap.lt_size e
 have cellLt:∀ y c,cl.lookup y=some c→c < s2.heap.objs.size:=fun y c hc => by
  obtain ⟨v,q⟩:=I2.cell y c (cl1 y c hc)
  exact q.lt
 have frSub:∀ b ∈ frs X.stack,b < s2.heap.objs.size:=fun b hb => by
  rcases List.mem_cons.mp (I2.stkSub b hb) with z | z
  ·rw [z]; exact I2.lt
  ·by_cases hlt:b < s2.heap.objs.size
   ·exact hlt
   ·exact absurd z (I2.nofs (Nat.le_of_not_lt hlt))
 have ok:(cxD X x xs Nb scope cl Hp2.objs.size s2 H2 fp).Ok:=by
  refine ⟨I2.ok.mod,hkind,I2.ok.glob,I2.ok.blt,(by show s2.heap.objs.size ≤ Hp2.objs.size; omega),fun y z c h1 h2 => ?_,fun y hy => ?_,fun y c hf hc => ?_,I2.ok.hd,I2.ok.frames,.inl rfl,fun b hb => ⟨?_,fun y c h1 h2 => ?_⟩,I2.bs,Nat.le_trans I2.ok.bsz I2.sz,fun b o e hb => ?_,fun b hb hm => ?_,I2.stack,I2.stkFree⟩
  ·rcases lkD h1 with ⟨e1,e2⟩ | h1 <;> rcases lkD h2 with ⟨e3,e4⟩ | h2
   ·rw [e1,e3]
   ·exact absurd (cellLt z c h2) (hC1 _ e2)
   ·exact absurd (cellLt y c h1) (hC1 _ e4)
   ·exact I2.ok.inj y z c (cl1 y c h1) (cl1 z c h2)
  ·have hy:(scope.names.map fun (n,k) => if (k == NameKind.free && X.env.scope.kind == .function && X.env.kindOf n == some .cell) then (n,NameKind.cell) else (n,k)).lookup y=some .cell ∨ (scope.names.map fun (n,k) => if (k == NameKind.free && X.env.scope.kind == .function && X.env.kindOf n == some .cell) then (n,NameKind.cell) else (n,k)).lookup y=some .free:=hy
   have q:scope.names.lookup y=some .free ∨ scope.names.lookup y=some .cell:=by
    rcases hy with z | z
    ·exact relabel_kindD z (.inl rfl)
    ·exact relabel_kindD z (.inr rfl)
   rcases q with q | q
   ·obtain ⟨c,ec⟩:=Option.isSome_iff_exists.mp (cl2 y (PySem.mem_of_lookup q))
    exact lkD_ex (.inr ⟨c,ec⟩)
   ·exact lkD_ex (.inl (hcx _ (PySem.mem_of_lookup q) rfl))
  ·have e:y=x:=eq_of_beq hf
   rcases lkD hc with ⟨_,e2⟩ | h1
   ·rw [e2]; show s2.heap.objs.size ≤ _; omega
   ·subst e
    have:List.lookup y ((y,Hp2.objs.size + 1) :: cl)=some c:=hc
    rw [List.lookup_cons,beq_self_eq_true] at this
    cases this
    show s2.heap.objs.size ≤ _; omega
  ·exact (below b (fpLt b hb)).1
  ·rcases lkD h1 with ⟨_,e2⟩ | h1
   ·exact absurd (h2 ▸ fpLt b hb) (hC1 _ e2)
   ·exact (f2 b hb).2.2.2.2.1 y c (cl1 y c h1) h2
  ·rcases (f2 b hb).2.2.2.1 with z | z
   ·exact I2.ok.noex b o e z
   ·exact absurd (Nat.lt_of_lt_of_le (Heap.lt_size e) (Nat.le_trans I2.ok.bsz z)) (Nat.lt_irrefl _)
  ·rcases List.mem_cons.mp (I2.stkSub b hm) with z | z
   ·exact (f2 b hb).2.1 z
   ·exact (f2 b hb).2.2.1 z
 have fpY:∀ {H' : Hp} {pl:List (Addr × Obj)},(∀ b ∈ fp,H' b=none)→(∀ p ∈ pl,p.1=s2.heap.objs.size)→∀ b ∈ fp,FpOk Y pl H' b:=fun {H' pl} hn hp b hb => by
  rw [← hY]
  refine ⟨hn b hb,(below b (fpLt b hb)).1,fun hm => ?_,.inl hb,fun y c h1 h2 => (by
   rcases lkD h1 with ⟨_,e2⟩ | h1
   ·exact absurd (h2 ▸ fpLt b hb) (hC1 _ e2)
   ·exact (f2 b hb).2.2.2.2.1 y c (cl1 y c h1) h2),fun p hm z => ?_⟩
  ·rcases List.mem_cons.mp (I2.stkSub b hm) with z | z
   ·exact (f2 b hb).2.1 z
   ·exact (f2 b hb).2.2.1 z
  ·have hm:p ∈ pl:=hm
   rw [hp p hm] at z
   exact (below b (fpLt b hb)).2 z.symm
 have HD:H2 s2.heap.objs.size=none:=I2.hok.fresh (Nat.le_refl _)
 have HC:H2 Hp2.objs.size=none:=I2.hok.fresh (by omega)
 obtain ⟨m2,hns2,hloc2⟩:=I2.loc
 have IY:∀ tk,Inv (cxD X x xs Nb scope cl Hp2.objs.size s2 H2 fp) [] (List.replicate xs.length none ++ σ) H2 { s2 with heap:=h₁,toks:=tk }:=fun tk => by
  refine ⟨ok,rfl,I2.bare,Un.kept old,⟨_,hns₁,fun i y v h1 h2 h3 => ?_⟩,fun y c h1 => ?_,HC,fun y c h1 => (by
   rcases lkD h1 with ⟨_,e2⟩ | h1
   ·rw [e2]; exact I2.hok.fresh (by omega)
   ·exact I2.freeC y c (cl1 y c h1)),fun p hp => absurd (show p ∈ ([]:List (Addr × Obj)) from hp) (by simp),I2.hok.kept old,(by show (List.replicate xs.length (none:Option V) ++ σ).length=(xs ++ Nb).length; rw [List.length_append,List.length_append,List.length_replicate,hlen,I2.len])⟩
  ·have h1:(xs ++ Nb)[i]? = some y:=h1
   by_cases hik:i < xs.length
   ·rw [List.getElem?_append_left (by rw [List.length_replicate]; exact hik),List.getElem?_replicate,if_pos hik] at h2
    cases h2
   ·rw [List.getElem?_append_right (by omega)] at h1
    rw [List.getElem?_append_right (by rw [List.length_replicate]; omega),List.length_replicate] at h2
    generalize i - xs.length=i at h1 h2
    have h3:Vis (relabel scope X.env) y:=h3
    have key:∀ k,(k=NameKind.cell ∨ k=NameKind.free)→(relabel scope X.env).names.lookup y=some k→∃ u,RelV v u∧Look (compEnvC scope ((x,Hp2.objs.size + 1) :: cl) Hp2.objs.size X.env) h₁ (fun x => ([]:List (Str × Value)).reverse.lookup x) y u:=fun k hk hl => by
     have q1:scope.names.lookup y=some .free:=by
      rcases relabel_kindD hl hk with z | z
      ·exact z
      ·exact absurd z (hxN y (List.mem_of_getElem? h1)).2
     have q2:=hfree (y,.free) (PySem.mem_of_lookup q1) rfl
     have h1' : X.N[i]? = some y:=by
      have hi' : i < X.N.length:=by rw [← hlen]; exact (List.getElem?_eq_some_iff.mp h1).1
      have hz:(Nb.zip X.N)[i]? = some (y,X.N[i]):=by rw [List.getElem?_zip_eq_some]; exact ⟨h1,List.getElem?_eq_getElem hi'⟩
      rcases hNb _ (List.mem_of_getElem? hz) with z | z
      ·have z:y=X.N[i]:=z
       rw [z]; exact List.getElem?_eq_getElem hi'
      ·have z:scope.names.lookup y=none:=z
       rw [q1] at z; cases z
     obtain ⟨u,r,l⟩:=hloc2 i y v h1' h2 (.inr (.inl q2))
     refine ⟨u,r,.inr ⟨?_,?_⟩⟩
     ·rcases hk with rfl | rfl
      ·exact .inl hl
      ·exact .inr hl
     ·rcases l with ⟨k1,_⟩ | ⟨_,c,e1,z⟩
      ·rw [q2] at k1; cases k1
      ·obtain ⟨c',e2⟩:=Option.isSome_iff_exists.mp (cl2 y (PySem.mem_of_lookup q1))
       have e3:=cl1 y c' e2
       rw [e1] at e3
       cases e3
       obtain ⟨o,ho,hd⟩:=z
       refine ⟨c,?_,o,old c o ho,hd⟩
       show List.lookup y ((x,Hp2.objs.size + 1) :: cl)=_
       rw [List.lookup_cons,show (y == x)=false from ?_]
       ·exact e2
       ·cases z:y == x with
        | false => rfl
        | true => exfalso; rw [eq_of_beq z,hxc] at q1; cases q1
    rcases h3 with h3 | h3 | h3
    ·
     exfalso
     exact (hxN y (List.mem_of_getElem? h1)).1 (relabel_local h3)
    ·exact key _ (.inl rfl) h3
    ·exact key _ (.inr rfl) h3
  ·rcases lkD h1 with ⟨_,e2⟩ | h1
   ·rw [e2]; exact ⟨_,hcl₁⟩
   ·obtain ⟨v,o,ho,hd⟩:=I2.cell y c (cl1 y c h1)
    exact ⟨v,o,old c o ho,hd⟩
 have noErr:∀ {α:Type} {m:Sem α} {G:α→Shared→Prop} {E' : Value→Shared→Prop} {s' : Shared},wpAny (model X.prog X.w) X.A m G (fun _ _ => False) s'→wpAny (model X.prog X.w) X.A m G E' s':=fun h => wpAny_mono h (fun _ _ q => q) fun _ _ q => q.elim
 have loop:∀ (tk:Nat) (R:Result→Shared→Prop),R=compPost (model X.prog X.w) X.A X.xe use QQ (.ref s2.heap.objs.size) Hp2.objs.size →
   codeAny (model X.prog X.w) X.A (.compLoop (.ListComp elt [⟨tg,iter,ifs,0⟩] scope pos) 0 (.ref it) (.ref s2.heap.objs.size) (compEnvC scope ((x,Hp2.objs.size + 1) :: cl) Hp2.objs.size X.env)) R { s2 with heap:=h₁,toks:=tk }:=by
  rintro tk R rfl
  refine loop_turns rfl (fun n s' => ∃ i σv H' ys its,σv.length=xs.length∧Inv Y [] (σv ++ σ) H' s'∧tn i s'.heap∧(∀ b ∈ fp,H' b=none)∧Vals ys its∧ys.length ≤ sizeLine∧s'.heap.PlainList s2.heap.objs.size its.toArray∧H' s2.heap.objs.size=none∧W i n ys H') ?_ m0
   ⟨0,List.replicate xs.length none,H2,[],[],List.length_replicate,hY ▸ IY tk,T.keep _ _ _ st2 fun b _ o e => old b o e,fun b hb => (f2 b hb).1,.nil,Nat.zero_le _,hacc,HD,w0⟩
  rintro n s3 ⟨i,σv,H3,ys,its,lv,I3,st3,fr3,rv,hz,⟨nn,pl3⟩,HD3,w3⟩
  have I3p:Inv Y [(s2.heap.objs.size,{ cls:=.type "list",data:=.seq its.toArray nn })] (σv ++ σ) H3 s3:=I3.pins_of fun p hp => by
   rw [List.mem_singleton] at hp
   subst hp
   refine ⟨pl3,HD3,?_,fun hm => ?_,fun v z => by cases z⟩
   ·rw [← hY]; exact hDC
   ·rw [← hY] at hm
    exact absurd (frSub _ hm) (Nat.lt_irrefl _)
  have pinD:∀ p ∈ [((s2.heap.objs.size:Addr),({ cls:=.type "list",data:=.seq its.toArray nn } : Obj))],p.1=s2.heap.objs.size:=fun p hp => by
   rw [List.mem_singleton] at hp
   rw [hp]
  subst hY
  rcases turn i n ys H3 w3 with ⟨stop,qn⟩ | ⟨go,hlt,NN,hNN,step⟩
  ·refine noErr (thn (T.done (cxD X x xs Nb scope cl Hp2.objs.size s2 H2 fp) rfl rfl rfl hc i _ s3 _ H3 (fun _ _ => False) I3p (fpY fr3 pinD) st3 stop) fun r s4 ⟨hr,I4⟩ => ?_)
   subst hr
   obtain ⟨m4,hns4,_⟩:=I4.loc
   refine post s2 s4 H2 (upd H3 s2.heap.objs.size (.lst ys)) Hp2.objs.size s2.heap.objs.size m4 I2 (by omega) hns4 (by rw [upd_ne (Ne.symm hDC)]; exact I4.free) (fun h' sb => ?_) (qn _ HD3)
   have pl4:=(I4.pin _ (List.mem_append_right _ List.mem_cons_self)).1
   have up:∀ b o,b ≠ Hp2.objs.size→s4.heap.get? b=some o→h'.get? b=some o:=fun b o hb e => sb.extBut b o hb e
   have base:=I4.base
   have HC4:H3 Hp2.objs.size=none:=I4.free
   have neC:∀ b o,s2.heap.get? b=some o→b ≠ Hp2.objs.size:=fun b o e => (below b (Heap.lt_size e)).1
   have neD:∀ b o,s2.heap.get? b=some o→b ≠ s2.heap.objs.size:=fun b o e => (below b (Heap.lt_size e)).2
   have hokN:HOk X.prog X.w (upd H3 s2.heap.objs.size (.lst ys)) h':=fun b u e => by
    by_cases hb:b=s2.heap.objs.size
    ·subst hb
     rw [upd_same] at e
     cases e
     exact ⟨hz,its,nn,rv,up _ _ hDC pl4⟩
    ·rw [upd_ne hb] at e
     refine (I4.hok b u e).stay (fun c v hc q => up c v ?_ q) (fun c q => by rw [upd_ne (ne_of_none q HD3)]; exact q) fun c xs q => by rw [upd_ne (ne_of_none q HD3)]; exact q
     rcases hc with z | z
     ·rw [z]; exact ne_of_none e HC4
     ·exact ne_of_none z HC4
   refine I2.call' (s':={ s4 with heap:=h' }) (ch:=fp) I4.os ⟨fun b o e n hb hx' => up b o (neC b o e) (base.keep b o e n hb hx'),fun b o e n hb hx' => ?_,fun b o e n hx' => ?_,fun b o e hx' => ?_,fun b xs e => ?_,fun b o u e => ?_,fun b ps e => ?_⟩ hokN I4.bare (fun b hb => ?_)
   ·obtain ⟨sl,q⟩:=base.slot b o e n hb hx'
    exact ⟨sl,up b _ (neC b o e) q⟩
   ·rw [upd_ne (neD b o e)]
    exact base.free b o e n hx'
   ·obtain ⟨o',q⟩:=base.there b o e hx'
    exact ⟨o',up b o' (neC b o e) q⟩
   ·have q:=base.tups b xs e
    rw [upd_ne (ne_of_none q HD3)]; exact q
   ·have q:=base.frzs b o u e
    rw [upd_ne (ne_of_none q HD3)]; exact q
   ·obtain ⟨more,q⟩:=base.tbls b ps e
    exact ⟨more,by rw [upd_ne (ne_of_none q HD3)]; exact q⟩
   ·obtain ⟨_,g1,_,g3,g4,g5⟩:=f2 b hb
    exact ⟨g3,g1,g4,g5⟩
  ·refine noErr (thn (T.item (cxD X x xs Nb scope cl Hp2.objs.size s2 H2 fp) rfl rfl rfl hc i _ s3 _ H3 (fun _ _ => False) I3p (fpY fr3 pinD) st3 go) fun r s4 ⟨u,hr,h4⟩ => ?_)
   subst hr
   refine noErr (thn h4 fun _ s5 ⟨v,H5,I5,r5,y5,st5,fr5⟩ => ?_)
   have I5':=I5.pinned (fpY fr5 pinD) (T.obj _ _ st5)
   have stp:=step v H5 σv lv y5
   refine noErr (thn (hg cl Hp2.objs.size s2 H2 fp _ s5 _ H5 v u _ I5' r5 stp) fun _ s6 ⟨σ6,H6,I6,⟨pre',e6,l6⟩,stp⟩ => ?_)
   subst e6
   have again:∀ {s7 s8:Shared} {H7:Hp} {zs:List V} {ws:List Value} {m' : Nat},Inv (cxD X x xs Nb scope cl Hp2.objs.size s2 H2 fp) ([((s2.heap.objs.size:Addr),({ cls:=.type "list",data:=.seq its.toArray nn } : Obj))] ++ pinsAt fp s5.heap) (pre' ++ σ) H7 s7 →
     (∃ h',s8 = { s7 with heap:=h' }∧(∀ b o,b ≠ s2.heap.objs.size→s7.heap.get? b=some o→h'.get? b=some o)∧h'.PlainList s2.heap.objs.size ws.toArray)→Vals zs ws→zs.length ≤ sizeLine→m' < n→W (i + 1) m' zs H7 →
     ∃ m,m < n∧∃ i σv H' ys its,σv.length=xs.length∧Inv (cxD X x xs Nb scope cl Hp2.objs.size s2 H2 fp) [] (σv ++ σ) H' s8∧tn i s8.heap∧(∀ b ∈ fp,H' b=none)∧Vals ys its∧ys.length ≤ sizeLine∧s8.heap.PlainList s2.heap.objs.size its.toArray∧H' s2.heap.objs.size=none∧W i m ys H':=by
    rintro s7 s8 H7 zs ws m' I7 ⟨h',rfl,up,plw⟩ rz hzz hm w7
    have HD7:H7 s2.heap.objs.size=none:=(I7.pin _ (List.mem_append_right _ (List.mem_append_left _ List.mem_cons_self))).2.1
    have fr7:∀ b ∈ fp,H7 b=none:=fun b hb => by
     obtain ⟨o,e,d⟩:=T.obj _ _ st5 b hb
     exact (I7.pin (b,o) (List.mem_append_right _ (List.mem_append_right _ (mem_pinsAt hb e)))).2.1
    have I7' : Inv (cxD X x xs Nb scope cl Hp2.objs.size s2 H2 fp) [] (pre' ++ σ) H7 s7:=I7.pins_of fun p hp => absurd hp (by simp)
    refine ⟨m',hm,i + 1,pre',H7,zs,ws,l6,?_,?_,fr7,rz,hzz,plw,HD7,w7⟩
    ·have:=I7'.turned (it:=s2.heap.objs.size) (h':=h') (t':=s7.toks) up HD7 hDC (.inr (Nat.le_refl _)) (fun y c h1 h2 => (by
      rcases lkD h1 with ⟨_,e2⟩ | h1
      ·exact absurd (h2 ▸ e2) hC2
      ·exact absurd (cellLt y c h1) (by rw [h2]; exact Nat.lt_irrefl _))) (fun p hp => absurd (show p ∈ ([]:List (Addr × Obj)) from hp) (by simp))
     exact this
    ·refine T.keep _ _ _ st5 fun b hb o e => up b o (below b (fpLt b hb)).2 ?_
     exact (I7.pin (b,o) (List.mem_append_right _ (List.mem_append_right _ (mem_pinsAt hb e)))).1
   refine noErr (thn (ht cl Hp2.objs.size s2 H2 fp _ s6 _ H6 _ I6 stp) fun okb s7 ⟨H7,I7,q7⟩ => ?_)
   have pl7:=(I7.pin _ (List.mem_append_right _ (List.mem_append_left _ List.mem_cons_self))).1
   cases okb with
   | false =>
    rw [if_neg Bool.false_ne_true] at q7 ⊢
    obtain ⟨m',hm,w7⟩:=hNN _ _ q7
    exact again I7 ⟨s7.heap,rfl,fun _ _ _ e => e,nn,pl7⟩ rv hz hm w7
   | true =>
    rw [if_pos rfl] at q7 ⊢
    refine noErr (thn (he cl Hp2.objs.size s2 H2 fp _ s7 _ H7 _ I7 q7) fun w' s8 ⟨y,H8,I8,r8,q8⟩ => ?_)
    obtain ⟨m',hm,w8⟩:=hNN _ _ q8
    have pl8:=(I8.pin _ (List.mem_append_right _ (List.mem_append_left _ List.mem_cons_self))).1
    refine wpAny_list_append_plain (hsz:=by have:=rv.length; simp only [List.size_toArray]; omega) ⟨nn,pl8⟩ fun h9 pl9 sb9 => ?_
    refine again I8 ⟨h9,rfl,fun b o hb e => sb9.extBut b o hb e,?_⟩ (rv.append (.cons r8 .nil)) (by rw [List.length_append,List.length_singleton]; omega) hm w8
    have e9:its.toArray.push w' = (its ++ [w']).toArray:=by simp
    rw [← e9]
    exact pl9
 refine codeAny_compStart_list (loop _ _ rfl) (noErr (T.self _ 0 _ _ _ (T.keep _ _ _ st2 fun b _ o e => old b o e) (loop _ _ rfl)))
theorem pe_compD {elt iter tg:Expr} {x:Str} {xs Nb:List Str} {ifs:List Expr} {scope:Scope} {pos:PySem.Pos} {wi:TI} {g:TG} {tt:TT} {te:TE}
  (hc:X.calm=true) (hi:PI X tg iter wi) (hlen:Nb.length=X.N.length) (hNb:∀ p ∈ Nb.zip X.N,p.1=p.2 ∨ scope.names.lookup p.1=none) (hxN:∀ y ∈ Nb,scope.names.lookup y ≠ some .local∧scope.names.lookup y ≠ some .cell)
  (hg:InD X x xs Nb scope fun Y => PG Y tg g) (ht:InD X x xs Nb scope fun Y => PIf Y ifs tt) (he:InD X x xs Nb scope fun Y => PE Y elt te)
  (hcs:∀ n acc,cellsFrom n scope.names acc=(x,n) :: acc) (hps:∀ h,pushCells h scope.names=h.push { cls:=.type "cell",data:=.cell none }) (hcx:∀ y ∈ scope.names,y.2 = .cell→y.1=x) (hxc:scope.names.lookup x=some .cell) (hkind:scope.kind = .function) (hnames:∀ y ∈ scope.names,y.2 = .local→scope.names.lookup y.1=some .local)
  (hfree:∀ y ∈ scope.names,y.2 = .free→X.env.kindOf y.1=some .cell)
  (hs:∀ x,foldedSetIterable iter X.env x=pure x:=by intro _; rfl) :
  PE X (.ListComp elt [⟨tg,iter,ifs,0⟩] scope pos) (tCompG xs.length wi g tt te):=by
 intro pins s σ H Q I h
 rw [eval_ListComp]
 exact comp_coreD (use:=none) (QQ:=EP X pins σ Q) hc hi hlen hNb hxN hg ht he hcs hps hcx hxc hkind hnames hfree hs I h fun s2 s4 H2 H4 C D m4 _ _ hn _ IX q => ⟨m4,hn,fun h' sb => ⟨.ref D,H4,IX h' sb,rfl,q⟩⟩
theorem call_sumK {K:PySem.W.Frag} (hc:X.calm=true) (hK:X.K=K:=by rfl):CallR X (.builtin "sum") (fun xs H Q => ∃ (p:Addr) (ns:List Int),xs=[.ref p]∧SqL K H p (ns.map V.int)∧Q (.int ns.sum) H):=by subst hK; exact call_sum hc
theorem cxD_fn {x:Str} {xs Nb:List Str} {scope:Scope} {cl:List (Str × Addr)} {C:Addr} {s₂:Shared} {H₂:Hp} {fp:List Addr} : (cxD X x xs Nb scope cl C s₂ H₂ fp).fn x=true:=beq_self_eq_true x
theorem free_inD {x:Str} {xs Nb:List Str} {scope0:Scope} {cl:List (Str × Addr)} {C:Addr} {s₂:Shared} {H₂:Hp} {fp:List Addr} {names L:List (Str × NameKind)} (hk:X.env.scope.kind = .function) (hL:X.env.scope.names=L) (h:∀ y ∈ names,y.2=NameKind.free→(scope0.names.lookup y.1=some .free∧L.lookup y.1=some .cell) ∨ scope0.names.lookup y.1=some .cell) :
  ∀ y ∈ names,y.2=NameKind.free→(cxD X x xs Nb scope0 cl C s₂ H₂ fp).env.kindOf y.1=some .cell:=fun y hy e => by
 rcases h y hy e with ⟨h1,h2⟩ | h1
 ·refine lookup_relabel_cellX hk ?_ h1
  show X.env.scope.names.lookup y.1=_
  rw [hL]; exact h2
 ·exact lookup_relabel_own h1
end
end L2
set_option maxHeartbeats 1000000
namespace L2
open PySem PySem.Spec PyProof.Rows
section
variable {X:Cx}
theorem call_minN (hc:X.calm=true):CallR X (.builtin "min") (fun xs H Q => ∃ (p:Addr) (ns:List Int),xs=[.ref p]∧SqL X.K H p (ns.map V.int)∧ns ≠ []∧∀ m ∈ ns,(∀ n ∈ ns,m ≤ n)→Q (.int m) H):=by
 intro pins s σ H xs us Q I r h
 obtain ⟨p,ns,rfl,hq,ne,q⟩:=h
 obtain ⟨u,rfl,rx⟩:=vals1 r
 cases rx
 obtain ⟨its,rv,pl,hz⟩:=I.list hq
 obtain ⟨ps,rfl,e⟩:=int_items rv
 have hl:=pl.isList
 have ei:(ps.map (fun p => Value.int p.1 p.2)).toArray=intItems ps.toArray:=by simp [intItems]
 rw [ei] at hl
 have pn:0 < ps.length:=by
  cases ps with
  | nil => exact absurd e.symm ne
  | cons a b => simp
 have at1:∀ j,j < ps.length→ns[j]? = some (numAt ps.toArray j):=fun j hj => by
  rw [← e,List.getElem?_map,List.getElem?_eq_getElem hj]
  simp [numAt,hj]
 refine min_intList (I.ok.hd hc) hl (by simpa using pn) fun v h' tk hv hk => ?_
 obtain ⟨t,rfl⟩:=intItems_at hv
 obtain ⟨b1,b2⟩:=argBest_lt (numAt ps.toArray) (ps.toArray.size - 1)
 generalize argBest (fun i' j' => decide (numAt ps.toArray i' < numAt ps.toArray j')) (ps.toArray.size - 1)=k at b1 b2 ⊢
 rw [List.size_toArray] at b1 b2
 refine ⟨.int _,H,I.kept hk,⟨t,rfl⟩,q _ (List.mem_of_getElem? (at1 k (by omega))) fun n hn => ?_⟩
 obtain ⟨j,hj⟩:=List.mem_iff_getElem?.mp hn
 have jl:j < ps.length:=by
  have:=(List.getElem?_eq_some_iff.mp hj).1
  rw [← e,List.length_map] at this
  exact this
 rw [at1 j jl] at hj
 cases hj
 exact b2 j (by omega)
end
end L2
namespace L2
open PySem PySem.Spec PyProof.Rows
section
variable {K:PySem.W.Frag} {H:Hp} {Q:VK} {Z:L2.St→Hp→Prop}
def mayB (a b c:Int):Bool:=decide ((a + b + c) % 2=0∧a ≤ b + c∧b ≤ a + c∧c ≤ a + b)
def triB (r t:List Int):Bool:=mayB (crs r (t.getD 0 0)) (crs r (t.getD 1 0)) (crs r (t.getD 2 0))
def rowOB (S:List (List Int)) (r:List Int):Bool:=decide (r.length=S.length / 2 * 3) && (r.all (fun x => decide (0 ≤ x)) && S.all (triB r))
def spMayG (K:PySem.W.Frag):Sp:=fun vs H Q _ => ∃ (p:Addr) (a b c:Int),vs=[.ref p]∧SqL K H p ([a,b,c].map V.int)∧Q (.bl (mayB a b c)) H
def spIsRowG:Sp:=fun vs H Q _ => ∃ (s o:Addr) (xs:List V) (S:List (List Int)) (r:List Int),vs=[.ref s,.ref o]∧H s=some (.lst xs)∧TuL H xs S∧ShOk S∧H o=some (.lst (r.map V.int))∧r.length ≤ 5000∧∀ H',Same H H'→Q (.bl (rowOB S r)) H'
def spRowOn (cR:Addr):Sp:=fun vs H Q E => ∃ (s o:Addr) (xs:List V) (S:List (List Int)) (r:List Int),vs=[.ref s,.ref o]∧H s=some (.lst xs)∧TuL H xs S∧ShOk S∧H o=some (.lst (r.map V.int))∧r.length ≤ 5000∧(rowOB S r=false→∀ H',Same H H'→E (.ref cR) none H')∧(rowOB S r=true→∀ H',Same H H'→Q (.ref o) H')
def spReadRow (cT cR:Addr):Sp:=fun vs H Q E => ∃ (s:Addr) (xs:List V) (S:List (List Int)) (t:Str),vs=[.ref s,.str t]∧H s=some (.lst xs)∧TuL H xs S∧ShOk S∧t.length ≤ 4900∧(rowOk t=false→∀ H',Same H H'→E (.ref cT) none H')∧(rowOk t=true→rowOB S (rowI t)=false→∀ H',Same H H'→E (.ref cR) none H')∧(rowOk t=true→rowOB S (rowI t)=true→∀ (l:Addr) (H' : Hp),Same H H'→H l=none→H' l=some (.lst ((rowI t).map V.int))→Q (.ref l) H')
def ansR (S:List (List Int)) (t:Str):PyData:=if rowOk t=true then (if rowOB S (rowI t)=true then dI (rowI t) else .str "NoRow") else .str "NoText"
theorem ansR_bad {S:List (List Int)} {t:Str} (h:rowOk t=false):ansR S t = .str "NoText" := by unfold ansR; rw [if_neg (by rw [h]; decide)]
theorem ansR_mid {S:List (List Int)} {t:Str} (h:rowOk t=true) (h2:rowOB S (rowI t)=false):ansR S t = .str "NoRow" := by unfold ansR; rw [if_pos h,if_neg (by rw [h2]; decide)]
theorem ansR_ok {S:List (List Int)} {t:Str} (h:rowOk t=true) (h2:rowOB S (rowI t)=true):ansR S t=dI (rowI t):=by unfold ansR; rw [if_pos h,if_pos h2]
theorem ansR_lay (S:List (List Int)) (t:Str):(ansR S t).canLay0=true:=by
 unfold ansR
 split
 ·split
  ·exact lay_dI _
  ·decide +kernel
 ·decide +kernel
theorem ansR_dep (S:List (List Int)) (t:Str):(ansR S t).depth ≤ 60:=by
 unfold ansR
 split
 ·split
  ·exact dep_dI _
  ·decide +kernel
 ·decide +kernel
theorem ansR_eqv (S:List (List Int)) (t:Str):PyData.eqv (ansR S t) (ansR S t)=true:=by
 unfold ansR
 split
 ·split
  ·rw [eqv_dI]; exact decide_eq_true rfl
  ·decide +kernel
 ·decide +kernel
theorem th_row {H:Hp} {l:Addr} {r:List Int} (h:H l=some (.lst (r.map V.int))):Th H (.ref l) (dI r):=by
 refine .lst h (by rw [List.length_map,List.length_map]) fun i x d h1 h2 => ?_
 rw [List.getElem?_map] at h1 h2
 cases z:r[i]? with
 | none => rw [z] at h1; cases h1
 | some m => rw [z] at h1 h2; cases h1; cases h2; exact .int m
def spAnsR:Sp:=fun vs H Q _ => ∃ (s:Addr) (xs:List V) (S:List (List Int)) (t:Str),vs=[.ref s,.str t]∧H s=some (.lst xs)∧TuL H xs S∧ShOk S∧t.length ≤ 4900∧∀ (v:V) (H' : Hp),Same H H'→Th H' v (ansR S t)→Q v H'
def spEndE:Sp:=fun vs H Q _ => ∃ (s:Int) (b:Bool),vs=[.int s,.bl b]∧∀ l,H l=none→Q (.ref l) (L2.upd H l (.tup ((endI s b).map V.int)))
def spPtsE:Sp:=fun vs H Q _ => ∃ (s:Addr) (xs:List V) (S:List (List Int)),vs=[.ref s]∧H s=some (.lst xs)∧TuL H xs S∧ShOk S∧∀ (l:Addr) (ys:List V) (hs:List (List (List Int))) (H' : Hp),Same H H'→H l=none→H' l=some (.lst ys)→LsL H' true ys hs→HpI (S.flatMap triP) hs→Q (.ref l) H'
def spLoopE:Sp:=fun vs H Q _ => ∃ (s h:Addr) (xs gs:List V) (S g:List (List Int)),vs=[.ref s,.ref h]∧H s=some (.lst xs)∧TuL H xs S∧ShOk S∧H h=some (.lst gs)∧ItL H true gs g∧∀ (l:Addr) (H' : Hp),Same H H'→H l=none→H' l=some (.lst ((ringR (S.length / 2 * 3) g).map V.int))→Q (.ref l) H'
def spRowE:Sp:=fun vs H Q _ => ∃ (d s:Addr) (xs:List V) (S:List (List Int)),vs=[.ref d,.ref s]∧PurseZ H d∧H s=some (.lst xs)∧TuL H xs S∧ShOk S∧∀ (l:Addr) (r:List Int) (H' : Hp),ButZ d H H'→PurseZ H' d→H' l=some (.lst (r.map V.int))→EvRow S r→(∀ x ∈ r,x < 10 ^ 60)→Q (.ref l) H'
def spWritE:Sp:=fun vs H Q _ => ∃ (a:Addr) (u:List Int),vs=[.ref a]∧H a=some (.lst (u.map V.int))∧u.length ≤ 18∧Sixty u∧∀ H',Same H H'→Q (.str (rowT u)) H'
def tRowOn (K:PySem.W.Frag) (E:XK) (cR:Addr):TS:=tSeq (tIfS (tNot (tB (tCall spIsRowG [] E0 (tCons (tVar 0) (tCons (tVar 1) tNil))))) (tRaise E cR) tNext) (tRet (tVar 1))
def tReadRow (K:PySem.W.Frag) (E:XK) (cT cR:Addr):TS:=tRet (tCallX (spRowOn cR) (fun c x H' => E c none H') (tCons (tVar 0) (tCons (tCallX (spNumX cT) (fun c x H' => E c none H') (tCons (tVar 1) tNil)) tNil)))
def tIsRowG (K:PySem.W.Frag):TS:=tSeq (tIfS (tOr (tNot (tB (tCB (fun xs H Q => ∃ x t b,xs=[x,V.ty "list"]∧TyOf K H x t∧W.kitOne K t (Value.type "list")=some b∧Q (V.bl b) H) (tCons (tVar 1) (tCons (tC (V.ty "list")) tNil))))) (tTest (tOp rNe (tCB (fun xs H Q => ∃ p ys,xs=[V.ref p]∧(SqL K H p ys ∨ SqT K H p ys)∧Q (V.int ys.length) H) (tCons (tVar 1) tNil)) (tCall (spTiesZ K) [] E0 (tCons (tVar 0) tNil))))) (tRet (tC (V.bl false))) tNext) (tSeq (tIfS (tNot (tB (tCB (fun xs H_1 Q => ∃ p bs,xs=[V.ref p]∧SqL K H_1 p (List.map V.bl bs)∧Q (V.bl (bs.all id)) H_1) (tCons (tCompG 1 (iList K (tVar 1)) (gName 0) tYes (tCall spFromZ [] E0 (tCons (tVar 0) (tCons (tC (V.int 0)) tNil)))) tNil)))) (tRet (tC (V.bl false))) tNext) (tRet (tCB (fun xs H_1 Q => ∃ p bs,xs=[V.ref p]∧SqL K H_1 p (List.map V.bl bs)∧Q (V.bl (bs.all id)) H_1) (tCons (tCompG 1 (iList K (tVar 0)) (gName 0) tYes (tCall (spMayG K) [] E0 (tCons (tCall spCrossZ [] E0 (tCons (tVar 0) (tCons (tVar 2) tNil))) tNil))) tNil))))
def tMayG (K:PySem.W.Frag):TS:=tRet (tAndV (tOp rEq (tOp (rI (fun x j => 0 < j) fun i j => V.int (i % j)) (tCB (fun xs H_1 Q => ∃ p ns,xs=[V.ref p]∧SqL K H_1 p (List.map V.int ns)∧Q (V.int ns.sum) H_1) (tCons (tVar 0) tNil)) (tC (V.int 2))) (tC (V.int 0))) (tOp (rI0 fun i j => V.bl (decide (i ≤ j))) (tOp (rI CMul fun i j => V.int (i * j)) (tC (V.int 2)) (tCB (fun xs H_1 Q => ∃ p ns,xs=[V.ref p]∧SqL K H_1 p (List.map V.int ns)∧ns ≠ []∧∀ (m:Int),m ∈ ns→(∀ (n:Int),n ∈ ns→n ≤ m)→Q (V.int m) H_1) (tCons (tVar 0) tNil))) (tCB (fun xs H_1 Q => ∃ p ns,xs=[V.ref p]∧SqL K H_1 p (List.map V.int ns)∧Q (V.int ns.sum) H_1) (tCons (tVar 0) tNil))))
def tEndE (K:PySem.W.Frag):TS:=tRet (tTup (tCons (tCB (fun xs H Q => ∃ i,xs=[V.int i]∧Q (V.int (if i < 0 then -i else i)) H) (tCons (tVar 0) tNil)) (tCons (tCB (fun xs H Q => (∃ i,xs=[V.int i]∧Q (V.int i) H) ∨ ∃ k,xs=[V.bl k]∧Q (V.int (if k=true then 1 else 0)) H) (tCons (tOp rEq (tOp (rI0 fun i j => V.bl (decide (j < i))) (tVar 0) (tC (V.int 0))) (tVar 1)) tNil)) tNil)))
def tPtsB (K:PySem.W.Frag):TS:=(tSeq (tAsg (tCompG 1 (iList K (tVar 1)) (gName 0) (tOr (tTest (tOp (rInC K true) (tOp (rIxL K) (tVar 5) (tC (V.int 0))) (tVar 0))) (tTest (tOp (rInC K true) (tOp (rIxL K) (tVar 5) (tC (V.int 1))) (tVar 0)))) (tVar 0)) (gName 5)) (tSeq (tAsg (tCompG 1 (iList K (tVar 1)) (gName 0) (tTest (tOp (rNotInD K) (tVar 0) (tVar 6))) (tVar 0)) (gName 1)) (tSeq (tFor (iList K (tVar 5)) (gName 6) (tAsg (tOp rCat (tVar 4) (tVar 6)) (gName 4))) (tDrop (tBM K "list" rAppend (tVar 1) (tCons (fun σ H_1 Q => tVar 4 σ H_1 fun x H1 => ∃ l xs us,x=V.ref l∧SqL K H1 l xs∧TuL H1 xs us∧us.length ≤ 300∧(∀ (u:List Int),u ∈ us→u ≠ [])∧∀ (q:Addr) (ys:List V) (ws:List (List Int)),H1 q=none→TuL H1 ys ws→ws.Perm (ddT us)→List.Pairwise (fun x y => lexB y x=false) ws→Q (V.ref q) (upd H1 q (HO.lst ys))) tNil))))))
def tPtsE (K:PySem.W.Frag):TS:=tSeq (tAsg (tLst tNil) (gName 1)) (tSeq (tFor (iList K (tVar 0)) (gName 2) (tFor (iRng1 (tCons (tC (V.int 3)) tNil)) (gName 3) (tSeq (tAsg (tLst (tCons (tCall spEndE [] E0 (tCons (tOp (rIxT K) (tVar 2) (tVar 3)) (tCons (tC (V.bl true)) tNil))) (tCons (tCall spEndE [] E0 (tCons (tOp (rIxT K) (tVar 2) (tOp (rI (fun x j => 0 < j) fun i j => V.int (i % j)) (tOp (rI0 fun i j => V.int (i + j)) (tVar 3) (tC (V.int 1))) (tC (V.int 3)))) (tCons (tC (V.bl false)) tNil))) tNil))) (gName 4)) (tPtsB K)))) (tRet (tCB (fun xs H_1 Q => ∃ p ys uss,xs=[V.ref p]∧SqL K H_1 p ys∧LsL H_1 true ys uss∧uss.length < 64∧∀ (l:Addr) (zs:List V) (ws:List (List (List Int))),H_1 l=none→LsL H_1 true zs ws→ws.Perm uss→List.Pairwise (fun x y => lexLL y x=false) ws→Q (V.ref l) (upd H_1 l (HO.lst zs))) (tCons (tVar 1) tNil))))
def tLoopE (K:PySem.W.Frag):TS:=tRet (tCompG 1 (iRng2 (tCons (tC (V.int 1)) (tCons (tOp (rI0 fun i j => V.int (i + j)) (tOp (rI CDivL fun i j => V.int (i / j)) (tOp (rI CMul fun i j => V.int (i * j)) (tC (V.int 3)) (tCB (fun xs H Q => ∃ p ys,xs=[V.ref p]∧(SqL K H p ys ∨ SqT K H p ys)∧Q (V.int ys.length) H) (tCons (tVar 0) tNil))) (tC (V.int 2))) (tC (V.int 1))) tNil))) (gName 0) tYes (tCB (fun xs H Q => ∃ p ns,xs=[V.ref p]∧SqL K H p (List.map V.int ns)∧Q (V.int ns.sum) H) (tCons (tCompG 1 (iRng1 (tCons (tC (V.int 2)) tNil)) (gName 0) tYes (tCB (fun xs H Q => (∃ i,xs=[V.int i]∧Q (V.int i) H) ∨ ∃ k,xs=[V.bl k]∧Q (V.int (if k=true then 1 else 0)) H) (tCons (tOp (rInC K true) (tTup (tCons (tVar 1) (tCons (tVar 0) tNil))) (tVar 3)) tNil))) tNil)))
def tRowB (K:PySem.W.Frag):TS:=(tSeq (tFor (iList K (tCall spPtsE [] E0 (tCons (tVar 1) tNil))) (gName 4) (tSeq (tAsg (tOp (rIxL K) (tLst (tCons (tC (V.int 0)) (tCons (tCall spTakeZ [] E0 (tCons (tVar 0) (tCons (tC (V.int 4)) tNil))) (tCons (tCall spTakeZ [] E0 (tCons (tVar 0) (tCons (tOp (rI0 fun i j => V.int (i + j)) (tVar 2) (tC (V.int 1))) tNil))) tNil)))) (tCall spTakeZ [] E0 (tCons (tVar 0) (tCons (tC (V.int 3)) tNil)))) (gName 5)) (tAsg (tCompG 2 (iZip K (tCons (tVar 3) (tCons (tCall spLoopE [] E0 (tCons (tVar 1) (tCons (tVar 4) tNil))) tNil))) (gTup K 2 (gCons (gName 0) (gCons (gName 1) gNil))) tYes (tOp (rI0 fun i j => V.int (i + j)) (tVar 0) (tOp (rI CMul fun i j => V.int (i * j)) (tVar 7) (tVar 1)))) (gName 3)))) (tRet (tVar 3)))
def tRowE (K:PySem.W.Frag):TS:=tSeq (tAsg (tCall spTakeZ [] E0 (tCons (tVar 0) (tCons (tOp (rIxL K) (tLst (tCons (tC (V.int 1)) (tCons (tC (V.int 3)) (tCons (tC (V.int 30)) (tCons (tOp (rI CPow fun i j => V.int (i ^ j.toNat)) (tC (V.int 10)) (tC (V.int 9))) (tCons (tOp (rI CPow fun i j => V.int (i ^ j.toNat)) (tC (V.int 10)) (tC (V.int 30))) (tCons (tOp (rI CPow fun i j => V.int (i ^ j.toNat)) (tC (V.int 10)) (tC (V.int 58))) tNil))))))) (tCall spTakeZ [] E0 (tCons (tVar 0) (tCons (tC (V.int 6)) tNil)))) tNil))) (gName 2)) (tSeq (tAsg (tCompG 1 (iRng1 (tCons (tOp (rI CDivL fun i j => V.int (i / j)) (tOp (rI CMul fun i j => V.int (i * j)) (tC (V.int 3)) (tCB (fun xs H Q => ∃ p ys,xs=[V.ref p]∧(SqL K H p ys ∨ SqT K H p ys)∧Q (V.int ys.length) H) (tCons (tVar 1) tNil))) (tC (V.int 2))) tNil)) (gName 0) tYes (tOp (rI CMul fun i j => V.int (i * j)) (tC (V.int 2)) (tOp (rI0 fun i j => V.int (i + j)) (tVar 3) (tCall spTakeZ [] E0 (tCons (tVar 1) (tCons (tOp (rI0 fun i j => V.int (i + j)) (tVar 3) (tC (V.int 1))) tNil)))))) (gName 3)) (tRowB K))
def tWritE (K:PySem.W.Frag):TS:=tRet (tBM K "str" (fun x vs H_1 Q => ∃ sep p ss,x=V.str sep∧vs=[V.ref p]∧SqL K H_1 p (List.map V.str ss)∧sep.length ≤ 16∧(List.map (fun x => x.length) ss).sum + ss.length ≤ 1048576∧Q (V.str (sep.join ss)) H_1) (tC (V.str " ")) (tCons (tCompG 1 (iList K (tVar 0)) (gName 0) tYes (tCB (fun xs H Q => ∃ i,xs=[V.int i]∧i.natAbs.log2 < 1920∧Q (V.str ((toString i))) H) (tCons (tVar 0) tNil))) tNil))
def tLIsRow (K:PySem.W.Frag):TS:=tSeq (tIfS (tOr (tTest (tOp rNe (tCB (fun xs H Q => ∃ p ys,xs=[V.ref p]∧(SqL K H p ys ∨ SqT K H p ys)∧Q (V.int ys.length) H) (tCons (tVar 1) tNil)) (tOp (rI CDivL fun i j => V.int (i / j)) (tOp (rI CMul fun i j => V.int (i * j)) (tC (V.int 3)) (tCB (fun xs H Q => ∃ p ys,xs=[V.ref p]∧(SqL K H p ys ∨ SqT K H p ys)∧Q (V.int ys.length) H) (tCons (tVar 0) tNil))) (tC (V.int 2))))) (tTest (tOp (rI0 fun i j => V.bl (decide (i < j))) (tCB (fun xs H_1 Q => ∃ p ns,xs=[V.ref p]∧SqL K H_1 p (List.map V.int ns)∧ns ≠ []∧∀ (m:Int),m ∈ ns→(∀ (n:Int),n ∈ ns→m ≤ n)→Q (V.int m) H_1) (tCons (tVar 1) tNil)) (tC (V.int 0))))) (tRet (tC (V.bl false))) tNext) (tSeq (tFor (iList K (tVar 0)) (gName 2) (tSeq (tAsg (tCompG 1 (iTup K (tVar 2)) (gName 0) tYes (tOp (rIxL K) (tVar 2) (tOp (rI0 fun i j => V.int (i - j)) (tCB (fun xs H Q => ∃ i,xs=[V.int i]∧Q (V.int (if i < 0 then -i else i)) H) (tCons (tVar 0) tNil)) (tC (V.int 1))))) (gName 3)) (tIfS (tOr (tTest (tOp rEq (tOp (rI (fun x j => 0 < j) fun i j => V.int (i % j)) (tCB (fun xs H_1 Q => ∃ p ns,xs=[V.ref p]∧SqL K H_1 p (List.map V.int ns)∧Q (V.int ns.sum) H_1) (tCons (tVar 3) tNil)) (tC (V.int 2))) (tC (V.int 1)))) (tTest (tOp (rI0 fun i j => V.bl (decide (j < i))) (tOp (rI CMul fun i j => V.int (i * j)) (tC (V.int 2)) (tCB (fun xs H_1 Q => ∃ p ns,xs=[V.ref p]∧SqL K H_1 p (List.map V.int ns)∧ns ≠ []∧∀ (m:Int),m ∈ ns→(∀ (n:Int),n ∈ ns→n ≤ m)→Q (V.int m) H_1) (tCons (tVar 3) tNil))) (tCB (fun xs H_1 Q => ∃ p ns,xs=[V.ref p]∧SqL K H_1 p (List.map V.int ns)∧Q (V.int ns.sum) H_1) (tCons (tVar 3) tNil))))) (tRet (tC (V.bl false))) tNext))) (tRet (tC (V.bl true))))
def tDueR (K:PySem.W.Frag):TS:=tSeq (tAsg (tCall spFigsX [] E0 (tCons (tVar 1) tNil)) (gName 2)) (tSeq (tIfS (tB (tIsN (tVar 2))) (tRet (tC (V.str "NoText"))) tNext) (tSeq (tIfS (tB (tCall spIsRowG [] E0 (tCons (tVar 0) (tCons (tVar 2) tNil)))) (tRet (tVar 2)) tNext) (tRet (tC (V.str "NoRow")))))
def tLReadR (K:PySem.W.Frag) (cE c_NoCord c_NoDeed c_NoName cR cS cT c_NoTurn c_TooMany:Addr):TS:=tTry K 4 2 cE (fun Ex => tRet (tCallX (spReadRow cT cR) Ex (tCons (tVar 0) (tCons (tVar 1) tNil)))) (fun C ea => tSeq (tAsg (tCB (rIsi K C ea) (tCons (tVar 2) (tCons (tTup (tCons (tC (V.ref c_NoCord)) (tCons (tC (V.ref c_NoDeed)) (tCons (tC (V.ref c_NoName)) (tCons (tC (V.ref cS)) (tCons (tC (V.ref c_NoTurn)) (tCons (tC (V.ref c_TooMany)) tNil))))))) tNil))) (gName 3)) (tSeq (tIfS (tOr (tB (tVar 3)) (tOr (tNot (tB (tCB (rIsi K C ea) (tCons (tVar 2) (tCons (tC (V.ty "ValueError")) tNil))))) (tTest (tOp rEq (tCB (rIsi K C ea) (tCons (tVar 2) (tCons (tC (V.ref cT)) tNil))) (tCB (rIsi K C ea) (tCons (tVar 2) (tCons (tC (V.ref cR)) tNil))))))) (tRet (tC V.non)) tNext) (tRet (tOp (rIxL K) (tLst (tCons (tC (V.str "NoRow")) (tCons (tC (V.str "NoText")) tNil))) (tCB (fun xs H Q => (∃ i,xs=[V.int i]∧Q (V.int i) H) ∨ ∃ k,xs=[V.bl k]∧Q (V.int (if k=true then 1 else 0)) H) (tCons (tCB (rIsi K C ea) (tCons (tVar 2) (tCons (tC (V.ref cT)) tNil))) tNil))))))
def tLaw83 (K:PySem.W.Frag):TS:=tSeq (tFor (iRng1 (tCons (tOp (rI0 fun i j => V.int (i + j)) (tC (V.int 1)) (tCB (fun xs H Q => ∃ i j,xs=[V.int i,V.int j]∧Q (V.int (if j < i then j else i)) H) (tCons (tC (V.int 6)) (tCons (tCB (fun xs H Q => ∃ p ys,xs=[V.ref p]∧(SqL K H p ys ∨ SqT K H p ys)∧Q (V.int ys.length) H) (tCons (tVar 0) tNil)) tNil)))) tNil)) (gName 1) (tSeq (tAsg (tCall (spPurseZ K) [] E0 (tCons (tVar 0) (tCons (tVar 1) tNil))) (gName 2)) (tSeq (tAsg (tCall spShO [] E0 (tCons (tVar 2) tNil)) (gName 3)) (tSeq (tAsg (tCall spWritE [] E0 (tCons (tCall spRowE [] E0 (tCons (tVar 2) (tCons (tVar 3) tNil))) tNil)) (gName 4)) (tSeq (tAsg (tCB (fun xs H_1 Q => ∃ p ys,xs=[V.ref p]∧(SqL K H_1 p ys ∨ SqT K H_1 p ys)∧∀ (l:Addr),H_1 l=none→Q (V.ref l) (upd H_1 l (HO.lst ys))) (tCons (tVar 3) tNil)) (gName 5)) (tSeq (tIfS (tTest (tOp (rEqD K fun b => !b) (tCall spAnsR [] E0 (tCons (tVar 5) (tCons (tVar 4) tNil))) (tCall spAnsR [] E0 (tCons (tVar 3) (tCons (tVar 4) tNil))))) (tRet (tC (V.bl false))) tNext) (tFor (iRng1 (tCons (tC (V.int 8)) tNil)) (gName 6) (tSeq (tAsg (tCall spSplt [] E0 (tCons (tVar 2) (tCons (tVar 4) tNil))) (gName 7)) (tIfS (tOr (tTest (tOp (rEqD K fun b => !b) (tCall spAnsR [] E0 (tCons (tVar 5) (tCons (tVar 7) tNil))) (tCall spAnsR [] E0 (tCons (tVar 3) (tCons (tVar 7) tNil))))) (tTest (tOp (rEqD K fun b => !b) (tVar 5) (tVar 3)))) (tRet (tC (V.bl false))) tNext))))))))) (tRet (tC (V.bl true)))
end
end L2
namespace L2
open PySem PySem.Spec PyProof.Rows
section
variable {K:PySem.W.Frag} {H:Hp} {Q:VK} {Z:L2.St→Hp→Prop}
theorem max_may {a b c m:Int} (hm:m ∈ [a,b,c]) (hle:∀ n ∈ [a,b,c],n ≤ m):2 * m ≤ a + b + c ↔ a ≤ b + c∧b ≤ a + c∧c ≤ a + b:=by
 have h1:=hle a (by simp)
 have h2:=hle b (by simp)
 have h3:=hle c (by simp)
 simp only [List.mem_cons,List.not_mem_nil,or_false] at hm
 rcases hm with rfl | rfl | rfl <;> omega
theorem mayG_reads {p:Addr} {a b c:Int} (hp:SqL K H p ([a,b,c].map V.int)) (k:Q (.bl (mayB a b c)) H):tMayG K { nx:=Z,rt:=Q } [some (.ref p)] H:=by
 have es:[a,b,c].sum=a + b + c:=by simp; omega
 refine ⟨_,rfl,p,[a,b,c],rfl,hp,_,2,rfl,rfl,(by show (0:Int) < 2; decide),rfl,decide ((a + b + c) % 2=0),?_,?_⟩
 ·show V.bl (decide (V.int ([a,b,c].sum % 2)=V.int 0))=_
  rw [es]
  congr 1
  rw [decide_eq_decide]
  exact ⟨fun e => V.int.inj e,fun e => congrArg V.int e⟩
 by_cases h0:(a + b + c) % 2=0
 ·rw [decide_eq_true h0]
  refine iteT ⟨_,rfl,p,[a,b,c],rfl,hp,by simp,fun m hm hle => ⟨2,m,rfl,rfl,.inl ⟨by decide,by decide⟩,_,rfl,p,[a,b,c],rfl,hp,_,_,rfl,rfl,?_⟩⟩
  show Q (V.bl (decide (2 * m ≤ [a,b,c].sum))) H
  rw [es,show decide (2 * m ≤ a + b + c)=mayB a b c from by unfold mayB; rw [decide_eq_decide,max_may hm hle]; exact ⟨fun h => ⟨h0,h⟩,fun h => h.2⟩]
  exact k
 ·rw [decide_eq_false h0]
  refine iteF ?_
  rw [show mayB a b c=false from by unfold mayB; exact decide_eq_false fun h => h0 h.1] at k
  exact k
theorem all_take {α:Type} (f:α→Bool) (l:List α):((l.take l.length).map f).all id=l.all f:=by rw [List.take_length,List.all_map]; rfl
set_option maxHeartbeats 4000000 in
theorem isrowG_reads {s o:Addr} {xs:List V} {S:List (List Int)} {r:List Int} (hs:H s=some (.lst xs)) (tS:TuL H xs S) (oS:ShOk S) (ho:H o=some (.lst (r.map V.int))) (rl:r.length ≤ 5000) (k:∀ H',Same H H'→Q (.bl (rowOB S r)) H'):tIsRowG K { nx:=Z,rt:=Q } [some (.ref s),some (.ref o)] H:=by
 have lS:=oS.len
 have lx:xs.length=S.length:=tS.1
 unfold rowOB at k
 refine ⟨_,rfl,.ref o,_,true,rfl,.lst ho,rfl,true,rfl,iteF ⟨_,rfl,o,_,rfl,.inl (SqL.of ho),_,rfl,s,xs,rfl,SqL.of hs,rfl,!decide (r.length=S.length / 2 * 3),?_,?_⟩⟩
 ·show V.bl (!decide (V.int (((r.map V.int).length:Nat):Int)=V.int ((xs.length / 2 * 3:Nat):Int)))=_
  rw [List.length_map,lx]
  congr 2
  rw [decide_eq_decide]
  exact ⟨fun e => by have:=V.int.inj e; omega,fun e => by rw [e]⟩
 by_cases lr:r.length=S.length / 2 * 3
 ·rw [decide_eq_true lr,Bool.true_and] at k
  rw [decide_eq_true lr]
  refine iteF ?_
  refine ⟨_,rfl,o,rfl,⟨_,SqL.of ho⟩,compLW (K:=K) (a:=o) (xs:=r.map V.int) (fun j ts H' => ts=((r.take j).map fun x => decide (0 ≤ x)).map V.bl∧H' = H) ⟨rfl,rfl⟩ (by rw [List.length_map]; omega) (fun j ts H' h => by rw [h.1,List.length_map,List.length_map,List.length_take]; exact Nat.min_le_left _ _) (fun j ts H' _ h => by rw [h.2]; exact SqL.of ho) ?_ ?_⟩
  ·rintro j x ts H9 pre hpl hx ⟨rfl,rfl⟩
   rw [List.getElem?_map] at hx
   cases ej:r[j]? with
   | none => rw [ej] at hx; cases hx
   | some e =>
    rw [ej] at hx
    cases hx
    rcases pre with _ | ⟨q0,_ | ⟨q1,pre⟩⟩
    ·cases hpl
    ·refine ⟨⟨[some _],rfl,rfl⟩,?_⟩
     unfold tYes
     dsimp only
     rw [if_pos (rfl:true=true)]
     refine ⟨_,rfl,e,0,rfl,?_,rfl⟩
     rw [take_succ' ej,List.map_append,List.map_append]
     rfl
    ·cases hpl
  rintro ts H9 ⟨rfl,rfl⟩ D hD
  rw [List.length_map]
  have sD:=Same.nw (o:=.lst (((r.take r.length).map fun x => decide (0 ≤ x)).map V.bl)) (Same.refl H9) hD
  have fD:(upd H9 D (.lst (((r.take r.length).map fun x => decide (0 ≤ x)).map V.bl))) D=some (.lst (((r.take r.length).map fun x => decide (0 ≤ x)).map V.bl)):=upd_same
  generalize upd H9 D (.lst (((r.take r.length).map fun x => decide (0 ≤ x)).map V.bl))=HA at sD fD ⊢
  refine ⟨D,_,rfl,SqL.of fD,_,rfl,?_⟩
  rw [all_take]
  cases ha:r.all fun x => decide (0 ≤ x) with
  | false => rw [ha,Bool.false_and] at k; exact iteT (k _ sD)
  | true =>
   rw [ha,Bool.true_and] at k
   refine iteF ?_
   refine ⟨_,rfl,s,rfl,⟨_,SqL.of (sD _ _ hs)⟩,compL (K:=K) (a:=s) (xs:=xs) (fun j ts H' => ts=((S.take j).map (triB r)).map V.bl∧Same HA H') ⟨rfl,Same.refl _⟩ (by omega) (fun j ts H' h => by rw [h.1,List.length_map,List.length_map,List.length_take]; exact Nat.min_le_left _ _) (fun j ts H' _ h => SqL.of (h.2 _ _ (sD _ _ hs))) ?_ ?_⟩
   ·rintro j x ts HB pre hpl hx ⟨rfl,sB⟩
    obtain ⟨t,q,et,rfl,hq⟩:=(tS.up (sD.trans sB).tups).take hx
    have mt:t ∈ S:=List.mem_of_getElem? et
    obtain ⟨a1,a2,a3,rfl⟩:=three3 (oS.three t mt)
    rcases pre with _ | ⟨q0,_ | ⟨q1,pre⟩⟩
    ·cases hpl
    ·refine ⟨⟨[some _],rfl,rfl⟩,?_⟩
     unfold tYes
     dsimp only
     rw [if_pos (rfl:true=true)]
     refine ⟨_,rfl,_,rfl,q,o,[a1,a2,a3],r,rfl,hq,sB _ _ (sD _ _ ho),by show 3 ≤ 10; decide,fun z hz => ⟨(oS.side mt hz).1,crs_at oS lr mt hz⟩,fun l hl => ?_⟩
     refine ⟨l,crs r a1,crs r a2,crs r a3,rfl,SqL.of upd_same,?_,sB.trans (Same.nw (Same.refl HB) hl)⟩
     rw [take_succ' et,List.map_append,List.map_append]
     rfl
    ·cases hpl
   ·rintro ts HB ⟨rfl,sB⟩ D2 hD2
    have sC:=Same.nw (o:=.lst (((S.take xs.length).map (triB r)).map V.bl)) (Same.refl HB) hD2
    refine ⟨D2,_,rfl,SqL.of upd_same,?_⟩
    rw [lx,all_take]
    rw [lx] at sC
    exact k _ (sD.trans (sB.trans sC))
 ·rw [decide_eq_false lr,Bool.false_and] at k
  rw [decide_eq_false lr]
  exact iteT (k _ (Same.refl H))
theorem rowon_reads {E:XK} {cR s o:Addr} {xs:List V} {S:List (List Int)} {r:List Int} (hs:H s=some (.lst xs)) (tS:TuL H xs S) (oS:ShOk S) (ho:H o=some (.lst (r.map V.int))) (rl:r.length ≤ 5000) (k1:rowOB S r=false→∀ H',Same H H'→E (.ref cR) none H') (k2:rowOB S r=true→∀ H',Same H H'→Q (.ref o) H'):tRowOn K E cR { nx:=Z,rt:=Q } [some (.ref s),some (.ref o)] H:=by
 refine ⟨_,rfl,_,rfl,s,o,xs,S,r,rfl,hs,tS,oS,ho,rl,fun H1 s1 => ⟨_,rfl,?_⟩⟩
 cases hb:rowOB S r with
 | false => exact iteT (k1 hb H1 s1)
 | true => exact iteF ⟨_,rfl,k2 hb H1 s1⟩
theorem row_len {t:Str} (tl:t.length ≤ 4900):(rowI t).length ≤ 5000:=by
 have:=(words_len t tl).1
 unfold rowI
 rw [List.length_map]
 omega
theorem readrow_reads {E:XK} {cT cR s:Addr} {xs:List V} {S:List (List Int)} {t:Str} (hs:H s=some (.lst xs)) (tS:TuL H xs S) (oS:ShOk S) (tl:t.length ≤ 4900) (k1:rowOk t=false→∀ H',Same H H'→E (.ref cT) none H') (k2:rowOk t=true→rowOB S (rowI t)=false→∀ H',Same H H'→E (.ref cR) none H') (k3:rowOk t=true→rowOB S (rowI t)=true→∀ (l:Addr) (H' : Hp),Same H H'→H l=none→H' l=some (.lst ((rowI t).map V.int))→Q (.ref l) H'):tReadRow K E cT cR { nx:=Z,rt:=Q } [some (.ref s),some (.str t)] H:=by
 refine ⟨_,rfl,_,rfl,t,rfl,tl,k1,fun ok l H1 s1 lf hl => ?_⟩
 exact ⟨s,l,xs,S,rowI t,rfl,s1 _ _ hs,tS.up s1.tups,oS,hl,row_len tl,fun h H2 s2 => k2 ok h H2 (s1.trans s2),fun h H2 s2 => k3 ok h l H2 (s1.trans s2) lf (s2 _ _ hl)⟩
theorem min_neg {r:List Int} {m:Int} (hm:m ∈ r) (hle:∀ n ∈ r,m ≤ n):decide (m < 0) = !(r.all fun x => decide (0 ≤ x)):=by
 cases ha:r.all fun x => decide (0 ≤ x) with
 | true =>
  have:=of_decide_eq_true (List.all_eq_true.mp ha m hm)
  exact decide_eq_false (by omega)
 | false =>
  obtain ⟨x,hx,e⟩:=List.all_eq_false.mp ha
  have e : ¬ 0 ≤ x:=fun z => e (decide_eq_true z)
  have:=hle x hx
  exact decide_eq_true (by omega)
theorem crs3_reads {q c:Addr} {a1 a2 a3:Int} {r:List Int} {σ:L2.St} {R:VK} (hq:H q=some (.tup ([a1,a2,a3].map V.int))) (hc:H c=some (.lst (r.map V.int))) (e2:σ[2]? = some (some (.ref q))) (e1:σ[1]? = some (some (.ref c))) (ok:∀ s ∈ [a1,a2,a3],1 ≤ absI s∧r[(absI s - 1).toNat]? = some (crs r s)) (k:∀ D,H D=none→R (.ref D) (upd H D (.lst ([crs r a1,crs r a2,crs r a3].map V.int)))) :
  tCompG 1 (iTup K (tVar 2)) (gName 0) tYes (tOp (rIxL K) (tVar 2) (tOp (rI0 fun i j => V.int (i - j)) (tCB (fun xs H Q => ∃ i,xs=[V.int i]∧Q (V.int (if i < 0 then -i else i)) H) (tCons (tVar 0) tNil)) (tC (V.int 1)))) σ H R:=by
 refine ⟨_,e2,q,rfl,⟨_,SqT.of hq⟩,compT (K:=K) (a:=q) (xs:=[a1,a2,a3].map V.int) (fun i ys H' => ys=(([a1,a2,a3].take i).map (crs r)).map V.int∧H=H') ⟨rfl,rfl⟩ (by show 3 ≤ 1000; decide) (fun m ys H' h => by rw [h.1,List.length_map,List.length_map,List.length_take]; exact Nat.min_le_left _ _) (fun m ys H' _ h => by rw [← h.2]; exact SqT.of hq) ?_ ?_⟩
 ·rintro m z ys' H' pre hpl hz ⟨rfl,rfl⟩
  rw [List.getElem?_map] at hz
  cases ez:[a1,a2,a3][m]? with
  | none => rw [ez] at hz; cases hz
  | some sd =>
   rw [ez] at hz
   cases hz
   obtain ⟨s1,er⟩:=ok sd (List.mem_of_getElem? ez)
   have aa:atI (r.map V.int) (absI sd - 1)=some (V.int (crs r sd)):=by
    rw [show absI sd - 1=(((absI sd - 1).toNat:Nat):Int) by omega]
    exact atI_nat (by rw [List.getElem?_map,er]; rfl)
   rcases pre with _ | ⟨q0,_ | ⟨q1,pre⟩⟩
   ·cases hpl
   ·refine ⟨⟨[some _],rfl,rfl⟩,?_⟩
    unfold tYes
    dsimp only
    rw [if_pos (rfl:true=true)]
    refine ⟨.ref c,by show ([some (V.int sd)] ++ σ)[2]? = _; exact e1,_,rfl,sd,rfl,_,_,rfl,rfl,c,_,_,_,rfl,rfl,SqL.of hc,aa,?_,rfl⟩
    rw [take_succ' ez,List.map_append,List.map_append]
    rfl
   ·cases hpl
 ·rintro ys' H' ⟨rfl,rfl⟩ D hD
  exact k D hD
set_option maxHeartbeats 4000000 in
theorem lisrow_reads {s o:Addr} {xs:List V} {S:List (List Int)} {r:List Int} (hs:H s=some (.lst xs)) (tS:TuL H xs S) (oS:ShOk S) (ho:H o=some (.lst (r.map V.int))) (rl:r.length ≤ 5000) (k:∀ H',Same H H'→Q (.bl (rowOB S r)) H'):tLIsRow K { nx:=Z,rt:=Q } [some (.ref s),some (.ref o),none,none] H:=by
 have lS:=oS.len
 have lx:xs.length=S.length:=tS.1
 have hdiv:3 * (xs.length:Int) / 2=((S.length / 2 * 3:Nat):Int):=by rw [lx]; omega
 unfold rowOB at k
 refine ⟨_,rfl,o,_,rfl,.inl (SqL.of ho),_,rfl,s,xs,rfl,.inl (SqL.of hs),3,_,rfl,rfl,.inl ⟨by decide,by decide⟩,_,2,rfl,rfl,⟨by decide,by decide⟩,rfl,!decide (r.length=S.length / 2 * 3),?_,?_⟩
 ·show V.bl (!decide (V.int (((r.map V.int).length:Nat):Int)=V.int (3 * (xs.length:Int) / 2)))=_
  rw [List.length_map,hdiv]
  congr 2
  rw [decide_eq_decide]
  exact ⟨fun e => by have:=V.int.inj e; omega,fun e => by rw [e]⟩
 by_cases lr:r.length=S.length / 2 * 3
 ·rw [decide_eq_true lr,Bool.true_and] at k
  rw [decide_eq_true lr]
  refine iteF ?_
  refine ⟨_,rfl,o,r,rfl,SqL.of ho,fun z => by rw [z] at lr; simp at lr; omega,fun m hm hle => ⟨m,0,rfl,rfl,_,rfl,?_⟩⟩
  show if decide (m < 0)=true then _ else _
  rw [min_neg hm hle]
  cases ha:r.all fun x => decide (0 ≤ x) with
  | false => rw [ha,Bool.false_and] at k; exact iteT (k _ (Same.refl H))
  | true =>
   rw [ha,Bool.true_and] at k
   refine iteF ?_
   refine ⟨_,rfl,s,rfl,⟨_,SqL.of hs⟩,for_list (K:=K) (a:=s) (xs:=xs) (fun i σ H' => Same H H'∧(S.take i).all (triB r)=true∧∃ x2 x3:Option V,σ=[some (.ref s),some (.ref o),x2,x3]) ⟨Same.refl H,rfl,_,_,rfl⟩ (fun i σ H' _ h => SqL.of (h.1 _ _ hs)) ?_ ?_⟩
   ·rintro i x σ H1 hx ⟨s1,al,x2,x3,rfl⟩
    obtain ⟨t,q,et,rfl,hq⟩:=(tS.up s1.tups).take hx
    have mt:t ∈ S:=List.mem_of_getElem? et
    obtain ⟨a1,a2,a3,rfl⟩:=three3 (oS.three t mt)
    dsimp only [gName]
    refine crs3_reads (q:=q) (c:=o) (r:=r) hq (s1 _ _ ho) rfl rfl (fun z hz => ⟨(oS.side mt hz).1,crs_at oS lr mt hz⟩) fun D hD => ?_
    have s2:=s1.trans (Same.nw (o:=.lst ([crs r a1,crs r a2,crs r a3].map V.int)) (Same.refl H1) hD)
    have f2:(upd H1 D (.lst ([crs r a1,crs r a2,crs r a3].map V.int))) D=some (.lst ([crs r a1,crs r a2,crs r a3].map V.int)):=upd_same
    generalize upd H1 D (.lst ([crs r a1,crs r a2,crs r a3].map V.int))=H2 at s2 f2 ⊢
    dsimp only [gName]
    have et3:triB r [a1,a2,a3]=mayB (crs r a1) (crs r a2) (crs r a3):=rfl
    generalize crs r a1=A at f2 et3
    generalize crs r a2=B at f2 et3
    generalize crs r a3=C at f2 et3
    have es:[A,B,C].sum=A + B + C:=by simp; omega
    have bad:mayB A B C=false→Q (.bl false) H2:=fun e => by
     have:S.all (triB r)=false:=List.all_eq_false.mpr ⟨_,mt,by rw [et3,e]; decide⟩
     rw [this] at k
     exact k H2 s2
    refine ⟨_,rfl,D,[A,B,C],rfl,SqL.of f2,_,2,rfl,rfl,(by show (0:Int) < 2; decide),rfl,decide ((A + B + C) % 2=1),?_,?_⟩
    ·show V.bl (decide (V.int ([A,B,C].sum % 2)=V.int 1))=_
     rw [es]
     congr 1
     rw [decide_eq_decide]
     exact ⟨fun e => V.int.inj e,fun e => congrArg V.int e⟩
    by_cases h0:(A + B + C) % 2=1
    ·rw [decide_eq_true h0]
     exact iteT (bad (by unfold mayB; exact decide_eq_false fun h => by omega))
    ·rw [decide_eq_false h0]
     refine iteF ⟨_,rfl,D,[A,B,C],rfl,SqL.of f2,by simp,fun m hm hle => ⟨2,m,rfl,rfl,.inl ⟨by decide,by decide⟩,_,rfl,D,[A,B,C],rfl,SqL.of f2,_,_,rfl,rfl,_,rfl,?_⟩⟩
     show if decide ([A,B,C].sum < 2 * m)=true then _ else _
     rw [es]
     have mm:=max_may hm hle
     by_cases h1:A + B + C < 2 * m
     ·rw [decide_eq_true h1]
      exact iteT (bad (by unfold mayB; exact decide_eq_false fun h => by have:=mm.mpr h.2; omega))
     ·rw [decide_eq_false h1]
      refine iteF ⟨s2,?_,_,_,rfl⟩
      rw [take_succ' et,List.all_append,al,Bool.true_and]
      show (triB r [a1,a2,a3] && true)=true
      rw [Bool.and_true,et3]
      unfold mayB
      exact decide_eq_true ⟨by omega,mm.mp (by omega)⟩
   ·rintro σ H1 ⟨s1,al,x2,x3,rfl⟩
    rw [lx,List.take_length] at al
    rw [al] at k
    exact k H1 s1
 ·rw [decide_eq_false lr,Bool.false_and] at k
  rw [decide_eq_false lr]
  exact iteT (k _ (Same.refl H))
theorem duer_reads {s:Addr} {xs:List V} {S:List (List Int)} {t:Str} (hs:H s=some (.lst xs)) (tS:TuL H xs S) (oS:ShOk S) (tl:t.length ≤ 4900) (k:∀ (v:V) (H' : Hp),Same H H'→Th H' v (ansR S t)→Q v H'):tDueR K { nx:=Z,rt:=Q } [some (.ref s),some (.str t),none] H:=by
 refine ⟨_,rfl,t,rfl,tl,fun bad H1 s1 => ?_,fun ok l H1 s1 lf hl => ?_⟩
 ·exact ⟨_,rfl,_,rfl,iteT (k _ H1 s1 (by rw [ansR_bad bad]; exact .str _))⟩
 ·refine ⟨_,rfl,_,rfl,iteF ⟨_,rfl,_,rfl,s,l,xs,S,rowI t,rfl,s1 _ _ hs,tS.up s1.tups,oS,hl,row_len tl,fun H2 s2 => ⟨_,rfl,?_⟩⟩⟩
  cases hb:rowOB S (rowI t) with
  | true => exact iteT ⟨_,rfl,k _ H2 (s1.trans s2) (by rw [ansR_ok ok hb]; exact th_row (s2 _ _ hl))⟩
  | false => exact iteF (k _ H2 (s1.trans s2) (by rw [ansR_mid ok hb]; exact .str _))
set_option maxHeartbeats 4000000 in
theorem lreadr_reads {s:Addr} {xs:List V} {S:List (List Int)} {t:Str} {cE cC cD cN cR cS cT cU cM:Addr} (xC:XCls K cC) (xD:XCls K cD) (xN:XCls K cN) (xR:XCls K cR) (xS:XCls K cS) (xT:XCls K cT) (xU:XCls K cU) (xM:XCls K cM)
  (eT:PySem.W.subIn K (.ref cT) (.ref cE)=some true) (eR:PySem.W.subIn K (.ref cR) (.ref cE)=some true) (vT:PySem.W.subIn K (.ref cT) (.type "ValueError")=some true) (vR:PySem.W.subIn K (.ref cR) (.type "ValueError")=some true)
  (nT:∀ c ∈ [cC,cD,cN,cS,cU,cM],PySem.W.subIn K (.ref cT) (.ref c)=some false) (nR:∀ c ∈ [cC,cD,cN,cS,cU,cM],PySem.W.subIn K (.ref cR) (.ref c)=some false) (tr:PySem.W.subIn K (.ref cT) (.ref cR)=some false) (rt:PySem.W.subIn K (.ref cR) (.ref cT)=some false)
  (hs:H s=some (.lst xs)) (tS:TuL H xs S) (oS:ShOk S) (tl:t.length ≤ 4900) (k:∀ (v:V) (H' : Hp),Same H H'→Th H' v (ansR S t)→Q v H'):tLReadR K cE cC cD cN cR cS cT cU cM { nx:=Z,rt:=Q } [some (.ref s),some (.str t),none,none] H:=by
 have xs:∀ c ∈ [cC,cD,cN,cS,cU,cM],XCls K c:=fun c hc => by
  simp only [List.mem_cons,List.not_mem_nil,or_false] at hc
  rcases hc with rfl | rfl | rfl | rfl | rfl | rfl <;> assumption
 refine ⟨_,rfl,_,rfl,s,_,S,t,rfl,hs,tS,oS,tl,fun bad H1 s1 => ⟨cT,rfl,eT,fun a ha => ?_⟩,fun ok bad H1 s1 => ⟨cR,rfl,eR,fun a ha => ?_⟩,fun ok good l H1 s1 _ hl => k _ H1 s1 (by rw [ansR_ok ok good]; exact th_row hl)⟩
 ·refine ⟨_,rfl,(by show 6 ≤ sizeLine; decide),fun tp htp => ?_⟩
  refine ⟨xT,false,.inr (.inr ⟨tp,[cC,cD,cN,cS,cU,cM],rfl,upd_same,xs,nT,rfl⟩),?_⟩
  refine ⟨_,rfl,_,rfl,iteF ?_⟩
  refine ⟨_,rfl,xT,true,.inr (.inl ⟨_,rfl,meta_ve,vT⟩),_,rfl,iteF ?_⟩
  refine ⟨_,rfl,xT,true,.inl ⟨cT,rfl,xT,xT.rf⟩,_,rfl,xT,false,.inl ⟨cR,rfl,xR,tr⟩,rfl,_,rfl,iteF ?_⟩
  refine ⟨(by show 2 ≤ sizeLine; decide),fun l hl => ?_⟩
  refine ⟨_,rfl,xT,true,.inl ⟨cT,rfl,xT,xT.rf⟩,.inr ⟨true,rfl,?_⟩⟩
  refine ⟨l,_,1,_,rfl,rfl,SqL.of upd_same,rfl,k _ _ ((s1.trans (Same.nw (Same.refl H1) htp)).trans (Same.nw (Same.refl _) hl)) (by rw [ansR_bad bad]; exact .str _)⟩
 ·refine ⟨_,rfl,(by show 6 ≤ sizeLine; decide),fun tp htp => ?_⟩
  refine ⟨xR,false,.inr (.inr ⟨tp,[cC,cD,cN,cS,cU,cM],rfl,upd_same,xs,nR,rfl⟩),?_⟩
  refine ⟨_,rfl,_,rfl,iteF ?_⟩
  refine ⟨_,rfl,xR,true,.inr (.inl ⟨_,rfl,meta_ve,vR⟩),_,rfl,iteF ?_⟩
  refine ⟨_,rfl,xR,false,.inl ⟨cT,rfl,xT,rt⟩,_,rfl,xR,true,.inl ⟨cR,rfl,xR,xR.rf⟩,rfl,_,rfl,iteF ?_⟩
  refine ⟨(by show 2 ≤ sizeLine; decide),fun l hl => ?_⟩
  refine ⟨_,rfl,xR,false,.inl ⟨cT,rfl,xT,rt⟩,.inr ⟨false,rfl,?_⟩⟩
  refine ⟨l,_,0,_,rfl,rfl,SqL.of upd_same,rfl,k _ _ ((s1.trans (Same.nw (Same.refl H1) htp)).trans (Same.nw (Same.refl _) hl)) (by rw [ansR_mid ok bad]; exact .str _)⟩
end
end L2
namespace L2
open PySem PySem.Spec PyProof.Rows
section
variable {K:PySem.W.Frag} {H:Hp} {Q:VK} {Z:L2.St→Hp→Prop}
theorem LsL.get' {H:Hp} {tp:Bool} {ys:List V} {uss:List (List (List Int))} (h:LsL H tp ys uss) {i:Nat} {y:V} (e:ys[i]? = some y):∃ (us:List (List Int)) (a:Addr) (xs:List V),uss[i]? = some us∧y = .ref a∧H a=some (.lst xs)∧ItL H tp xs us:=by
 have il:i < uss.length:=by rw [← h.1]; exact (List.getElem?_eq_some_iff.mp e).1
 obtain ⟨a,xs,e1,e2,e3⟩:=h.2 i y _ e (List.getElem?_eq_getElem il)
 exact ⟨uss[i],a,xs,List.getElem?_eq_getElem il,e1,e2,e3⟩
theorem LsL.diH {H:Hp} {a:Addr} {ys:List V} {uss:List (List (List Int))} (h:LsL H true ys uss) (ha:H a=some (.lst ys)):DI K H (.ref a) (.list (uss.map dTs)):=by
 refine .lst (SqL.of ha) (by rw [h.1,List.length_map]) fun i x d h1 h2 => ?_
 obtain ⟨us,b,xs,eu,rfl,hb,it⟩:=h.get' h1
 rw [List.getElem?_map,eu] at h2
 cases h2
 exact it.tu.di (SqL.of hb)
theorem lay_hs:∀ hs:List (List (List Int)),PyData.canLayAll0 (hs.map dTs)=true
 | [] => rfl
 | h :: hs => by show ((dTs h).canLay0 && PyData.canLayAll0 (hs.map dTs))=true; rw [lay_dTs,lay_hs hs]; rfl
theorem dep_hs:∀ hs:List (List (List Int)),PyData.depthAll (hs.map dTs) ≤ 40
 | [] => Nat.zero_le _
 | h :: hs => by
  have d1:∀ us:List (List Int),PyData.depthAll (us.map dT) ≤ 1:=by
   intro us
   induction us with
   | nil => exact Nat.zero_le _
   | cons u us ih => show max (dT u).depth _ ≤ 1; rw [dep_dT]; omega
  show max (PyData.depthAll (h.map dT) + 1) (PyData.depthAll (hs.map dTs)) ≤ 40
  have:=d1 h
  have:=dep_hs hs
  omega
theorem any_hs (u:List (List Int)):∀ hs:List (List (List Int)),((hs.map dTs).any fun d => PyData.eqv d (dTs u))=decide (u ∈ hs)
 | [] => rfl
 | h :: hs => by
  show (PyData.eqv (dTs h) (dTs u) || ((hs.map dTs).any fun d => PyData.eqv d (dTs u)))=_
  rw [any_hs u hs,eqv_dTs]
  by_cases c:h=u
  ·rw [decide_eq_true c,Bool.true_or,decide_eq_true (by rw [c]; exact List.mem_cons_self)]
  ·rw [decide_eq_false c,Bool.false_or,decide_eq_decide]
   exact ⟨fun z => List.mem_cons_of_mem _ z,fun z => (List.mem_cons.mp z).resolve_left fun e => c e.symm⟩
theorem endE_reads {s:Int} {b:Bool} (k:∀ l,H l=none→Q (.ref l) (L2.upd H l (.tup ((endI s b).map V.int)))):tEndE K { nx:=Z,rt:=Q } [some (.int s),some (.bl b)] H:=by
 refine ⟨_,rfl,s,rfl,_,rfl,s,0,rfl,rfl,_,rfl,rfl,.inr ⟨_,rfl,(by show 2 ≤ sizeLine; decide),fun l hl => ?_⟩⟩
 have e:(V.int (if decide (V.bl (decide (0 < s))=V.bl b)=true then 1 else 0))=V.int (if decide (0 < s)=b then 1 else 0):=by
  congr 1
  by_cases c:decide (0 < s)=b
  ·rw [if_pos c,if_pos (decide_eq_true (congrArg V.bl c))]
  ·rw [if_neg c,if_neg fun z => c (V.bl.inj (of_decide_eq_true z))]
 have:=k l hl
 show Q (.ref l) (upd H l (.tup [V.int (if s < 0 then -s else s),V.int (if decide (V.bl (decide (0 < s))=V.bl b)=true then 1 else 0)]))
 rw [e]
 exact this
theorem filt_le {α:Type} (f:α→Bool) (l:List α) (n:Nat):((l.take n).filter f).length ≤ n:=Nat.le_trans (List.length_filter_le _ _) (by rw [List.length_take]; exact Nat.min_le_left _ _)
theorem filtQ_one {α:Type} (f:α→Bool) {l:List α} {n:Nat} {x:α} (h:l[n]? = some x):(l.take (n + 1)).filter f=(l.take n).filter f ++ (if f x=true then [x] else []):=by
 rw [take_succ' h,List.filter_append,List.filter_cons,List.filter_nil]
set_option maxHeartbeats 8000000 in
theorem ptsB_reads {D:Ends} {s hp tri pr a b:Addr} {x5 x6:Option V} {i:Int} {ys:List V} {hs:List (List (List Int))} {p q:List Int} {ps:List (List Int × List Int)} {H0:Hp}
  (s0:Same H0 H) (hh:H hp=some (.lst ys)) (L:LsL H true ys hs) (I:HpI ps hs) (pl:ps.length ≤ 35) (hpr:H pr=some (.lst [.ref a,.ref b])) (ha:H a=some (.tup (p.map V.int))) (hb:H b=some (.tup (q.map V.int))) (p2:p.length=2) (q2:q.length=2)
  (k:∀ (R pr' mi:Addr) (y6:Option V) (ys' : List V) (w:List (List Int)) (H' : Hp),Same H0 H'→H0 R=none→H' R=some (.lst ys')→LsL H' true ys' (restH p q hs ++ [w])→w.Perm (ddT ([p,q] ++ (mineH p q hs).flatten))→D.nx [some (.ref s),some (.ref R),some (.ref tri),some (.int i),some (.ref pr'),some (.ref mi),y6] H') :
  tPtsB K D [some (.ref s),some (.ref hp),some (.ref tri),some (.int i),some (.ref pr),x5,x6] H:=by
 have ly:ys.length=hs.length:=L.1
 have ln:=I.n
 refine ⟨_,rfl,hp,rfl,⟨_,SqL.of hh⟩,compL (K:=K) (a:=hp) (xs:=ys) (fun n zs H' => H=H'∧LsL H true zs ((hs.take n).filter fun h => decide (p ∈ h) || decide (q ∈ h))) ⟨rfl,LsL.nil _ _⟩ (by omega) (fun n zs H' h => by rw [h.2.1]; exact filt_le _ _ _) (fun n zs H' _ h => by rw [← h.1]; exact SqL.of hh) ?_ ?_⟩
 ·rintro n x zs H' pre hpl hx ⟨rfl,L1⟩
  obtain ⟨us,c,xs',eu,rfl,hc,it⟩:=L.get' hx
  rcases pre with _ | ⟨q0,_ | ⟨q1,pre⟩⟩
  ·cases hpl
  ·refine ⟨⟨[some _],rfl,rfl⟩,?_⟩
   refine ⟨_,rfl,pr,_,0,.ref a,rfl,rfl,SqL.of hpr,rfl,_,rfl,c,xs',p,us,rfl,SqL.of hc,.tup ha,it,_,rfl,?_⟩
   rw [filtQ_one _ eu]
   by_cases c1:p ∈ us
   ·rw [decide_eq_true c1,Bool.true_or,if_pos rfl]
    refine iteT (iteT ⟨_,rfl,rfl,L1.snoc hc it⟩)
   ·rw [decide_eq_false c1,Bool.false_or]
    refine iteF ⟨_,rfl,pr,_,1,.ref b,rfl,rfl,SqL.of hpr,rfl,_,rfl,c,xs',q,us,rfl,SqL.of hc,.tup hb,it,_,rfl,?_⟩
    by_cases c2:q ∈ us
    ·rw [decide_eq_true c2,if_pos rfl]
     exact iteT ⟨_,rfl,rfl,L1.snoc hc it⟩
    ·rw [decide_eq_false c2,if_neg Bool.false_ne_true,List.append_nil]
     exact iteF ⟨rfl,L1⟩
  ·cases hpl
 rintro zm H' ⟨rfl,Lm⟩ mi hmi
 rw [ly,List.take_length] at Lm
 have Lm:LsL H true zm (mineH p q hs):=Lm
 have s1:=Same.nw (o:=.lst zm) (Same.refl H) hmi
 have fm:(upd H mi (.lst zm)) mi=some (.lst zm):=upd_same
 dsimp only [gName]
 generalize upd H mi (.lst zm)=H1 at s1 fm ⊢
 have L1:=L.up s1
 have Lm1:=Lm.up s1
 have hh1:=s1 _ _ hh
 refine ⟨_,rfl,hp,rfl,⟨_,SqL.of hh1⟩,compL (K:=K) (a:=hp) (xs:=ys) (fun n zs H' => H1=H'∧LsL H1 true zs ((hs.take n).filter fun h => !decide (h ∈ mineH p q hs))) ⟨rfl,LsL.nil _ _⟩ (by omega) (fun n zs H' h => by rw [h.2.1]; exact filt_le _ _ _) (fun n zs H' _ h => by rw [← h.1]; exact SqL.of hh1) ?_ ?_⟩
 ·rintro n x zs H' pre hpl hx ⟨rfl,L2⟩
  obtain ⟨us,c,xs',eu,rfl,hc,it⟩:=L1.get' hx
  rcases pre with _ | ⟨q0,_ | ⟨q1,pre⟩⟩
  ·cases hpl
  ·refine ⟨⟨[some _],rfl,rfl⟩,?_⟩
   refine ⟨_,rfl,_,rfl,dTs us,_,Lm1.diH fm,it.tu.di (SqL.of hc),lay_hs _,lay_dTs _,dep_hs _,_,rfl,?_⟩
   rw [any_hs,filtQ_one _ eu]
   by_cases c1:us ∈ mineH p q hs
   ·rw [decide_eq_true c1]
    refine iteF ⟨rfl,?_⟩
    rw [if_neg (by decide),List.append_nil]
    exact L2
   ·rw [decide_eq_false c1]
    refine iteT ⟨_,rfl,rfl,?_⟩
    rw [if_pos (by rfl)]
    exact L2.snoc hc it
  ·cases hpl
 rintro zr H' ⟨rfl,Lr⟩ R hR
 rw [ly,List.take_length] at Lr
 have Lr:LsL H1 true zr (restH p q hs):=Lr
 have s2:=Same.nw (o:=.lst zr) (Same.refl H1) hR
 have fR:(upd H1 R (.lst zr)) R=some (.lst zr):=upd_same
 have R0:H0 R=none:=(s0.trans s1).free hR
 dsimp only [gName]
 generalize upd H1 R (.lst zr)=H2 at s2 fR ⊢
 have fm2:=s2 _ _ fm
 have Lm2:=Lm1.up s2
 have s02:=s1.trans s2
 have tt0:TuL H2 [V.ref a,V.ref b] [p,q]:=(TuL.snoc (TuL.snoc (TuL.nil H2) (s02 _ _ ha)) (s02 _ _ hb))
 have lzm:zm.length=(mineH p q hs).length:=Lm.1
 have tml:=I.mine p q
 refine ⟨_,rfl,mi,rfl,⟨_,SqL.of fm2⟩,for_list (K:=K) (a:=mi) (xs:=zm) (fun n σ H' => ∃ (pr' : Addr) (y6:Option V) (xs' : List V),σ=[some (.ref s),some (.ref R),some (.ref tri),some (.int i),some (.ref pr'),some (.ref mi),y6]∧Same H2 H'∧H' pr' = some (.lst xs')∧TuL H' xs' ([p,q] ++ ((mineH p q hs).take n).flatten)) ⟨pr,_,_,rfl,Same.refl _,s02 _ _ hpr,tt0⟩ (fun n σ H' _ h => by obtain ⟨_,_,_,_,s,_⟩:=h; exact SqL.of (s _ _ fm2)) ?_ ?_⟩
 ·rintro n x σ H3 hx ⟨pr',y6,xs',rfl,s3,f3,t3⟩
  obtain ⟨us,c,xc,eu,rfl,hc,it⟩:=(Lm2.up s3).get' hx
  dsimp only [gName]
  have lx:xs'.length ≤ 2 + 2 * ps.length:=by
   rw [t3.1,List.length_append]
   have:((mineH p q hs).take n).flatten.length ≤ (mineH p q hs).flatten.length:=by
    rw [← List.take_append_drop n (mineH p q hs),List.flatten_append,List.length_append,List.take_append_drop]
    omega
   show 2 + _ ≤ _
   omega
  have lc:xc.length ≤ 2 * ps.length:=by
   rw [it.1]
   have:us.length ≤ (mineH p q hs).flatten.length:=(List.sublist_flatten_of_mem (List.mem_of_getElem? eu)).length_le
   omega
  refine ⟨_,rfl,_,rfl,pr',c,xs',xc,rfl,rfl,f3,hc,Nat.le_trans (show _ ≤ 1000 by omega) (by decide),fun l hl => ?_⟩
  have s4:=Same.nw (o:=.lst (xs' ++ xc)) (Same.refl H3) hl
  refine ⟨l,_,xs' ++ xc,rfl,s3.trans s4,upd_same,?_⟩
  rw [take_succ' eu,List.flatten_append,← List.append_assoc]
  have:=((t3.it).append it).up s4.tups
  rw [show [us].flatten=us from by simp]
  exact this.tu
 rintro σ H3 ⟨pr',y6,xs',rfl,s3,f3,t3⟩
 rw [lzm,List.take_length] at t3
 have fR3:=s3 _ _ fR
 refine ⟨_,rfl,.inl ⟨rfl,_,SqL.of fR3⟩,_,rfl,pr',xs',_,rfl,SqL.of f3,t3,?_,fun u hu => ?_,fun w yw ws hw tw pw _ => ?_⟩
 ·rw [List.length_append]
  show 2 + _ ≤ 300
  omega
 ·rcases List.mem_append.mp hu with z | z
  ·simp only [List.mem_cons,List.not_mem_nil,or_false] at z
   rcases z with rfl | rfl
   ·rintro rfl; cases p2
   ·rintro rfl; cases q2
  ·obtain ⟨h,h1,h2⟩:=List.mem_flatten.mp z
   have:=I.two h (mem_mineH.mp h1).1 u h2
   rintro rfl; cases this
 have s4:=Same.nw (o:=.lst yw) (Same.refl H3) hw
 have fw:(upd H3 w (.lst yw)) w=some (.lst yw):=upd_same
 have fR4:=s4 _ _ fR3
 generalize upd H3 w (.lst yw)=H4 at s4 fw fR4 ⊢
 have lr:zr.length ≤ hs.length:=by rw [Lr.1]; exact List.length_filter_le _ _
 refine ⟨R,zr,.ref w,rfl,rfl,fR4,Nat.lt_of_le_of_lt (show _ ≤ 1000 by omega) (by decide),?_⟩
 have s14:Same H1 H4:=s2.trans (s3.trans s4)
 have sF:Same H1 (upd H4 R (.lst (zr ++ [.ref w]))):=s14.ow hR
 have nw:w ≠ R:=by rintro rfl; rw [fR3] at hw; cases hw
 have tE:Tups H3 (upd H4 R (.lst (zr ++ [.ref w]))):=fun c o e => by
  rw [upd_ne (by rintro rfl; rw [fR3] at e; cases e)]
  exact s4 _ _ e
 exact k R pr' mi y6 _ ws _ ((s0.trans s1).trans sF) R0 upd_same ((Lr.up sF).snoc (by rw [upd_ne nw]; exact fw) (tw.it.up tE)) pw
theorem HpI.perm {ps:List (List Int × List Int)} {hs ws:List (List (List Int))} (I:HpI ps hs) (h:ws.Perm hs):HpI ps ws:=by
 refine ⟨by rw [h.length_eq]; exact I.n,?_,fun x hx => I.two x (h.mem_iff.mp hx),fun x hx => ?_,fun x hx y hy => I.ifs x hx y (h.mem_iff.mp hy)⟩
 ·rw [(h.map List.length).sum_nat]; exact I.tot
 ·obtain ⟨y,a,b⟩:=I.has x hx
  exact ⟨y,h.mem_iff.mpr a,b⟩
theorem triP_len (t:List Int):(triP t).length=3:=rfl
theorem flatP_len:∀ l:List (List Int),(l.flatMap triP).length=3 * l.length
 | [] => rfl
 | t :: l => by rw [List.flatMap_cons,List.length_append,flatP_len l,triP_len,List.length_cons]; omega
set_option maxHeartbeats 8000000 in
theorem ptsE_reads {s:Addr} {xs:List V} {S:List (List Int)} (hs:H s=some (.lst xs)) (tS:TuL H xs S) (oS:ShOk S) (k:∀ (l:Addr) (ys:List V) (hs:List (List (List Int))) (H' : Hp),Same H H'→H l=none→H' l=some (.lst ys)→LsL H' true ys hs→HpI (S.flatMap triP) hs→Q (.ref l) H'):tPtsE K { nx:=Z,rt:=Q } [some (.ref s),none,none,none,none,none,none] H:=by
 have lx:xs.length=S.length:=tS.1
 have lS:=oS.len
 refine ⟨(by show 0 ≤ sizeLine; decide),fun hp0 hhp0 => ?_⟩
 have s0:=Same.nw (o:=.lst []) (Same.refl H) hhp0
 have f0:(upd H hp0 (.lst [])) hp0=some (.lst []):=upd_same
 dsimp only [gName]
 generalize upd H hp0 (.lst [])=Ha at s0 f0 ⊢
 refine ⟨_,rfl,s,rfl,⟨_,SqL.of (s0 _ _ hs)⟩,for_list (K:=K) (a:=s) (xs:=xs) (fun j σ H' => Same H H'∧∃ (hp:Addr) (x2 x3 x4 x5 x6:Option V) (ys:List V) (hs:List (List (List Int))),σ=[some (.ref s),some (.ref hp),x2,x3,x4,x5,x6]∧H hp=none∧H' hp=some (.lst ys)∧LsL H' true ys hs∧HpI ((S.take j).flatMap triP) hs) ⟨s0,hp0,_,_,_,_,_,[],[],rfl,hhp0,f0,LsL.nil _ _,HpI.nil⟩ (fun j σ H' _ h => SqL.of (h.1 _ _ hs)) ?_ ?_⟩
 ·rintro j x σ H1 hx ⟨s1,hp,x2,x3,x4,x5,x6,ys,gs,rfl,hn,f1,L1,I1⟩
  obtain ⟨t,tr,et,rfl,htr⟩:=(tS.up s1.tups).take hx
  have mt:t ∈ S:=List.mem_of_getElem? et
  obtain ⟨a1,a2,a3,rfl⟩:=three3 (oS.three t mt)
  have jl:j < S.length:=(List.getElem?_eq_some_iff.mp et).1
  dsimp only [gName]
  refine ⟨3,rfl,by decide,by decide,for_range (n:=3) (fun i σ H' => Same H H'∧∃ (hp:Addr) (x3 x4 x5 x6:Option V) (ys:List V) (hs:List (List (List Int))),σ=[some (.ref s),some (.ref hp),some (.ref tr),x3,x4,x5,x6]∧H hp=none∧H' hp=some (.lst ys)∧LsL H' true ys hs∧HpI ((S.take j).flatMap triP ++ (triP [a1,a2,a3]).take i) hs) ⟨s1,hp,_,_,_,_,ys,gs,rfl,hn,f1,L1,by rw [List.take_zero,List.append_nil]; exact I1⟩ ?_ ?_⟩
  ·rintro i σ H2 hi ⟨s2,hp,x3,x4,x5,x6,ys,gs,rfl,hn,f2,L2,I2⟩
   have hi:i < 3:=hi
   dsimp only [gName]
   rw [Int.zero_add]
   have htr2:H2 tr=some (.tup ([a1,a2,a3].map V.int)):=by
    obtain ⟨t',tr',et',e',h'⟩:=(tS.up s2.tups).take hx
    rw [et] at et'
    cases et'
    cases e'
    exact h'
   have at3:∀ n:Nat,n < 3→atI ([a1,a2,a3].map V.int) (n:Int)=some (V.int ([a1,a2,a3].getD n 0)):=fun n hn => int_at hn
   have em:((i:Int) + 1) % 3=(((i + 1) % 3:Nat):Int):=by omega
   refine ⟨_,rfl,_,rfl,tr,_,(i:Int),_,rfl,rfl,SqT.of htr2,at3 i hi,_,true,rfl,fun la hla => ?_⟩
   refine ⟨_,rfl,_,rfl,(i:Int),1,rfl,rfl,_,3,rfl,rfl,(by show (0:Int) < 3; decide),tr,_,((i:Int) + 1) % 3,_,rfl,rfl,SqT.of (by rw [upd_ne (ne_of_none htr2 hla)]; exact htr2),by rw [em]; exact at3 ((i + 1) % 3) (by omega),_,false,rfl,fun lb hlb => ?_⟩
   have sa:=Same.nw (o:=.tup ((endI ([a1,a2,a3].getD i 0) true).map V.int)) (Same.refl H2) hla
   have fa:(upd H2 la (.tup ((endI ([a1,a2,a3].getD i 0) true).map V.int))) la=some (.tup ((endI ([a1,a2,a3].getD i 0) true).map V.int)):=upd_same
   generalize upd H2 la (.tup ((endI ([a1,a2,a3].getD i 0) true).map V.int))=H3 at sa fa hlb ⊢
   have sb:=Same.nw (o:=.tup ((endI ([a1,a2,a3].getD ((i + 1) % 3) 0) false).map V.int)) (Same.refl H3) hlb
   have fb:(upd H3 lb (.tup ((endI ([a1,a2,a3].getD ((i + 1) % 3) 0) false).map V.int))) lb=some (.tup ((endI ([a1,a2,a3].getD ((i + 1) % 3) 0) false).map V.int)):=upd_same
   generalize upd H3 lb (.tup ((endI ([a1,a2,a3].getD ((i + 1) % 3) 0) false).map V.int))=H4 at sb fb ⊢
   refine ⟨(by show 2 ≤ sizeLine; decide),fun pr hpr => ?_⟩
   have sc:=Same.nw (o:=.lst [.ref la,.ref lb]) (Same.refl H4) hpr
   have fc:(upd H4 pr (.lst [.ref la,.ref lb])) pr=some (.lst [.ref la,.ref lb]):=upd_same
   dsimp only [gName]
   generalize upd H4 pr (.lst [.ref la,.ref lb])=H5 at sc fc ⊢
   have s25:=sa.trans (sb.trans sc)
   refine ptsB_reads (p:=endI ([a1,a2,a3].getD i 0) true) (q:=endI ([a1,a2,a3].getD ((i + 1) % 3) 0) false) (s2.trans s25) (s25 _ _ f2) (L2.up s25) I2 ?_ fc (sc _ _ (sb _ _ fa)) (sc _ _ fb) rfl rfl ?_
   ·rw [List.length_append,flatP_len,List.length_take,List.length_take]
    omega
   ·intro R pr' mi y6 ys' w H' s' R0 fR LR pw
    refine ⟨s',R,_,_,_,_,ys',_,rfl,R0,fR,LR,?_⟩
    rw [take_succ' (triP_at hi),← List.append_assoc]
    exact I2.step rfl rfl pw
  ·rintro σ H2 ⟨s2,hp,x3,x4,x5,x6,ys,gs,rfl,hn,f2,L2,I2⟩
   refine ⟨s2,hp,_,_,_,_,_,ys,gs,rfl,hn,f2,L2,?_⟩
   rw [take_succ' et,List.flatMap_append]
   have e3:(triP [a1,a2,a3]).take 3=triP [a1,a2,a3]:=rfl
   rw [e3] at I2
   simpa using I2
 ·rintro σ H1 ⟨s1,hp,x2,x3,x4,x5,x6,ys,gs,rfl,hn,f1,L1,I1⟩
  rw [lx,List.take_length] at I1
  have:=I1.n
  rw [flatP_len] at this
  refine ⟨_,rfl,hp,ys,gs,rfl,SqL.of f1,L1,by omega,fun l zs ws hl Lw pw _ => ?_⟩
  have s2:=Same.nw (o:=.lst zs) (Same.refl H1) hl
  exact k l zs ws _ (s1.trans s2) (s1.free hl) upd_same (Lw.up s2) (I1.perm pw)
end
end L2
namespace L2
open PySem PySem.Spec PyProof.Rows
section
variable {K:PySem.W.Frag} {H:Hp} {Q:VK} {Z:L2.St→Hp→Prop}
theorem upd_tup2 {H H' : Hp} {d:Addr} (P:PurseZ H d) (B:ButZ d H H'):Tups H H':=fun c o e => B c _ e fun z => by
 obtain ⟨x,y,h,_⟩:=P
 rw [z,h] at e
 cases e
theorem LsL.purse {H H' : Hp} {d:Addr} {ys:List V} {uss:List (List (List Int))} (h:LsL H true ys uss) (P:PurseZ H d) (B:ButZ d H H'):LsL H' true ys uss:=⟨h.1,fun i y us h1 h2 => by
 obtain ⟨a,xs,e,ha,it⟩:=h.2 i y us h1 h2
 refine ⟨a,xs,e,B _ _ ha fun z => ?_,it.up (upd_tup2 P B)⟩
 obtain ⟨u,v,hd,_⟩:=P
 rw [z,hd] at ha
 cases ha
 have l:=it.1
 cases us with
 | nil => cases l
 | cons w ws => exact nomatch it.2 0 _ w rfl rfl⟩
theorem purse_ne {H:Hp} {d l:Addr} {ys:List V} {U:List (List Int)} (P:PurseZ H d) (h:H l=some (.lst ys)) (t:TuL H ys U) (o:ShOk U):l ≠ d:=by
 rintro rfl
 obtain ⟨u,v,hd,_⟩:=P
 rw [hd] at h
 cases h
 have:=o.len
 cases U with
 | nil => simp at this
 | cons w ws =>
  obtain ⟨a,e,_⟩:=t.2 0 _ w rfl rfl
  cases e
set_option maxHeartbeats 4000000 in
theorem loopE_reads {s h:Addr} {xs gs:List V} {S g:List (List Int)} (hs:H s=some (.lst xs)) (tS:TuL H xs S) (oS:ShOk S) (hh:H h=some (.lst gs)) (it:ItL H true gs g) (k:∀ (l:Addr) (H' : Hp),Same H H'→H l=none→H' l=some (.lst ((ringR (S.length / 2 * 3) g).map V.int))→Q (.ref l) H'):tLoopE K { nx:=Z,rt:=Q } [some (.ref s),some (.ref h)] H:=by
 have lS:=oS.len
 have lx:xs.length=S.length:=tS.1
 have hdiv:3 * (xs.length:Int) / 2=((S.length / 2 * 3:Nat):Int):=by rw [lx]; omega
 refine ⟨_,rfl,s,xs,rfl,.inl (SqL.of hs),3,_,rfl,rfl,.inl ⟨by decide,by decide⟩,_,2,rfl,rfl,⟨by decide,by decide⟩,_,1,rfl,rfl,_,_,rfl,⟨by decide,by decide,by rw [hdiv]; omega,by rw [hdiv]; omega⟩,?_⟩
 rw [hdiv,show (((S.length / 2 * 3:Nat):Int) + 1 - 1).toNat=S.length / 2 * 3 by omega]
 refine compR (lo:=1) (n:=S.length / 2 * 3) (fun i zs H' => Same H H'∧zs=((ringR (S.length / 2 * 3) g).take i).map V.int) ⟨Same.refl H,rfl⟩ (by omega) (fun i zs H' h => by rw [h.2,List.length_map,List.length_take]; exact Nat.min_le_left _ _) ?_ ?_
 ·rintro i zs H1 pre hpl hi ⟨s1,rfl⟩
  rcases pre with _ | ⟨q0,_ | ⟨q1,pre⟩⟩
  ·cases hpl
  ·refine ⟨⟨[some _],rfl,rfl⟩,?_⟩
   unfold tYes
   dsimp only
   rw [if_pos (rfl:true=true)]
   refine ⟨2,rfl,by decide,by decide,compR (lo:=0) (n:=2) (fun j zs H' => Same H1 H'∧zs=((List.range j).map fun (e:Nat) => ringE g [1 + (i:Int),(e:Int)]).map V.int) ⟨Same.refl _,rfl⟩ (by decide) (fun j zs H' h => by rw [h.2,List.length_map,List.length_map,List.length_range]; exact Nat.le_refl _) ?_ ?_⟩
   ·rintro j zs H2 pre2 hpl2 hj ⟨s2,rfl⟩
    rcases pre2 with _ | ⟨q0,_ | ⟨q1,pre2⟩⟩
    ·cases hpl2
    ·refine ⟨⟨[some _],rfl,rfl⟩,?_⟩
     dsimp only
     rw [if_pos (rfl:true=true)]
     refine ⟨_,rfl,_,rfl,(by show 2 ≤ sizeLine; decide),fun tp htp => ?_⟩
     have s3:=Same.nw (o:=.tup [V.int (1 + (i:Int)),V.int (0 + (j:Int))]) (Same.refl H2) htp
     have f3:(upd H2 tp (.tup [V.int (1 + (i:Int)),V.int (0 + (j:Int))])) tp=some (.tup ([1 + (i:Int),(j:Int)].map V.int)):=by rw [upd_same,Int.zero_add]; rfl
     generalize upd H2 tp (.tup [V.int (1 + (i:Int)),V.int (0 + (j:Int))])=H3 at s3 f3 ⊢
     have s13:=s1.trans (s2.trans s3)
     refine ⟨_,rfl,h,gs,_,g,rfl,SqL.of (s13 _ _ hh),.tup f3,it.up s13.tups,.inr ⟨_,rfl,s2.trans s3,?_⟩⟩
     rw [List.range_succ,List.map_append,List.map_append]
     congr 1
     show [V.int (if decide ([1 + (i:Int),(j:Int)] ∈ g)=true then 1 else 0)]=[V.int (ringE g [1 + (i:Int),(j:Int)])]
     unfold ringE
     by_cases c:[1 + (i:Int),(j:Int)] ∈ g
     ·rw [if_pos c,decide_eq_true c,if_pos rfl]
     ·rw [if_neg c,decide_eq_false c,if_neg Bool.false_ne_true]
    ·cases hpl2
   ·rintro zs H2 ⟨s2,rfl⟩ D hD
    have s3:=Same.nw (o:=.lst (((List.range 2).map fun (e:Nat) => ringE g [1 + (i:Int),(e:Int)]).map V.int)) (Same.refl H2) hD
    refine ⟨D,(List.range 2).map fun (e:Nat) => ringE g [1 + (i:Int),(e:Int)],rfl,SqL.of upd_same,s1.trans (s2.trans s3),?_⟩
    rw [take_succ' (ringR_at hi),List.map_append]
    congr 1
    show [V.int (ringE g [1 + (i:Int),((0:Nat):Int)] + (ringE g [1 + (i:Int),((1:Nat):Int)] + 0))]=_
    rw [Int.add_zero]
    rfl
  ·cases hpl
 ·rintro zs H1 ⟨s1,rfl⟩ D hD
  rw [List.take_of_length_le (by rw [ringR_len]; exact Nat.le_refl _)]
  exact k D _ (s1.trans (Same.nw (Same.refl _) hD)) (s1.free hD) upd_same
theorem writE_reads {a:Addr} {u:List Int} (ha:H a=some (.lst (u.map V.int))) (ul:u.length ≤ 18) (h6:Sixty u) (k:∀ H',Same H H'→Q (.str (rowT u)) H'):tWritE K { nx:=Z,rt:=Q } [some (.ref a)] H:=by
 refine ⟨rfl,_,rfl,a,rfl,⟨_,SqL.of ha⟩,compL (K:=K) (a:=a) (xs:=u.map V.int) (fun m zs H' => zs=((u.take m).map numT).map V.str∧H=H') ⟨rfl,rfl⟩ (by rw [List.length_map]; omega) (fun m zs H' h => by rw [h.1,List.length_map,List.length_map,List.length_take]; exact Nat.min_le_left _ _) (fun m zs H' _ h => by rw [← h.2]; exact SqL.of ha) ?_ ?_⟩
 ·rintro n z zs H4 pre hpl hz ⟨rfl,rfl⟩
  rw [List.getElem?_map] at hz
  cases ez:u[n]? with
  | none => rw [ez] at hz; cases hz
  | some sd' =>
   rw [ez] at hz
   cases hz
   have hs:=h6 sd' (List.mem_of_getElem? ez)
   rcases pre with _ | ⟨q0,_ | ⟨q1,pre⟩⟩
   ·cases hpl
   ·refine ⟨⟨[some _],rfl,rfl⟩,?_⟩
    unfold tYes
    dsimp only
    rw [if_pos (rfl:true=true)]
    refine ⟨_,rfl,sd',rfl,numT_log hs.1 hs.2,?_,rfl⟩
    rw [take_succ' ez,List.map_append,List.map_append]
    rfl
   ·cases hpl
 rintro zs H4 ⟨rfl,rfl⟩ D4 hD4
 rw [List.length_map,List.take_length]
 have sm:=sum_len 80 h6.nums
 rw [List.length_map] at sm
 exact ⟨" ",D4,u.map numT,rfl,rfl,SqL.of upd_same,by decide,by rw [List.length_map]; omega,k _ (Same.nw (Same.refl H) hD4)⟩
theorem zip_add {r l:List Int} {c:Int} (h:l.length=r.length) {i:Nat} {x y:Int} (hx:r[i]? = some x) (hy:l[i]? = some y):(addR r (mulR c l))[i]? = some (x + c * y):=by
 have il:i < r.length:=(List.getElem?_eq_some_iff.mp hx).1
 rw [addR_at il]
 unfold mulR
 rw [List.getD_eq_getElem?_getD,List.getD_eq_getElem?_getD,List.getElem?_map,hx,hy]
 rfl
theorem add_bound {r:List Int} {g:List (List Int)} {n:Nat} {c M B:Int} (h:r.length=n) (c0:0 ≤ c) (cM:c ≤ M) (hr:∀ x ∈ r,x ≤ B):∀ x ∈ addR r (mulR c (ringR n g)),x ≤ B + 2 * M:=fun x hx => by
 obtain ⟨i,hi⟩:=List.mem_iff_getElem?.mp hx
 have il:i < r.length:=by have:=(List.getElem?_eq_some_iff.mp hi).1; rwa [addR_len] at this
 have e1:r[i]? = some r[i]:=List.getElem?_eq_getElem il
 rw [zip_add (by rw [ringR_len,h]) e1 (ringR_at (by omega))] at hi
 cases hi
 have b1:=hr _ (List.mem_of_getElem? e1)
 have r1:∀ e,0 ≤ ringE g e∧ringE g e ≤ 1:=fun e => by unfold ringE; split <;> decide
 have a1:=r1 [1 + (i:Int),0]
 have a2:=r1 [1 + (i:Int),1]
 have:c * (ringE g [1 + (i:Int),0] + ringE g [1 + (i:Int),1]) ≤ c * 2:=Int.mul_le_mul_of_nonneg_left (by omega) c0
 omega
def L6:List Int:=[1,3,30,10 ^ 9,10 ^ 30,10 ^ 58]
theorem L6_ok:∀ c ∈ L6,0 < c∧c ≤ 10 ^ 58:=by decide
set_option maxHeartbeats 16000000 in
theorem rowB_reads {d s fo:Addr} {x4 x5:Option V} {far:Int} {xs:List V} {S:List (List Int)} {r0:List Int} {H0:Hp} (B:ButZ d H0 H) (P:PurseZ H d) (hs:H s=some (.lst xs)) (tS:TuL H xs S) (oS:ShOk S) (f0:0 ≤ far) (f1:far < 10 ^ 58) (hf:H fo=some (.lst (r0.map V.int))) (ev:EvRow S r0) (bd:∀ x ∈ r0,x ≤ 4 * far)
  (k:∀ (l:Addr) (r:List Int) (H' : Hp),ButZ d H0 H'→PurseZ H' d→H' l=some (.lst (r.map V.int))→EvRow S r→(∀ x ∈ r,x < 10 ^ 60)→Q (.ref l) H'):tRowB K { nx:=Z,rt:=Q } [some (.ref d),some (.ref s),some (.int far),some (.ref fo),x4,x5] H:=by
 have sd:=purse_ne P hs tS oS
 refine ⟨_,rfl,s,xs,S,rfl,hs,tS,oS,fun l ys hps H1 s1 ln hl Lh Ih => ?_⟩
 have P1:=P.up s1
 have B1:=B.same s1
 have nl:l ≠ d:=P.ne ln
 have hn:hps.length ≤ 36:=by have:=Ih.n; rw [flatP_len] at this; have:=oS.len; omega
 have ly:ys.length=hps.length:=Lh.1
 refine ⟨l,rfl,⟨_,SqL.of hl⟩,for_list (K:=K) (a:=l) (xs:=ys) (fun j σ H' => ∃ (fo:Addr) (r:List Int) (x4 x5:Option V),σ=[some (.ref d),some (.ref s),some (.int far),some (.ref fo),x4,x5]∧ButZ d H1 H'∧PurseZ H' d∧H' fo=some (.lst (r.map V.int))∧EvRow S r∧∀ x ∈ r,x ≤ 4 * far + (j:Int) * (2 * (far + 3))) ⟨fo,r0,_,_,rfl,ButZ.refl _ _,P1,s1 _ _ hf,ev,fun x hx => by have:=bd x hx; rw [show ((0:Nat):Int)=0 from rfl,Int.zero_mul]; omega⟩ (fun j σ H' _ h => by obtain ⟨_,_,_,_,_,b,_⟩:=h; exact SqL.of (b _ _ hl nl)) ?_ ?_⟩
 ·rintro j x σ H2 hx ⟨fo,r,x4,x5,rfl,B2,P2,hf2,ev2,bd2⟩
  obtain ⟨us,c,xc,eu,rfl,hc,it⟩:=(Lh.purse P1 B2).get' hx
  have mu:us ∈ hps:=List.mem_of_getElem? eu
  have nfd:fo ≠ d:=by
   rintro rfl
   obtain ⟨u,v,hd,_⟩:=P2
   rw [hd] at hf2
   have:=ev2.len
   have e2:(r.map V.int).length=2:=by have:=Option.some.inj hf2; injection this with this; rw [← this]; rfl
   rw [List.length_map] at e2
   have:=oS.len
   omega
  have ncd:c ≠ d:=by
   rintro rfl
   obtain ⟨u,v,hd,_⟩:=P2
   rw [hd] at hc
   cases hc
   have l:=it.1
   cases us with
   | nil => cases l
   | cons w ws => exact nomatch it.2 0 _ w rfl rfl
  dsimp only [gName]
  refine ⟨_,rfl,d,4,rfl,P2,by decide,by decide,fun r1 H3 a1 b1 P3 B3 => ?_⟩
  refine ⟨_,rfl,_,rfl,far,1,rfl,rfl,d,far + 1,rfl,P3,by omega,Int.lt_of_le_of_lt (show far + 1 ≤ 10 ^ 58 by omega) (by decide),fun r2 H4 a2 b2 P4 B4 => ⟨(by show 3 ≤ sizeLine; decide),fun p hp => ?_⟩⟩
  have P5:=P4.new (o:=.lst [.int 0,.int r1,.int r2]) hp
  have B5:ButZ d H2 _:=(B3.trans B4).new (o:=.lst [.int 0,.int r1,.int r2]) hp
  have f5:(upd H4 p (.lst [.int 0,.int r1,.int r2])) p=some (.lst ([0,r1,r2].map V.int)):=upd_same
  have np:=P4.ne hp
  generalize upd H4 p (.lst [.int 0,.int r1,.int r2])=H5 at P5 B5 f5 ⊢
  refine ⟨_,rfl,d,3,rfl,P5,by decide,by decide,fun r3 H6 a3 b3 P6 B6 => ?_⟩
  obtain ⟨n,cc,rfl,ec,_⟩:=at_ex [0,r1,r2] a3 b3
  have mc:=List.mem_of_getElem? ec
  have c0:0 ≤ cc∧cc ≤ far + 3:=by
   simp only [List.mem_cons,List.not_mem_nil,or_false] at mc
   rcases mc with rfl | rfl | rfl <;> omega
  refine ⟨p,_,_,.int cc,rfl,rfl,SqL.of (B6 _ _ f5 np),atI_nat (by rw [List.getElem?_map,ec]; rfl),?_⟩
  have B26:=B5.trans B6
  dsimp only [gName]
  have hs6:H6 s=some (.lst xs):=B26 _ _ (B2 _ _ (s1 _ _ hs) sd) sd
  have tS6:TuL H6 xs S:=tS.up fun c o e => upd_tup2 P2 B26 c o (upd_tup2 P1 B2 c o (s1 _ _ e))
  have hc6:=B26 _ _ hc ncd
  have it6:=it.up (upd_tup2 P2 B26)
  have hf6:=B26 _ _ hf2 nfd
  refine ⟨_,rfl,_,rfl,_,rfl,s,c,xs,xc,S,us,rfl,hs6,tS6,oS,hc6,it6,fun lo H7 s7 lon hlo => ?_⟩
  have hf7:=s7 _ _ hf6
  have lr:=ev2.len
  refine ⟨fo,lo,rfl,⟨_,SqL.of hf7⟩,⟨_,SqL.of hlo⟩,compZ (K:=K) (a:=fo) (b:=lo) (xs:=r.map V.int) (ys:=(ringR (S.length / 2 * 3) us).map V.int) (n:=r.length) (fun i zs H' => Same H7 H'∧zs=((addR r (mulR cc (ringR (S.length / 2 * 3) us))).take i).map V.int) ⟨Same.refl _,rfl⟩ (by rw [List.length_map,List.length_map,ringR_len]; omega) (by have:=oS.len; omega) (fun i zs H' h => by rw [h.2,List.length_map,List.length_take]; exact Nat.min_le_left _ _) (fun i zs H' _ h => ⟨SqL.of (h.1 _ _ hf7),SqL.of (h.1 _ _ hlo)⟩) ?_ ?_⟩
  ·rintro i x y zs H8 pre pp hpl hx hy ⟨s8,rfl⟩ hpp
   rw [List.getElem?_map] at hx hy
   cases ex:r[i]? with
   | none => rw [ex] at hx; cases hx
   | some xi =>
    cases ey:(ringR (S.length / 2 * 3) us)[i]? with
    | none => rw [ey] at hy; cases hy
    | some yi =>
     rw [ex] at hx
     rw [ey] at hy
     cases hx
     cases hy
     have yb : -(2 ^ 64) < yi∧yi < 2 ^ 64:=by
      have il:i < S.length / 2 * 3:=by have:=(List.getElem?_eq_some_iff.mp ey).1; rwa [ringR_len] at this
      rw [ringR_at il] at ey
      have r1:∀ e,0 ≤ ringE us e∧ringE us e ≤ 1:=fun e => by unfold ringE; split <;> decide
      have a1:=r1 [1 + (i:Int),0]
      have a2:=r1 [1 + (i:Int),1]
      have:=Option.some.inj ey
      omega
     rcases pre with _ | ⟨q0,_ | ⟨q1,_ | ⟨q2,pre⟩⟩⟩
     ·cases hpl
     ·cases hpl
     ·have s9:=Same.nw (o:=.tup [V.int xi,V.int yi]) (Same.refl H8) hpp
      refine ⟨pp,_,rfl,SqT.of upd_same,rfl,_,_,rfl,_,_,rfl,rfl,⟨[some _,some _],rfl,rfl⟩,?_⟩
      unfold tYes
      dsimp only
      rw [if_pos (rfl:true=true)]
      refine ⟨_,rfl,_,rfl,_,rfl,cc,yi,rfl,rfl,.inr yb,xi,_,rfl,rfl,s8.trans s9,?_⟩
      rw [take_succ' (zip_add (c:=cc) (by rw [ringR_len,lr]) ex ey),List.map_append]
      rfl
     ·cases hpl
  ·rintro zs H8 ⟨s8,rfl⟩ D hD
   rw [List.take_of_length_le (by rw [addR_len]; exact Nat.le_refl _)]
   have s9:=Same.nw (o:=.lst ((addR r (mulR cc (ringR (S.length / 2 * 3) us))).map V.int)) (Same.refl H8) hD
   have s79:=s7.trans (s8.trans s9)
   refine ⟨D,_,_,_,rfl,(B2.trans B26).same s79,P6.up s79,upd_same,ev2.add ((ring_ev oS fun x hx => Ih.ifs x hx us mu).mul c0.1),fun x hx => ?_⟩
   have:=add_bound (M:=far + 3) (B:=4 * far + (j:Int) * (2 * (far + 3))) lr c0.1 c0.2 bd2 x hx
   rw [show ((j + 1:Nat):Int)=(j:Int) + 1 by omega,Int.add_mul,Int.one_mul]
   omega
 ·rintro σ H2 ⟨fo,r,x4,x5,rfl,B2,P2,hf2,ev2,bd2⟩
  refine ⟨_,rfl,k fo r H2 (B1.trans B2) P2 hf2 ev2 fun x hx => ?_⟩
  have h1:=bd2 x hx
  have h2:(ys.length:Int) * (2 * (far + 3)) ≤ 36 * (2 * (far + 3)):=Int.mul_le_mul_of_nonneg_right (by omega) (by omega)
  have:(10:Int) ^ 60=100 * 10 ^ 58:=by decide
  have:(1000:Int) ≤ 10 ^ 58:=by decide
  omega
set_option maxHeartbeats 16000000 in
theorem rowE_reads {d s:Addr} {xs:List V} {S:List (List Int)} (P:PurseZ H d) (hs:H s=some (.lst xs)) (tS:TuL H xs S) (oS:ShOk S) (k:∀ (l:Addr) (r:List Int) (H' : Hp),ButZ d H H'→PurseZ H' d→H' l=some (.lst (r.map V.int))→EvRow S r→(∀ x ∈ r,x < 10 ^ 60)→Q (.ref l) H'):tRowE K { nx:=Z,rt:=Q } [some (.ref d),some (.ref s),none,none,none,none] H:=by
 have sd:=purse_ne P hs tS oS
 have lS:=oS.len
 have lx:xs.length=S.length:=tS.1
 have hdiv:3 * (xs.length:Int) / 2=((S.length / 2 * 3:Nat):Int):=by rw [lx]; omega
 refine ⟨_,rfl,10,9,rfl,rfl,⟨by decide,by decide,by decide⟩,10,30,rfl,rfl,⟨by decide,by decide,by decide⟩,10,58,rfl,rfl,⟨by decide,by decide,by decide⟩,(by show 6 ≤ sizeLine; decide),fun p hp => ?_⟩
 have P1:=P.new (o:=.lst (L6.map V.int)) hp
 have B1:ButZ d H _:=(ButZ.refl d H).new (o:=.lst (L6.map V.int)) hp
 have f1:(upd H p (.lst (L6.map V.int))) p=some (.lst (L6.map V.int)):=upd_same
 have np:=P.ne hp
 have eL:(HO.lst [V.int 1,V.int 3,V.int 30,V.int ((10:Int) ^ (9:Int).toNat),V.int ((10:Int) ^ (30:Int).toNat),V.int ((10:Int) ^ (58:Int).toNat)]) = .lst (L6.map V.int):=rfl
 rw [eL]
 generalize upd H p (.lst (L6.map V.int))=H1 at P1 B1 f1 ⊢
 refine ⟨_,rfl,d,6,rfl,P1,by decide,by decide,fun r1 H2 a1 b1 P2 B2 => ?_⟩
 obtain ⟨n,m,rfl,em,_⟩:=at_ex L6 a1 b1
 have hm:=L6_ok m (List.mem_of_getElem? em)
 refine ⟨p,_,_,.int m,rfl,rfl,SqL.of (B2 _ _ f1 np),atI_nat (by rw [List.getElem?_map,em]; rfl),d,m,rfl,P2,hm.1,Int.lt_of_le_of_lt hm.2 (by decide),fun far H3 f0 fm P3 B3 => ?_⟩
 have B03:=(B1.trans B2).trans B3
 have hs3:=B03 _ _ hs sd
 have tS3:=tS.up (upd_tup2 P B03)
 dsimp only [gName]
 refine ⟨_,rfl,s,xs,rfl,.inl (SqL.of hs3),3,_,rfl,rfl,.inl ⟨by decide,by decide⟩,_,2,rfl,rfl,⟨by decide,by decide⟩,_,rfl,by rw [hdiv]; omega,by rw [hdiv]; omega,?_⟩
 rw [hdiv,Int.toNat_natCast]
 refine compR (lo:=0) (n:=S.length / 2 * 3) (fun i zs H' => ∃ r:List Int,zs=r.map V.int∧r.length=i∧(∀ x ∈ r,∃ e,0 ≤ e∧e ≤ far∧x=2 * (far + e))∧ButZ d H3 H'∧PurseZ H' d) ⟨[],rfl,rfl,fun x hx => (by cases hx),ButZ.refl _ _,P3⟩ (by omega) (fun i zs H' h => by obtain ⟨r,rfl,e,_⟩:=h; rw [List.length_map,e]; exact Nat.le_refl _) ?_ ?_
 ·rintro i zs H4 pre hpl hi ⟨r,rfl,rl,rb,B4,P4⟩
  rcases pre with _ | ⟨q0,_ | ⟨q1,pre⟩⟩
  ·cases hpl
  ·refine ⟨⟨[some _],rfl,rfl⟩,?_⟩
   unfold tYes
   dsimp only
   rw [if_pos (rfl:true=true)]
   refine ⟨_,rfl,_,rfl,_,rfl,far,1,rfl,rfl,d,far + 1,rfl,P4,by omega,Int.lt_of_le_of_lt (show far + 1 ≤ 10 ^ 58 by omega) (by decide),fun e H5 e0 em P5 B5 => ⟨far,e,rfl,rfl,2,_,rfl,rfl,.inl ⟨by decide,by decide⟩,r ++ [2 * (far + e)],by rw [List.map_append]; rfl,by rw [List.length_append,rl]; rfl,fun x hx => ?_,B4.trans B5,P5⟩⟩
   rcases List.mem_append.mp hx with z | z
   ·exact rb x z
   ·rw [List.mem_singleton.mp z]
    exact ⟨e,e0,by omega,rfl⟩
  ·cases hpl
 ·rintro zs H4 ⟨r,rfl,rl,rb,B4,P4⟩ D hD
  have s5:=Same.nw (o:=.lst (r.map V.int)) (Same.refl H4) hD
  have f5:(upd H4 D (.lst (r.map V.int))) D=some (.lst (r.map V.int)):=upd_same
  dsimp only [gName]
  generalize upd H4 D (.lst (r.map V.int))=H5 at s5 f5 ⊢
  have B05:=(B03.trans B4).same s5
  refine rowB_reads B05 (P4.up s5) (B05 _ _ hs sd) (tS.up (upd_tup2 P B05)) oS f0 (by omega) f5 (ev_base oS rl f0 rb) (fun x hx => ?_) k
  obtain ⟨e,e0,e1,rfl⟩:=rb x hx
  omega
end
end L2
namespace L2
open PySem PySem.Spec PyProof.Rows
section
variable {K:PySem.W.Frag} {H:Hp} {Q:VK} {Z:L2.St→Hp→Prop}
set_option maxHeartbeats 8000000 in
theorem law83_reads {a:Addr} {ns:List Int} (hS:SqL K H a (ns.map V.int)) (k:∀ H',Q (.bl true) H'):tLaw83 K { nx:=Z,rt:=Q } [some (.ref a),none,none,none,none,none,none,none] H:=by
 refine ⟨_,rfl,a,_,rfl,.inl hS,6,_,rfl,1,_,rfl,rfl,_,rfl,?_,?_,?_⟩
 ·split <;> omega
 ·split <;> omega
 have hn:(1 + (if (((ns.map V.int).length:Nat):Int) < 6 then (((ns.map V.int).length:Nat):Int) else 6)).toNat ≤ 7:=by split <;> omega
 generalize (1 + (if (((ns.map V.int).length:Nat):Int) < 6 then (((ns.map V.int).length:Nat):Int) else 6)).toNat=n at hn ⊢
 refine for_range (fun i σ H' => ∃ x1 x2 x3 x4 x5 x6 x7:Option V,σ=[some (.ref a),x1,x2,x3,x4,x5,x6,x7]∧Same H H') ⟨_,_,_,_,_,_,_,rfl,Same.refl _⟩ ?_ ?_
 ·rintro i σ H1 hi ⟨x1,x2,x3,x4,x5,x6,x7,rfl,s1⟩
  dsimp only [gName]
  refine ⟨_,rfl,_,rfl,a,ns,_,rfl,Same.seq s1 hS,by omega,by omega,fun d H2 fd P2 s2 => ?_⟩
  have fd0:H d=none:=s1.free fd
  dsimp only [gName]
  refine ⟨_,rfl,d,rfl,P2,fun l ys U H3 B3 P3 hl tU oU => ?_⟩
  dsimp only [gName]
  have nl:=purse_ne P3 hl tU oU
  refine ⟨_,rfl,_,rfl,d,l,ys,U,rfl,P3,hl,tU,oU,fun lr r H4 B4 P4 hr ev rb => ?_⟩
  have h6:Sixty r:=fun x hx => ⟨ev.nn x hx,Int.le_of_lt (rb x hx)⟩
  have rl:r.length ≤ 18:=by have:=ev.len; have:=oU.len; omega
  refine ⟨lr,r,rfl,hr,rl,h6,fun H5 s5 => ?_⟩
  have tl:=rowT_len h6 rl
  generalize rowT r=t at tl ⊢
  have B45:=B4.same s5
  have P5:=P4.up s5
  have hl5:=B45 _ _ hl nl
  have tU5:=tU.up (upd_tup2 P3 B45)
  dsimp only [gName]
  refine ⟨_,rfl,l,ys,rfl,.inl (SqL.of hl5),fun h hh => ?_⟩
  have s6:=Same.nw (o:=.lst ys) (Same.refl H5) hh
  have f6:(upd H5 h (.lst ys)) h=some (.lst ys):=upd_same
  have nh:=P5.ne hh
  dsimp only [gName]
  generalize upd H5 h (.lst ys)=H6 at s6 f6 ⊢
  have hl6:=s6 _ _ hl5
  have tU6:=tU5.up s6.tups
  have P6:=P5.up s6
  refine ⟨_,rfl,_,rfl,h,ys,U,t,rfl,f6,tU6,oU,by omega,fun v1 H7 s7 th7 => ⟨_,rfl,_,rfl,l,ys,U,t,rfl,s7 _ _ hl6,tU6.up s7.tups,oU,by omega,fun v2 H8 s8 th8 => ⟨ansR U t,ansR U t,(th7.up s8).di,th8.di,ansR_lay _ _,ansR_lay _ _,ansR_dep _ _,_,rfl,iteN (by rw [ansR_eqv]; rfl) ?_⟩⟩⟩
  have s68:=s7.trans s8
  have B08:ButZ d H2 H8:=((B3.trans B45).same s6).same s68
  refine ⟨8,rfl,by decide,by decide,for_range (n:=8) (fun j σ H' => ∃ y6 y7:Option V,σ=[some (.ref a),some (.int (0 + (i:Int))),some (.ref d),some (.ref l),some (.str t),some (.ref h),y6,y7]∧ButZ d H8 H'∧PurseZ H' d) ⟨_,_,rfl,ButZ.refl _ _,P6.up s68⟩ ?_ ?_⟩
  ·rintro j σ H9 hj ⟨y6,y7,rfl,B9,P9⟩
   dsimp only [gName]
   refine ⟨_,rfl,_,rfl,d,t,rfl,P9,by omega,fun b H10 B10 P10 lb => ?_⟩
   dsimp only [gName]
   have B810:=B9.trans B10
   have hl10:=B810 _ _ (s68 _ _ hl6) nl
   have hh10:=B810 _ _ (s68 _ _ f6) nh
   have tU10:=(tU6.up s68.tups).up (upd_tup2 (P6.up s68) B810)
   refine ⟨_,rfl,_,rfl,h,ys,U,b,rfl,hh10,tU10,oU,by omega,fun v1 H11 s11 th11 => ⟨_,rfl,_,rfl,l,ys,U,b,rfl,s11 _ _ hl10,tU10.up s11.tups,oU,by omega,fun v2 H12 s12 th12 => ⟨ansR U b,ansR U b,(th11.up s12).di,th12.di,ansR_lay _ _,ansR_lay _ _,ansR_dep _ _,_,rfl,iteN (by rw [ansR_eqv]; rfl) ?_⟩⟩⟩
   have s1012:=s11.trans s12
   have tU12:=tU10.up s1012.tups
   refine ⟨_,rfl,_,rfl,dTs U,dTs U,tU12.di (SqL.of (s1012 _ _ hh10)),tU12.di (SqL.of (s1012 _ _ hl10)),lay_dTs _,lay_dTs _,dep_dTs _,_,rfl,iteN (by rw [eqv_dTs,decide_eq_true rfl]; rfl) ?_⟩
   exact ⟨_,_,rfl,B810.same s1012,P10.up s1012⟩
  ·rintro σ H9 ⟨y6,y7,rfl,B9,P9⟩
   refine ⟨_,_,_,_,_,_,_,rfl,fun c o q => (B08.trans B9) c o (s2 _ _ (s1 _ _ q)) fun z => ?_⟩
   rw [z,fd0] at q
   cases q
 ·rintro σ H1 ⟨x1,x2,x3,x4,x5,x6,x7,rfl,s1⟩
  exact k H1
end
end L2
namespace Toy
open PySem L2 PyProof.Rows
def top (i:Nat):Stmt:=PySem.Challenge.pw_farcords_k83_rows_read.main.body.getD i (.Pass ⟨0,0,0,0⟩)
structure Kn (P:Program) (w:World) (K:PySem.W.Frag) (mg:Str→Option Value) (base:Heap) (x:Str) (k:Nat) (ps:List Str) (sp:Sp):Prop where
 ex:∃ (f:Addr) (fd:FuncData),FnOk P w K mg base CX0 k f fd ps sp∧mg x=some (.ref f)∧PySem.W.keepIn K (.ref f)=true∧Binds K fd ps []
theorem pe_callD {X:Cx} {x:Str} {k j:Nat} {ps:List Str} {sp:Sp} {e:Expr} {es:List Expr} {t:TA} {p pos:PySem.Pos} (G:Kn X.prog X.w X.K X.mg X.base x k ps sp) (hr:Room j X.A) (hg:Gl X x) (ha:PA X (e :: es) t) (hle:k ≤ j:=by decide)
  (hdb:(x == ("__debug__" : Str))=false:=by decide)
  (he:starEach (e :: es) X.env=(false,eval e X.env) :: starEach es X.env:=by rfl) (hpl:(backTo pos (starEach es X.env)).any (·.1)=false:=by rfl):PE X (.Call (.Name x p) (e :: es) [] pos) (tCall sp [] E0 t):=by
 obtain ⟨f,fd,F,hm,hk,hb⟩:=G.ex
 exact pe_call F (hr.mono hle) hg hm hk hb .nil pass0 ha hdb he hpl
structure Txt (mg:Str→Option Value):Prop where
 len:mg "len" = none
 range:mg "range" = none
 min:mg "min" = none
 max:mg "max" = none
 isinstance:mg "isinstance" = none
 bool:mg "bool" = none
 int:mg "int" = none
 tuple:mg "tuple" = none
 list:mg "list" = none
 str:mg "str" = none
 all:mg "all" = none
 sum:mg "sum" = none
 sorted:mg "sorted" = none
def Purse (H:Hp) (d:Addr):Prop:=∃ a b:Int,H d=some (.lst [.int a,.int b])∧0 ≤ b∧b < 2147483648
def But (d:Addr) (H H' : Hp):Prop:=∀ c o,H c=some o→c ≠ d→H' c=some o
theorem But.refl (d:Addr) (H:Hp):But d H H:=fun _ _ e _ => e
theorem But.upd {d:Addr} {H H' : Hp} {o:HO} (a:But d H H'):But d H (upd H' d o):=fun c u e n => by rw [upd_ne n]; exact a c u e n
theorem Same.new {p:Addr} {H H' : Hp} {o:HO} (a:Same H H') (h:H' p=none):Same H (L2.upd H' p o):=fun c u e => by
 have:=a c u e
 rw [upd_ne (ne_of_none this h)]; exact this
theorem log_ok {m:Int} (h0:0 < m) (h:m < 10 ^ 100):m.natAbs.log2 < 9000:=by
 have h2:m.natAbs < 2 ^ 400:=by
  have:(10:Int) ^ 100 ≤ 2 ^ 400:=by decide +kernel
  omega
 have:=(Nat.log2_lt (n:=m.natAbs) (k:=400) (by omega)).mpr h2
 omega
theorem bits_ok {m:Int} (h0:0 < m) (h:m < 10 ^ 100):((Builtin.Int.intBits m:Nat):Int) ≤ 400:=by
 have h2:m.natAbs < 2 ^ 400:=by
  have:(10:Int) ^ 100 ≤ 2 ^ 400:=by decide +kernel
  omega
 have:=(Nat.log2_lt (n:=m.natAbs) (k:=400) (by omega)).mpr h2
 have hne:(m == 0)=false:=by simp; omega
 unfold Builtin.Int.intBits
 simp only [hne]
 simp
 omega
section
variable {P:Program} {w:World} {K:PySem.W.Frag} {mg:Str→Option Value} {base:Heap}
abbrev s__law_cell_at:Stmt:=top 28
theorem sc__law_cell_at:FnScope ["_law_script", "_law_k"] ["_law_script", "_law_k"] (defScope s__law_cell_at):=⟨rfl,rfl,rfl,by decide +kernel,rfl,by decide +kernel,by decide +kernel⟩
def spCell (K:PySem.W.Frag):Sp:=fun vs H Q _ => ∃ (a:Addr) (ns:List Int) (k:Int),vs=[.ref a,.int k]∧SqL K H a (ns.map V.int)∧0 ≤ k∧∀ n:Int,Q (.int n) H
theorem ok_cell {f:Addr} {fd:FuncData} (F:Fun K "_law_cell_at" "_law_cell_at" s__law_cell_at f fd) (M:Txt mg):FnOk P w K mg base CX0 1 f fd ["_law_script", "_law_k"] (spCell K):=by
 have sc:=sc__law_cell_at
 refine F.ok sc (fun vs H Q E h => ?_) (fun cdv A outer s H vs Q E hr h => ?_)
 ·obtain ⟨a,ns,k,rfl,_⟩:=h
  rfl
 ·obtain ⟨a,ns,i,rfl,hS,h0,k⟩:=h
  refine ⟨_,(pss_cons (ps_if (pt_cmpR op_lt (pv 1) (pe_callB (call_lenK (K:=K)) (by rfl) M.len PySem.boot_len (pa_Name (pv 0) pa_nil)) (nomark _)) (pss_one (ps_ret (pe_ix (ix_listK (K:=K)) (pv 0) (pv 1) (fun _ _ => rfl)))) pss_nil)
   (pss_one (ps_ret pe_int))),?_⟩
  refine ⟨_,rfl,_,rfl,a,_,rfl,.inl hS,_,_,rfl,rfl,_,rfl,?_⟩
  refine ite2 (fun e => ?_) (fun e => ?_)
  ·have e:=of_decide_eq_true e
   rw [List.length_map] at e
   have hlt:i.toNat < ns.length:=by omega
   refine ⟨_,rfl,_,rfl,a,_,_,V.int (ns[i.toNat]),rfl,rfl,hS,?_,k _⟩
   have:=atI_nat (xs:=ns.map V.int) (j:=i.toNat) (v:=V.int (ns[i.toNat])) (by rw [List.getElem?_map,List.getElem?_eq_getElem hlt]; rfl)
   rw [Int.toNat_of_nonneg h0] at this
   exact this
  ·exact k 0
abbrev s__law_purse:Stmt:=top 29
theorem sc__law_purse:FnScope ["_law_script", "_law_at", "_law_cell", "_law_seed", "_law_k"] ["_law_script", "_law_at"] (defScope s__law_purse):=⟨rfl,rfl,rfl,by decide +kernel,rfl,by decide +kernel,by decide +kernel⟩
def spPurse (K:PySem.W.Frag):Sp:=fun vs H Q _ => ∃ (a:Addr) (ns:List Int) (k:Int),vs=[.ref a,.int k]∧SqL K H a (ns.map V.int)∧0 ≤ k∧k ≤ 1000∧∀ (d:Addr) (H' : Hp),H d=none→Purse H' d→Same H H'→Q (.ref d) H'
theorem ok_purse {f:Addr} {fd:FuncData} (F:Fun K "_law_purse" "_law_purse" s__law_purse f fd) (M:Txt mg) (G_law_cell_at:Kn P w K mg base "_law_cell_at" 1 ["_law_script", "_law_k"] (spCell K)):FnOk P w K mg base CX0 2 f fd ["_law_script", "_law_at"] (spPurse K):=by
 have sc:=sc__law_purse
 refine F.ok sc (fun vs H Q E h => ?_) (fun cdv A outer s H vs Q E hr h => ?_)
 ·obtain ⟨a,ns,k,rfl,_⟩:=h
  rfl
 ·obtain ⟨a,ns,i,rfl,hS,h0,h1,k⟩:=h
  refine ⟨_,(pss_cons (ps_set (i:=2) sc.nd rfl (Or.inl rfl) (pe_callD G_law_cell_at hr rfl (pa_Name (pv 0) (pa_Name (pv 1) pa_nil))))
   (pss_cons (ps_if (pt_cmpR op_ge (pv 2) (pe_op op_pow pe_int pe_int) (nomark _)) (pss_one (ps_ret (pe_lst (pa_o2 (pv 2) pe_int pa_nil)))) pss_nil)
   (pss_cons (ps_set (i:=3) sc.nd rfl (Or.inl rfl) (pe_op op_add (pe_op op_mul pe_int (pv 1)) pe_int))
   (pss_cons (ps_for PassesOwn.never rfl (pi_range1 rfl M.range (pa_Constant pe_int pa_nil)) (pg_name (i:=4) sc.nd rfl (Or.inl rfl))
   (pss_cons (ps_set (i:=3) sc.nd rfl (Or.inl rfl) (pe_op op_add (pe_op op_add (pe_op op_mul (pv 3) pe_int) (pe_op op_mod (pe_callD G_law_cell_at hr rfl (pa_Name (pv 0) (pa_BinOp (pe_op op_add (pv 1) (pv 4)) pa_nil))) pe_int)) (pe_op op_mul pe_int (pv 4))))
   (pss_one (ps_set (i:=3) sc.nd rfl (Or.inl rfl) (pe_op op_mod (pv 3) pe_int)))))
   (pss_one (ps_ret (pe_lst (pa_o2 pe_int (pe_op op_add (pv 3) pe_int) pa_nil)))))))),?_⟩
  refine ⟨_,rfl,_,rfl,a,ns,i,rfl,hS,h0,fun cell => ?_⟩
  refine ⟨_,rfl,_,_,rfl,rfl,⟨by decide,by decide,by decide⟩,_,_,rfl,rfl,_,rfl,?_⟩
  refine ite2 (fun e => ?_) (fun e => ?_)
  ·refine ⟨_,rfl,(by show 2 ≤ sizeLine; decide),fun d hd => ?_⟩
   exact k d _ hd ⟨_,_,upd_same,by decide,by decide⟩ (Same.new (Same.refl _) hd)
  ·refine ⟨_,rfl,_,_,rfl,rfl,.inl ⟨by decide,by decide⟩,_,_,rfl,rfl,?_⟩
   refine ⟨9,rfl,by decide,by decide,for_range (n:=9) (fun j σ H' => ∃ (c kk:Option V) (seed:Int),σ=[some (.ref a),some (.int i),c,some (.int seed),kk]∧0 ≤ seed∧seed < 2147483629∧H' = H) ⟨_,_,_,rfl,by omega,by omega,rfl⟩ ?_ ?_⟩
   ·rintro j σ H' hj ⟨c,kk,seed,rfl,hs0,hs1,rfl⟩
    refine ⟨_,rfl,_,_,rfl,rfl,.inl ⟨by omega,by omega⟩,?_⟩
    refine ⟨_,rfl,_,rfl,_,rfl,_,_,rfl,rfl,a,ns,_,rfl,hS,by omega,fun cell' => ?_⟩
    refine ⟨_,_,rfl,rfl,(by show (0:Int) < 2147483647; decide),_,_,rfl,rfl,_,rfl,_,_,rfl,rfl,.inl ⟨by decide,by decide⟩,_,_,rfl,rfl,?_⟩
    refine ⟨_,rfl,_,_,rfl,rfl,(by show (0:Int) < 2147483629; decide),?_⟩
    exact ⟨_,_,_,rfl,Int.emod_nonneg _ (by decide),Int.emod_lt_of_pos _ (by decide),rfl⟩
   ·rintro σ H' ⟨c,kk,seed,rfl,hs0,hs1,rfl⟩
    refine ⟨_,rfl,_,_,rfl,rfl,(by show 2 ≤ sizeLine; decide),fun d hd => ?_⟩
    exact k d _ hd ⟨_,_,upd_same,by omega,by omega⟩ (Same.new (Same.refl _) hd)
abbrev s__law_take:Stmt:=top 30
theorem sc__law_take:FnScope ["_law_draw", "_law_many", "_law_digit", "_law_found", "_law_k"] ["_law_draw", "_law_many"] (defScope s__law_take):=⟨rfl,rfl,rfl,by decide +kernel,rfl,by decide +kernel,by decide +kernel⟩
def spTake:Sp:=fun vs H Q _ => ∃ (d:Addr) (m:Int),vs=[.ref d,.int m]∧Purse H d∧0 < m∧m < 10 ^ 100∧∀ (r:Int) (H' : Hp),0 ≤ r→r < m→Purse H' d→But d H H'→Q (.int r) H'
theorem ok_take {f:Addr} {fd:FuncData} (F:Fun K "_law_take" "_law_take" s__law_take f fd) (M:Txt mg):FnOk P w K mg base CX0 1 f fd ["_law_draw", "_law_many"] spTake:=by
 have sc:=sc__law_take
 refine F.ok sc (fun vs H Q E h => ?_) (fun cdv A outer s H vs Q E hr h => ?_)
 ·obtain ⟨a,k,rfl,_⟩:=h
  rfl
 ·obtain ⟨d,m,rfl,⟨a,b,hd,hb0,hb1⟩,hm0,hm1,k⟩:=h
  have hlog:=log_ok hm0 hm1
  have hbits:=bits_ok hm0 hm1
  refine ⟨_,(pss_cons (ps_if (pt_cmpR op_eq (pe_ix (ix_listK (K:=K)) (pv 0) pe_int (fun _ _ => rfl)) pe_int (nomark _)) (pss_cons (ps_set (i:=2) sc.nd rfl (Or.inl rfl) (pe_op op_mod (pe_ix (ix_listK (K:=K)) (pv 0) pe_int (fun _ _ => rfl)) (pv 1)))
   (pss_cons (ps_asg (pe_op op_fdivL (pe_ix (ix_listK (K:=K)) (pv 0) pe_int (fun _ _ => rfl)) (pv 1)) (pg_sub (pv 0) pe_int set_list))
   (pss_one (ps_ret (pv 2))))) pss_nil)
   (pss_cons (ps_set (i:=3) sc.nd rfl (Or.inl rfl) pe_int)
   (pss_cons (ps_for PassesOwn.never rfl (pi_range1 rfl M.range (pa_BinOp (pe_op op_add pe_int (pe_op op_fdivL (pe_bm0 PySem.F.plainAttrs_int PySem.F.slot_int_bit_length PySem.F.type_int_bit_length mt_bits (pv 1)) pe_int)) pa_nil)) (pg_name (i:=4) sc.nd rfl (Or.inl rfl))
   (pss_cons (ps_asg (pe_op op_mod (pe_op op_mul (pe_ix (ix_listK (K:=K)) (pv 0) pe_int (fun _ _ => rfl)) pe_int) pe_int) (pg_sub (pv 0) pe_int set_list))
   (pss_one (ps_set (i:=3) sc.nd rfl (Or.inl rfl) (pe_op op_add (pe_op op_mul (pv 3) pe_int) (pe_op op_mod (pe_op op_mul (pe_ix (ix_listK (K:=K)) (pv 0) pe_int (fun _ _ => rfl)) (pe_ix (ix_listK (K:=K)) (pv 0) pe_int (fun _ _ => rfl))) pe_int))))))
   (pss_one (ps_ret (pe_op op_mod (pe_op op_fdivL (pv 3) pe_int) (pv 1))))))),?_⟩
  refine ⟨_,rfl,d,_,_,_,rfl,rfl,SqL.of hd,rfl,rfl,_,rfl,?_⟩
  refine ite2 (fun e => ?_) (fun e => ?_)
  ·refine ⟨_,rfl,d,_,_,_,rfl,rfl,SqL.of hd,rfl,_,rfl,_,_,rfl,rfl,hm0,?_⟩
   refine ⟨_,rfl,d,_,_,_,rfl,rfl,SqL.of hd,rfl,_,rfl,_,_,rfl,rfl,⟨hm0,hlog⟩,_,rfl,d,_,_,_,rfl,rfl,hd,rfl,?_⟩
   refine ⟨_,rfl,?_⟩
   exact k _ _ (Int.emod_nonneg _ (by omega)) (Int.emod_lt_of_pos _ hm0) ⟨_,_,upd_same,hb0,hb1⟩ (But.upd (But.refl _ _))
  ·refine ⟨_,rfl,rfl,_,rfl,rfl,_,_,rfl,rfl,⟨by decide,by decide⟩,_,_,rfl,rfl,?_⟩
   refine ⟨_,rfl,by omega,by omega,for_range (fun j σ H' => ∃ (c kk:Option V) (found b' : Int),σ=[some (.ref d),some (.int m),c,some (.int found),kk]∧H' d=some (.lst [.int a,.int b'])∧0 ≤ b'∧b' < 2147483648∧But d H H') ⟨_,_,_,b,rfl,hd,hb0,hb1,But.refl _ _⟩ ?_ ?_⟩
   ·rintro j σ H' hj ⟨c,kk,found,b',rfl,hd',hb0',hb1',bt⟩
    refine ⟨_,rfl,d,_,_,_,rfl,rfl,SqL.of hd',rfl,_,_,rfl,rfl,.inl ⟨by omega,by omega⟩,_,_,rfl,rfl,(by show (0:Int) < 2147483647; decide),_,rfl,d,_,_,_,rfl,rfl,hd',rfl,?_⟩
    have z0:0 ≤ b' * 48271 % 2147483647:=Int.emod_nonneg _ (by decide)
    have z1:b' * 48271 % 2147483647 < 2147483647:=Int.emod_lt_of_pos _ (by decide)
    refine ⟨_,rfl,_,_,rfl,rfl,.inr ⟨by decide,by decide⟩,?_⟩
    refine ⟨_,rfl,d,_,_,_,rfl,rfl,SqL.of upd_same,rfl,_,rfl,d,_,_,_,rfl,rfl,SqL.of upd_same,rfl,_,_,rfl,rfl,.inl ⟨by omega,by omega⟩,_,_,rfl,rfl,(by show (0:Int) < 2147483629; decide),_,_,rfl,rfl,?_⟩
    exact ⟨_,_,_,_,rfl,upd_same,z0,by omega,But.upd bt⟩
   ·rintro σ H' ⟨c,kk,found,b',rfl,hd',hb0',hb1',bt⟩
    refine ⟨_,rfl,_,_,rfl,rfl,⟨by decide,by decide⟩,_,rfl,_,_,rfl,rfl,hm0,?_⟩
    exact k _ _ (Int.emod_nonneg _ (by omega)) (Int.emod_lt_of_pos _ hm0) ⟨_,_,hd',hb0',hb1'⟩ bt
end
end Toy
namespace Toy
open PySem L2 PyProof.Rows
structure Gb (mg:Str→Option Value):Prop where
 ab:mg "abs" = none
 zp:mg "zip" = none
 ve:mg "ValueError" = none
 st:mg "set" = none
 fi:∃ t,mg "FIGURES" = some (.str "0123456789" t)
 mo:∃ t,mg "MOST_FIGURES" = some (.int 60 t)
structure Exs (K:PySem.W.Frag) (mg:Str→Option Value) (c_CordError c_NoCord c_NoDeed c_NoName c_NoRow c_NoSheet c_NoText c_NoTurn c_TooMany:Addr):Prop where
 m_CordError:mg "CordError" = some (.ref c_CordError)
 m_NoCord:mg "NoCord" = some (.ref c_NoCord)
 m_NoDeed:mg "NoDeed" = some (.ref c_NoDeed)
 m_NoName:mg "NoName" = some (.ref c_NoName)
 m_NoRow:mg "NoRow" = some (.ref c_NoRow)
 m_NoSheet:mg "NoSheet" = some (.ref c_NoSheet)
 m_NoText:mg "NoText" = some (.ref c_NoText)
 m_NoTurn:mg "NoTurn" = some (.ref c_NoTurn)
 m_TooMany:mg "TooMany" = some (.ref c_TooMany)
 x_CordError:XCls K c_CordError
 x_NoCord:XCls K c_NoCord
 x_NoDeed:XCls K c_NoDeed
 x_NoName:XCls K c_NoName
 x_NoRow:XCls K c_NoRow
 x_NoSheet:XCls K c_NoSheet
 x_NoText:XCls K c_NoText
 x_NoTurn:XCls K c_NoTurn
 x_TooMany:XCls K c_TooMany
 e_NoText:PySem.W.excIn K c_NoText bmV "ValueError.__new__" = true
 e_NoRow:PySem.W.excIn K c_NoRow bmV "ValueError.__new__" = true
 v_NoText:PySem.W.subIn K (.ref c_NoText) (.type "ValueError")=some true
 v_NoRow:PySem.W.subIn K (.ref c_NoRow) (.type "ValueError")=some true
 s_NoText_CordError:PySem.W.subIn K (.ref c_NoText) (.ref c_CordError)=some true
 s_NoText_NoCord:PySem.W.subIn K (.ref c_NoText) (.ref c_NoCord)=some false
 s_NoText_NoDeed:PySem.W.subIn K (.ref c_NoText) (.ref c_NoDeed)=some false
 s_NoText_NoName:PySem.W.subIn K (.ref c_NoText) (.ref c_NoName)=some false
 s_NoText_NoRow:PySem.W.subIn K (.ref c_NoText) (.ref c_NoRow)=some false
 s_NoText_NoSheet:PySem.W.subIn K (.ref c_NoText) (.ref c_NoSheet)=some false
 s_NoText_NoText:PySem.W.subIn K (.ref c_NoText) (.ref c_NoText)=some true
 s_NoText_NoTurn:PySem.W.subIn K (.ref c_NoText) (.ref c_NoTurn)=some false
 s_NoText_TooMany:PySem.W.subIn K (.ref c_NoText) (.ref c_TooMany)=some false
 s_NoRow_CordError:PySem.W.subIn K (.ref c_NoRow) (.ref c_CordError)=some true
 s_NoRow_NoCord:PySem.W.subIn K (.ref c_NoRow) (.ref c_NoCord)=some false
 s_NoRow_NoDeed:PySem.W.subIn K (.ref c_NoRow) (.ref c_NoDeed)=some false
 s_NoRow_NoName:PySem.W.subIn K (.ref c_NoRow) (.ref c_NoName)=some false
 s_NoRow_NoRow:PySem.W.subIn K (.ref c_NoRow) (.ref c_NoRow)=some true
 s_NoRow_NoSheet:PySem.W.subIn K (.ref c_NoRow) (.ref c_NoSheet)=some false
 s_NoRow_NoText:PySem.W.subIn K (.ref c_NoRow) (.ref c_NoText)=some false
 s_NoRow_NoTurn:PySem.W.subIn K (.ref c_NoRow) (.ref c_NoTurn)=some false
 s_NoRow_TooMany:PySem.W.subIn K (.ref c_NoRow) (.ref c_TooMany)=some false
theorem pe_callD0 {X:Cx} {x:Str} {k j:Nat} {ps:List Str} {sp:Sp} {p pos:PySem.Pos} (G:Kn X.prog X.w X.K X.mg X.base x k ps sp) (hr:Room j X.A) (hg:Gl X x) (hle:k ≤ j:=by decide) (hdb:(x == ("__debug__" : Str))=false:=by decide):PE X (.Call (.Name x p) [] [] pos) (tCall sp [] E0 tNil):=by
 obtain ⟨f,fd,F,hm,hk,hb⟩:=G.ex
 exact pe_call0 F (hr.mono hle) hg hm hk hb .nil pass0 hdb
end Toy
namespace Toy
open PySem L2 PyProof.Rows
section
variable {P:Program} {w:World} {K:PySem.W.Frag} {mg:Str→Option Value} {base:Heap}
abbrev s_is_whole:Stmt:=top 11
theorem sc_is_whole:FnScope ["thing"] ["thing"] (defScope s_is_whole):=⟨rfl,rfl,rfl,by decide +kernel,rfl,by decide +kernel,by decide +kernel⟩
def spWhole:Sp:=fun vs H Q _ => ∃ x d,vs=[x]∧Th H x d∧Q (.bl (wholeD d)) H
theorem ok_whole {f:Addr} {fd:FuncData} (F:Fun K "is_whole" "is_whole" s_is_whole f fd) (M:Txt mg):FnOk P w K mg base CX0 1 f fd ["thing"] spWhole:=by
 have sc:=sc_is_whole
 refine F.ok sc (fun vs H Q E h => ?_) (fun cdv A outer s H vs Q E hr h => ?_)
 ·obtain ⟨x,d,rfl,_⟩:=h
  rfl
 ·obtain ⟨x,d,rfl,t,k⟩:=h
  refine ⟨_,(pss_one (ps_ret (pe_and (pe_callB (call_isinstK (T := "int") (K:=K)) (by rfl) M.isinstance boot_isinstance (pa_Name (pv 0) (pa_Name (pe_bltn (v:=.ty "int") rfl M.int boot_int rfl) pa_nil))) (pe_one (pe_not (pe_callB (call_isinstK (T := "bool") (K:=K)) (by rfl) M.isinstance boot_isinstance (pa_Name (pv 0) (pa_Name (pe_bltn (v:=.ty "bool") rfl M.bool boot_bool rfl) pa_nil)))))))),?_⟩
  rw [whole_ib] at k
  refine ⟨_,rfl,x,_,_,rfl,t.ty,kit_int d,_,rfl,?_⟩
  cases hi:isInt d with
  | false => rw [hi] at k; exact iteF k
  | true => rw [hi] at k; exact iteT ⟨_,rfl,x,_,_,rfl,t.ty,kit_bool d,_,rfl,k⟩
abbrev s_is_whole_from:Stmt:=top 12
theorem sc_is_whole_from:FnScope ["thing", "least"] ["thing", "least"] (defScope s_is_whole_from):=⟨rfl,rfl,rfl,by decide +kernel,rfl,by decide +kernel,by decide +kernel⟩
theorem ok_from {f:Addr} {fd:FuncData} (F:Fun K "is_whole_from" "is_whole_from" s_is_whole_from f fd) (M:Txt mg) (Gis_whole:Kn P w K mg base "is_whole" 1 ["thing"] spWhole):FnOk P w K mg base CX0 2 f fd ["thing", "least"] spFromZ:=by
 have sc:=sc_is_whole_from
 refine F.ok sc (fun vs H Q E h => ?_) (fun cdv A outer s H vs Q E hr h => ?_)
 ·obtain ⟨i,l,rfl,_⟩:=h
  rfl
 ·obtain ⟨i,l,rfl,k⟩:=h
  refine ⟨_,(pss_one (ps_ret (pe_and (pe_callD Gis_whole hr rfl (pa_Name (pv 0) pa_nil)) (pe_one (pe_cmpR op_ge (pv 0) (pv 1) (nomark _)))))),?_⟩
  exact ⟨_,rfl,.int i,.int i,rfl,.int i,_,rfl,iteT ⟨_,rfl,_,rfl,_,_,rfl,rfl,k⟩⟩
abbrev s_many_ties:Stmt:=top 14
theorem sc_many_ties:FnScope ["sheet"] ["sheet"] (defScope s_many_ties):=⟨rfl,rfl,rfl,by decide +kernel,rfl,by decide +kernel,by decide +kernel⟩
theorem ok_ties {f:Addr} {fd:FuncData} (F:Fun K "many_ties" "many_ties" s_many_ties f fd) (M:Txt mg):FnOk P w K mg base CX0 1 f fd ["sheet"] (spTiesZ K):=by
 have sc:=sc_many_ties
 refine F.ok sc (fun vs H Q E h => ?_) (fun cdv A outer s H vs Q E hr h => ?_)
 ·obtain ⟨a,xs,rfl,_⟩:=h
  rfl
 ·obtain ⟨a,xs,rfl,ha,k⟩:=h
  refine ⟨_,(pss_one (ps_ret (pe_op op_mul (pe_op op_fdivL (pe_callB (call_lenK (K:=K)) (by rfl) M.len PySem.boot_len (pa_Name (pv 0) pa_nil)) pe_int) pe_int))),?_⟩
  refine ⟨_,rfl,a,_,rfl,.inl ha,_,_,rfl,rfl,⟨by decide,by decide⟩,((xs.length:Nat):Int) / 2,3,rfl,rfl,.inr ⟨by decide,by decide⟩,?_⟩
  have e:((xs.length:Nat):Int) / 2 * 3=((xs.length / 2 * 3:Nat):Int):=by omega
  show Q (V.int (((xs.length:Nat):Int) / 2 * 3)) H
  rw [e]
  exact k
abbrev s_crossings:Stmt:=top 16
theorem sc_crossings:FnScope ["triangle", "row"] ["triangle", "row"] (defScope s_crossings):=⟨rfl,rfl,rfl,by decide +kernel,rfl,by decide +kernel,by decide +kernel⟩
theorem ok_cross {f:Addr} {fd:FuncData} (F:Fun K "crossings" "crossings" s_crossings f fd) (M:Txt mg) (B:Gb mg):FnOk P w K mg base CX0 1 f fd ["triangle", "row"] spCrossZ:=by
 have sc:=sc_crossings
 refine F.ok sc (fun vs H Q E h => ?_) (fun cdv A outer s H vs Q E hr h => ?_)
 ·obtain ⟨q,c,t,r,rfl,_⟩:=h
  rfl
 ·obtain ⟨q,c,t,r,rfl,hq,hc,tl,ok,k⟩:=h
  refine ⟨_,(pss_one (ps_ret (pe_compG (xs:=["side"]) (Nb:=["triangle", "row"]) rfl (pi_tup (pv 0)) rfl (by show ∀ p ∈ (List.zip ["triangle", "row"] ["triangle", "row"]:List (Str × Str)),_; decide +kernel) (by decide +kernel) (fun cl C s₂ H₂ fp => (pg_name (i:=0) (by show List.Nodup (["side", "triangle", "row"]:List Str); decide +kernel) rfl (Or.inl (lookup_relabel_local rfl)) (Or.inr (lookup_relabel_local rfl)))) (fun cl C s₂ H₂ fp => pif_nil) (fun cl C s₂ H₂ fp => (pe_ix (ix_listK (K:=K)) (pv 2) (pe_op op_sub (pe_callB call_abs (by rfl) B.ab boot_abs (pa_Name (pv 0) pa_nil)) pe_int) (fun _ _ => rfl))) (by decide +kernel) rfl (by decide +kernel) (by show ∀ y ∈ (_:List (Str × NameKind)),y.2=NameKind.free→(defScope s_crossings).names.lookup y.1=some .cell; decide +kernel)))),?_⟩
  refine ⟨_,rfl,q,rfl,⟨_,SqT.of hq⟩,compT (K:=K) (a:=q) (xs:=t.map V.int) (fun i ys H' => ys=((t.take i).map (crs r)).map V.int∧H=H') ⟨rfl,rfl⟩ (by rw [List.length_map]; omega) (fun m ys H' h => by rw [h.1,List.length_map,List.length_map,List.length_take]; exact Nat.min_le_left _ _) (fun m ys H' _ h => by rw [← h.2]; exact SqT.of hq) ?_ ?_⟩
  ·rintro m z ys' H' pre hpl hz ⟨rfl,rfl⟩
   rw [List.getElem?_map] at hz
   cases ez:t[m]? with
   | none => rw [ez] at hz; cases hz
   | some sd =>
    rw [ez] at hz
    cases hz
    obtain ⟨s1,er⟩:=ok sd (List.mem_of_getElem? ez)
    have a1:atI (r.map V.int) (absI sd - 1)=some (V.int (crs r sd)):=by
     rw [show absI sd - 1=(((absI sd - 1).toNat:Nat):Int) by omega]
     exact atI_nat (by rw [List.getElem?_map,er]; rfl)
    rcases pre with _ | ⟨q0,_ | ⟨q1,pre⟩⟩
    ·cases hpl
    ·refine ⟨⟨[some _],rfl,rfl⟩,?_⟩
     unfold tYes
     dsimp only
     rw [if_pos (rfl:true=true)]
     refine ⟨_,rfl,_,rfl,sd,rfl,_,_,rfl,rfl,c,_,_,_,rfl,rfl,SqL.of hc,a1,?_,rfl⟩
     rw [take_succ' ez,List.map_append,List.map_append]
     rfl
    ·cases hpl
  ·rintro ys' H' ⟨rfl,rfl⟩ D hD
   rw [List.length_map,List.take_length]
   exact k D hD
abbrev s_may_cross:Stmt:=top 17
theorem sc_may_cross:FnScope ["numbers"] ["numbers"] (defScope s_may_cross):=⟨rfl,rfl,rfl,by decide +kernel,rfl,by decide +kernel,by decide +kernel⟩
set_option maxHeartbeats 4000000 in
theorem ok_may {f:Addr} {fd:FuncData} (F:Fun K "may_cross" "may_cross" s_may_cross f fd) (M:Txt mg):FnOk P w K mg base CX0 1 f fd ["numbers"] (spMayG K):=by
 have sc:=sc_may_cross
 refine F.ok sc (fun vs H Q E h => ?_) (fun cdv A outer s H vs Q E hr h => ?_)
 ·obtain ⟨p,a,b,c,rfl,_⟩:=h
  rfl
 ·obtain ⟨p,a,b,c,rfl,h1,k⟩:=h
  refine ⟨_,(pss_one (ps_ret (pe_and (pe_cmpR op_eq (pe_op op_mod (pe_callB (call_sum rfl) (by rfl) M.sum boot_sum (pa_Name (pv 0) pa_nil)) pe_int) pe_int (nomark _)) (pe_one (pe_cmpR op_le (pe_op op_mul pe_int (pe_callB (call_maxL rfl) (by rfl) M.max boot_max (pa_Name (pv 0) pa_nil))) (pe_callB (call_sum rfl) (by rfl) M.sum boot_sum (pa_Name (pv 0) pa_nil)) (nomark _)))))),?_⟩
  exact mayG_reads (K:=K) h1 k
abbrev s_is_row:Stmt:=top 18
theorem sc_is_row:FnScope ["sheet", "thing"] ["sheet", "thing"] (defScope s_is_row):=⟨rfl,rfl,rfl,by decide +kernel,rfl,by decide +kernel,by decide +kernel⟩
set_option maxHeartbeats 4000000 in
theorem ok_isrow {f:Addr} {fd:FuncData} (F:Fun K "is_row" "is_row" s_is_row f fd) (M:Txt mg) (Gmany_ties:Kn P w K mg base "many_ties" 1 ["sheet"] (spTiesZ K)) (Gis_whole_from:Kn P w K mg base "is_whole_from" 2 ["thing", "least"] spFromZ) (Gmay_cross:Kn P w K mg base "may_cross" 1 ["numbers"] (spMayG K)) (Gcrossings:Kn P w K mg base "crossings" 1 ["triangle", "row"] spCrossZ):FnOk P w K mg base CX0 3 f fd ["sheet", "thing"] spIsRowG:=by
 have sc:=sc_is_row
 refine F.ok sc (fun vs H Q E h => ?_) (fun cdv A outer s H vs Q E hr h => ?_)
 ·obtain ⟨i,o,xs,S,r,rfl,_⟩:=h
  rfl
 ·obtain ⟨i,o,xs,S,r,rfl,h1,h2,h3,h4,h5,k⟩:=h
  refine ⟨_,(pss_cons (ps_if (PW.pt (pw_or (pt_not (pt_val (pe_callB (call_isinstK (T := "list") (K:=K)) (by rfl) M.isinstance boot_isinstance (pa_Name (pv 1) (pa_Name (pe_bltn (v:=.ty "list") rfl M.list boot_list rfl) pa_nil))))) (pw_or1 (pt_cmpR op_ne (pe_callB (call_lenK (K:=K)) (by rfl) M.len PySem.boot_len (pa_Name (pv 1) pa_nil)) (pe_callD Gmany_ties hr rfl (pa_Name (pv 0) pa_nil)) (nomark _))))) (pss_one (ps_ret pe_bl)) pss_nil)
   (pss_cons (ps_if (pt_not (pt_val (pe_callB (call_all rfl) (by rfl) M.all boot_all (pa_cons (pe_compG (xs:=["many"]) (Nb:=["sheet", "thing"]) rfl (pi_list (pv 1)) rfl (by show ∀ p ∈ (List.zip ["sheet", "thing"] ["sheet", "thing"]:List (Str × Str)),_; decide +kernel) (by decide +kernel) (fun cl C s₂ H₂ fp => (pg_name (i:=0) (by show List.Nodup (["many", "sheet", "thing"]:List Str); decide +kernel) rfl (Or.inl (lookup_relabel_local rfl)) (Or.inr (lookup_relabel_local rfl)))) (fun cl C s₂ H₂ fp => pif_nil) (fun cl C s₂ H₂ fp => (pe_callD Gis_whole_from hr rfl (pa_Name (pv 0) (pa_Constant pe_int pa_nil)))) (by decide +kernel) rfl (by decide +kernel) (by show ∀ y ∈ (_:List (Str × NameKind)),y.2=NameKind.free→(defScope s_is_row).names.lookup y.1=some .cell; decide +kernel)) pa_nil)))) (pss_one (ps_ret pe_bl)) pss_nil)
   (pss_one (ps_ret (pe_callB (call_all rfl) (by rfl) M.all boot_all (pa_cons (pe_compG (xs:=["triangle"]) (Nb:=["sheet", "thing"]) rfl (pi_list (pv 0)) rfl (by show ∀ p ∈ (List.zip ["sheet", "thing"] ["sheet", "thing"]:List (Str × Str)),_; decide +kernel) (by decide +kernel) (fun cl C s₂ H₂ fp => (pg_name (i:=0) (by show List.Nodup (["triangle", "sheet", "thing"]:List Str); decide +kernel) rfl (Or.inl (lookup_relabel_local rfl)) (Or.inr (lookup_relabel_local rfl)))) (fun cl C s₂ H₂ fp => pif_nil) (fun cl C s₂ H₂ fp => (pe_callD Gmay_cross hr rfl (pa_Call (pe_callD Gcrossings hr rfl (pa_Name (pv 0) (pa_Name (pv 2) pa_nil))) pa_nil))) (by decide +kernel) rfl (by decide +kernel) (by show ∀ y ∈ (_:List (Str × NameKind)),y.2=NameKind.free→(defScope s_is_row).names.lookup y.1=some .cell; decide +kernel)) pa_nil)))))),?_⟩
  exact isrowG_reads (K:=K) h1 h2 h3 h4 h5 k
end
end Toy
namespace Toy
open PySem L2 PyProof.Rows
section
variable {P:Program} {w:World} {K:PySem.W.Frag} {mg:Str→Option Value} {base:Heap} {c_CordError c_NoCord c_NoDeed c_NoName c_NoRow c_NoSheet c_NoText c_NoTurn c_TooMany:Addr}
abbrev s_is_number:Stmt:=top 22
theorem sc_is_number:FnScope ["text", "figures"] ["text"] (defScope s_is_number):=⟨rfl,rfl,rfl,by decide +kernel,rfl,by decide +kernel,by decide +kernel⟩
set_option maxHeartbeats 4000000 in
theorem ok_isnum {f:Addr} {fd:FuncData} (F:Fun K "is_number" "is_number" s_is_number f fd) (M:Txt mg) (B:Gb mg):FnOk P w K mg base CX0 1 f fd ["text"] spIsNum:=by
 have sc:=sc_is_number
 refine F.ok sc (fun vs H Q E h => ?_) (fun cdv A outer s H vs Q E hr h => ?_)
 ·obtain ⟨w0,rfl,_⟩:=h
  rfl
 ·obtain ⟨w0,rfl,wl,k⟩:=h
  obtain ⟨tfi,hfi⟩:=B.fi
  obtain ⟨tmo,hmo⟩:=B.mo
  refine ⟨_,(pss_cons (ps_set (i:=1) sc.nd rfl (Or.inl rfl) (pe_ifExp (pt_val (pe_bm PySem.F.plainAttrs_str PySem.F.slot_str_startswith PySem.F.type_str_startswith mt_starts (pv 0) (pa_Constant pe_str pa_nil))) (pe_slice sl_str (pv 0) (po_some pe_int) po_none) (pv 0)))
   (pss_cons (ps_if (PW.pt (pw_or (pt_not (pt_chain op_le op_le pe_int (pe_callB call_len_str (by rfl) M.len PySem.boot_len (pa_Name (pv 1) pa_nil)) (pe_glob (v:=.int 60) rfl hmo ⟨_,rfl⟩))) (pw_or1 (pt_not (pt_val (pe_callB (call_all rfl) (by rfl) M.all boot_all (pa_cons (pe_compG (xs:=["sign"]) (Nb:=["text", "figures"]) rfl (pi_str (pv 1)) rfl (by show ∀ p ∈ (List.zip ["text", "figures"] ["text", "figures"]:List (Str × Str)),_; decide +kernel) (by decide +kernel) (fun cl C s₂ H₂ fp => (pg_name (i:=0) (by show List.Nodup (["sign", "text", "figures"]:List Str); decide +kernel) rfl (Or.inl (lookup_relabel_local rfl)) (Or.inr (lookup_relabel_local rfl)))) (fun cl C s₂ H₂ fp => pif_nil) (fun cl C s₂ H₂ fp => (pe_cmpR op_in_str (pv 0) (pe_glob (v:=.str "0123456789") rfl hfi ⟨_,rfl⟩) rfl)) (by decide +kernel) rfl (by decide +kernel) (by show ∀ y ∈ (_:List (Str × NameKind)),y.2=NameKind.free→(defScope s_is_number).names.lookup y.1=some .cell; decide +kernel)) pa_nil))))))) (pss_one (ps_ret pe_bl)) pss_nil)
   (pss_one (ps_ret (pe_or (pe_cmpR op_ne (pe_ix ix_str (pv 1) pe_int (fun _ _ => rfl)) pe_str (nomark _)) (pe_one (pe_cmpR op_eq (pv 0) pe_str (nomark _)))))))),?_⟩
  exact isnum_reads (K:=K) wl k
abbrev s_parts_of:Stmt:=top 23
theorem sc_parts_of:FnScope ["text", "between"] ["text", "between"] (defScope s_parts_of):=⟨rfl,rfl,rfl,by decide +kernel,rfl,by decide +kernel,by decide +kernel⟩
set_option maxHeartbeats 4000000 in
theorem ok_parts {f:Addr} {fd:FuncData} (F:Fun K "parts_of" "parts_of" s_parts_of f fd) (M:Txt mg) (Z:Exs K mg c_CordError c_NoCord c_NoDeed c_NoName c_NoRow c_NoSheet c_NoText c_NoTurn c_TooMany):FnOk P w K mg base (CXE P w) 1 f fd ["text", "between"] (spPartsX c_NoText):=by
 have sc:=sc_parts_of
 refine F.okX sc (fun vs H Q E h => ?_) (fun cdv A outer s H vs Q E hd0 hr h => ?_)
 ·obtain ⟨t,y,rfl,_⟩:=h
  rfl
 ·obtain ⟨t,y,rfl,hy,tl,k⟩:=h
  refine ⟨_,(pss_cons (ps_if (PT.nox (pt_not (pt_val (pe_callB (call_isinstK (T := "str") (K:=K)) (by rfl) M.isinstance boot_isinstance (pa_Name (pv 0) (pa_Name (pe_bltn (v:=.ty "str") rfl M.str boot_str rfl) pa_nil)))))) (pss_one (ps_raise Z.e_NoText hd0 Z.m_NoText pe_str rfl)) pss_nil)
   (pss_one (PS.nox (ps_ret (pe_bm PySem.F.plainAttrs_str PySem.F.slot_str_split PySem.F.type_str_split mt_split (pv 0) (pa_Name (pv 1) pa_nil)))))),?_⟩
  exact parts_reads (K:=K) hy tl k
abbrev s_numbers_of:Stmt:=top 24
theorem sc_numbers_of:FnScope ["text", "words"] ["text"] (defScope s_numbers_of):=⟨rfl,rfl,rfl,by decide +kernel,rfl,by decide +kernel,by decide +kernel⟩
set_option maxHeartbeats 4000000 in
theorem ok_numbers {f:Addr} {fd:FuncData} (F:Fun K "numbers_of" "numbers_of" s_numbers_of f fd) (M:Txt mg) (Gparts_of:KnX P w K mg base "parts_of" 1 ["text", "between"] (spPartsX c_NoText)) (Gis_number:Kn P w K mg base "is_number" 1 ["text"] spIsNum) (Z:Exs K mg c_CordError c_NoCord c_NoDeed c_NoName c_NoRow c_NoSheet c_NoText c_NoTurn c_TooMany):FnOk P w K mg base (CXE P w) 2 f fd ["text"] (spNumX c_NoText):=by
 have sc:=sc_numbers_of
 refine F.okX sc (fun vs H Q E h => ?_) (fun cdv A outer s H vs Q E hd0 hr h => ?_)
 ·obtain ⟨t,rfl,_⟩:=h
  rfl
 ·obtain ⟨t,rfl,tl,k1,k2⟩:=h
  refine ⟨_,(pss_cons (ps_set (i:=1) sc.nd rfl (Or.inl rfl) (pe_callX Gparts_of passE hr rfl (pa_Name (PE.nox (pv 0)) (pa_Constant (PE.nox pe_str) pa_nil))))
   (pss_cons (ps_if (PT.nox (pt_not (pt_val (pe_callB (call_all rfl) (by rfl) M.all boot_all (pa_cons (pe_compG (xs:=["word"]) (Nb:=["text", "words"]) rfl (pi_list (pv 1)) rfl (by show ∀ p ∈ (List.zip ["text", "words"] ["text", "words"]:List (Str × Str)),_; decide +kernel) (by decide +kernel) (fun cl C s₂ H₂ fp => (pg_name (i:=0) (by show List.Nodup (["word", "text", "words"]:List Str); decide +kernel) rfl (Or.inl (lookup_relabel_local rfl)) (Or.inr (lookup_relabel_local rfl)))) (fun cl C s₂ H₂ fp => pif_nil) (fun cl C s₂ H₂ fp => (pe_callD Gis_number hr rfl (pa_Name (pv 0) pa_nil))) (by decide +kernel) rfl (by decide +kernel) (by show ∀ y ∈ (_:List (Str × NameKind)),y.2=NameKind.free→(defScope s_numbers_of).names.lookup y.1=some .cell; decide +kernel)) pa_nil))))) (pss_one (ps_raise Z.e_NoText hd0 Z.m_NoText pe_str rfl)) pss_nil)
   (pss_one (PS.nox (ps_ret (pe_compG (xs:=["word"]) (Nb:=["text", "words"]) rfl (pi_list (pv 1)) rfl (by show ∀ p ∈ (List.zip ["text", "words"] ["text", "words"]:List (Str × Str)),_; decide +kernel) (by decide +kernel) (fun cl C s₂ H₂ fp => (pg_name (i:=0) (by show List.Nodup (["word", "text", "words"]:List Str); decide +kernel) rfl (Or.inl (lookup_relabel_local rfl)) (Or.inr (lookup_relabel_local rfl)))) (fun cl C s₂ H₂ fp => pif_nil) (fun cl C s₂ H₂ fp => (pe_callTy call_int_text (by rfl) M.int boot_int (pa_Name (pv 0) pa_nil))) (by decide +kernel) rfl (by decide +kernel) (by show ∀ y ∈ (_:List (Str × NameKind)),y.2=NameKind.free→(defScope s_numbers_of).names.lookup y.1=some .cell; decide +kernel))))))),?_⟩
  exact numbers_reads (K:=K) tl k1 k2
abbrev s_row_on:Stmt:=top 25
theorem sc_row_on:FnScope ["sheet", "numbers"] ["sheet", "numbers"] (defScope s_row_on):=⟨rfl,rfl,rfl,by decide +kernel,rfl,by decide +kernel,by decide +kernel⟩
set_option maxHeartbeats 4000000 in
theorem ok_rowon {f:Addr} {fd:FuncData} (F:Fun K "row_on" "row_on" s_row_on f fd) (M:Txt mg) (Gis_row:Kn P w K mg base "is_row" 3 ["sheet", "thing"] spIsRowG) (Z:Exs K mg c_CordError c_NoCord c_NoDeed c_NoName c_NoRow c_NoSheet c_NoText c_NoTurn c_TooMany):FnOk P w K mg base (CXE P w) 4 f fd ["sheet", "numbers"] (spRowOn c_NoRow):=by
 have sc:=sc_row_on
 refine F.okX sc (fun vs H Q E h => ?_) (fun cdv A outer s H vs Q E hd0 hr h => ?_)
 ·obtain ⟨i,o,xs,S,r,rfl,_⟩:=h
  rfl
 ·obtain ⟨i,o,xs,S,r,rfl,h1,h2,h3,h4,h5,k1,k2⟩:=h
  refine ⟨_,(pss_cons (ps_if (PT.nox (pt_not (pt_val (pe_callD Gis_row hr rfl (pa_Name (pv 0) (pa_Name (pv 1) pa_nil)))))) (pss_one (ps_raise Z.e_NoRow hd0 Z.m_NoRow pe_str rfl)) pss_nil)
   (pss_one (PS.nox (ps_ret (pv 1))))),?_⟩
  exact rowon_reads (K:=K) h1 h2 h3 h4 h5 k1 k2
abbrev s_read_row:Stmt:=top 26
theorem sc_read_row:FnScope ["sheet", "text"] ["sheet", "text"] (defScope s_read_row):=⟨rfl,rfl,rfl,by decide +kernel,rfl,by decide +kernel,by decide +kernel⟩
set_option maxHeartbeats 4000000 in
theorem ok_readrow {f:Addr} {fd:FuncData} (F:Fun K "read_row" "read_row" s_read_row f fd) (M:Txt mg) (Grow_on:KnX P w K mg base "row_on" 4 ["sheet", "numbers"] (spRowOn c_NoRow)) (Gnumbers_of:KnX P w K mg base "numbers_of" 2 ["text"] (spNumX c_NoText)):FnOk P w K mg base (CXE P w) 5 f fd ["sheet", "text"] (spReadRow c_NoText c_NoRow):=by
 have sc:=sc_read_row
 refine F.okX sc (fun vs H Q E h => ?_) (fun cdv A outer s H vs Q E hd0 hr h => ?_)
 ·obtain ⟨i,xs,S,t,rfl,_⟩:=h
  rfl
 ·obtain ⟨i,xs,S,t,rfl,h1,h2,h3,h4,k1,k2,k3⟩:=h
  refine ⟨_,(pss_one (ps_ret (pe_callX Grow_on passE hr rfl (pa_Name (PE.nox (pv 0)) (pa_Call (pe_callX Gnumbers_of passE hr rfl (pa_Name (PE.nox (pv 1)) pa_nil)) pa_nil))))),?_⟩
  exact readrow_reads (K:=K) h1 h2 h3 h4 k1 k2 k3
end
end Toy
namespace Toy
open PySem L2 PyProof.Rows
section
variable {P:Program} {w:World} {K:PySem.W.Frag} {mg:Str→Option Value} {base:Heap} {c_CordError c_NoCord c_NoDeed c_NoName c_NoRow c_NoSheet c_NoText c_NoTurn c_TooMany:Addr}
abbrev s__law_sheet:Stmt:=top 31
theorem sc__law_sheet:FnScope ["_law_draw", "_law_half", "_law_slots", "_law_sides", "_law_tie", "_law_turn", "_law_spot"] ["_law_draw"] (defScope s__law_sheet):=⟨rfl,rfl,rfl,by decide +kernel,rfl,by decide +kernel,by decide +kernel⟩
set_option maxHeartbeats 8000000 in
theorem ok_sheet {f:Addr} {fd:FuncData} (F:Fun K "_law_sheet" "_law_sheet" s__law_sheet f fd) (M:Txt mg) (G_law_take:Kn P w K mg base "_law_take" 1 ["_law_draw", "_law_many"] spTake):FnOk P w K mg base CX0 2 f fd ["_law_draw"] spShO:=by
 have sc:=sc__law_sheet
 refine F.ok sc (fun vs H Q E h => ?_) (fun cdv A outer s H vs Q E hr h => ?_)
 ·obtain ⟨d,rfl,_⟩:=h
  rfl
 ·obtain ⟨d,rfl,hP,k⟩:=h
  refine ⟨_,(pss_cons (ps_set (i:=1) sc.nd rfl (Or.inl rfl) (pe_op op_add pe_int (pe_ix (ix_listK (K:=K)) (pe_lst (pa_o2 (pe_callD G_law_take hr rfl (pa_Name (pv 0) (pa_Constant pe_int pa_nil))) (pe_callD G_law_take hr rfl (pa_Name (pv 0) (pa_Constant pe_int pa_nil))) pa_nil)) (pe_callTy call_int1 (by rfl) M.int boot_int (pa_cons (pe_cmpR op_eq (pe_callD G_law_take hr rfl (pa_Name (pv 0) (pa_Constant pe_int pa_nil))) pe_int (nomark _)) pa_nil)) (fun _ _ => rfl))))
   (pss_cons (ps_set (i:=2) sc.nd rfl (Or.inl rfl) (pe_callTy (call_list_rng2 rfl) (by rfl) M.list boot_list (pa_Call (pe_callTy call_range1 (by rfl) M.range boot_range (pa_BinOp (pe_op op_mul pe_int (pv 1)) pa_nil)) pa_nil)))
   (pss_cons (ps_set (i:=3) sc.nd rfl (Or.inr rfl) (pe_compG (xs:=["_law_slot"]) (Nb:=["_law_draw", "_law_half", "_law_slots", "_law_sides", "_law_tie", "_law_turn", "_law_spot"]) rfl (pi_list (pv 2)) rfl (by show ∀ p ∈ (List.zip ["_law_draw", "_law_half", "_law_slots", "_law_sides", "_law_tie", "_law_turn", "_law_spot"] ["_law_draw", "_law_half", "_law_slots", "_law_sides", "_law_tie", "_law_turn", "_law_spot"]:List (Str × Str)),_; decide +kernel) (by decide +kernel) (fun cl C s₂ H₂ fp => (pg_name (i:=0) (by show List.Nodup (["_law_slot", "_law_draw", "_law_half", "_law_slots", "_law_sides", "_law_tie", "_law_turn", "_law_spot"]:List Str); decide +kernel) rfl (Or.inl (lookup_relabel_local rfl)) (Or.inr (lookup_relabel_local rfl)))) (fun cl C s₂ H₂ fp => pif_nil) (fun cl C s₂ H₂ fp => pe_int) (by decide +kernel) rfl (by decide +kernel) (by show ∀ y ∈ (_:List (Str × NameKind)),y.2=NameKind.free→(defScope s__law_sheet).names.lookup y.1=some .cell; decide +kernel)))
   (pss_cons (ps_for PassesOwn.never rfl (pi_range2 rfl M.range (pa_Constant pe_int (pa_BinOp (pe_op op_add (pe_op op_mul pe_int (pv 1)) pe_int) pa_nil))) (pg_name (i:=4) sc.nd rfl (Or.inl rfl))
   (pss_one (ps_for PassesOwn.never rfl (pi_range1 rfl M.range (pa_Constant pe_int pa_nil)) (pg_name (i:=5) sc.nd rfl (Or.inl rfl))
   (pss_cons (ps_set (i:=6) sc.nd rfl (Or.inl rfl) (pe_bm PySem.F.plainAttrs_list PySem.F.slot_list_pop PySem.F.type_list_pop mt_popAt (pv 2) (pa_Call (pe_callD G_law_take hr rfl (pa_Name (pv 0) (pa_Call (pe_callB (call_lenK (K:=K)) (by rfl) M.len PySem.boot_len (pa_Name (pv 2) pa_nil)) pa_nil))) pa_nil)))
   (pss_one (ps_asg (pe_op op_mul (pv 4) (pe_op op_sub pe_int (pe_op op_mul pe_int (pe_callD G_law_take hr rfl (pa_Name (pv 0) (pa_Constant pe_int pa_nil)))))) (pg_sub (pv 3) (pv 6) set_list)))))))
   (pss_one (ps_ret (pe_compG (xs:=["_law_k"]) (Nb:=["_law_draw", "_law_half", "_law_slots", "_law_sides", "_law_tie", "_law_turn", "_law_spot"]) rfl (pi_range1 rfl M.range (pa_BinOp (pe_op op_mul pe_int (pv 1)) pa_nil)) rfl (by show ∀ p ∈ (List.zip ["_law_draw", "_law_half", "_law_slots", "_law_sides", "_law_tie", "_law_turn", "_law_spot"] ["_law_draw", "_law_half", "_law_slots", "_law_sides", "_law_tie", "_law_turn", "_law_spot"]:List (Str × Str)),_; decide +kernel) (by decide +kernel) (fun cl C s₂ H₂ fp => (pg_name (i:=0) (by show List.Nodup (["_law_k", "_law_draw", "_law_half", "_law_slots", "_law_sides", "_law_tie", "_law_turn", "_law_spot"]:List Str); decide +kernel) rfl (Or.inl (lookup_relabel_local rfl)) (Or.inr (lookup_relabel_local rfl)))) (fun cl C s₂ H₂ fp => pif_nil) (fun cl C s₂ H₂ fp => (pe_callTy (call_tuple_ofKK (K:=K)) (by rfl) M.tuple boot_tuple (pa_Subscript (pe_slice (sl_listK (K:=K)) (pv 4) (po_some (pe_op op_mul pe_int (pv 0))) (po_some (pe_op op_add (pe_op op_mul pe_int (pv 0)) pe_int))) pa_nil))) (by decide +kernel) rfl (by decide +kernel) (by show ∀ y ∈ (_:List (Str × NameKind)),y.2=NameKind.free→(defScope s__law_sheet).names.lookup y.1=some .cell; decide +kernel)))))))),?_⟩
  exact shO_reads (K:=K) hP k
abbrev s__law_end:Stmt:=top 32
theorem sc__law_end:FnScope ["_law_side", "_law_last"] ["_law_side", "_law_last"] (defScope s__law_end):=⟨rfl,rfl,rfl,by decide +kernel,rfl,by decide +kernel,by decide +kernel⟩
set_option maxHeartbeats 4000000 in
theorem ok_end {f:Addr} {fd:FuncData} (F:Fun K "_law_end" "_law_end" s__law_end f fd) (M:Txt mg) (B:Gb mg):FnOk P w K mg base CX0 1 f fd ["_law_side", "_law_last"] spEndE:=by
 have sc:=sc__law_end
 refine F.ok sc (fun vs H Q E h => ?_) (fun cdv A outer s H vs Q E hr h => ?_)
 ·obtain ⟨s0,b0,rfl,_⟩:=h
  rfl
 ·obtain ⟨s0,b0,rfl,k⟩:=h
  obtain ⟨tfi,hfi⟩:=B.fi
  obtain ⟨tmo,hmo⟩:=B.mo
  refine ⟨_,(pss_one (ps_ret (pe_tup (pa_o2 (pe_callB call_abs (by rfl) B.ab boot_abs (pa_Name (pv 0) pa_nil)) (pe_callTy call_int1 (by rfl) M.int boot_int (pa_cons (pe_cmpR op_eq (pe_cmpR op_gt (pv 0) pe_int (nomark _)) (pv 1) (nomark _)) pa_nil)) pa_nil)))),?_⟩
  exact endE_reads (K:=K) k
abbrev s__law_points:Stmt:=top 33
theorem sc__law_points:FnScope ["_law_sheet_here", "_law_heaps", "_law_triangle", "_law_i", "_law_pair", "_law_mine", "_law_heap"] ["_law_sheet_here"] (defScope s__law_points):=⟨rfl,rfl,rfl,by decide +kernel,rfl,by decide +kernel,by decide +kernel⟩
set_option maxHeartbeats 8000000 in
theorem ok_points {f:Addr} {fd:FuncData} (F:Fun K "_law_points" "_law_points" s__law_points f fd) (M:Txt mg) (G_law_end:Kn P w K mg base "_law_end" 1 ["_law_side", "_law_last"] spEndE) (B:Gb mg):FnOk P w K mg base CX0 2 f fd ["_law_sheet_here"] spPtsE:=by
 have sc:=sc__law_points
 refine F.ok sc (fun vs H Q E h => ?_) (fun cdv A outer s H vs Q E hr h => ?_)
 ·obtain ⟨i,xs,S,rfl,_⟩:=h
  rfl
 ·obtain ⟨i,xs,S,rfl,h1,h2,h3,k⟩:=h
  obtain ⟨tfi,hfi⟩:=B.fi
  obtain ⟨tmo,hmo⟩:=B.mo
  refine ⟨_,(pss_cons (ps_set (i:=1) sc.nd rfl (Or.inl rfl) (pe_lst pa_nil))
   (pss_cons (ps_for PassesOwn.never rfl (pi_list (pv 0)) (pg_name (i:=2) sc.nd rfl (Or.inl rfl))
   (pss_one (ps_for PassesOwn.never rfl (pi_range1 rfl M.range (pa_Constant pe_int pa_nil)) (pg_name (i:=3) sc.nd rfl (Or.inl rfl))
   (pss_cons (ps_set (i:=4) sc.nd rfl (Or.inr rfl) (pe_lst (pa_o2 (pe_callD G_law_end hr rfl (pa_Subscript (pe_ix (ix_tupK (K:=K)) (pv 2) (pv 3) (fun _ _ => rfl)) (pa_Constant pe_bl pa_nil))) (pe_callD G_law_end hr rfl (pa_Subscript (pe_ix ix_tup (pv 2) (pe_op op_mod (pe_op op_add (pv 3) pe_int) pe_int) (fun _ _ => rfl)) (pa_Constant pe_bl pa_nil))) pa_nil)))
   (pss_cons (ps_set (i:=5) sc.nd rfl (Or.inr rfl) (pe_compG (xs:=["_law_heap"]) (Nb:=["_law_sheet_here", "_law_heaps", "_law_triangle", "_law_i", "_law_pair", "_law_mine", ""]) rfl (pi_list (pv 1)) rfl (by show ∀ p ∈ (List.zip ["_law_sheet_here", "_law_heaps", "_law_triangle", "_law_i", "_law_pair", "_law_mine", ""] ["_law_sheet_here", "_law_heaps", "_law_triangle", "_law_i", "_law_pair", "_law_mine", "_law_heap"]:List (Str × Str)),_; decide +kernel) (by decide +kernel) (fun cl C s₂ H₂ fp => (pg_name (i:=0) (by show List.Nodup (["_law_heap", "_law_sheet_here", "_law_heaps", "_law_triangle", "_law_i", "_law_pair", "_law_mine", ""]:List Str); decide +kernel) rfl (Or.inl (lookup_relabel_local rfl)) (Or.inr (lookup_relabel_local rfl)))) (fun cl C s₂ H₂ fp => (pif_one (PW.pt (pw_or (pt_cmpR (op_inCK (K:=K) true hr) (pe_ix (ix_listK (K:=K)) (pv 5) pe_int (fun _ _ => rfl)) (pv 0) rfl) (pw_or1 (pt_cmpR (op_inCK (K:=K) true hr) (pe_ix (ix_listK (K:=K)) (pv 5) pe_int (fun _ _ => rfl)) (pv 0) rfl)))))) (fun cl C s₂ H₂ fp => (pv 0)) (by decide +kernel) rfl (by decide +kernel) (by show ∀ y ∈ (_:List (Str × NameKind)),y.2=NameKind.free→(defScope s__law_points).names.lookup y.1=some .cell; decide +kernel)))
   (pss_cons (ps_compG (xs:=["_law_heap"]) (Nb:=["_law_sheet_here", "_law_heaps", "_law_triangle", "_law_i", "_law_pair", "_law_mine", ""]) (pg_name (i:=1) sc.nd rfl (Or.inl rfl)) rfl rfl (pi_list (pv 1)) rfl (by show ∀ p ∈ (List.zip ["_law_sheet_here", "_law_heaps", "_law_triangle", "_law_i", "_law_pair", "_law_mine", ""] ["_law_sheet_here", "_law_heaps", "_law_triangle", "_law_i", "_law_pair", "_law_mine", "_law_heap"]:List (Str × Str)),_; decide +kernel) (by decide +kernel) (fun cl C s₂ H₂ fp => (pg_name (i:=0) (by show List.Nodup (["_law_heap", "_law_sheet_here", "_law_heaps", "_law_triangle", "_law_i", "_law_pair", "_law_mine", ""]:List Str); decide +kernel) rfl (Or.inl (lookup_relabel_local rfl)) (Or.inr (lookup_relabel_local rfl)))) (fun cl C s₂ H₂ fp => (pif_one (pt_cmpR (op_notInD (K:=K) hr) (pv 0) (pv 6) rfl))) (fun cl C s₂ H₂ fp => (pv 0)) (by decide +kernel) rfl (by decide +kernel) (by show ∀ y ∈ (_:List (Str × NameKind)),y.2=NameKind.free→(defScope s__law_points).names.lookup y.1=some .cell; decide +kernel))
   (pss_cons (ps_for PassesOwn.never rfl (pi_list (pv 5)) (pg_name (i:=6) sc.nd rfl (Or.inl rfl))
   (pss_one (ps_set (i:=4) sc.nd rfl (Or.inr rfl) (pe_op op_cat (pv 4) (pv 6)))))
   (pss_one (ps_expr (pe_bm PySem.F.plainAttrs_list PySem.F.slot_list_append PySem.F.type_list_append mt_append (pv 1) (pa_Call (pe_sortedSetT hr rfl (pv 4) rfl M.sorted rfl B.st) pa_nil)))))))))))
   (pss_one (ps_ret (pe_callB (call_sortedLL true hr) (by rfl) M.sorted boot_sorted (pa_Name (pv 1) pa_nil)))))),?_⟩
  exact ptsE_reads (K:=K) h1 h2 h3 k
abbrev s__law_loop:Stmt:=top 34
theorem sc__law_loop:FnScope ["_law_sheet_here", "_law_heap"] ["_law_sheet_here", "_law_heap"] (defScope s__law_loop):=⟨rfl,rfl,rfl,by decide +kernel,rfl,by decide +kernel,by decide +kernel⟩
set_option maxHeartbeats 8000000 in
theorem ok_loop {f:Addr} {fd:FuncData} (F:Fun K "_law_loop" "_law_loop" s__law_loop f fd) (M:Txt mg):FnOk P w K mg base CX0 1 f fd ["_law_sheet_here", "_law_heap"] spLoopE:=by
 have sc:=sc__law_loop
 refine F.ok sc (fun vs H Q E h => ?_) (fun cdv A outer s H vs Q E hr h => ?_)
 ·obtain ⟨i,j,xs,gs,S,gg,rfl,_⟩:=h
  rfl
 ·obtain ⟨i,j,xs,gs,S,gg,rfl,h1,h2,h3,h4,h5,k⟩:=h
  refine ⟨_,(pss_one (ps_ret (pe_compD (x := "_law_tie") (xs:=["_law_tie"]) (Nb:=["_law_sheet_here", "_law_heap"]) rfl (pi_range2 rfl M.range (pa_Constant pe_int (pa_BinOp (pe_op op_add (pe_op op_fdivL (pe_op op_mul pe_int (pe_callB (call_lenK (K:=K)) (by rfl) M.len PySem.boot_len (pa_Name (pv 0) pa_nil))) pe_int) pe_int) pa_nil))) rfl (by show ∀ p ∈ (List.zip ["_law_sheet_here", "_law_heap"] ["_law_sheet_here", "_law_heap"]:List (Str × Str)),_; decide +kernel) (by decide +kernel) (fun cl C s₂ H₂ fp => (pg_name (i:=0) (by show List.Nodup (["_law_tie", "_law_sheet_here", "_law_heap"]:List Str); decide +kernel) rfl (Or.inr (lookup_relabel_own rfl)) (Or.inl cxD_fn))) (fun cl C s₂ H₂ fp => pif_nil) (fun cl C s₂ H₂ fp => (pe_callB (call_sumK (K:=K) rfl) (by rfl) M.sum boot_sum (pa_cons (pe_compG (xs:=["_law_end_here"]) (Nb:=["_law_tie", "_law_sheet_here", "_law_heap"]) rfl (pi_range1 rfl M.range (pa_Constant pe_int pa_nil)) rfl (by show ∀ p ∈ (List.zip ["_law_tie", "_law_sheet_here", "_law_heap"] ["_law_tie", "_law_sheet_here", "_law_heap"]:List (Str × Str)),_; decide +kernel) (by decide +kernel) (fun cl C s₂ H₂ fp => (pg_name (i:=0) (by show List.Nodup (["_law_end_here", "_law_tie", "_law_sheet_here", "_law_heap"]:List Str); decide +kernel) rfl (Or.inl (lookup_relabel_local rfl)) (Or.inr (lookup_relabel_local rfl)))) (fun cl C s₂ H₂ fp => pif_nil) (fun cl C s₂ H₂ fp => (pe_callTy call_int1 (by rfl) M.int boot_int (pa_cons (pe_cmpR (op_inCK (K:=K) true hr) (pe_tup (pa_o2 (pv 1) (pv 0) pa_nil)) (pv 3) rfl) pa_nil))) (by decide +kernel) rfl (by decide +kernel) (free_inD (L:=(defScope s__law_loop).names) rfl rfl (by decide +kernel))) pa_nil))) (fun _ _ => rfl) (fun _ => rfl) (by decide +kernel) rfl rfl (by decide +kernel) (by show ∀ y ∈ (_:List (Str × NameKind)),y.2=NameKind.free→(defScope s__law_loop).names.lookup y.1=some .cell; decide +kernel)))),?_⟩
  exact loopE_reads (K:=K) h1 h2 h3 h4 h5 k
abbrev s__law_row:Stmt:=top 35
theorem sc__law_row:FnScope ["_law_draw", "_law_sheet_here", "_law_far", "_law_found", "_law_heap", "_law_often"] ["_law_draw", "_law_sheet_here"] (defScope s__law_row):=⟨rfl,rfl,rfl,by decide +kernel,rfl,by decide +kernel,by decide +kernel⟩
set_option maxHeartbeats 8000000 in
theorem ok_row {f:Addr} {fd:FuncData} (F:Fun K "_law_row" "_law_row" s__law_row f fd) (M:Txt mg) (G_law_take:Kn P w K mg base "_law_take" 1 ["_law_draw", "_law_many"] spTake) (G_law_points:Kn P w K mg base "_law_points" 2 ["_law_sheet_here"] spPtsE) (G_law_loop:Kn P w K mg base "_law_loop" 1 ["_law_sheet_here", "_law_heap"] spLoopE) (B:Gb mg):FnOk P w K mg base CX0 3 f fd ["_law_draw", "_law_sheet_here"] spRowE:=by
 have sc:=sc__law_row
 refine F.ok sc (fun vs H Q E h => ?_) (fun cdv A outer s H vs Q E hr h => ?_)
 ·obtain ⟨d,i,xs,S,rfl,_⟩:=h
  rfl
 ·obtain ⟨d,i,xs,S,rfl,h1,h2,h3,h4,k⟩:=h
  obtain ⟨tfi,hfi⟩:=B.fi
  obtain ⟨tmo,hmo⟩:=B.mo
  refine ⟨_,(pss_cons (ps_set (i:=2) sc.nd rfl (Or.inr rfl) (pe_callD G_law_take hr rfl (pa_Name (pv 0) (pa_Subscript (pe_ix (ix_listK (K:=K)) (pe_lst (pa_o4 pe_int pe_int pe_int (pe_op op_pow pe_int pe_int) (pa_o2 (pe_op op_pow pe_int pe_int) (pe_op op_pow pe_int pe_int) pa_nil))) (pe_callD G_law_take hr rfl (pa_Name (pv 0) (pa_Constant pe_int pa_nil))) (fun _ _ => rfl)) pa_nil))))
   (pss_cons (ps_compG (xs:=["_law_tie"]) (Nb:=["_law_draw", "_law_sheet_here", "_law_far", "_law_found", "_law_heap", "_law_often"]) (pg_name (i:=3) sc.nd rfl (Or.inl rfl)) rfl rfl (pi_range1 rfl M.range (pa_BinOp (pe_op op_fdivL (pe_op op_mul pe_int (pe_callB (call_lenK (K:=K)) (by rfl) M.len PySem.boot_len (pa_Name (pv 1) pa_nil))) pe_int) pa_nil)) rfl (by show ∀ p ∈ (List.zip ["_law_draw", "_law_sheet_here", "_law_far", "_law_found", "_law_heap", "_law_often"] ["_law_draw", "_law_sheet_here", "_law_far", "_law_found", "_law_heap", "_law_often"]:List (Str × Str)),_; decide +kernel) (by decide +kernel) (fun cl C s₂ H₂ fp => (pg_name (i:=0) (by show List.Nodup (["_law_tie", "_law_draw", "_law_sheet_here", "_law_far", "_law_found", "_law_heap", "_law_often"]:List Str); decide +kernel) rfl (Or.inl (lookup_relabel_local rfl)) (Or.inr (lookup_relabel_local rfl)))) (fun cl C s₂ H₂ fp => pif_nil) (fun cl C s₂ H₂ fp => (pe_op op_mul pe_int (pe_op op_add (pv 3) (pe_callD G_law_take hr rfl (pa_Name (pv 1) (pa_BinOp (pe_op op_add (pv 3) pe_int) pa_nil)))))) (by decide +kernel) rfl (by decide +kernel) (by show ∀ y ∈ (_:List (Str × NameKind)),y.2=NameKind.free→(defScope s__law_row).names.lookup y.1=some .cell; decide +kernel))
   (pss_cons (ps_for PassesOwn.never rfl (pi_list (pe_callD G_law_points hr rfl (pa_Name (pv 1) pa_nil))) (pg_name (i:=4) sc.nd rfl (Or.inl rfl))
   (pss_cons (ps_set (i:=5) sc.nd rfl (Or.inr rfl) (pe_ix (ix_listK (K:=K)) (pe_lst (pa_o3 pe_int (pe_callD G_law_take hr rfl (pa_Name (pv 0) (pa_Constant pe_int pa_nil))) (pe_callD G_law_take hr rfl (pa_Name (pv 0) (pa_BinOp (pe_op op_add (pv 2) pe_int) pa_nil))) pa_nil)) (pe_callD G_law_take hr rfl (pa_Name (pv 0) (pa_Constant pe_int pa_nil))) (fun _ _ => rfl)) sw_sub)
   (pss_one (ps_compG (xs:=["_law_one", "_law_more"]) (Nb:=["_law_draw", "_law_sheet_here", "_law_far", "_law_found", "_law_heap", "_law_often"]) (pg_name (i:=3) sc.nd rfl (Or.inl rfl)) rfl rfl (pi_zip rfl B.zp (pa_Name (pv 3) (pa_Call (pe_callD G_law_loop hr rfl (pa_Name (pv 1) (pa_Name (pv 4) pa_nil))) pa_nil))) rfl (by show ∀ p ∈ (List.zip ["_law_draw", "_law_sheet_here", "_law_far", "_law_found", "_law_heap", "_law_often"] ["_law_draw", "_law_sheet_here", "_law_far", "_law_found", "_law_heap", "_law_often"]:List (Str × Str)),_; decide +kernel) (by decide +kernel) (fun cl C s₂ H₂ fp => (pg_tupK (K:=K) (n:=2) rfl (pgs_cons (pg_name (i:=0) (by show List.Nodup (["_law_one", "_law_more", "_law_draw", "_law_sheet_here", "_law_far", "_law_found", "_law_heap", "_law_often"]:List Str); decide +kernel) rfl (Or.inl (lookup_relabel_local rfl)) (Or.inr (lookup_relabel_local rfl))) (pgs_cons (pg_name (i:=1) (by show List.Nodup (["_law_one", "_law_more", "_law_draw", "_law_sheet_here", "_law_far", "_law_found", "_law_heap", "_law_often"]:List Str); decide +kernel) rfl (Or.inl (lookup_relabel_local rfl)) (Or.inr (lookup_relabel_local rfl))) pgs_nil)))) (fun cl C s₂ H₂ fp => pif_nil) (fun cl C s₂ H₂ fp => (pe_op op_add (pv 0) (pe_op op_mul (pv 7) (pv 1)))) (by decide +kernel) rfl (by decide +kernel) (by show ∀ y ∈ (_:List (Str × NameKind)),y.2=NameKind.free→(defScope s__law_row).names.lookup y.1=some .cell; decide +kernel)))))
   (pss_one (ps_ret (pv 3)))))),?_⟩
  exact rowE_reads (K:=K) h1 h2 h3 h4 k
abbrev s__law_written:Stmt:=top 36
theorem sc__law_written:FnScope ["_law_figures_here"] ["_law_figures_here"] (defScope s__law_written):=⟨rfl,rfl,rfl,by decide +kernel,rfl,by decide +kernel,by decide +kernel⟩
set_option maxHeartbeats 4000000 in
theorem ok_written {f:Addr} {fd:FuncData} (F:Fun K "_law_written" "_law_written" s__law_written f fd) (M:Txt mg):FnOk P w K mg base CX0 1 f fd ["_law_figures_here"] spWritE:=by
 have sc:=sc__law_written
 refine F.ok sc (fun vs H Q E h => ?_) (fun cdv A outer s H vs Q E hr h => ?_)
 ·obtain ⟨a,u,rfl,_⟩:=h
  rfl
 ·obtain ⟨a,u,rfl,h1,h2,h3,k⟩:=h
  refine ⟨_,(pss_one (ps_ret (pe_bm PySem.F.plainAttrs_str PySem.F.slot_str_join PySem.F.type_str_join mt_join pe_str (pa_cons (pe_compG (xs:=["_law_one"]) (Nb:=["_law_figures_here"]) rfl (pi_list (pv 0)) rfl (by show ∀ p ∈ (List.zip ["_law_figures_here"] ["_law_figures_here"]:List (Str × Str)),_; decide +kernel) (by decide +kernel) (fun cl C s₂ H₂ fp => (pg_name (i:=0) (by show List.Nodup (["_law_one", "_law_figures_here"]:List Str); decide +kernel) rfl (Or.inl (lookup_relabel_local rfl)) (Or.inr (lookup_relabel_local rfl)))) (fun cl C s₂ H₂ fp => pif_nil) (fun cl C s₂ H₂ fp => (pe_callTy call_str_int (by rfl) M.str boot_str (pa_Name (pv 0) pa_nil))) (by decide +kernel) rfl (by decide +kernel) (by show ∀ y ∈ (_:List (Str × NameKind)),y.2=NameKind.free→(defScope s__law_written).names.lookup y.1=some .cell; decide +kernel)) pa_nil)))),?_⟩
  exact writE_reads (K:=K) h1 h2 h3 k
abbrev s__law_is_row:Stmt:=top 37
theorem sc__law_is_row:FnScope ["_law_sheet_here", "_law_row_here", "_law_triangle", "_law_three"] ["_law_sheet_here", "_law_row_here"] (defScope s__law_is_row):=⟨rfl,rfl,rfl,by decide +kernel,rfl,by decide +kernel,by decide +kernel⟩
set_option maxHeartbeats 8000000 in
theorem ok_lisrow {f:Addr} {fd:FuncData} (F:Fun K "_law_is_row" "_law_is_row" s__law_is_row f fd) (M:Txt mg) (B:Gb mg):FnOk P w K mg base CX0 1 f fd ["_law_sheet_here", "_law_row_here"] spIsRowG:=by
 have sc:=sc__law_is_row
 refine F.ok sc (fun vs H Q E h => ?_) (fun cdv A outer s H vs Q E hr h => ?_)
 ·obtain ⟨i,o,xs,S,r,rfl,_⟩:=h
  rfl
 ·obtain ⟨i,o,xs,S,r,rfl,h1,h2,h3,h4,h5,k⟩:=h
  obtain ⟨tfi,hfi⟩:=B.fi
  obtain ⟨tmo,hmo⟩:=B.mo
  refine ⟨_,(pss_cons (ps_if (PW.pt (pw_or (pt_cmpR op_ne (pe_callB (call_lenK (K:=K)) (by rfl) M.len PySem.boot_len (pa_Name (pv 1) pa_nil)) (pe_op op_fdivL (pe_op op_mul pe_int (pe_callB (call_lenK (K:=K)) (by rfl) M.len PySem.boot_len (pa_Name (pv 0) pa_nil))) pe_int) (nomark _)) (pw_or1 (pt_cmpR op_lt (pe_callB (call_minN rfl) (by rfl) M.min boot_min (pa_Name (pv 1) pa_nil)) pe_int (nomark _))))) (pss_one (ps_ret pe_bl)) pss_nil)
   (pss_cons (ps_for PassesOwn.never rfl (pi_list (pv 0)) (pg_name (i:=2) sc.nd rfl (Or.inl rfl))
   (pss_cons (ps_compG (xs:=["_law_side"]) (Nb:=["_law_sheet_here", "_law_row_here", "_law_triangle", "_law_three"]) (pg_name (i:=3) sc.nd rfl (Or.inl rfl)) rfl rfl (pi_tup (pv 2)) rfl (by show ∀ p ∈ (List.zip ["_law_sheet_here", "_law_row_here", "_law_triangle", "_law_three"] ["_law_sheet_here", "_law_row_here", "_law_triangle", "_law_three"]:List (Str × Str)),_; decide +kernel) (by decide +kernel) (fun cl C s₂ H₂ fp => (pg_name (i:=0) (by show List.Nodup (["_law_side", "_law_sheet_here", "_law_row_here", "_law_triangle", "_law_three"]:List Str); decide +kernel) rfl (Or.inl (lookup_relabel_local rfl)) (Or.inr (lookup_relabel_local rfl)))) (fun cl C s₂ H₂ fp => pif_nil) (fun cl C s₂ H₂ fp => (pe_ix (ix_listK (K:=K)) (pv 2) (pe_op op_sub (pe_callB call_abs (by rfl) B.ab boot_abs (pa_Name (pv 0) pa_nil)) pe_int) (fun _ _ => rfl))) (by decide +kernel) rfl (by decide +kernel) (by show ∀ y ∈ (_:List (Str × NameKind)),y.2=NameKind.free→(defScope s__law_is_row).names.lookup y.1=some .cell; decide +kernel))
   (pss_one (ps_if (PW.pt (pw_or (pt_cmpR op_eq (pe_op op_mod (pe_callB (call_sum rfl) (by rfl) M.sum boot_sum (pa_Name (pv 3) pa_nil)) pe_int) pe_int (nomark _)) (pw_or1 (pt_cmpR op_gt (pe_op op_mul pe_int (pe_callB (call_maxL rfl) (by rfl) M.max boot_max (pa_Name (pv 3) pa_nil))) (pe_callB (call_sum rfl) (by rfl) M.sum boot_sum (pa_Name (pv 3) pa_nil)) (nomark _))))) (pss_one (ps_ret pe_bl)) pss_nil))))
   (pss_one (ps_ret pe_bl)))),?_⟩
  exact lisrow_reads (K:=K) h1 h2 h3 h4 h5 k
end
end Toy
namespace Toy
open PySem L2 PyProof.Rows
section
variable {P:Program} {w:World} {K:PySem.W.Frag} {mg:Str→Option Value} {base:Heap} {c_CordError c_NoCord c_NoDeed c_NoName c_NoRow c_NoSheet c_NoText c_NoTurn c_TooMany:Addr}
abbrev s__law_figure:Stmt:=top 38
theorem sc__law_figure:FnScope ["_law_word", "_law_bare"] ["_law_word"] (defScope s__law_figure):=⟨rfl,rfl,rfl,by decide +kernel,rfl,by decide +kernel,by decide +kernel⟩
set_option maxHeartbeats 4000000 in
theorem ok_figure {f:Addr} {fd:FuncData} (F:Fun K "_law_figure" "_law_figure" s__law_figure f fd) (M:Txt mg):FnOk P w K mg base CX0 1 f fd ["_law_word"] spFig:=by
 have sc:=sc__law_figure
 refine F.ok sc (fun vs H Q E h => ?_) (fun cdv A outer s H vs Q E hr h => ?_)
 ·obtain ⟨w0,rfl,_⟩:=h
  rfl
 ·obtain ⟨w0,rfl,wl,k⟩:=h
  refine ⟨_,(pss_cons (ps_set (i:=1) sc.nd rfl (Or.inl rfl) (pe_slice sl_str (pv 0) (po_some (pe_callTy call_int1 (by rfl) M.int boot_int (pa_cons (pe_cmpR op_eq (pe_slice sl_str (pv 0) po_none (po_some pe_int)) pe_str (nomark _)) pa_nil))) po_none) sw_sub)
   (pss_cons (ps_if (PW.pt (pw_or (pt_not (pt_chain op_le op_le pe_int (pe_callB call_len_str (by rfl) M.len PySem.boot_len (pa_Name (pv 1) pa_nil)) pe_int)) (pw_or1 (pt_not (pt_val (pe_callB (call_all rfl) (by rfl) M.all boot_all (pa_cons (pe_compG (xs:=["_law_sign"]) (Nb:=["_law_word", "_law_bare"]) rfl (pi_str (pv 1)) rfl (by show ∀ p ∈ (List.zip ["_law_word", "_law_bare"] ["_law_word", "_law_bare"]:List (Str × Str)),_; decide +kernel) (by decide +kernel) (fun cl C s₂ H₂ fp => (pg_name (i:=0) (by show List.Nodup (["_law_sign", "_law_word", "_law_bare"]:List Str); decide +kernel) rfl (Or.inl (lookup_relabel_local rfl)) (Or.inr (lookup_relabel_local rfl)))) (fun cl C s₂ H₂ fp => pif_nil) (fun cl C s₂ H₂ fp => (pe_cmpR op_in_str (pv 0) pe_str rfl)) (by decide +kernel) rfl (by decide +kernel) (by show ∀ y ∈ (_:List (Str × NameKind)),y.2=NameKind.free→(defScope s__law_figure).names.lookup y.1=some .cell; decide +kernel)) pa_nil))))))) (pss_one (ps_ret pe_non)) pss_nil)
   (pss_cons (ps_if (PW.pt (pw_and (pt_cmpR op_eq (pe_ix ix_str (pv 1) pe_int (fun _ _ => rfl)) pe_str (nomark _)) (pw_and1 (pt_cmpR op_ne (pv 0) pe_str (nomark _))))) (pss_one (ps_ret pe_non)) pss_nil)
   (pss_one (ps_ret (pe_callTy call_int_text (by rfl) M.int boot_int (pa_Name (pv 0) pa_nil))))))),?_⟩
  exact fig_reads (K:=K) wl k
abbrev s__law_figures:Stmt:=top 39
theorem sc__law_figures:FnScope ["_law_text", "_law_found"] ["_law_text"] (defScope s__law_figures):=⟨rfl,rfl,rfl,by decide +kernel,rfl,by decide +kernel,by decide +kernel⟩
set_option maxHeartbeats 4000000 in
theorem ok_figures {f:Addr} {fd:FuncData} (F:Fun K "_law_figures" "_law_figures" s__law_figures f fd) (M:Txt mg) (G_law_figure:Kn P w K mg base "_law_figure" 1 ["_law_word"] spFig):FnOk P w K mg base CX0 2 f fd ["_law_text"] spFigsX:=by
 have sc:=sc__law_figures
 refine F.ok sc (fun vs H Q E h => ?_) (fun cdv A outer s H vs Q E hr h => ?_)
 ·obtain ⟨t,rfl,_⟩:=h
  rfl
 ·obtain ⟨t,rfl,tl,k1,k2⟩:=h
  refine ⟨_,(pss_cons (ps_compG (xs:=["_law_word"]) (Nb:=["_law_text", "_law_found"]) (pg_name (i:=1) sc.nd rfl (Or.inl rfl)) rfl rfl (pi_list (pe_bm PySem.F.plainAttrs_str PySem.F.slot_str_split PySem.F.type_str_split mt_split (pv 0) (pa_Constant pe_str pa_nil))) rfl (by show ∀ p ∈ (List.zip ["_law_text", "_law_found"] ["_law_text", "_law_found"]:List (Str × Str)),_; decide +kernel) (by decide +kernel) (fun cl C s₂ H₂ fp => (pg_name (i:=0) (by show List.Nodup (["_law_word", "_law_text", "_law_found"]:List Str); decide +kernel) rfl (Or.inl (lookup_relabel_local rfl)) (Or.inr (lookup_relabel_local rfl)))) (fun cl C s₂ H₂ fp => pif_nil) (fun cl C s₂ H₂ fp => (pe_callD G_law_figure hr rfl (pa_Name (pv 0) pa_nil))) (by decide +kernel) rfl (by decide +kernel) (by show ∀ y ∈ (_:List (Str × NameKind)),y.2=NameKind.free→(defScope s__law_figures).names.lookup y.1=some .cell; decide +kernel))
   (pss_cons (ps_if (pt_cmpR (op_inK (K:=K)) pe_non (pv 1) rfl) (pss_one (ps_ret pe_non)) pss_nil)
   (pss_one (ps_ret (pv 1))))),?_⟩
  exact figs_reads (K:=K) tl k1 k2
abbrev s__law_signs:Stmt:=top 40
theorem sc__law_signs:FnScope ["_law_some"] [] (defScope s__law_signs):=⟨rfl,rfl,rfl,by decide +kernel,rfl,by decide +kernel,by decide +kernel⟩
set_option maxHeartbeats 4000000 in
theorem ok_signs {f:Addr} {fd:FuncData} (F:Fun K "_law_signs" "_law_signs" s__law_signs f fd) (M:Txt mg):FnOk P w K mg base CX0 1 f fd [] spSgn:=by
 have sc:=sc__law_signs
 refine F.ok sc (fun vs H Q E h => ?_) (fun cdv A outer s H vs Q E hr h => ?_)
 ·obtain ⟨rfl,_⟩:=h
  rfl
 ·obtain ⟨rfl,k⟩:=h
  refine ⟨_,(pss_cons (ps_set (i:=0) sc.nd rfl (Or.inl rfl) pe_str)
   (pss_one (ps_ret (pe_op op_add_str (pv 0) pe_str)))),?_⟩
  exact sgn_reads (K:=K) k
abbrev s__law_spoilt:Stmt:=top 41
theorem sc__law_spoilt:FnScope ["_law_draw", "_law_text", "_law_spot", "_law_sign", "_law_way", "_law_words", "_law_odd"] ["_law_draw", "_law_text"] (defScope s__law_spoilt):=⟨rfl,rfl,rfl,by decide +kernel,rfl,by decide +kernel,by decide +kernel⟩
set_option maxHeartbeats 16000000 in
theorem ok_spoilt {f:Addr} {fd:FuncData} (F:Fun K "_law_spoilt" "_law_spoilt" s__law_spoilt f fd) (M:Txt mg) (G_law_take:Kn P w K mg base "_law_take" 1 ["_law_draw", "_law_many"] spTake) (G_law_signs:Kn P w K mg base "_law_signs" 1 [] spSgn):FnOk P w K mg base CX0 2 f fd ["_law_draw", "_law_text"] spSplt:=by
 have sc:=sc__law_spoilt
 refine F.ok sc (fun vs H Q E h => ?_) (fun cdv A outer s H vs Q E hr h => ?_)
 ·obtain ⟨d,t,rfl,_⟩:=h
  rfl
 ·obtain ⟨d,t,rfl,hP,tl,k⟩:=h
  refine ⟨_,(pss_cons (ps_set (i:=2) sc.nd rfl (Or.inl rfl) (pe_callD G_law_take hr rfl (pa_Name (pv 0) (pa_BinOp (pe_op op_add (pe_callB call_len_str (by rfl) M.len PySem.boot_len (pa_Name (pv 1) pa_nil)) pe_int) pa_nil))))
   (pss_cons (ps_set (i:=3) sc.nd rfl (Or.inl rfl) (pe_ix (ix_listK (K:=K)) (pe_lst (pa_o2 (pe_ix ix_str pe_str (pe_callD G_law_take hr rfl (pa_Name (pv 0) (pa_Constant pe_int pa_nil))) (fun _ _ => rfl)) (pe_ix ix_str (pe_callD0 G_law_signs hr rfl) (pe_callD G_law_take hr rfl (pa_Name (pv 0) (pa_Constant pe_int pa_nil))) (fun _ _ => rfl)) pa_nil)) (pe_callD G_law_take hr rfl (pa_Name (pv 0) (pa_Constant pe_int pa_nil))) (fun _ _ => rfl)) sw_sub)
   (pss_cons (ps_set (i:=4) sc.nd rfl (Or.inl rfl) (pe_callD G_law_take hr rfl (pa_Name (pv 0) (pa_Constant pe_int pa_nil))))
   (pss_cons (ps_if (pt_cmpR op_lt (pv 4) pe_int (nomark _)) (pss_one (ps_ret (pe_op op_add_str (pe_op op_add_str (pe_slice sl_str (pv 1) po_none (po_some (pv 2))) (pe_op op_mul_str (pv 3) (pe_callTy call_int1 (by rfl) M.int boot_int (pa_cons (pe_cmpR op_lt (pv 4) pe_int (nomark _)) pa_nil)))) (pe_slice sl_str (pv 1) (po_some (pe_op op_add (pv 2) pe_int)) po_none)))) pss_nil)
   (pss_cons (ps_if (pt_cmpR op_eq (pv 4) pe_int (nomark _)) (pss_one (ps_ret (pe_op op_add_str (pe_op op_add_str (pe_slice sl_str (pv 1) po_none (po_some (pv 2))) (pv 3)) (pe_slice sl_str (pv 1) (po_some (pv 2)) po_none)))) pss_nil)
   (pss_cons (ps_set (i:=5) sc.nd rfl (Or.inl rfl) (pe_bm PySem.F.plainAttrs_str PySem.F.slot_str_split PySem.F.type_str_split mt_split (pv 1) (pa_Constant pe_str pa_nil)))
   (pss_cons (ps_set (i:=2) sc.nd rfl (Or.inl rfl) (pe_callD G_law_take hr rfl (pa_Name (pv 0) (pa_Call (pe_callB (call_lenK (K:=K)) (by rfl) M.len PySem.boot_len (pa_Name (pv 5) pa_nil)) pa_nil))))
   (pss_cons (ps_if (pt_cmpR op_eq (pv 4) pe_int (nomark _)) (pss_one (ps_asg (pe_callTy call_str_int (by rfl) M.str boot_str (pa_BinOp (pe_op op_sub (pe_callD G_law_take hr rfl (pa_Name (pv 0) (pa_Constant pe_int pa_nil))) pe_int) pa_nil)) (pg_sub (pv 5) (pv 2) set_list))) pss_nil)
   (pss_cons (ps_if (pt_cmpR op_eq (pv 4) pe_int (nomark _)) (pss_cons (ps_set (i:=6) sc.nd rfl (Or.inl rfl) (pe_lst (pa_o4 pe_str pe_str (pe_op op_add_str pe_str (pe_ix (ix_listK (K:=K)) (pv 5) (pv 2) (fun _ _ => rfl))) (pe_op op_add_str pe_str (pe_ix (ix_listK (K:=K)) (pv 5) (pv 2) (fun _ _ => rfl))) (pa_o4 (pe_op op_mul_str pe_str pe_int) (pe_op op_mul_str pe_str pe_int) pe_str pe_str pa_nil))))
   (pss_one (ps_asg (pe_ix (ix_listK (K:=K)) (pv 6) (pe_callD G_law_take hr rfl (pa_Name (pv 0) (pa_Constant pe_int pa_nil))) (fun _ _ => rfl)) (pg_sub (pv 5) (pv 2) set_list)))) pss_nil)
   (pss_cons (ps_if (pt_cmpR op_eq (pv 4) pe_int (nomark _)) (pss_one (ps_set (i:=5) sc.nd rfl (Or.inl rfl) (pe_op op_cat (pe_slice sl_list (pv 5) po_none (po_some (pv 2))) (pe_slice sl_list (pv 5) (po_some (pe_op op_add (pv 2) pe_int)) po_none)))) pss_nil)
   (pss_cons (ps_if (pt_cmpR op_eq (pv 4) pe_int (nomark _)) (pss_one (ps_set (i:=5) sc.nd rfl (Or.inl rfl) (pe_op op_cat (pe_op op_cat (pe_slice sl_list (pv 5) po_none (po_some (pv 2))) (pe_slice sl_list (pv 5) (po_some (pv 2)) (po_some (pe_op op_add (pv 2) pe_int)))) (pe_slice sl_list (pv 5) (po_some (pv 2)) po_none)))) pss_nil)
   (pss_cons (ps_if (pt_cmpR op_eq (pv 4) pe_int (nomark _)) (pss_one (ps_ret (pe_ix (ix_listK (K:=K)) (pe_lst (pa_o4 pe_str pe_str pe_str pe_str (pa_o4 pe_str pe_str pe_str pe_str pa_nil))) (pe_callD G_law_take hr rfl (pa_Name (pv 0) (pa_Constant pe_int pa_nil))) (fun _ _ => rfl)))) pss_nil)
   (pss_one (ps_ret (pe_bm PySem.F.plainAttrs_str PySem.F.slot_str_join PySem.F.type_str_join mt_join pe_str (pa_Name (pv 5) pa_nil)))))))))))))))),?_⟩
  exact splt_reads (K:=K) hP tl k
end
end Toy
namespace Toy
open PySem L2 PyProof.Rows
section
theorem mem6 {α:Type} {p:α→Prop} {a b c d e f:α} (h1:p a) (h2:p b) (h3:p c) (h4:p d) (h5:p e) (h6:p f):∀ x ∈ [a,b,c,d,e,f],p x:=fun x hx => by
 simp only [List.mem_cons,List.not_mem_nil,or_false] at hx
 rcases hx with rfl | rfl | rfl | rfl | rfl | rfl <;> assumption
variable {P:Program} {w:World} {K:PySem.W.Frag} {mg:Str→Option Value} {base:Heap} {c_CordError c_NoCord c_NoDeed c_NoName c_NoRow c_NoSheet c_NoText c_NoTurn c_TooMany:Addr}
abbrev s__law_due:Stmt:=top 42
theorem sc__law_due:FnScope ["_law_sheet_here", "_law_text", "_law_row_here"] ["_law_sheet_here", "_law_text"] (defScope s__law_due):=⟨rfl,rfl,rfl,by decide +kernel,rfl,by decide +kernel,by decide +kernel⟩
set_option maxHeartbeats 4000000 in
theorem ok_due {f:Addr} {fd:FuncData} (F:Fun K "_law_due" "_law_due" s__law_due f fd) (M:Txt mg) (G_law_figures:Kn P w K mg base "_law_figures" 2 ["_law_text"] spFigsX) (G_law_is_row:Kn P w K mg base "_law_is_row" 1 ["_law_sheet_here", "_law_row_here"] spIsRowG):FnOk P w K mg base CX0 3 f fd ["_law_sheet_here", "_law_text"] spAnsR:=by
 have sc:=sc__law_due
 refine F.ok sc (fun vs H Q E h => ?_) (fun cdv A outer s H vs Q E hr h => ?_)
 ·obtain ⟨i,xs,S,t,rfl,_⟩:=h
  rfl
 ·obtain ⟨i,xs,S,t,rfl,h1,h2,h3,h4,k⟩:=h
  refine ⟨_,(pss_cons (ps_set (i:=2) sc.nd rfl (Or.inl rfl) (pe_callD G_law_figures hr rfl (pa_Name (pv 1) pa_nil)))
   (pss_cons (ps_if (pt_cmp (pc_isN (pv 2))) (pss_one (ps_ret pe_str)) pss_nil)
   (pss_cons (ps_if (pt_val (pe_callD G_law_is_row hr rfl (pa_Name (pv 0) (pa_Name (pv 2) pa_nil)))) (pss_one (ps_ret (pv 2))) pss_nil)
   (pss_one (ps_ret pe_str))))),?_⟩
  exact duer_reads (K:=K) h1 h2 h3 h4 k
abbrev s__law_read:Stmt:=top 43
theorem sc__law_read:FnScope ["_law_sheet_here", "_law_text", "e", "_law_others"] ["_law_sheet_here", "_law_text"] (defScope s__law_read):=⟨rfl,rfl,rfl,by decide +kernel,rfl,by decide +kernel,by decide +kernel⟩
set_option maxHeartbeats 8000000 in
theorem ok_read {f:Addr} {fd:FuncData} (F:Fun K "_law_read" "_law_read" s__law_read f fd) (M:Txt mg) (Gread_row:KnX P w K mg base "read_row" 5 ["sheet", "text"] (spReadRow c_NoText c_NoRow)) (Z:Exs K mg c_CordError c_NoCord c_NoDeed c_NoName c_NoRow c_NoSheet c_NoText c_NoTurn c_TooMany) (B:Gb mg):FnOk P w K mg base CX0 6 f fd ["_law_sheet_here", "_law_text"] spAnsR:=by
 have sc:=sc__law_read
 refine F.ok sc (fun vs H Q E h => ?_) (fun cdv A outer s H vs Q E hr h => ?_)
 ·obtain ⟨i,xs,S,t,rfl,_⟩:=h
  rfl
 ·obtain ⟨i,xs,S,t,rfl,h1,h2,h3,h4,k⟩:=h
  obtain ⟨tfi,hfi⟩:=B.fi
  obtain ⟨tmo,hmo⟩:=B.mo
  refine ⟨_,(pss_one (ps_try (i:=2) sc.nd rfl rfl rfl rfl Z.m_CordError rfl Z.x_CordError (fun pins xe Ex px => (pss_one (ps_ret (pe_callX Gread_row px hr rfl (pa_Name (PE.nox (pv 0)) (pa_Name (PE.nox (pv 1)) pa_nil)))))) (fun C ea oe ho => (pss_cons (ps_set (i:=3) sc.nd rfl (Or.inl rfl) (pe_callB (call_isiX (K:=K) ho) (by rfl) M.isinstance boot_isinstance (pa_Name (pv 2) (pa_Tuple (pe_tup (pa_o4 (pe_glob (v:=.ref _) rfl Z.m_NoCord rfl) (pe_glob (v:=.ref _) rfl Z.m_NoDeed rfl) (pe_glob (v:=.ref _) rfl Z.m_NoName rfl) (pe_glob (v:=.ref _) rfl Z.m_NoSheet rfl) (pa_o2 (pe_glob (v:=.ref _) rfl Z.m_NoTurn rfl) (pe_glob (v:=.ref _) rfl Z.m_TooMany rfl) pa_nil))) pa_nil))))
   (pss_cons (ps_if (PW.pt (pw_or (pt_val (pv 3)) (pw_or (pt_not (pt_val (pe_callB (call_isiX (K:=K) ho) (by rfl) M.isinstance boot_isinstance (pa_Name (pv 2) (pa_Name (pe_bltn (v:=.ty "ValueError") rfl B.ve PyProof.Rows.Boot.«ValueError» rfl) pa_nil))))) (pw_or1 (pt_cmpR op_eq (pe_callB (call_isiX (K:=K) ho) (by rfl) M.isinstance boot_isinstance (pa_Name (pv 2) (pa_Name (pe_glob (v:=.ref _) rfl Z.m_NoText rfl) pa_nil))) (pe_callB (call_isiX (K:=K) ho) (by rfl) M.isinstance boot_isinstance (pa_Name (pv 2) (pa_Name (pe_glob (v:=.ref _) rfl Z.m_NoRow rfl) pa_nil))) (nomark _)))))) (pss_one (ps_ret pe_non)) pss_nil)
   (pss_one (ps_ret (pe_ix (ix_listK (K:=K)) (pe_lst (pa_o2 pe_str pe_str pa_nil)) (pe_callTy call_int1 (by rfl) M.int boot_int (pa_Call (pe_callB (call_isiX (K:=K) ho) (by rfl) M.isinstance boot_isinstance (pa_Name (pv 2) (pa_Name (pe_glob (v:=.ref _) rfl Z.m_NoText rfl) pa_nil))) pa_nil)) (fun _ _ => rfl))))))))),?_⟩
  exact lreadr_reads (K:=K) Z.x_NoCord Z.x_NoDeed Z.x_NoName Z.x_NoRow Z.x_NoSheet Z.x_NoText Z.x_NoTurn Z.x_TooMany Z.s_NoText_CordError Z.s_NoRow_CordError Z.v_NoText Z.v_NoRow (mem6 Z.s_NoText_NoCord Z.s_NoText_NoDeed Z.s_NoText_NoName Z.s_NoText_NoSheet Z.s_NoText_NoTurn Z.s_NoText_TooMany) (mem6 Z.s_NoRow_NoCord Z.s_NoRow_NoDeed Z.s_NoRow_NoName Z.s_NoRow_NoSheet Z.s_NoRow_NoTurn Z.s_NoRow_TooMany) Z.s_NoText_NoRow Z.s_NoRow_NoText h1 h2 h3 h4 k
end
end Toy
namespace Toy
open PySem L2 PyProof.Rows
section
variable {P:Program} {w:World} {K:PySem.W.Frag} {mg:Str→Option Value} {base:Heap}
def spLaw (K:PySem.W.Frag):Sp:=fun vs H Q _ => ∃ (a:Addr) (ns:List Int),vs=[.ref a]∧SqL K H a (ns.map V.int)∧ns.length ≤ 63∧∀ H',Q (.bl true) H'
abbrev s_law:Stmt:=top 44
theorem sc_law:FnScope ["_law_script", "_law_k", "_law_draw", "_law_sheet_here", "_law_text", "_law_handed", "_law_turn", "_law_bent"] ["_law_script"] (defScope s_law):=⟨rfl,rfl,rfl,by decide +kernel,rfl,by decide +kernel,by decide +kernel⟩
set_option maxHeartbeats 8000000 in
theorem ok_law {f:Addr} {fd:FuncData} (F:Fun K "law" "law" s_law f fd) (M:Txt mg) (G_law_purse:Kn P w K mg base "_law_purse" 2 ["_law_script", "_law_at"] (spPurse K)) (G_law_sheet:Kn P w K mg base "_law_sheet" 2 ["_law_draw"] spShO) (G_law_row:Kn P w K mg base "_law_row" 3 ["_law_draw", "_law_sheet_here"] spRowE) (G_law_written:Kn P w K mg base "_law_written" 1 ["_law_figures_here"] spWritE) (G_law_read:Kn P w K mg base "_law_read" 6 ["_law_sheet_here", "_law_text"] spAnsR) (G_law_due:Kn P w K mg base "_law_due" 3 ["_law_sheet_here", "_law_text"] spAnsR) (G_law_spoilt:Kn P w K mg base "_law_spoilt" 2 ["_law_draw", "_law_text"] spSplt):FnOk P w K mg base CX0 7 f fd ["_law_script"] (spLaw K):=by
 have sc:=sc_law
 refine F.ok sc (fun vs H Q E h => ?_) (fun cdv A outer s H vs Q E hr h => ?_)
 ·obtain ⟨a,ns,rfl,_⟩:=h
  rfl
 ·obtain ⟨a,ns,rfl,hS,hl,k⟩:=h
  refine ⟨_,(pss_cons (ps_for PassesOwn.never rfl (pi_range1 rfl M.range (pa_BinOp (pe_op op_add pe_int (pe_callB (call_min2 rfl) (by rfl) M.min boot_min (pa_Constant pe_int (pa_Call (pe_callB (call_lenK (K:=K)) (by rfl) M.len PySem.boot_len (pa_Name (pv 0) pa_nil)) pa_nil)))) pa_nil)) (pg_name (i:=1) sc.nd rfl (Or.inl rfl))
   (pss_cons (ps_set (i:=2) sc.nd rfl (Or.inl rfl) (pe_callD G_law_purse hr rfl (pa_Name (pv 0) (pa_Name (pv 1) pa_nil))))
   (pss_cons (ps_set (i:=3) sc.nd rfl (Or.inl rfl) (pe_callD G_law_sheet hr rfl (pa_Name (pv 2) pa_nil)))
   (pss_cons (ps_set (i:=4) sc.nd rfl (Or.inl rfl) (pe_callD G_law_written hr rfl (pa_Call (pe_callD G_law_row hr rfl (pa_Name (pv 2) (pa_Name (pv 3) pa_nil))) pa_nil)))
   (pss_cons (ps_set (i:=5) sc.nd rfl (Or.inl rfl) (pe_callTy call_list_of (by rfl) M.list boot_list (pa_Name (pv 3) pa_nil)))
   (pss_cons (ps_if (pt_cmpR (op_neD hr) (pe_callD G_law_read hr rfl (pa_Name (pv 5) (pa_Name (pv 4) pa_nil))) (pe_callD G_law_due hr rfl (pa_Name (pv 3) (pa_Name (pv 4) pa_nil))) (nomark _)) (pss_one (ps_ret pe_bl)) pss_nil)
   (pss_one (ps_for PassesOwn.never rfl (pi_range1 rfl M.range (pa_Constant pe_int pa_nil)) (pg_name (i:=6) sc.nd rfl (Or.inl rfl))
   (pss_cons (ps_set (i:=7) sc.nd rfl (Or.inl rfl) (pe_callD G_law_spoilt hr rfl (pa_Name (pv 2) (pa_Name (pv 4) pa_nil))))
   (pss_one (ps_if (PW.pt (pw_or (pt_cmpR (op_neD hr) (pe_callD G_law_read hr rfl (pa_Name (pv 5) (pa_Name (pv 7) pa_nil))) (pe_callD G_law_due hr rfl (pa_Name (pv 3) (pa_Name (pv 7) pa_nil))) (nomark _)) (pw_or1 (pt_cmpR (op_neD hr) (pv 5) (pv 3) (nomark _))))) (pss_one (ps_ret pe_bl)) pss_nil)))))))))))
   (pss_one (ps_ret pe_bl))),?_⟩
  exact law83_reads (K:=K) hS k
end
theorem all_mk {l:PySem.W.OpenLaw} {w:World} {K:PySem.W.Frag} {h:Heap} {mg:Str→Option Value} {fa f0 f1 f2 f3 f4 f5 f6 f7 f8 f9 f10 f11 f12 f13 f14 f15 f16 f17 f18 f19 f20 f21 f22 f23 f24 f25 f26 f27:Addr} {c_CordError c_NoCord c_NoDeed c_NoName c_NoRow c_NoSheet c_NoText c_NoTurn c_TooMany:Addr} {tg_FIGURES tg_MOST_FIGURES:Tok} (X:K.In h) (G:h.Ns mainGlobals mg) (hfa:mg "law" = some (.ref fa))
  {od0 an0 od1 an1 od2 an2 od3 an3 od4 an4 od5 an5 od6 an6 od7 an7 od8 an8 od9 an9 od10 an10 od11 an11 od12 an12 od13 an13 od14 an14 od15 an15 od16 an16 od17 an17 od18 an18 od19 an19 od20 an20 od21 an21 od22 an22 od23 an23 od24 an24 od25 an25 od26 an26 od27 an27:Option Addr} {sl0 sl1 sl2 sl3 sl4 sl5 sl6 sl7 sl8 sl9 sl10 sl11 sl12 sl13 sl14 sl15 sl16 sl17 sl18 sl19 sl20 sl21 sl22 sl23 sl24 sl25 sl26 sl27:Array (Option Value)} {oc0 kV0 dc0 pm0 cd0 ct0 oc1 kV1 dc1 pm1 cd1 ct1 oc2 kV2 dc2 pm2 cd2 ct2 oc3 kV3 dc3 pm3 cd3 ct3 oc4 kV4 dc4 pm4 cd4 ct4 oc5 kV5 dc5 pm5 cd5 ct5 oc6 kV6 dc6 pm6 cd6 ct6 oc7 kV7 dc7 pm7 cd7 ct7 oc8 kV8 dc8 pm8 cd8 ct8 oc9 kV9 dc9 pm9 cd9 ct9 oc10 kV10 dc10 pm10 cd10 ct10 oc11 kV11 dc11 pm11 cd11 ct11 oc12 kV12 dc12 pm12 cd12 ct12 oc13 kV13 dc13 pm13 cd13 ct13 oc14 kV14 dc14 pm14 cd14 ct14 oc15 kV15 dc15 pm15 cd15 ct15 oc16 kV16 dc16 pm16 cd16 ct16 oc17 kV17 dc17 pm17 cd17 ct17 oc18 kV18 dc18 pm18 cd18 ct18 oc19 kV19 dc19 pm19 cd19 ct19 oc20 kV20 dc20 pm20 cd20 ct20 oc21 kV21 dc21 pm21 cd21 ct21 oc22 kV22 dc22 pm22 cd22 ct22 oc23 kV23 dc23 pm23 cd23 ct23 oc24 kV24 dc24 pm24 cd24 ct24 oc25 kV25 dc25 pm25 cd25 ct25 oc26 kV26 dc26 pm26 cd26 ct26 oc27 kV27 dc27 pm27 cd27 ct27:Value}
  (a0:PySem.W.nsIn K mainGlobals "is_whole" = some (some (.ref f0))) (l0:K.lookup f0=some ⟨oc0,od0,.func (PySem.W.fnOf "is_whole" "is_whole" (defArgs s_is_whole) (defBody s_is_whole) (defScope s_is_whole) .none kV0 dc0 pm0 an0 cd0 ct0),sl0⟩) (c0:PySem.W.codeIn K cd0 "is_whole" = true) (k0:PySem.W.keepIn K (.ref f0)=true)
  (a1:PySem.W.nsIn K mainGlobals "is_whole_from" = some (some (.ref f1))) (l1:K.lookup f1=some ⟨oc1,od1,.func (PySem.W.fnOf "is_whole_from" "is_whole_from" (defArgs s_is_whole_from) (defBody s_is_whole_from) (defScope s_is_whole_from) .none kV1 dc1 pm1 an1 cd1 ct1),sl1⟩) (c1:PySem.W.codeIn K cd1 "is_whole_from" = true) (k1:PySem.W.keepIn K (.ref f1)=true)
  (a2:PySem.W.nsIn K mainGlobals "many_ties" = some (some (.ref f2))) (l2:K.lookup f2=some ⟨oc2,od2,.func (PySem.W.fnOf "many_ties" "many_ties" (defArgs s_many_ties) (defBody s_many_ties) (defScope s_many_ties) .none kV2 dc2 pm2 an2 cd2 ct2),sl2⟩) (c2:PySem.W.codeIn K cd2 "many_ties" = true) (k2:PySem.W.keepIn K (.ref f2)=true)
  (a3:PySem.W.nsIn K mainGlobals "crossings" = some (some (.ref f3))) (l3:K.lookup f3=some ⟨oc3,od3,.func (PySem.W.fnOf "crossings" "crossings" (defArgs s_crossings) (defBody s_crossings) (defScope s_crossings) .none kV3 dc3 pm3 an3 cd3 ct3),sl3⟩) (c3:PySem.W.codeIn K cd3 "crossings" = true) (k3:PySem.W.keepIn K (.ref f3)=true)
  (a4:PySem.W.nsIn K mainGlobals "may_cross" = some (some (.ref f4))) (l4:K.lookup f4=some ⟨oc4,od4,.func (PySem.W.fnOf "may_cross" "may_cross" (defArgs s_may_cross) (defBody s_may_cross) (defScope s_may_cross) .none kV4 dc4 pm4 an4 cd4 ct4),sl4⟩) (c4:PySem.W.codeIn K cd4 "may_cross" = true) (k4:PySem.W.keepIn K (.ref f4)=true)
  (a5:PySem.W.nsIn K mainGlobals "is_row" = some (some (.ref f5))) (l5:K.lookup f5=some ⟨oc5,od5,.func (PySem.W.fnOf "is_row" "is_row" (defArgs s_is_row) (defBody s_is_row) (defScope s_is_row) .none kV5 dc5 pm5 an5 cd5 ct5),sl5⟩) (c5:PySem.W.codeIn K cd5 "is_row" = true) (k5:PySem.W.keepIn K (.ref f5)=true)
  (a6:PySem.W.nsIn K mainGlobals "is_number" = some (some (.ref f6))) (l6:K.lookup f6=some ⟨oc6,od6,.func (PySem.W.fnOf "is_number" "is_number" (defArgs s_is_number) (defBody s_is_number) (defScope s_is_number) .none kV6 dc6 pm6 an6 cd6 ct6),sl6⟩) (c6:PySem.W.codeIn K cd6 "is_number" = true) (k6:PySem.W.keepIn K (.ref f6)=true)
  (a7:PySem.W.nsIn K mainGlobals "parts_of" = some (some (.ref f7))) (l7:K.lookup f7=some ⟨oc7,od7,.func (PySem.W.fnOf "parts_of" "parts_of" (defArgs s_parts_of) (defBody s_parts_of) (defScope s_parts_of) .none kV7 dc7 pm7 an7 cd7 ct7),sl7⟩) (c7:PySem.W.codeIn K cd7 "parts_of" = true) (k7:PySem.W.keepIn K (.ref f7)=true)
  (a8:PySem.W.nsIn K mainGlobals "numbers_of" = some (some (.ref f8))) (l8:K.lookup f8=some ⟨oc8,od8,.func (PySem.W.fnOf "numbers_of" "numbers_of" (defArgs s_numbers_of) (defBody s_numbers_of) (defScope s_numbers_of) .none kV8 dc8 pm8 an8 cd8 ct8),sl8⟩) (c8:PySem.W.codeIn K cd8 "numbers_of" = true) (k8:PySem.W.keepIn K (.ref f8)=true)
  (a9:PySem.W.nsIn K mainGlobals "row_on" = some (some (.ref f9))) (l9:K.lookup f9=some ⟨oc9,od9,.func (PySem.W.fnOf "row_on" "row_on" (defArgs s_row_on) (defBody s_row_on) (defScope s_row_on) .none kV9 dc9 pm9 an9 cd9 ct9),sl9⟩) (c9:PySem.W.codeIn K cd9 "row_on" = true) (k9:PySem.W.keepIn K (.ref f9)=true)
  (a10:PySem.W.nsIn K mainGlobals "read_row" = some (some (.ref f10))) (l10:K.lookup f10=some ⟨oc10,od10,.func (PySem.W.fnOf "read_row" "read_row" (defArgs s_read_row) (defBody s_read_row) (defScope s_read_row) .none kV10 dc10 pm10 an10 cd10 ct10),sl10⟩) (c10:PySem.W.codeIn K cd10 "read_row" = true) (k10:PySem.W.keepIn K (.ref f10)=true)
  (a11:PySem.W.nsIn K mainGlobals "_law_cell_at" = some (some (.ref f11))) (l11:K.lookup f11=some ⟨oc11,od11,.func (PySem.W.fnOf "_law_cell_at" "_law_cell_at" (defArgs s__law_cell_at) (defBody s__law_cell_at) (defScope s__law_cell_at) .none kV11 dc11 pm11 an11 cd11 ct11),sl11⟩) (c11:PySem.W.codeIn K cd11 "_law_cell_at" = true) (k11:PySem.W.keepIn K (.ref f11)=true)
  (a12:PySem.W.nsIn K mainGlobals "_law_purse" = some (some (.ref f12))) (l12:K.lookup f12=some ⟨oc12,od12,.func (PySem.W.fnOf "_law_purse" "_law_purse" (defArgs s__law_purse) (defBody s__law_purse) (defScope s__law_purse) .none kV12 dc12 pm12 an12 cd12 ct12),sl12⟩) (c12:PySem.W.codeIn K cd12 "_law_purse" = true) (k12:PySem.W.keepIn K (.ref f12)=true)
  (a13:PySem.W.nsIn K mainGlobals "_law_take" = some (some (.ref f13))) (l13:K.lookup f13=some ⟨oc13,od13,.func (PySem.W.fnOf "_law_take" "_law_take" (defArgs s__law_take) (defBody s__law_take) (defScope s__law_take) .none kV13 dc13 pm13 an13 cd13 ct13),sl13⟩) (c13:PySem.W.codeIn K cd13 "_law_take" = true) (k13:PySem.W.keepIn K (.ref f13)=true)
  (a14:PySem.W.nsIn K mainGlobals "_law_sheet" = some (some (.ref f14))) (l14:K.lookup f14=some ⟨oc14,od14,.func (PySem.W.fnOf "_law_sheet" "_law_sheet" (defArgs s__law_sheet) (defBody s__law_sheet) (defScope s__law_sheet) .none kV14 dc14 pm14 an14 cd14 ct14),sl14⟩) (c14:PySem.W.codeIn K cd14 "_law_sheet" = true) (k14:PySem.W.keepIn K (.ref f14)=true)
  (a15:PySem.W.nsIn K mainGlobals "_law_end" = some (some (.ref f15))) (l15:K.lookup f15=some ⟨oc15,od15,.func (PySem.W.fnOf "_law_end" "_law_end" (defArgs s__law_end) (defBody s__law_end) (defScope s__law_end) .none kV15 dc15 pm15 an15 cd15 ct15),sl15⟩) (c15:PySem.W.codeIn K cd15 "_law_end" = true) (k15:PySem.W.keepIn K (.ref f15)=true)
  (a16:PySem.W.nsIn K mainGlobals "_law_points" = some (some (.ref f16))) (l16:K.lookup f16=some ⟨oc16,od16,.func (PySem.W.fnOf "_law_points" "_law_points" (defArgs s__law_points) (defBody s__law_points) (defScope s__law_points) .none kV16 dc16 pm16 an16 cd16 ct16),sl16⟩) (c16:PySem.W.codeIn K cd16 "_law_points" = true) (k16:PySem.W.keepIn K (.ref f16)=true)
  (a17:PySem.W.nsIn K mainGlobals "_law_loop" = some (some (.ref f17))) (l17:K.lookup f17=some ⟨oc17,od17,.func (PySem.W.fnOf "_law_loop" "_law_loop" (defArgs s__law_loop) (defBody s__law_loop) (defScope s__law_loop) .none kV17 dc17 pm17 an17 cd17 ct17),sl17⟩) (c17:PySem.W.codeIn K cd17 "_law_loop" = true) (k17:PySem.W.keepIn K (.ref f17)=true)
  (a18:PySem.W.nsIn K mainGlobals "_law_row" = some (some (.ref f18))) (l18:K.lookup f18=some ⟨oc18,od18,.func (PySem.W.fnOf "_law_row" "_law_row" (defArgs s__law_row) (defBody s__law_row) (defScope s__law_row) .none kV18 dc18 pm18 an18 cd18 ct18),sl18⟩) (c18:PySem.W.codeIn K cd18 "_law_row" = true) (k18:PySem.W.keepIn K (.ref f18)=true)
  (a19:PySem.W.nsIn K mainGlobals "_law_written" = some (some (.ref f19))) (l19:K.lookup f19=some ⟨oc19,od19,.func (PySem.W.fnOf "_law_written" "_law_written" (defArgs s__law_written) (defBody s__law_written) (defScope s__law_written) .none kV19 dc19 pm19 an19 cd19 ct19),sl19⟩) (c19:PySem.W.codeIn K cd19 "_law_written" = true) (k19:PySem.W.keepIn K (.ref f19)=true)
  (a20:PySem.W.nsIn K mainGlobals "_law_is_row" = some (some (.ref f20))) (l20:K.lookup f20=some ⟨oc20,od20,.func (PySem.W.fnOf "_law_is_row" "_law_is_row" (defArgs s__law_is_row) (defBody s__law_is_row) (defScope s__law_is_row) .none kV20 dc20 pm20 an20 cd20 ct20),sl20⟩) (c20:PySem.W.codeIn K cd20 "_law_is_row" = true) (k20:PySem.W.keepIn K (.ref f20)=true)
  (a21:PySem.W.nsIn K mainGlobals "_law_figure" = some (some (.ref f21))) (l21:K.lookup f21=some ⟨oc21,od21,.func (PySem.W.fnOf "_law_figure" "_law_figure" (defArgs s__law_figure) (defBody s__law_figure) (defScope s__law_figure) .none kV21 dc21 pm21 an21 cd21 ct21),sl21⟩) (c21:PySem.W.codeIn K cd21 "_law_figure" = true) (k21:PySem.W.keepIn K (.ref f21)=true)
  (a22:PySem.W.nsIn K mainGlobals "_law_figures" = some (some (.ref f22))) (l22:K.lookup f22=some ⟨oc22,od22,.func (PySem.W.fnOf "_law_figures" "_law_figures" (defArgs s__law_figures) (defBody s__law_figures) (defScope s__law_figures) .none kV22 dc22 pm22 an22 cd22 ct22),sl22⟩) (c22:PySem.W.codeIn K cd22 "_law_figures" = true) (k22:PySem.W.keepIn K (.ref f22)=true)
  (a23:PySem.W.nsIn K mainGlobals "_law_signs" = some (some (.ref f23))) (l23:K.lookup f23=some ⟨oc23,od23,.func (PySem.W.fnOf "_law_signs" "_law_signs" (defArgs s__law_signs) (defBody s__law_signs) (defScope s__law_signs) .none kV23 dc23 pm23 an23 cd23 ct23),sl23⟩) (c23:PySem.W.codeIn K cd23 "_law_signs" = true) (k23:PySem.W.keepIn K (.ref f23)=true)
  (a24:PySem.W.nsIn K mainGlobals "_law_spoilt" = some (some (.ref f24))) (l24:K.lookup f24=some ⟨oc24,od24,.func (PySem.W.fnOf "_law_spoilt" "_law_spoilt" (defArgs s__law_spoilt) (defBody s__law_spoilt) (defScope s__law_spoilt) .none kV24 dc24 pm24 an24 cd24 ct24),sl24⟩) (c24:PySem.W.codeIn K cd24 "_law_spoilt" = true) (k24:PySem.W.keepIn K (.ref f24)=true)
  (a25:PySem.W.nsIn K mainGlobals "_law_due" = some (some (.ref f25))) (l25:K.lookup f25=some ⟨oc25,od25,.func (PySem.W.fnOf "_law_due" "_law_due" (defArgs s__law_due) (defBody s__law_due) (defScope s__law_due) .none kV25 dc25 pm25 an25 cd25 ct25),sl25⟩) (c25:PySem.W.codeIn K cd25 "_law_due" = true) (k25:PySem.W.keepIn K (.ref f25)=true)
  (a26:PySem.W.nsIn K mainGlobals "_law_read" = some (some (.ref f26))) (l26:K.lookup f26=some ⟨oc26,od26,.func (PySem.W.fnOf "_law_read" "_law_read" (defArgs s__law_read) (defBody s__law_read) (defScope s__law_read) .none kV26 dc26 pm26 an26 cd26 ct26),sl26⟩) (c26:PySem.W.codeIn K cd26 "_law_read" = true) (k26:PySem.W.keepIn K (.ref f26)=true)
  (a27:PySem.W.nsIn K mainGlobals "law" = some (some (.ref f27))) (l27:K.lookup f27=some ⟨oc27,od27,.func (PySem.W.fnOf "law" "law" (defArgs s_law) (defBody s_law) (defScope s_law) .none kV27 dc27 pm27 an27 cd27 ct27),sl27⟩) (c27:PySem.W.codeIn K cd27 "law" = true) (k27:PySem.W.keepIn K (.ref f27)=true)
  (n_CordError:PySem.W.nsIn K mainGlobals "CordError" = some (some (.ref c_CordError)))
  (xa_CordError:PySem.W.findIn K (.ref c_CordError) "__getattribute__" = some (some (.builtin "BaseException.__getattribute__"))) (xb_CordError:PySem.W.findIn K (.ref c_CordError) "__getattr__" = some none) (xc_CordError:PySem.W.findIn K (.ref c_CordError) "__class__" = some (some (.builtin "object.__class__"))) (xd_CordError:PySem.W.subIn K (.ref c_CordError) (.type "BaseException")=some true) (xe_CordError:PySem.W.subIn K (.ref c_CordError) (.type "object")=some true) (xf_CordError:PySem.W.typeIn K (.ref c_CordError)=some (.type "type")) (xg_CordError:PySem.W.isClsIn K c_CordError=true) (xh_CordError:PySem.W.subIn K (.ref c_CordError) (.ref c_CordError)=some true)
  (n_NoCord:PySem.W.nsIn K mainGlobals "NoCord" = some (some (.ref c_NoCord)))
  (xa_NoCord:PySem.W.findIn K (.ref c_NoCord) "__getattribute__" = some (some (.builtin "BaseException.__getattribute__"))) (xb_NoCord:PySem.W.findIn K (.ref c_NoCord) "__getattr__" = some none) (xc_NoCord:PySem.W.findIn K (.ref c_NoCord) "__class__" = some (some (.builtin "object.__class__"))) (xd_NoCord:PySem.W.subIn K (.ref c_NoCord) (.type "BaseException")=some true) (xe_NoCord:PySem.W.subIn K (.ref c_NoCord) (.type "object")=some true) (xf_NoCord:PySem.W.typeIn K (.ref c_NoCord)=some (.type "type")) (xg_NoCord:PySem.W.isClsIn K c_NoCord=true) (xh_NoCord:PySem.W.subIn K (.ref c_NoCord) (.ref c_NoCord)=some true)
  (n_NoDeed:PySem.W.nsIn K mainGlobals "NoDeed" = some (some (.ref c_NoDeed)))
  (xa_NoDeed:PySem.W.findIn K (.ref c_NoDeed) "__getattribute__" = some (some (.builtin "BaseException.__getattribute__"))) (xb_NoDeed:PySem.W.findIn K (.ref c_NoDeed) "__getattr__" = some none) (xc_NoDeed:PySem.W.findIn K (.ref c_NoDeed) "__class__" = some (some (.builtin "object.__class__"))) (xd_NoDeed:PySem.W.subIn K (.ref c_NoDeed) (.type "BaseException")=some true) (xe_NoDeed:PySem.W.subIn K (.ref c_NoDeed) (.type "object")=some true) (xf_NoDeed:PySem.W.typeIn K (.ref c_NoDeed)=some (.type "type")) (xg_NoDeed:PySem.W.isClsIn K c_NoDeed=true) (xh_NoDeed:PySem.W.subIn K (.ref c_NoDeed) (.ref c_NoDeed)=some true)
  (n_NoName:PySem.W.nsIn K mainGlobals "NoName" = some (some (.ref c_NoName)))
  (xa_NoName:PySem.W.findIn K (.ref c_NoName) "__getattribute__" = some (some (.builtin "BaseException.__getattribute__"))) (xb_NoName:PySem.W.findIn K (.ref c_NoName) "__getattr__" = some none) (xc_NoName:PySem.W.findIn K (.ref c_NoName) "__class__" = some (some (.builtin "object.__class__"))) (xd_NoName:PySem.W.subIn K (.ref c_NoName) (.type "BaseException")=some true) (xe_NoName:PySem.W.subIn K (.ref c_NoName) (.type "object")=some true) (xf_NoName:PySem.W.typeIn K (.ref c_NoName)=some (.type "type")) (xg_NoName:PySem.W.isClsIn K c_NoName=true) (xh_NoName:PySem.W.subIn K (.ref c_NoName) (.ref c_NoName)=some true)
  (n_NoRow:PySem.W.nsIn K mainGlobals "NoRow" = some (some (.ref c_NoRow)))
  (xa_NoRow:PySem.W.findIn K (.ref c_NoRow) "__getattribute__" = some (some (.builtin "BaseException.__getattribute__"))) (xb_NoRow:PySem.W.findIn K (.ref c_NoRow) "__getattr__" = some none) (xc_NoRow:PySem.W.findIn K (.ref c_NoRow) "__class__" = some (some (.builtin "object.__class__"))) (xd_NoRow:PySem.W.subIn K (.ref c_NoRow) (.type "BaseException")=some true) (xe_NoRow:PySem.W.subIn K (.ref c_NoRow) (.type "object")=some true) (xf_NoRow:PySem.W.typeIn K (.ref c_NoRow)=some (.type "type")) (xg_NoRow:PySem.W.isClsIn K c_NoRow=true) (xh_NoRow:PySem.W.subIn K (.ref c_NoRow) (.ref c_NoRow)=some true)
  (n_NoSheet:PySem.W.nsIn K mainGlobals "NoSheet" = some (some (.ref c_NoSheet)))
  (xa_NoSheet:PySem.W.findIn K (.ref c_NoSheet) "__getattribute__" = some (some (.builtin "BaseException.__getattribute__"))) (xb_NoSheet:PySem.W.findIn K (.ref c_NoSheet) "__getattr__" = some none) (xc_NoSheet:PySem.W.findIn K (.ref c_NoSheet) "__class__" = some (some (.builtin "object.__class__"))) (xd_NoSheet:PySem.W.subIn K (.ref c_NoSheet) (.type "BaseException")=some true) (xe_NoSheet:PySem.W.subIn K (.ref c_NoSheet) (.type "object")=some true) (xf_NoSheet:PySem.W.typeIn K (.ref c_NoSheet)=some (.type "type")) (xg_NoSheet:PySem.W.isClsIn K c_NoSheet=true) (xh_NoSheet:PySem.W.subIn K (.ref c_NoSheet) (.ref c_NoSheet)=some true)
  (n_NoText:PySem.W.nsIn K mainGlobals "NoText" = some (some (.ref c_NoText)))
  (xa_NoText:PySem.W.findIn K (.ref c_NoText) "__getattribute__" = some (some (.builtin "BaseException.__getattribute__"))) (xb_NoText:PySem.W.findIn K (.ref c_NoText) "__getattr__" = some none) (xc_NoText:PySem.W.findIn K (.ref c_NoText) "__class__" = some (some (.builtin "object.__class__"))) (xd_NoText:PySem.W.subIn K (.ref c_NoText) (.type "BaseException")=some true) (xe_NoText:PySem.W.subIn K (.ref c_NoText) (.type "object")=some true) (xf_NoText:PySem.W.typeIn K (.ref c_NoText)=some (.type "type")) (xg_NoText:PySem.W.isClsIn K c_NoText=true) (xh_NoText:PySem.W.subIn K (.ref c_NoText) (.ref c_NoText)=some true)
  (n_NoTurn:PySem.W.nsIn K mainGlobals "NoTurn" = some (some (.ref c_NoTurn)))
  (xa_NoTurn:PySem.W.findIn K (.ref c_NoTurn) "__getattribute__" = some (some (.builtin "BaseException.__getattribute__"))) (xb_NoTurn:PySem.W.findIn K (.ref c_NoTurn) "__getattr__" = some none) (xc_NoTurn:PySem.W.findIn K (.ref c_NoTurn) "__class__" = some (some (.builtin "object.__class__"))) (xd_NoTurn:PySem.W.subIn K (.ref c_NoTurn) (.type "BaseException")=some true) (xe_NoTurn:PySem.W.subIn K (.ref c_NoTurn) (.type "object")=some true) (xf_NoTurn:PySem.W.typeIn K (.ref c_NoTurn)=some (.type "type")) (xg_NoTurn:PySem.W.isClsIn K c_NoTurn=true) (xh_NoTurn:PySem.W.subIn K (.ref c_NoTurn) (.ref c_NoTurn)=some true)
  (n_TooMany:PySem.W.nsIn K mainGlobals "TooMany" = some (some (.ref c_TooMany)))
  (xa_TooMany:PySem.W.findIn K (.ref c_TooMany) "__getattribute__" = some (some (.builtin "BaseException.__getattribute__"))) (xb_TooMany:PySem.W.findIn K (.ref c_TooMany) "__getattr__" = some none) (xc_TooMany:PySem.W.findIn K (.ref c_TooMany) "__class__" = some (some (.builtin "object.__class__"))) (xd_TooMany:PySem.W.subIn K (.ref c_TooMany) (.type "BaseException")=some true) (xe_TooMany:PySem.W.subIn K (.ref c_TooMany) (.type "object")=some true) (xf_TooMany:PySem.W.typeIn K (.ref c_TooMany)=some (.type "type")) (xg_TooMany:PySem.W.isClsIn K c_TooMany=true) (xh_TooMany:PySem.W.subIn K (.ref c_TooMany) (.ref c_TooMany)=some true)
  (e_NoText:PySem.W.excIn K c_NoText bmV "ValueError.__new__" = true) (v_NoText:PySem.W.subIn K (.ref c_NoText) (.type "ValueError")=some true)
  (s_NoText_CordError:PySem.W.subIn K (.ref c_NoText) (.ref c_CordError)=some true)
  (s_NoText_NoCord:PySem.W.subIn K (.ref c_NoText) (.ref c_NoCord)=some false)
  (s_NoText_NoDeed:PySem.W.subIn K (.ref c_NoText) (.ref c_NoDeed)=some false)
  (s_NoText_NoName:PySem.W.subIn K (.ref c_NoText) (.ref c_NoName)=some false)
  (s_NoText_NoRow:PySem.W.subIn K (.ref c_NoText) (.ref c_NoRow)=some false)
  (s_NoText_NoSheet:PySem.W.subIn K (.ref c_NoText) (.ref c_NoSheet)=some false)
  (s_NoText_NoText:PySem.W.subIn K (.ref c_NoText) (.ref c_NoText)=some true)
  (s_NoText_NoTurn:PySem.W.subIn K (.ref c_NoText) (.ref c_NoTurn)=some false)
  (s_NoText_TooMany:PySem.W.subIn K (.ref c_NoText) (.ref c_TooMany)=some false)
  (e_NoRow:PySem.W.excIn K c_NoRow bmV "ValueError.__new__" = true) (v_NoRow:PySem.W.subIn K (.ref c_NoRow) (.type "ValueError")=some true)
  (s_NoRow_CordError:PySem.W.subIn K (.ref c_NoRow) (.ref c_CordError)=some true)
  (s_NoRow_NoCord:PySem.W.subIn K (.ref c_NoRow) (.ref c_NoCord)=some false)
  (s_NoRow_NoDeed:PySem.W.subIn K (.ref c_NoRow) (.ref c_NoDeed)=some false)
  (s_NoRow_NoName:PySem.W.subIn K (.ref c_NoRow) (.ref c_NoName)=some false)
  (s_NoRow_NoRow:PySem.W.subIn K (.ref c_NoRow) (.ref c_NoRow)=some true)
  (s_NoRow_NoSheet:PySem.W.subIn K (.ref c_NoRow) (.ref c_NoSheet)=some false)
  (s_NoRow_NoText:PySem.W.subIn K (.ref c_NoRow) (.ref c_NoText)=some false)
  (s_NoRow_NoTurn:PySem.W.subIn K (.ref c_NoRow) (.ref c_NoTurn)=some false)
  (s_NoRow_TooMany:PySem.W.subIn K (.ref c_NoRow) (.ref c_TooMany)=some false)
  (g_abs:PySem.W.nsIn K mainGlobals "abs" = some none)
  (g_zip:PySem.W.nsIn K mainGlobals "zip" = some none)
  (g_ValueError:PySem.W.nsIn K mainGlobals "ValueError" = some none)
  (g_set:PySem.W.nsIn K mainGlobals "set" = some none)
  (g_FIGURES:PySem.W.nsIn K mainGlobals "FIGURES" = some (some (.str "0123456789" tg_FIGURES)))
  (g_MOST_FIGURES:PySem.W.nsIn K mainGlobals "MOST_FIGURES" = some (some (.int 60 tg_MOST_FIGURES)))
  (z_len:PySem.W.nsIn K mainGlobals "len" = some none) (z_range:PySem.W.nsIn K mainGlobals "range" = some none) (z_min:PySem.W.nsIn K mainGlobals "min" = some none) (z_max:PySem.W.nsIn K mainGlobals "max" = some none) (z_isinstance:PySem.W.nsIn K mainGlobals "isinstance" = some none) (z_bool:PySem.W.nsIn K mainGlobals "bool" = some none) (z_int:PySem.W.nsIn K mainGlobals "int" = some none) (z_tuple:PySem.W.nsIn K mainGlobals "tuple" = some none) (z_list:PySem.W.nsIn K mainGlobals "list" = some none) (z_str:PySem.W.nsIn K mainGlobals "str" = some none) (z_all:PySem.W.nsIn K mainGlobals "all" = some none) (z_sum:PySem.W.nsIn K mainGlobals "sum" = some none) (z_sorted:PySem.W.nsIn K mainGlobals "sorted" = some none) :
  ∃ fd:FuncData,(∀ (s:Shared) (v:Value),BindsTo s fd ⟨[v],[]⟩ [("_law_script",v)])∧∀ base:Heap,K.In base→base.Ns mainGlobals mg→FnOk l.prog w K mg base CX0 7 fa fd ["_law_script"] (spLaw K):=by
 have e:=hfa.symm.trans (PySem.W.mg_of X G a27)
 cases e
 have M:Txt mg:=⟨PySem.W.mg_none_of X G z_len,PySem.W.mg_none_of X G z_range,PySem.W.mg_none_of X G z_min,PySem.W.mg_none_of X G z_max,PySem.W.mg_none_of X G z_isinstance,PySem.W.mg_none_of X G z_bool,PySem.W.mg_none_of X G z_int,PySem.W.mg_none_of X G z_tuple,PySem.W.mg_none_of X G z_list,PySem.W.mg_none_of X G z_str,PySem.W.mg_none_of X G z_all,PySem.W.mg_none_of X G z_sum,PySem.W.mg_none_of X G z_sorted⟩
 have GB:Gb mg:=⟨PySem.W.mg_none_of X G g_abs,PySem.W.mg_none_of X G g_zip,PySem.W.mg_none_of X G g_ValueError,PySem.W.mg_none_of X G g_set,⟨_,PySem.W.mg_of X G g_FIGURES⟩,⟨_,PySem.W.mg_of X G g_MOST_FIGURES⟩⟩
 have Z:Exs K mg c_CordError c_NoCord c_NoDeed c_NoName c_NoRow c_NoSheet c_NoText c_NoTurn c_TooMany:=⟨PySem.W.mg_of X G n_CordError,PySem.W.mg_of X G n_NoCord,PySem.W.mg_of X G n_NoDeed,PySem.W.mg_of X G n_NoName,PySem.W.mg_of X G n_NoRow,PySem.W.mg_of X G n_NoSheet,PySem.W.mg_of X G n_NoText,PySem.W.mg_of X G n_NoTurn,PySem.W.mg_of X G n_TooMany,⟨xa_CordError,xb_CordError,xc_CordError,xd_CordError,xe_CordError,xf_CordError,xg_CordError,xh_CordError⟩,⟨xa_NoCord,xb_NoCord,xc_NoCord,xd_NoCord,xe_NoCord,xf_NoCord,xg_NoCord,xh_NoCord⟩,⟨xa_NoDeed,xb_NoDeed,xc_NoDeed,xd_NoDeed,xe_NoDeed,xf_NoDeed,xg_NoDeed,xh_NoDeed⟩,⟨xa_NoName,xb_NoName,xc_NoName,xd_NoName,xe_NoName,xf_NoName,xg_NoName,xh_NoName⟩,⟨xa_NoRow,xb_NoRow,xc_NoRow,xd_NoRow,xe_NoRow,xf_NoRow,xg_NoRow,xh_NoRow⟩,⟨xa_NoSheet,xb_NoSheet,xc_NoSheet,xd_NoSheet,xe_NoSheet,xf_NoSheet,xg_NoSheet,xh_NoSheet⟩,⟨xa_NoText,xb_NoText,xc_NoText,xd_NoText,xe_NoText,xf_NoText,xg_NoText,xh_NoText⟩,⟨xa_NoTurn,xb_NoTurn,xc_NoTurn,xd_NoTurn,xe_NoTurn,xf_NoTurn,xg_NoTurn,xh_NoTurn⟩,⟨xa_TooMany,xb_TooMany,xc_TooMany,xd_TooMany,xe_TooMany,xf_TooMany,xg_TooMany,xh_TooMany⟩,e_NoText,e_NoRow,v_NoText,v_NoRow,s_NoText_CordError,s_NoText_NoCord,s_NoText_NoDeed,s_NoText_NoName,s_NoText_NoRow,s_NoText_NoSheet,s_NoText_NoText,s_NoText_NoTurn,s_NoText_TooMany,s_NoRow_CordError,s_NoRow_NoCord,s_NoRow_NoDeed,s_NoRow_NoName,s_NoRow_NoRow,s_NoRow_NoSheet,s_NoRow_NoText,s_NoRow_NoTurn,s_NoRow_TooMany⟩
 have F0:=fun_mk (st:=s_is_whole) l0 c0 k0
 have b0:=F0.binds (ps:=["thing"]) fun _ _ _ _ _ _ us hl => match us,hl with | [_],_ => rfl
 have F1:=fun_mk (st:=s_is_whole_from) l1 c1 k1
 have b1:=F1.binds (ps:=["thing", "least"]) fun _ _ _ _ _ _ us hl => match us,hl with | [_,_],_ => rfl
 have F2:=fun_mk (st:=s_many_ties) l2 c2 k2
 have b2:=F2.binds (ps:=["sheet"]) fun _ _ _ _ _ _ us hl => match us,hl with | [_],_ => rfl
 have F3:=fun_mk (st:=s_crossings) l3 c3 k3
 have b3:=F3.binds (ps:=["triangle", "row"]) fun _ _ _ _ _ _ us hl => match us,hl with | [_,_],_ => rfl
 have F4:=fun_mk (st:=s_may_cross) l4 c4 k4
 have b4:=F4.binds (ps:=["numbers"]) fun _ _ _ _ _ _ us hl => match us,hl with | [_],_ => rfl
 have F5:=fun_mk (st:=s_is_row) l5 c5 k5
 have b5:=F5.binds (ps:=["sheet", "thing"]) fun _ _ _ _ _ _ us hl => match us,hl with | [_,_],_ => rfl
 have F6:=fun_mk (st:=s_is_number) l6 c6 k6
 have b6:=F6.binds (ps:=["text"]) fun _ _ _ _ _ _ us hl => match us,hl with | [_],_ => rfl
 have F7:=fun_mk (st:=s_parts_of) l7 c7 k7
 have b7:=F7.binds (ps:=["text", "between"]) fun _ _ _ _ _ _ us hl => match us,hl with | [_,_],_ => rfl
 have F8:=fun_mk (st:=s_numbers_of) l8 c8 k8
 have b8:=F8.binds (ps:=["text"]) fun _ _ _ _ _ _ us hl => match us,hl with | [_],_ => rfl
 have F9:=fun_mk (st:=s_row_on) l9 c9 k9
 have b9:=F9.binds (ps:=["sheet", "numbers"]) fun _ _ _ _ _ _ us hl => match us,hl with | [_,_],_ => rfl
 have F10:=fun_mk (st:=s_read_row) l10 c10 k10
 have b10:=F10.binds (ps:=["sheet", "text"]) fun _ _ _ _ _ _ us hl => match us,hl with | [_,_],_ => rfl
 have F11:=fun_mk (st:=s__law_cell_at) l11 c11 k11
 have b11:=F11.binds (ps:=["_law_script", "_law_k"]) fun _ _ _ _ _ _ us hl => match us,hl with | [_,_],_ => rfl
 have F12:=fun_mk (st:=s__law_purse) l12 c12 k12
 have b12:=F12.binds (ps:=["_law_script", "_law_at"]) fun _ _ _ _ _ _ us hl => match us,hl with | [_,_],_ => rfl
 have F13:=fun_mk (st:=s__law_take) l13 c13 k13
 have b13:=F13.binds (ps:=["_law_draw", "_law_many"]) fun _ _ _ _ _ _ us hl => match us,hl with | [_,_],_ => rfl
 have F14:=fun_mk (st:=s__law_sheet) l14 c14 k14
 have b14:=F14.binds (ps:=["_law_draw"]) fun _ _ _ _ _ _ us hl => match us,hl with | [_],_ => rfl
 have F15:=fun_mk (st:=s__law_end) l15 c15 k15
 have b15:=F15.binds (ps:=["_law_side", "_law_last"]) fun _ _ _ _ _ _ us hl => match us,hl with | [_,_],_ => rfl
 have F16:=fun_mk (st:=s__law_points) l16 c16 k16
 have b16:=F16.binds (ps:=["_law_sheet_here"]) fun _ _ _ _ _ _ us hl => match us,hl with | [_],_ => rfl
 have F17:=fun_mk (st:=s__law_loop) l17 c17 k17
 have b17:=F17.binds (ps:=["_law_sheet_here", "_law_heap"]) fun _ _ _ _ _ _ us hl => match us,hl with | [_,_],_ => rfl
 have F18:=fun_mk (st:=s__law_row) l18 c18 k18
 have b18:=F18.binds (ps:=["_law_draw", "_law_sheet_here"]) fun _ _ _ _ _ _ us hl => match us,hl with | [_,_],_ => rfl
 have F19:=fun_mk (st:=s__law_written) l19 c19 k19
 have b19:=F19.binds (ps:=["_law_figures_here"]) fun _ _ _ _ _ _ us hl => match us,hl with | [_],_ => rfl
 have F20:=fun_mk (st:=s__law_is_row) l20 c20 k20
 have b20:=F20.binds (ps:=["_law_sheet_here", "_law_row_here"]) fun _ _ _ _ _ _ us hl => match us,hl with | [_,_],_ => rfl
 have F21:=fun_mk (st:=s__law_figure) l21 c21 k21
 have b21:=F21.binds (ps:=["_law_word"]) fun _ _ _ _ _ _ us hl => match us,hl with | [_],_ => rfl
 have F22:=fun_mk (st:=s__law_figures) l22 c22 k22
 have b22:=F22.binds (ps:=["_law_text"]) fun _ _ _ _ _ _ us hl => match us,hl with | [_],_ => rfl
 have F23:=fun_mk (st:=s__law_signs) l23 c23 k23
 have b23:=F23.binds (ps:=[]) fun _ _ _ _ _ _ us hl => match us,hl with | [],_ => rfl
 have F24:=fun_mk (st:=s__law_spoilt) l24 c24 k24
 have b24:=F24.binds (ps:=["_law_draw", "_law_text"]) fun _ _ _ _ _ _ us hl => match us,hl with | [_,_],_ => rfl
 have F25:=fun_mk (st:=s__law_due) l25 c25 k25
 have b25:=F25.binds (ps:=["_law_sheet_here", "_law_text"]) fun _ _ _ _ _ _ us hl => match us,hl with | [_,_],_ => rfl
 have F26:=fun_mk (st:=s__law_read) l26 c26 k26
 have b26:=F26.binds (ps:=["_law_sheet_here", "_law_text"]) fun _ _ _ _ _ _ us hl => match us,hl with | [_,_],_ => rfl
 have F27:=fun_mk (st:=s_law) l27 c27 k27
 refine ⟨PySem.W.fnOf "law" "law" (defArgs s_law) (defBody s_law) (defScope s_law) .none kV27 dc27 pm27 an27 cd27 ct27,fun s v => .of_eq rfl,fun base _ _ => ?_⟩
 have G_law_cell_at:Kn l.prog w K mg base "_law_cell_at" _ ["_law_script", "_law_k"] _:=⟨⟨f11,_,ok_cell F11 M ,PySem.W.mg_of X G a11,k11,b11⟩⟩
 have G_law_purse:Kn l.prog w K mg base "_law_purse" _ ["_law_script", "_law_at"] _:=⟨⟨f12,_,ok_purse F12 M G_law_cell_at,PySem.W.mg_of X G a12,k12,b12⟩⟩
 have G_law_take:Kn l.prog w K mg base "_law_take" _ ["_law_draw", "_law_many"] _:=⟨⟨f13,_,ok_take F13 M ,PySem.W.mg_of X G a13,k13,b13⟩⟩
 have Gis_whole:Kn l.prog w K mg base "is_whole" _ ["thing"] _:=⟨⟨f0,_,ok_whole F0 M ,PySem.W.mg_of X G a0,k0,b0⟩⟩
 have Gis_whole_from:Kn l.prog w K mg base "is_whole_from" _ ["thing", "least"] _:=⟨⟨f1,_,ok_from F1 M Gis_whole,PySem.W.mg_of X G a1,k1,b1⟩⟩
 have Gmany_ties:Kn l.prog w K mg base "many_ties" _ ["sheet"] _:=⟨⟨f2,_,ok_ties F2 M ,PySem.W.mg_of X G a2,k2,b2⟩⟩
 have Gcrossings:Kn l.prog w K mg base "crossings" _ ["triangle", "row"] _:=⟨⟨f3,_,ok_cross F3 M GB,PySem.W.mg_of X G a3,k3,b3⟩⟩
 have Gmay_cross:Kn l.prog w K mg base "may_cross" _ ["numbers"] _:=⟨⟨f4,_,ok_may F4 M ,PySem.W.mg_of X G a4,k4,b4⟩⟩
 have Gis_row:Kn l.prog w K mg base "is_row" _ ["sheet", "thing"] _:=⟨⟨f5,_,ok_isrow F5 M Gmany_ties Gis_whole_from Gmay_cross Gcrossings,PySem.W.mg_of X G a5,k5,b5⟩⟩
 have Gis_number:Kn l.prog w K mg base "is_number" _ ["text"] _:=⟨⟨f6,_,ok_isnum F6 M GB,PySem.W.mg_of X G a6,k6,b6⟩⟩
 have Gparts_of:KnX l.prog w K mg base "parts_of" _ ["text", "between"] _:=⟨⟨f7,_,ok_parts F7 M Z,PySem.W.mg_of X G a7,k7,b7⟩⟩
 have Gnumbers_of:KnX l.prog w K mg base "numbers_of" _ ["text"] _:=⟨⟨f8,_,ok_numbers F8 M Gparts_of Gis_number Z,PySem.W.mg_of X G a8,k8,b8⟩⟩
 have Grow_on:KnX l.prog w K mg base "row_on" _ ["sheet", "numbers"] _:=⟨⟨f9,_,ok_rowon F9 M Gis_row Z,PySem.W.mg_of X G a9,k9,b9⟩⟩
 have Gread_row:KnX l.prog w K mg base "read_row" _ ["sheet", "text"] _:=⟨⟨f10,_,ok_readrow F10 M Grow_on Gnumbers_of,PySem.W.mg_of X G a10,k10,b10⟩⟩
 have G_law_sheet:Kn l.prog w K mg base "_law_sheet" _ ["_law_draw"] _:=⟨⟨f14,_,ok_sheet F14 M G_law_take,PySem.W.mg_of X G a14,k14,b14⟩⟩
 have G_law_end:Kn l.prog w K mg base "_law_end" _ ["_law_side", "_law_last"] _:=⟨⟨f15,_,ok_end F15 M GB,PySem.W.mg_of X G a15,k15,b15⟩⟩
 have G_law_points:Kn l.prog w K mg base "_law_points" _ ["_law_sheet_here"] _:=⟨⟨f16,_,ok_points F16 M G_law_end GB,PySem.W.mg_of X G a16,k16,b16⟩⟩
 have G_law_loop:Kn l.prog w K mg base "_law_loop" _ ["_law_sheet_here", "_law_heap"] _:=⟨⟨f17,_,ok_loop F17 M ,PySem.W.mg_of X G a17,k17,b17⟩⟩
 have G_law_row:Kn l.prog w K mg base "_law_row" _ ["_law_draw", "_law_sheet_here"] _:=⟨⟨f18,_,ok_row F18 M G_law_take G_law_points G_law_loop GB,PySem.W.mg_of X G a18,k18,b18⟩⟩
 have G_law_written:Kn l.prog w K mg base "_law_written" _ ["_law_figures_here"] _:=⟨⟨f19,_,ok_written F19 M ,PySem.W.mg_of X G a19,k19,b19⟩⟩
 have G_law_is_row:Kn l.prog w K mg base "_law_is_row" _ ["_law_sheet_here", "_law_row_here"] _:=⟨⟨f20,_,ok_lisrow F20 M GB,PySem.W.mg_of X G a20,k20,b20⟩⟩
 have G_law_figure:Kn l.prog w K mg base "_law_figure" _ ["_law_word"] _:=⟨⟨f21,_,ok_figure F21 M ,PySem.W.mg_of X G a21,k21,b21⟩⟩
 have G_law_figures:Kn l.prog w K mg base "_law_figures" _ ["_law_text"] _:=⟨⟨f22,_,ok_figures F22 M G_law_figure,PySem.W.mg_of X G a22,k22,b22⟩⟩
 have G_law_signs:Kn l.prog w K mg base "_law_signs" _ [] _:=⟨⟨f23,_,ok_signs F23 M ,PySem.W.mg_of X G a23,k23,b23⟩⟩
 have G_law_spoilt:Kn l.prog w K mg base "_law_spoilt" _ ["_law_draw", "_law_text"] _:=⟨⟨f24,_,ok_spoilt F24 M G_law_take G_law_signs,PySem.W.mg_of X G a24,k24,b24⟩⟩
 have G_law_due:Kn l.prog w K mg base "_law_due" _ ["_law_sheet_here", "_law_text"] _:=⟨⟨f25,_,ok_due F25 M G_law_figures G_law_is_row,PySem.W.mg_of X G a25,k25,b25⟩⟩
 have G_law_read:Kn l.prog w K mg base "_law_read" _ ["_law_sheet_here", "_law_text"] _:=⟨⟨f26,_,ok_read F26 M Gread_row Z GB,PySem.W.mg_of X G a26,k26,b26⟩⟩
 exact ok_law F27 M G_law_purse G_law_sheet G_law_row G_law_written G_law_read G_law_due G_law_spoilt
theorem walk {l:PySem.W.OpenLaw} {q:Program} {loose:List Str} {XP:(Str→Option Value)→Heap→Prop} {YP:World→Heap→Prop} {d:DefRec} {K:Params→PySem.W.Frag} (hn:l.most=some 63) (hdf:d.params.defaults=[])
  (hY:∀ (w:World) (h:Heap),YP w h→(K w.params).In h)
  (F:∀ (w:World) (mg:Str→Option Value) (fa:Addr) (h:Heap),(K w.params).In h→h.Ns mainGlobals mg→mg d.name=some (.ref fa) →
   ∃ fd:FuncData,(∀ (s:Shared) (u:Value),BindsTo s fd ⟨[u],[]⟩ [("_law_script",u)])∧∀ base:Heap,(K w.params).In base→base.Ns mainGlobals mg→FnOk l.prog w (K w.params) mg base CX0 7 fa fd ["_law_script"] (spLaw (K w.params))) :
  PySem.W.WalkO q loose XP YP l.row.toRowW d [] (fun f vs => PySem.call f vs) :=
 L2.walk_of (n:=63) (k:=7) (x := "_law_script") (CX:=fun _ => CX0) (sp:=fun w => spLaw (K w.params)) hn (by decide) hdf ⟨rfl,by decide,by decide,rfl⟩ hY F (fun _ _ a ns hl _ hS => ⟨a,ns,rfl,hS,hl,fun _ => rfl⟩) fun _ _ _ _ _ z => z
end Toy
open PySem PySem.W PyProof.Rows
set_option maxRecDepth 100000 in
set_option maxHeartbeats 0 in
theorem PySem.Challenge.cw_farcords_k83_rows_read_holds : PySem.Challenge.rw_farcords_k83_rows_read.Holds := by
 w_on; o_law; k_head; (case hw => w_witness2)
 k_fill
 refine Toy.walk (l:=PySem.Challenge.rw_farcords_k83_rows_read) rfl rfl (fun w h Y => PySem.W.kIn_of Y) ?F
 case F =>
  intro w mg fa h KX G hmg
  refine' Toy.all_mk KX G hmg ?a0 ?l0 ?c0 ?k0 ?a1 ?l1 ?c1 ?k1 ?a2 ?l2 ?c2 ?k2 ?a3 ?l3 ?c3 ?k3 ?a4 ?l4 ?c4 ?k4 ?a5 ?l5 ?c5 ?k5 ?a6 ?l6 ?c6 ?k6 ?a7 ?l7 ?c7 ?k7 ?a8 ?l8 ?c8 ?k8 ?a9 ?l9 ?c9 ?k9 ?a10 ?l10 ?c10 ?k10 ?a11 ?l11 ?c11 ?k11 ?a12 ?l12 ?c12 ?k12 ?a13 ?l13 ?c13 ?k13 ?a14 ?l14 ?c14 ?k14 ?a15 ?l15 ?c15 ?k15 ?a16 ?l16 ?c16 ?k16 ?a17 ?l17 ?c17 ?k17 ?a18 ?l18 ?c18 ?k18 ?a19 ?l19 ?c19 ?k19 ?a20 ?l20 ?c20 ?k20 ?a21 ?l21 ?c21 ?k21 ?a22 ?l22 ?c22 ?k22 ?a23 ?l23 ?c23 ?k23 ?a24 ?l24 ?c24 ?k24 ?a25 ?l25 ?c25 ?k25 ?a26 ?l26 ?c26 ?k26 ?a27 ?l27 ?c27 ?k27 ?n_CordError ?xa_CordError ?xb_CordError ?xc_CordError ?xd_CordError ?xe_CordError ?xf_CordError ?xg_CordError ?xh_CordError ?n_NoCord ?xa_NoCord ?xb_NoCord ?xc_NoCord ?xd_NoCord ?xe_NoCord ?xf_NoCord ?xg_NoCord ?xh_NoCord ?n_NoDeed ?xa_NoDeed ?xb_NoDeed ?xc_NoDeed ?xd_NoDeed ?xe_NoDeed ?xf_NoDeed ?xg_NoDeed ?xh_NoDeed ?n_NoName ?xa_NoName ?xb_NoName ?xc_NoName ?xd_NoName ?xe_NoName ?xf_NoName ?xg_NoName ?xh_NoName ?n_NoRow ?xa_NoRow ?xb_NoRow ?xc_NoRow ?xd_NoRow ?xe_NoRow ?xf_NoRow ?xg_NoRow ?xh_NoRow ?n_NoSheet ?xa_NoSheet ?xb_NoSheet ?xc_NoSheet ?xd_NoSheet ?xe_NoSheet ?xf_NoSheet ?xg_NoSheet ?xh_NoSheet ?n_NoText ?xa_NoText ?xb_NoText ?xc_NoText ?xd_NoText ?xe_NoText ?xf_NoText ?xg_NoText ?xh_NoText ?n_NoTurn ?xa_NoTurn ?xb_NoTurn ?xc_NoTurn ?xd_NoTurn ?xe_NoTurn ?xf_NoTurn ?xg_NoTurn ?xh_NoTurn ?n_TooMany ?xa_TooMany ?xb_TooMany ?xc_TooMany ?xd_TooMany ?xe_TooMany ?xf_TooMany ?xg_TooMany ?xh_TooMany ?e_NoText ?v_NoText ?s_NoText_CordError ?s_NoText_NoCord ?s_NoText_NoDeed ?s_NoText_NoName ?s_NoText_NoRow ?s_NoText_NoSheet ?s_NoText_NoText ?s_NoText_NoTurn ?s_NoText_TooMany ?e_NoRow ?v_NoRow ?s_NoRow_CordError ?s_NoRow_NoCord ?s_NoRow_NoDeed ?s_NoRow_NoName ?s_NoRow_NoRow ?s_NoRow_NoSheet ?s_NoRow_NoText ?s_NoRow_NoTurn ?s_NoRow_TooMany ?g_abs ?g_zip ?g_ValueError ?g_set ?g_FIGURES ?g_MOST_FIGURES ?z_len ?z_range ?z_min ?z_max ?z_isinstance ?z_bool ?z_int ?z_tuple ?z_list ?z_str ?z_all ?z_sum ?z_sorted
  (case a0 => k_is)
  (case l0 => k_is)
  (case c0 => k_is)
  (case k0 => k_is)
  (case a1 => k_is)
  (case l1 => k_is)
  (case c1 => k_is)
  (case k1 => k_is)
  (case a2 => k_is)
  (case l2 => k_is)
  (case c2 => k_is)
  (case k2 => k_is)
  (case a3 => k_is)
  (case l3 => k_is)
  (case c3 => k_is)
  (case k3 => k_is)
  (case a4 => k_is)
  (case l4 => k_is)
  (case c4 => k_is)
  (case k4 => k_is)
  (case a5 => k_is)
  (case l5 => k_is)
  (case c5 => k_is)
  (case k5 => k_is)
  (case a6 => k_is)
  (case l6 => k_is)
  (case c6 => k_is)
  (case k6 => k_is)
  (case a7 => k_is)
  (case l7 => k_is)
  (case c7 => k_is)
  (case k7 => k_is)
  (case a8 => k_is)
  (case l8 => k_is)
  (case c8 => k_is)
  (case k8 => k_is)
  (case a9 => k_is)
  (case l9 => k_is)
  (case c9 => k_is)
  (case k9 => k_is)
  (case a10 => k_is)
  (case l10 => k_is)
  (case c10 => k_is)
  (case k10 => k_is)
  (case a11 => k_is)
  (case l11 => k_is)
  (case c11 => k_is)
  (case k11 => k_is)
  (case a12 => k_is)
  (case l12 => k_is)
  (case c12 => k_is)
  (case k12 => k_is)
  (case a13 => k_is)
  (case l13 => k_is)
  (case c13 => k_is)
  (case k13 => k_is)
  (case a14 => k_is)
  (case l14 => k_is)
  (case c14 => k_is)
  (case k14 => k_is)
  (case a15 => k_is)
  (case l15 => k_is)
  (case c15 => k_is)
  (case k15 => k_is)
  (case a16 => k_is)
  (case l16 => k_is)
  (case c16 => k_is)
  (case k16 => k_is)
  (case a17 => k_is)
  (case l17 => k_is)
  (case c17 => k_is)
  (case k17 => k_is)
  (case a18 => k_is)
  (case l18 => k_is)
  (case c18 => k_is)
  (case k18 => k_is)
  (case a19 => k_is)
  (case l19 => k_is)
  (case c19 => k_is)
  (case k19 => k_is)
  (case a20 => k_is)
  (case l20 => k_is)
  (case c20 => k_is)
  (case k20 => k_is)
  (case a21 => k_is)
  (case l21 => k_is)
  (case c21 => k_is)
  (case k21 => k_is)
  (case a22 => k_is)
  (case l22 => k_is)
  (case c22 => k_is)
  (case k22 => k_is)
  (case a23 => k_is)
  (case l23 => k_is)
  (case c23 => k_is)
  (case k23 => k_is)
  (case a24 => k_is)
  (case l24 => k_is)
  (case c24 => k_is)
  (case k24 => k_is)
  (case a25 => k_is)
  (case l25 => k_is)
  (case c25 => k_is)
  (case k25 => k_is)
  (case a26 => k_is)
  (case l26 => k_is)
  (case c26 => k_is)
  (case k26 => k_is)
  (case a27 => k_is)
  (case l27 => k_is)
  (case c27 => k_is)
  (case k27 => k_is)
  (case n_CordError => k_is)
  (case xa_CordError => k_is)
  (case xb_CordError => k_is)
  (case xc_CordError => k_is)
  (case xd_CordError => k_is)
  (case xe_CordError => k_is)
  (case xf_CordError => k_is)
  (case xg_CordError => k_is)
  (case xh_CordError => k_is)
  (case n_NoCord => k_is)
  (case xa_NoCord => k_is)
  (case xb_NoCord => k_is)
  (case xc_NoCord => k_is)
  (case xd_NoCord => k_is)
  (case xe_NoCord => k_is)
  (case xf_NoCord => k_is)
  (case xg_NoCord => k_is)
  (case xh_NoCord => k_is)
  (case n_NoDeed => k_is)
  (case xa_NoDeed => k_is)
  (case xb_NoDeed => k_is)
  (case xc_NoDeed => k_is)
  (case xd_NoDeed => k_is)
  (case xe_NoDeed => k_is)
  (case xf_NoDeed => k_is)
  (case xg_NoDeed => k_is)
  (case xh_NoDeed => k_is)
  (case n_NoName => k_is)
  (case xa_NoName => k_is)
  (case xb_NoName => k_is)
  (case xc_NoName => k_is)
  (case xd_NoName => k_is)
  (case xe_NoName => k_is)
  (case xf_NoName => k_is)
  (case xg_NoName => k_is)
  (case xh_NoName => k_is)
  (case n_NoRow => k_is)
  (case xa_NoRow => k_is)
  (case xb_NoRow => k_is)
  (case xc_NoRow => k_is)
  (case xd_NoRow => k_is)
  (case xe_NoRow => k_is)
  (case xf_NoRow => k_is)
  (case xg_NoRow => k_is)
  (case xh_NoRow => k_is)
  (case n_NoSheet => k_is)
  (case xa_NoSheet => k_is)
  (case xb_NoSheet => k_is)
  (case xc_NoSheet => k_is)
  (case xd_NoSheet => k_is)
  (case xe_NoSheet => k_is)
  (case xf_NoSheet => k_is)
  (case xg_NoSheet => k_is)
  (case xh_NoSheet => k_is)
  (case n_NoText => k_is)
  (case xa_NoText => k_is)
  (case xb_NoText => k_is)
  (case xc_NoText => k_is)
  (case xd_NoText => k_is)
  (case xe_NoText => k_is)
  (case xf_NoText => k_is)
  (case xg_NoText => k_is)
  (case xh_NoText => k_is)
  (case n_NoTurn => k_is)
  (case xa_NoTurn => k_is)
  (case xb_NoTurn => k_is)
  (case xc_NoTurn => k_is)
  (case xd_NoTurn => k_is)
  (case xe_NoTurn => k_is)
  (case xf_NoTurn => k_is)
  (case xg_NoTurn => k_is)
  (case xh_NoTurn => k_is)
  (case n_TooMany => k_is)
  (case xa_TooMany => k_is)
  (case xb_TooMany => k_is)
  (case xc_TooMany => k_is)
  (case xd_TooMany => k_is)
  (case xe_TooMany => k_is)
  (case xf_TooMany => k_is)
  (case xg_TooMany => k_is)
  (case xh_TooMany => k_is)
  (case e_NoText => k_exc)
  (case v_NoText => k_is)
  (case s_NoText_CordError => k_is)
  (case s_NoText_NoCord => k_is)
  (case s_NoText_NoDeed => k_is)
  (case s_NoText_NoName => k_is)
  (case s_NoText_NoRow => k_is)
  (case s_NoText_NoSheet => k_is)
  (case s_NoText_NoText => k_is)
  (case s_NoText_NoTurn => k_is)
  (case s_NoText_TooMany => k_is)
  (case e_NoRow => k_exc)
  (case v_NoRow => k_is)
  (case s_NoRow_CordError => k_is)
  (case s_NoRow_NoCord => k_is)
  (case s_NoRow_NoDeed => k_is)
  (case s_NoRow_NoName => k_is)
  (case s_NoRow_NoRow => k_is)
  (case s_NoRow_NoSheet => k_is)
  (case s_NoRow_NoText => k_is)
  (case s_NoRow_NoTurn => k_is)
  (case s_NoRow_TooMany => k_is)
  (case g_abs => k_is)
  (case g_zip => k_is)
  (case g_ValueError => k_is)
  (case g_set => k_is)
  (case g_FIGURES => k_is)
  (case g_MOST_FIGURES => k_is)
  (case z_len => k_is)
  (case z_range => k_is)
  (case z_min => k_is)
  (case z_max => k_is)
  (case z_isinstance => k_is)
  (case z_bool => k_is)
  (case z_int => k_is)
  (case z_tuple => k_is)
  (case z_list => k_is)
  (case z_str => k_is)
  (case z_all => k_is)
  (case z_sum => k_is)
  (case z_sorted => k_is)
#print axioms PySem.Challenge.cw_farcords_k83_rows_read_holds
