import PyProof.Rows.All
import Wide.All
import OpenK.AllK
import Wide.FinOn
import Lean
import PyProof.EqAt
import PyProof.EqKinds
import PyProof.TupleCall
import PyProof.NeData
import PyProof.SumAny
import PyProof.ReprRoads
import PyProof.CallStr
import PyProof.ReprLen
import PyProof.Rows.StrDigitsNeg
import PyProof.Rows.StrJoinMade
import KE.KRevIter
import PyProof.JoinWalk
import PyProof.CollectIter
import PyProof.SliceStr2
import PyProof.Rows.FStr
import PyProof.Rows.RuleDivmod
import PyProof.Rows.StrWeight2
import PyProof.StrBlock2
import KE.KxWritten
import PyProof.Rows.ZipGen
import KE.KIntText
import PyProof.ListRange
import PyProof.TupleOfSeq
import PyProof.SetScanFacts
import PyProof.SetKind
import PyProof.Rows.SetFrom
import PyProof.SetRoads
import PyProof.Rows.SortShell
import PyProof.ListMulRoad
import PyProof.ListMulAny
import PyProof.FactsAll.tuple
import PyProof.RulesAssignMore
import PyProof.ZipIter
import PyProof.TupleIter
import PyProof.EnumFor
import PyProof.EnumMake
import PyProof.FitsBits
import KE.KDictList
import PyProof.Rows.SortShellK
import PyProof.TupleKey
import KE.KItemsList
import KE.KSortTup
import PyProof.Rows.ListMulR
import PyProof.FactsAll.list_2
import PyProof.FactsAll.list_4
import PyProof.Rows.BitMore
import PyProof.WalkInts
import PyProof.ListIndex
import PyProof.ExcArgsOwn
import PyProof.ExcAttrAll.ValueError
import PyProof.ExcBaseAll.ValueError
import PyProof.P3Eq
import PyProof.P3In
import PyProof.Rows.FinIter
import PyProof.StrLawsTight
import KE.IntTextText
import PySem.Challenge.RW_farcords_k80_sheets_and_rows_there_and_b
def PySem.W.Fast.tw3143431367070050904:Unit:=()
def PySem.W.Fast.tw4350169238314941368:Unit:=()
def PySem.W.Fast.tw1255827916801727448:Unit:=()
def PySem.W.Fast.tw17321981415304045112:Unit:=()
def PySem.W.Fast.tw5118961043800707736:Unit:=()
def PySem.W.Fast.tw18350757154583730601:Unit:=()
def PySem.W.Fast.tw18139352431637533642:Unit:=()
def PySem.W.Fast.tw603213047974025354:Unit:=()
def PySem.W.Fast.tw9659052258958038474:Unit:=()
def PySem.W.Fast.tw18427241064509176266:Unit:=()
def PySem.W.Fast.tw7090366263843156618:Unit:=()
def PySem.W.Fast.tw15769177965527635338:Unit:=()
def PySem.W.Fast.tw10964501139567510538:Unit:=()
def PySem.W.Fast.tw11416119507379153755:Unit:=()
def PySem.W.Fast.tw8683757273494364763:Unit:=()
def PySem.W.Fast.tw11670290561745300667:Unit:=()
def PySem.W.Fast.tw15835856708551639515:Unit:=()
def PySem.W.Fast.tw6313293879970717819:Unit:=()
def PySem.W.Fast.tw13895017599304397883:Unit:=()
def PySem.W.Fast.tw13302526867024738043:Unit:=()
def PySem.W.Fast.tw10077863290506852571:Unit:=()
def PySem.W.Fast.tw170913862250488892:Unit:=()
def PySem.W.Fast.tw13068296845289016444:Unit:=()
def PySem.W.Fast.tw2084554276597343580:Unit:=()
def PySem.W.Fast.tw17960698396177868508:Unit:=()
def PySem.W.Fast.tw1982135717856026940:Unit:=()
def PySem.W.Fast.tw2848417652118304157:Unit:=()
def PySem.W.Fast.tw10834864494226594205:Unit:=()
def PySem.W.Fast.tw6839969481537607645:Unit:=()
def PySem.W.Fast.tw18214880650870167261:Unit:=()
def PySem.W.Fast.tw17473353830172306670:Unit:=()
def PySem.W.Fast.tw1469681957321484174:Unit:=()
def PySem.W.Fast.tw13642044482723938382:Unit:=()
def PySem.W.Fast.tw16501645237626417230:Unit:=()
def PySem.W.Fast.tw3630765303071586863:Unit:=()
def PySem.W.Fast.tw6847490403183686863:Unit:=()
def PySem.W.Fast.tw5741515894306529455:Unit:=()
def PySem.W.Fast.tw4899978298178302927:Unit:=()
def PySem.W.Fast.tw17480161645679340591:Unit:=()
def PySem.W.Fast.tw12195558490409051344:Unit:=()
def PySem.W.Fast.tw8732349394882758064:Unit:=()
def PySem.W.Fast.tw13362462207286314928:Unit:=()
def PySem.W.Fast.tw13475953951063107504:Unit:=()
def PySem.W.Fast.tw2545982386801154576:Unit:=()
def PySem.W.Fast.tw15099318096112648321:Unit:=()
def PySem.W.Fast.tw7619466307966107425:Unit:=()
def PySem.W.Fast.tw14122751845255715137:Unit:=()
def PySem.W.Fast.tw12932595838756744065:Unit:=()
def PySem.W.Fast.tw15395702273389561665:Unit:=()
def PySem.W.Fast.tw17539930830271687009:Unit:=()
def PySem.W.Fast.tw4218160489143088481:Unit:=()
def PySem.W.Fast.tw8855441613421393281:Unit:=()
def PySem.W.Fast.tw10010699438263843586:Unit:=()
def PySem.W.Fast.tw14565455840667973922:Unit:=()
def PySem.W.Fast.tw11252574990262785058:Unit:=()
def PySem.W.Fast.tw6980048263988126722:Unit:=()
def PySem.W.Fast.tw2808691824390927266:Unit:=()
def PySem.W.Fast.tw14260002135412981875:Unit:=()
def PySem.W.Fast.tw15172878090892450547:Unit:=()
def PySem.W.Fast.tw3577146075508381171:Unit:=()
def PySem.W.Fast.tw4761673962321575123:Unit:=()
def PySem.W.Fast.tw6583501962894503123:Unit:=()
def PySem.W.Fast.tw6480898570566248916:Unit:=()
def PySem.W.Fast.tw16677913258625113140:Unit:=()
def PySem.W.Fast.tw11228131022700869684:Unit:=()
def PySem.W.Fast.tw17915495300979811988:Unit:=()
def PySem.W.Fast.tw17476562584293604532:Unit:=()
def PySem.W.Fast.tw13053505475460637012:Unit:=()
def PySem.W.Fast.tw14409209404739690517:Unit:=()
def PySem.W.Fast.tw7806479863731049301:Unit:=()
def PySem.W.Fast.tw1973567625468971829:Unit:=()
def PySem.W.Fast.tw10484500231735790389:Unit:=()
def PySem.W.Fast.tw5077300309233109621:Unit:=()
def PySem.W.Fast.tw5977720610339219957:Unit:=()
def PySem.W.Fast.tw3139518401410357685:Unit:=()
def PySem.W.Fast.tw6777710569898897190:Unit:=()
def PySem.W.Fast.tw17207019313125856006:Unit:=()
def PySem.W.Fast.tw4922834124234112102:Unit:=()
def PySem.W.Fast.tw9157321730731477095:Unit:=()
def PySem.W.Fast.tw16497866789630253159:Unit:=()
def PySem.W.Fast.tw10397510400547679495:Unit:=()
def PySem.W.Fast.tw3903489049635044423:Unit:=()
def PySem.W.Fast.tw7830652804314161767:Unit:=()
def PySem.W.Fast.tw15180087316137862120:Unit:=()
def PySem.W.Fast.tw7995667886401591816:Unit:=()
def PySem.W.Fast.tw3211815122106558088:Unit:=()
def PySem.W.Fast.tw2598779124396577416:Unit:=()
def PySem.W.Fast.tw8725388842102511240:Unit:=()
def PySem.W.Fast.tw1262822920705570152:Unit:=()
def PySem.W.Fast.tw16921151036478831609:Unit:=()
def PySem.W.Fast.tw5761922458712443193:Unit:=()
def PySem.W.Fast.tw7259713112351338650:Unit:=()
def PySem.W.Fast.tw3597336677112172442:Unit:=()
def PySem.W.Fast.tw13869566776686786074:Unit:=()
def PySem.W.Fast.tw5639851723704656890:Unit:=()
def PySem.W.Fast.tw10835644362470818923:Unit:=()
def PySem.W.Fast.tw17632314535182565483:Unit:=()
def PySem.W.Fast.tw10963799657532365675:Unit:=()
def PySem.W.Fast.tw4129726916448938795:Unit:=()
def PySem.W.Fast.tw13727671006718875723:Unit:=()
def PySem.W.Fast.tw1511505114252541483:Unit:=()
def PySem.W.Fast.tw4740359562056480587:Unit:=()
def PySem.W.Fast.tw12480472112018745836:Unit:=()
def PySem.W.Fast.tw705887400245754892:Unit:=()
def PySem.W.Fast.tw3769059198034434092:Unit:=()
def PySem.W.Fast.tw13076025447064199916:Unit:=()
def PySem.W.Fast.tw13848231615778283020:Unit:=()
def PySem.W.Fast.tw13722273660607529516:Unit:=()
def PySem.W.Fast.tw18431587564705991725:Unit:=()
def PySem.W.Fast.tw16135564080529023693:Unit:=()
def PySem.W.Fast.tw6986414591010541261:Unit:=()
def PySem.W.Fast.tw14165448440198931629:Unit:=()
def PySem.W.Fast.tw9210539808071177037:Unit:=()
def PySem.W.Fast.tw6501276039074836045:Unit:=()
def PySem.W.Fast.tw16973470534614235821:Unit:=()
def PySem.W.Fast.tw691816374415164781:Unit:=()
def PySem.W.Fast.tw6290478059831307757:Unit:=()
def PySem.W.Fast.tw5078575965263583038:Unit:=()
def PySem.W.Fast.tw2149987330246737567:Unit:=()
def PySem.W.Fast.tw12419502331227142815:Unit:=()
def PySem.W.Fast.tw13684418374158396991:Unit:=()
def PySem.W.Fast.tw9749701895443291711:Unit:=()
def PySem.W.Fast.tw1664997844980517247:Unit:=()
def PySem.W.Fast.tw4286608695504084447:Unit:=()
def PySem.W.Fast.tw2415025612879389791:Unit:=()
def PySem.W.Fast.tw6977597056560668351:Unit:=()
def PySem.W.Fast.tw18233021279116814847:Unit:=()
def PySem.W.Fast.tw6240264344111530431:Unit:=()
def PySem.W.Fast.tw10736617411022162688:Unit:=()
def PySem.W.Fast.tw8941636360126006240:Unit:=()
def PySem.W.Fast.tw668279143043994336:Unit:=()
def PySem.W.Fast.tw10073056679742127360:Unit:=()
def PySem.W.Fast.tw4779410899194138688:Unit:=()
def PySem.W.Fast.tw3724208250835029073:Unit:=()
def PySem.W.Fast.tw8954724161591239761:Unit:=()
def PySem.W.Fast.tw5620908580248694801:Unit:=()
def PySem.W.Fast.tw263395061050990321:Unit:=()
def PySem.W.Fast.tw9874435879445295698:Unit:=()
def PySem.W.Fast.tw3939555137528873234:Unit:=()
def PySem.W.Fast.tw13457802044013630002:Unit:=()
def PySem.W.Fast.tw15210363699313882290:Unit:=()
def PySem.W.Fast.tw8822769543776782450:Unit:=()
def PySem.W.Fast.tw4494282772012853138:Unit:=()
def PySem.W.Fast.tw16923987796849413859:Unit:=()
def PySem.W.Fast.tw3035587788499043683:Unit:=()
def PySem.W.Fast.tw11645040943471702051:Unit:=()
def PySem.W.Fast.tw449102802546540547:Unit:=()
def PySem.W.Fast.tw16627033336350539140:Unit:=()
def PySem.W.Fast.tw17708999938392965444:Unit:=()
def PySem.W.Fast.tw3536333406754324996:Unit:=()
def PySem.W.Fast.tw5820420228659066948:Unit:=()
def PySem.W.Fast.tw5923801191388520100:Unit:=()
def PySem.W.Fast.tw2216828333834588004:Unit:=()
def PySem.W.Fast.tw17666356819323658724:Unit:=()
def PySem.W.Fast.tw13519317032844259748:Unit:=()
def PySem.W.Fast.tw11514563711635283588:Unit:=()
def PySem.W.Fast.tw13852913852114858789:Unit:=()
def PySem.W.Fast.tw9970037148331541573:Unit:=()
def PySem.W.Fast.tw2623887197066880997:Unit:=()
def PySem.W.Fast.tw457556081227778565:Unit:=()
def PySem.W.Fast.tw7631021052390685797:Unit:=()
def PySem.W.Fast.tw11780740733279093750:Unit:=()
def PySem.W.Fast.tw15275242998557047638:Unit:=()
def PySem.W.Fast.tw17557509717739337622:Unit:=()
def PySem.W.Fast.tw13522848146958758486:Unit:=()
def PySem.W.Fast.tw10239773848788096502:Unit:=()
def PySem.W.Fast.tw16370681742666684662:Unit:=()
def PySem.W.Fast.tw6080032101621673846:Unit:=()
def PySem.W.Fast.tw6818404430677309302:Unit:=()
def PySem.W.Fast.tw2700175961261918614:Unit:=()
def PySem.W.Fast.tw5267782737180864215:Unit:=()
def PySem.W.Fast.tw5760453962135943895:Unit:=()
def PySem.W.Fast.tw1216825661857300599:Unit:=()
def PySem.W.Fast.tw11893796963674295031:Unit:=()
set_option Elab.async false
set_option linter.all false
set_option maxRecDepth 100000
namespace L2
open PySem PySem.Spec PyProof.Rows
abbrev Key:=Sum Int Str
def keyIs:Key→Value→Bool
 | .inl k,v => Value.isInt k v
 | .inr x,v => Value.isStrOf x v
def keyH (w:World):Key→Int
 | .inl k => hashInt k
 | .inr x => hashStr w x
theorem keyIs_shape:∀ {k:Key} {v:Value},keyIs k v=true→(∃ i t,k=Sum.inl i∧v=Value.int i t) ∨ (∃ x t,k=Sum.inr x∧v=Value.str x t)
 | .inl i,v,h => by
  obtain ⟨t,e⟩:=Value.isInt_shape (k:=i) (v:=v) h
  exact .inl ⟨i,t,rfl,e⟩
 | .inr x,v,h => by
  obtain ⟨t,e⟩:=Value.isStrOf_shape (x:=x) (v:=v) h
  exact .inr ⟨x,t,rfl,e⟩
theorem key_ll (a b:Int):decide ((Sum.inl a:Key)=Sum.inl b)=(a == b):=by
 by_cases e:a=b
 ·subst e; simp
 ·have h : ¬ (Sum.inl a:Key)=Sum.inl b:=fun q => e (Sum.inl.inj q)
  rw [decide_eq_false h]
  exact (beq_eq_false_iff_ne.mpr e).symm
theorem key_rr (a b:Str):decide ((Sum.inr a:Key)=Sum.inr b)=decide (a=b):=by
 by_cases e:a=b
 ·subst e; simp
 ·have h : ¬ (Sum.inr a:Key)=Sum.inr b:=fun q => e (Sum.inr.inj q)
  rw [decide_eq_false h,decide_eq_false e]
theorem key_lr (a:Int) (b:Str):decide ((Sum.inl a:Key)=Sum.inr b)=false:=decide_eq_false (fun q => nomatch q)
theorem key_rl (a:Str) (b:Int):decide ((Sum.inr a:Key)=Sum.inl b)=false:=decide_eq_false (fun q => nomatch q)
def mixKind (prog:Program) (w:World):PySem.KeyKind prog w Key where
 is:=keyIs
 hash:=keyH w
 inj:=fun v a b ha hb => by
  rcases keyIs_shape ha with ⟨i,t,rfl,rfl⟩ | ⟨x,t,rfl,rfl⟩
  ·rcases keyIs_shape hb with ⟨j,u,rfl,e⟩ | ⟨y,u,rfl,e⟩
   ·injection e with e1 _; rw [e1]
   ·exact nomatch e
  ·rcases keyIs_shape hb with ⟨j,u,rfl,e⟩ | ⟨y,u,rfl,e⟩
   ·exact nomatch e
   ·injection e with e1 _; rw [e1]
 byValue:=fun k v h => by
  rcases keyIs_shape h with ⟨i,t,rfl,rfl⟩ | ⟨x,t,rfl,rfl⟩ <;> rfl
 pyHash:=fun hv h => by
  rcases keyIs_shape hv with ⟨i,t,rfl,rfl⟩ | ⟨x,t,rfl,rfl⟩
  ·exact wpAny_pyHash_int h
  ·exact wpAny_pyHash_str h
 eqBool:=fun hu hv h => by
  rcases keyIs_shape hu with ⟨i,t,rfl,rfl⟩ | ⟨x,t,rfl,rfl⟩
  ·rcases keyIs_shape hv with ⟨j,u,rfl,rfl⟩ | ⟨y,u,rfl,rfl⟩
   ·rw [key_ll] at h; exact wpAny_eqBool_int h
   ·rw [key_lr] at h; exact SeqAt.EqAt.int_str i t y u _ _ _ _ h
  ·rcases keyIs_shape hv with ⟨j,u,rfl,rfl⟩ | ⟨y,u,rfl,rfl⟩
   ·rw [key_rl] at h; exact SeqAt.EqAt.str_int x t j u _ _ _ _ h
   ·rw [key_rr] at h; exact wpAny_eqBool_str h
 «strs»:=fun k x t v h => by
  rcases keyIs_shape h with ⟨i,u,rfl,e⟩ | ⟨y,u,rfl,e⟩
  ·exact nomatch e
  ·injection e with e1 _
   subst e1
   cases v <;> rfl
end L2
namespace L2
open PySem PySem.Spec PyProof.Rows
inductive V where
 | non | bl (b:Bool) | int (i:Int) | str (x:Str) | byt (b:Array UInt8) | flt (b:UInt64) | ref (a:Addr) | ty (n:String)
 deriving DecidableEq
def RelV:V→Value→Prop
 | .non,u => u=Value.none
 | .bl b,u => u=Value.bool b
 | .int i,u => ∃ t,u=Value.int i t
 | .str x,u => ∃ t,u=Value.str x t
 | .byt b,u => ∃ t,u=Value.bytes b t
 | .flt b,u => ∃ t,u=Value.float b t
 | .ref a,u => u=Value.ref a
 | .ty n,u => u=Value.type n
abbrev Vals:List V→List Value→Prop:=Paired RelV
theorem Vals.length {xs:List V} {us:List Value} (r:Vals xs us):xs.length=us.length:=Paired.length r
theorem Vals.get:∀ {xs:List V} {us:List Value} {i:Nat} {x:V},Vals xs us→xs[i]? = some x→∃ u,us[i]? = some u∧RelV x u
 | _,_,_,_,.nil,e => by simp at e
 | _,_,0,_,.cons r _,e => by simp at e; subst e; exact ⟨_,rfl,r⟩
 | _,_,i + 1,x,.cons _ t,e => by
  obtain ⟨u,h1,h2⟩:=Vals.get (i:=i) (x:=x) t (by simpa using e)
  exact ⟨u,by simpa using h1,h2⟩
theorem Vals.set {x:V} {u:Value} (r:RelV x u):∀ {xs:List V} {us:List Value} (i:Nat),Vals xs us→Vals (xs.set i x) (us.set i u)
 | _,_,_,.nil => .nil
 | _,_,0,.cons _ t => .cons r t
 | _,_,i + 1,.cons q t => .cons q (Vals.set r i t)
theorem Vals.append:∀ {xs ys:List V} {us ws:List Value},Vals xs us→Vals ys ws→Vals (xs ++ ys) (us ++ ws)
 | _,_,_,_,.nil,s => s
 | _,_,_,_,.cons r t,s => .cons r (Vals.append t s)
theorem Vals.take:∀ {xs:List V} {us:List Value} (n:Nat),Vals xs us→Vals (xs.take n) (us.take n)
 | _,_,0,_ => .nil
 | _,_,_ + 1,.nil => .nil
 | _,_,n + 1,.cons r t => .cons r (Vals.take n t)
theorem Vals.drop:∀ {xs:List V} {us:List Value} (n:Nat),Vals xs us→Vals (xs.drop n) (us.drop n)
 | _,_,0,r => r
 | _,_,_ + 1,.nil => .nil
 | _,_,n + 1,.cons _ t => Vals.drop n t
def RelO:Option V→Option Value→Prop
 | some v,some u => RelV v u
 | none,none => True
 | _,_ => False
def KV {κ:Type} : List (κ × V)→List (κ × Value)→Prop:=Paired fun (p:κ × V) (q:κ × Value) => p.1=q.1∧RelV p.2 q.2
def kV:Key→V
 | .inl i => .int i
 | .inr x => .str x
inductive HO where
 | lst (xs:List V)
 | tup (xs:List V)
 | dK (kvs:List (Key × V)) | dT (kvs:List (List Key × V))
 | set (S:Int→Bool) (n:Nat)
 | ins (C dx:Addr) (fs:List (Str × V))
 | own (x:Addr)
 | xd (fs:List (Str × V))
 | met (f x:Addr)
 | rng (lo hi:Int)
 | frz (o:Obj) (u:HO)
 | tbl (ps:Array Value)
 | ext (φ:Heap→Prop)
abbrev Hp:=Addr→Option HO
def upd (H:Hp) (a:Addr) (o:HO):Hp:=fun b => if b=a then some o else H b
theorem upd_same {H:Hp} {a:Addr} {o:HO} : upd H a o a=some o:=by unfold upd; rw [if_pos rfl]
theorem upd_ne {H:Hp} {a b:Addr} {o:HO} (h:b ≠ a):upd H a o b=H b:=by unfold upd; rw [if_neg h]
theorem ne_of_none {H:Hp} {a b:Addr} {o:HO} (h:H a=some o) (h' : H b=none):a ≠ b:=by
 intro e; subst e; rw [h] at h'; cases h'
section
variable (P:Program) (w:World)
def ObjOk (H:Hp) (h:Heap) (a:Addr):HO→Prop
 | .lst xs => xs.length ≤ sizeLine∧∃ (its:List Value) (n:Nat),Vals xs its∧h.get? a=some { cls:=.type "list",data:=.seq its.toArray n }
 | .tup xs => xs.length ≤ sizeLine∧∃ its:List Value,Vals xs its∧IsTup h a its.toArray
 | .dK kvs => kvs.length ≤ sizeLine∧(a == sysModules)=false∧∃ vs,KV kvs vs∧h.DictOf (mixKind P w) a vs
 | .dT kvs => kvs.length ≤ sizeLine∧(a == sysModules)=false∧∃ xs:List (List Key × Addr × Value),
   Paired (fun (p:List Key × V) (q:List Key × Addr × Value) => p.1=q.1∧H q.2.1=some (.tup (p.1.map kV))∧RelV p.2 q.2.2) kvs xs ∧
   ∃ o es ep,h.get? a=some o∧o.ExactDict∧o.data = .dict es ep∧es.toList=xs.map (entryOfKey (tupleKind (mixKind P w)))∧(xs.map (·.1)).Nodup
 | .set S n => h.SetOf (intKind P w) a S n
 | .ins C dx fs => H dx=some (.own a)∧fs.length ≤ 1000∧dx ≠ a∧h.get? a=some (PySem.W.instObj C dx) ∧
   ∃ mA,h.Ns1 dx mA∧(∀ f,RelO (fs.lookup f) (mA f))∧PySem.Within mA (fs.map (·.1))
 | .own _ => ∃ o,h.get? a=some o
 | .xd fs => ∃ mA,h.Ns1 a mA∧∀ f,RelO (fs.lookup f) (mA f)
 | .rng lo hi => ∃ t u v,h.get? a=some { cls:=.type "range",data:=.fields #[.int lo t,.int hi u,.int 1 v] }
 | .frz o u => h.get? a=some o∧ObjOk H h a u
 | .tbl ps => h.get? a=some { cls:=.none,data:=.fields ps }
 | .met f x => h.get? a=some (PySem.W.methodObj (.ref f) (.ref x))
 | .ext φ => φ h∧(∃ o,h.get? a=some o)∧∀ h1 h2:Heap,φ h1→(∀ o,h1.get? a=some o→h2.get? a=some o)→φ h2
def HOk (H:Hp) (h:Heap):Prop:=∀ a o,H a=some o→ObjOk P w H h a o
end
section
variable {P:Program} {w:World} {H H' : Hp} {h h' : Heap} {a:Addr} {o:HO}
theorem ObjOk.lt (x:ObjOk P w H h a o):a < h.objs.size:=by
 cases o with
 | lst xs => obtain ⟨_,_,_,_,e⟩:=x; exact Heap.lt_size e
 | tup xs => obtain ⟨_,_,_,p⟩:=x; exact p.lt
 | dK kvs => obtain ⟨_,_,_,_,o,_,_,e,_⟩:=x; exact Heap.lt_size e
 | dT kvs => obtain ⟨_,_,_,_,o,_,_,e,_⟩:=x; exact Heap.lt_size e
 | set S n => obtain ⟨o,_,_,_,e,_⟩:=x; exact Heap.lt_size e
 | ins C dx fs => obtain ⟨_,_,_,e,_⟩:=x; exact Heap.lt_size e
 | own y => obtain ⟨_,e⟩:=x; exact Heap.lt_size e
 | xd fs => obtain ⟨_,⟨_,_,_,e,_⟩,_⟩:=x; exact Heap.lt_size e
 | rng lo hi => obtain ⟨_,_,_,e⟩:=x; exact Heap.lt_size e
 | frz ob u => obtain ⟨e,_⟩:=x; exact Heap.lt_size e
 | tbl ps => exact Heap.lt_size (show h.get? a=some _ from x)
 | met f y => exact Heap.lt_size (show h.get? a=some _ from x)
 | ext φ => obtain ⟨_,⟨_,e⟩,_⟩:=x; exact Heap.lt_size e
theorem Paired.mapP {α β:Type} {F G:α→β→Prop} : ∀ {l₁:List α} {l₂:List β},Paired F l₁ l₂→(∀ a b,F a b→G a b)→Paired G l₁ l₂
 | _,_,.nil,_ => .nil
 | _,_,.cons r t,f => .cons (f _ _ r) (Paired.mapP t f)
theorem ObjOk.stay (x:ObjOk P w H h a o) (k:∀ b u,(b=a ∨ H b=some (.own a))→h.get? b=some u→h'.get? b=some u)
  (ho:∀ b,H b=some (.own a)→H' b=some (.own a)) (ht:∀ b xs,H b=some (.tup xs)→H' b=some (.tup xs)):ObjOk P w H' h' a o:=by
 induction o with
 | lst xs => obtain ⟨z,its,n,r,e⟩:=x; exact ⟨z,its,n,r,k _ _ (.inl rfl) e⟩
 | tup xs => obtain ⟨z,its,r,ob,e,c⟩:=x; exact ⟨z,its,r,ob,k _ _ (.inl rfl) e,c⟩
 | dK kvs => obtain ⟨z,y,vs,r,ob,es,ep,e,c⟩:=x; exact ⟨z,y,vs,r,ob,es,ep,k _ _ (.inl rfl) e,c⟩
 | dT kvs =>
  obtain ⟨z,y,xs,r,ob,es,ep,e,c⟩:=x
  exact ⟨z,y,xs,Paired.mapP r fun p q z => ⟨z.1,ht _ _ z.2.1,z.2.2⟩,ob,es,ep,k _ _ (.inl rfl) e,c⟩
 | set S n => obtain ⟨ob,es,ep,t,e,c⟩:=x; exact ⟨ob,es,ep,t,k _ _ (.inl rfl) e,c⟩
 | ins C dx fs =>
  obtain ⟨d,z,ne,e,mA,⟨od,es,ep,e2,c⟩,r⟩:=x
  exact ⟨ho _ d,z,ne,k _ _ (.inl rfl) e,mA,⟨od,es,ep,k _ _ (.inr d) e2,c⟩,r⟩
 | own y => obtain ⟨ob,e⟩:=x; exact ⟨ob,k _ _ (.inl rfl) e⟩
 | xd fs => obtain ⟨mA,⟨od,es,ep,e,c⟩,r⟩:=x; exact ⟨mA,⟨od,es,ep,k _ _ (.inl rfl) e,c⟩,r⟩
 | rng lo hi => obtain ⟨t,u,v,e⟩:=x; exact ⟨t,u,v,k _ _ (.inl rfl) e⟩
 | frz ob u ih => obtain ⟨e,q⟩:=x; exact ⟨k _ _ (.inl rfl) e,ih q⟩
 | tbl ps =>
  have e:h.get? a=some { cls:=.none,data:=.fields ps }:=x
  show h'.get? a=some { cls:=.none,data:=.fields ps }
  exact k a _ (.inl rfl) e
 | met f y =>
  have e:h.get? a=some (PySem.W.methodObj (.ref f) (.ref y)):=x
  show h'.get? a=some (PySem.W.methodObj (.ref f) (.ref y))
  exact k a _ (.inl rfl) e
 | ext φ => obtain ⟨p,⟨o,e⟩,st⟩:=x; exact ⟨st _ _ p fun o q => k _ _ (.inl rfl) q,⟨o,k _ _ (.inl rfl) e⟩,st⟩
theorem HOk.lt (x:HOk P w H h) (e:H a=some o):a < h.objs.size:=(x a o e).lt
theorem HOk.fresh (x:HOk P w H h) (e:h.objs.size ≤ a):H a=none:=by
 cases q:H a with
 | none => rfl
 | some u => exact absurd (Nat.lt_of_lt_of_le (x.lt q) e) (Nat.lt_irrefl _)
theorem HOk.kept (x:HOk P w H h) (k:∀ b u,h.get? b=some u→h'.get? b=some u):HOk P w H h':=fun a o e =>
 (x a o e).stay (fun b u _ q => k b u q) (fun _ q => q) fun _ _ q => q
theorem HOk.laid (x:HOk P w H h) (k:∀ b u,h.get? b=some u→h'.get? b=some u) (hp:h.objs.size ≤ a) (new:ObjOk P w (upd H a o) h' a o):HOk P w (upd H a o) h':=fun b u e => by
 have hn:=x.fresh hp
 by_cases hb:b=a
 ·subst hb; rw [upd_same] at e; cases e; exact new
 ·rw [upd_ne hb] at e
  exact (x b u e).stay (fun c v _ q => k c v q) (fun c q => by rw [upd_ne (ne_of_none q hn)]; exact q) fun c xs q => by rw [upd_ne (ne_of_none q hn)]; exact q
end
def Rd (H:Hp) (a:Addr) (u:HO):Prop:=H a=some u ∨ ∃ o,H a=some (.frz o u)
theorem Rd.ok {P:Program} {w:World} {H:Hp} {h:Heap} {a:Addr} {u:HO} (r:Rd H a u) (x:HOk P w H h):ObjOk P w H h a u:=by
 rcases r with r | ⟨o,r⟩
 ·exact x a u r
 ·obtain ⟨_,q⟩:=x a _ r
  exact q
def Mut:Option HO→Prop
 | some (.lst _) => True
 | some (.dK _) => True
 | some (.dT _) => True
 | some (.set _ _) => True
 | some (.ins _ _ _) => True
 | some (.ext _) => True
 | _ => False
section
variable {P:Program} {w:World} {H:Hp} {h h' : Heap} {x e:Addr} {o' : HO}
theorem HOk.write (ok:HOk P w H h) (mu:Mut (H x)) (he:e=x ∨ H e=some (.own x)) (k:∀ b u,b ≠ e→h.get? b=some u→h'.get? b=some u) (heo:∃ u,h'.get? e=some u)
  (new:ObjOk P w (upd H x o') h' x o'):HOk P w (upd H x o') h':=fun b u q => by
 have nown:∀ c y,H c=some (.own y)→c ≠ x:=fun c y r z => by subst z; rw [r] at mu; exact mu
 have ntup:∀ c xs,H c=some (.tup xs)→c ≠ x:=fun c xs r z => by subst z; rw [r] at mu; exact mu
 by_cases hb:b=x
 ·subst hb; rw [upd_same] at q; cases q; exact new
 ·rw [upd_ne hb] at q
  by_cases hbe:b=e
  ·have q' : H b=some (.own x):=by
    rcases he with z | z
    ·exact absurd (hbe.trans z) hb
    ·rw [hbe]; exact z
   rw [q] at q'; cases q'
   obtain ⟨v,hv⟩:=heo
   exact ⟨v,by rw [hbe]; exact hv⟩
  ·refine (ok b u q).stay (fun c v hc r => k c v ?_ r) (fun c r => by rw [upd_ne (nown c b r)]; exact r) fun c xs r => by rw [upd_ne (ntup c xs r)]; exact r
   rcases hc with rfl | hc
   ·exact hbe
   ·rintro rfl
    rcases he with z | z
    ·exact nown c b hc z
    ·rw [hc] at z; cases z; exact hb rfl
end
structure Un (fs ex:List Addr) (H H' : Hp) (h h' : Heap):Prop where
 keep:∀ b o,h.get? b=some o→H b=none→b ∉ fs→b ∉ ex→h'.get? b=some o
 slot:∀ b o,h.get? b=some o→H b=none→b ∈ fs→b ∉ ex→∃ sl,h'.get? b=some { o with slots:=sl }
 free:∀ b o,h.get? b=some o→H b=none→b ∉ ex→H' b=none
 there:∀ b o,h.get? b=some o→b ∉ ex→∃ o',h'.get? b=some o'
 tups:∀ b xs,H b=some (.tup xs)→H' b=some (.tup xs)
 frzs:∀ b o u,H b=some (.frz o u)→H' b=some (.frz o u)
 tbls:∀ b ps,H b=some (.tbl ps)→∃ more,H' b=some (.tbl (ps ++ more))
section
variable {fs fs' ex ex' : List Addr} {H H1 H2:Hp} {h h1 h2 h' : Heap} {a x e:Addr} {o:HO}
theorem Un.any (u:Un fs ex H H1 h h1) {b:Addr} {ob:Obj} (q:h.get? b=some ob) (n:H b=none) (hx:b ∉ ex):∃ sl,h1.get? b=some { ob with slots:=sl }:=by
 by_cases hb:b ∈ fs
 ·exact u.slot b ob q n hb hx
 ·exact ⟨ob.slots,u.keep b ob q n hb hx⟩
theorem Un.trans (a:Un fs ex H H1 h h1) (b:Un fs ex H1 H2 h1 h2):Un fs ex H H2 h h2 where
 keep:=fun c ob q n hc hx => b.keep c ob (a.keep c ob q n hc hx) (a.free c ob q n hx) hc hx
 slot:=fun c ob q n hc hx => by
  obtain ⟨sl,e1⟩:=a.slot c ob q n hc hx
  obtain ⟨sl',e2⟩:=b.slot c _ e1 (a.free c ob q n hx) hc hx
  exact ⟨sl',e2⟩
 free:=fun c ob q n hx => by
  obtain ⟨o',e1⟩:=a.there c ob q hx
  exact b.free c o' e1 (a.free c ob q n hx) hx
 there:=fun c ob q hx => by
  obtain ⟨o',e1⟩:=a.there c ob q hx
  exact b.there c o' e1 hx
 tups:=fun c xs q => b.tups c xs (a.tups c xs q)
 frzs:=fun c ob xs q => b.frzs c ob xs (a.frzs c ob xs q)
 tbls:=fun c ps q => by
  obtain ⟨m1,e1⟩:=a.tbls c ps q
  obtain ⟨m2,e2⟩:=b.tbls c _ e1
  exact ⟨m1 ++ m2,by rw [e2,Array.append_assoc]⟩
theorem Un.kept (k:∀ b u,h.get? b=some u→h'.get? b=some u):Un fs ex H H h h' :=
 ⟨fun b ob q _ _ _ => k b ob q,fun b ob q _ _ _ => ⟨ob.slots,k b ob q⟩,fun _ _ _ n _ => n,fun b ob q _ => ⟨ob,k b ob q⟩,fun _ _ q => q,fun _ _ _ q => q,fun _ ps q => ⟨#[],by rw [q]; simp⟩⟩
theorem Un.refl:Un fs ex H H h h:=Un.kept fun _ _ q => q
theorem Un.laid (k:∀ b u,h.get? b=some u→h'.get? b=some u) (hp:h.objs.size ≤ a) (hn:H a=none):Un fs ex H (upd H a o) h h' where
 keep:=fun b u q _ _ _ => k b u q
 slot:=fun b u q _ _ _ => ⟨u.slots,k b u q⟩
 free:=fun b u q n _ => by rw [upd_ne (Nat.ne_of_lt (Nat.lt_of_lt_of_le (Heap.lt_size q) hp))]; exact n
 there:=fun b u q _ => ⟨u,k b u q⟩
 tups:=fun b xs q => by rw [upd_ne (ne_of_none q hn)]; exact q
 frzs:=fun b u xs q => by rw [upd_ne (ne_of_none q hn)]; exact q
 tbls:=fun b ps q => ⟨#[],by rw [upd_ne (ne_of_none q hn),q]; simp⟩
theorem Un.write (mu:Mut (H x)) (he:e=x ∨ H e=some (.own x)) (k:∀ b u,b ≠ e→h.get? b=some u→h'.get? b=some u) (heo:∃ u,h'.get? e=some u):Un fs ex H (upd H x o) h h':=by
 have hx:∀ b,H b=none→b ≠ x:=fun b n z => by subst z; rw [n] at mu; exact mu
 have hb:∀ b,H b=none→b ≠ e:=fun b n z => by
  subst z
  rcases he with r | r
  ·exact hx b n r
  ·rw [n] at r; cases r
 have hm:∀ b u,H b=some u→¬ Mut (some u)→b ≠ x:=fun b u q nm z => by subst z; rw [q] at mu; exact nm mu
 refine ⟨fun b u q n _ _ => k b u (hb b n) q,fun b u q n _ _ => ⟨u.slots,k b u (hb b n) q⟩,fun b u q n _ => by rw [upd_ne (hx b n)]; exact n,fun b u q _ => ?_,
  fun b xs q => by rw [upd_ne (hm b _ q fun z => z)]; exact q,fun b u xs q => by rw [upd_ne (hm b _ q fun z => z)]; exact q,fun b ps q => ⟨#[],by rw [upd_ne (hm b _ q fun z => z),q]; simp⟩⟩
 by_cases hbe:b=e
 ·subst hbe; exact heo
 ·exact ⟨u,k b u hbe q⟩
theorem Un.mono (u:Un fs ex H H1 h h1) (hs:∀ b ∈ fs,b ∈ fs') (hx:∀ b ∈ ex,b ∈ ex'):Un fs' ex' H H1 h h1 :=
 ⟨fun b ob q n hb he => u.keep b ob q n (fun z => hb (hs b z)) fun z => he (hx b z),fun _ _ q n _ he => u.any q n fun z => he (hx _ z),fun b ob q n he => u.free b ob q n fun z => he (hx b z),fun b ob q he => u.there b ob q fun z => he (hx b z),u.tups,u.frzs,u.tbls⟩
end
def trk (h:Heap) (H:Hp):List Addr:=(List.range h.objs.size).filter fun a => (H a).isSome
def hidT (h:Heap) (H:Hp):Heap:=PySem.W.hideAll h (trk h H)
theorem hidT_size (h:Heap) (H:Hp):(hidT h H).objs.size=h.objs.size:=PySem.W.hideAll_size _ _
theorem hidT_get {h:Heap} {H:Hp} {b:Addr} {o:Obj} (e:h.get? b=some o) (n:H b=none):(hidT h H).get? b=some o :=
 PySem.W.hideAll_get _ e fun hm => by
  have q:(H b).isSome=true:=(List.mem_filter.mp hm).2
  rw [n] at q; simp at q
theorem of_hidT {h:Heap} {H:Hp} {b:Addr} {o:Obj} (e:(hidT h H).get? b=some o):h.get? b=some o∧H b=none:=by
 have e' : h.get? b=some o:=PySem.W.of_hideAll (trk h H) e
 refine ⟨e',?_⟩
 cases q:H b with
 | none => rfl
 | some x =>
  have hm:b ∈ trk h H:=List.mem_filter.mpr ⟨List.mem_range.mpr (Heap.lt_size e'),by simp [q]⟩
  have z:(hidT h H).get? b=none:=PySem.W.hideAll_none (trk h H) hm
  rw [z] at e; cases e
def allNews (g h:Heap) (L:Addr):List (Addr × Obj):=(List.range h.objs.size).filterMap fun a => if a=L ∨ (g.get? a).isSome=true then none else (h.get? a).map fun o => (a,o)
def rest (g h:Heap) (L d:Addr):List (Addr × Obj):=(allNews g h L).filter fun p => decide (p.1 ≠ d)
end L2
namespace L2
open PySem PySem.Spec PyProof.Rows
structure Mod (K:PySem.W.Frag) (mg:Str→Option Value) (base:Heap):Prop where
 kin:K.In base
 glob:base.Ns mainGlobals mg
 blt:∃ mb,base.Ns builtinsNs mb∧∀ x:Str,x ≠ "__name__" → mb x=bootBuiltins x
 nolimit:base.NoLimit
structure Cx where
 prog:Program
 w:World
 K:PySem.W.Frag
 mg:Str→Option Value
 base:Heap
 A:Around
 N:List Str
 s₀:Shared
 H₀:Hp
 env:Env
 outer:List Env
 stack:List Env
 ex:List Addr
 fn:Str→Bool
 calm:Bool
 pn:List (Addr × Obj)
 xe:Value→Shared→Prop
def frs (l:List Env):List Addr:=l.filterMap (·.frame)
abbrev Cx.fs (X:Cx):List Addr:=frs X.outer
def Vis (sc:Scope) (x:Str):Prop:=sc.names.lookup x=some .local ∨ sc.names.lookup x=some .cell ∨ sc.names.lookup x=some .free
def Loc (sc:Scope) (x:Str):Prop:=sc.names.lookup x=some .local ∨ sc.names.lookup x=some .cell
def Look (env:Env) (h:Heap) (m:Str→Option Value) (x:Str) (u:Value):Prop :=
 (env.kindOf x=some .local∧m x=some u) ∨ ((env.kindOf x=some .cell ∨ env.kindOf x=some .free)∧∃ c,env.cells.lookup x=some c∧h.IsCell c (some u))
structure Cx.Ok (X:Cx):Prop where
 mod:Mod X.K X.mg X.base
 kind:X.env.scope.kind = .function
 glob:X.env.globals=mainGlobals
 blt:X.env.builtins=builtinsNs
 above:X.s₀.heap.objs.size ≤ X.env.locals
 inj:∀ x y c,X.env.cells.lookup x=some c→X.env.cells.lookup y=some c→x=y
 has:∀ x,(X.env.kindOf x=some .cell ∨ X.env.kindOf x=some .free)→∃ c,X.env.cells.lookup x=some c
 cab:∀ x c,X.fn x=true→X.env.cells.lookup x=some c→X.s₀.heap.objs.size ≤ c
 hd:X.calm=true→X.A.handled=none
 frames:X.A.frames=some X.stack
 stk:X.stack=X.outer ∨ (X.stack=X.env :: X.outer∧X.env.frame=some X.env.locals)
 exf:∀ b ∈ X.ex,b ≠ X.env.locals∧∀ x c,X.env.cells.lookup x=some c→c ≠ b
 bs:∀ b o,X.base.get? b=some o→X.s₀.heap.get? b=some o∧X.H₀ b=none
 bsz:X.base.objs.size ≤ X.s₀.heap.objs.size
 noex:∀ b o,X.base.get? b=some o→b ∉ X.ex
 exfs:∀ b ∈ X.ex,b ∉ X.fs
 funs:X.s₀.heap.FunFrames X.base X.outer
 frf:∀ b ∈ X.fs,X.H₀ b=none
structure Inv (X:Cx) (pins:List (Addr × Obj)) (σ:List (Option V)) (H:Hp) (s:Shared):Prop where
 ok:X.Ok
 os:s.os=X.s₀.os
 bare:AllBare s.gens
 base:Un X.fs X.ex X.H₀ H X.s₀.heap s.heap
 loc:∃ m,s.heap.Ns X.env.locals m∧∀ (i:Nat) (x:Str) (v:V),X.N[i]? = some x→σ[i]? = some (some v)→Vis X.env.scope x→∃ u,RelV v u∧Look X.env s.heap m x u
 cell:∀ x c,X.env.cells.lookup x=some c→∃ v,s.heap.IsCell c v
 free:H X.env.locals=none
 freeC:∀ x c,X.env.cells.lookup x=some c→H c=none
 pin:∀ p ∈ X.pn ++ pins,s.heap.get? p.1=some p.2∧H p.1=none∧p.1 ≠ X.env.locals∧p.1 ∉ X.fs∧∀ v,p.2.data ≠ .cell v
 hok:HOk X.prog X.w H s.heap
 len:σ.length=X.N.length
section
variable {X:Cx} {pins:List (Addr × Obj)} {σ:List (Option V)} {H H' : Hp} {s:Shared} {h' : Heap}
theorem Cx.Ok.nofr (ok:X.Ok) {b:Addr} {o:Obj} (e:X.base.get? b=some o):b ∉ X.fs:=fun hb => by
 have:=(ok.funs.mem hb).1
 rw [e] at this; cases this
theorem Inv.bs (I:Inv X pins σ H s):∀ b o,X.base.get? b=some o→s.heap.get? b=some o∧H b=none:=fun b o e =>
 ⟨I.base.keep b o (I.ok.bs b o e).1 (I.ok.bs b o e).2 (I.ok.nofr e) (I.ok.noex b o e),I.base.free b o (I.ok.bs b o e).1 (I.ok.bs b o e).2 (I.ok.noex b o e)⟩
theorem Inv.bk (I:Inv X pins σ H s):∀ b o,X.base.get? b=some o→s.heap.get? b=some o:=fun b o e => (I.bs b o e).1
theorem Inv.mod (I:Inv X pins σ H s):Mod X.K X.mg X.base:=I.ok.mod
theorem Inv.kIn (I:Inv X pins σ H s):X.K.In s.heap:=I.ok.mod.kin.keeps I.bk
theorem Inv.lt (I:Inv X pins σ H s):X.env.locals < s.heap.objs.size:=let ⟨_,hn,_⟩:=I.loc; hn.lt
theorem Inv.sz (I:Inv X pins σ H s):X.s₀.heap.objs.size ≤ s.heap.objs.size:=Nat.le_trans I.ok.above (Nat.le_of_lt I.lt)
theorem Inv.nofs (I:Inv X pins σ H s) {a:Addr} (h:s.heap.objs.size ≤ a):a ∉ X.fs:=fun hb => by
 obtain ⟨_,o,ho,_⟩:=I.ok.funs.mem hb
 exact absurd (Nat.lt_of_lt_of_le (Heap.lt_size ho) (Nat.le_trans I.sz h)) (Nat.lt_irrefl _)
theorem Inv.cne (I:Inv X pins σ H s):∀ x c,X.env.cells.lookup x=some c→c ≠ X.env.locals:=fun x c e z => by
 obtain ⟨v,o,ho,hd⟩:=I.cell x c e
 obtain ⟨m,⟨o',es,ep,ho',hd',_⟩,_⟩:=I.loc
 rw [z,ho'] at ho; cases ho; rw [hd'] at hd; cases hd
theorem Inv.funs (I:Inv X pins σ H s):s.heap.FunFrames X.base X.outer:=by
 have all:∀ (l:List Env),(∀ b ∈ frs l,b ∈ X.fs)→X.s₀.heap.FunFrames X.base l→s.heap.FunFrames X.base l:=by
  intro l
  induction l with
  | nil => intro _ _; trivial
  | cons env r ih =>
   intro hs hl
   obtain ⟨hk,⟨L,o,hf,hn,ho,hd⟩,hr⟩:=hl
   have hL:L ∈ X.fs:=hs L (by unfold frs; rw [List.filterMap_cons,hf]; exact List.mem_cons_self)
   obtain ⟨sl,e⟩:=I.base.slot L o ho (I.ok.frf L hL) hL fun z => I.ok.exfs L z hL
   exact ⟨hk,⟨L,_,hf,hn,e,hd⟩,ih (fun b hb => hs b (by unfold frs; rw [List.filterMap_cons,hf]; exact List.mem_cons_of_mem _ hb)) hr⟩
 exact all X.outer (fun _ hb => hb) I.ok.funs
theorem Inv.stack (I:Inv X pins σ H s):s.heap.FunFrames X.base X.stack:=by
 rcases I.ok.stk with e | ⟨e,hf⟩
 ·rw [e]; exact I.funs
 ·rw [e]
  obtain ⟨m,hn,_⟩:=I.loc
  refine .cons (by rw [I.ok.kind]; decide) hf hn ?_ I.funs
  exact Heap.get?_none_of_le (Nat.le_trans I.ok.bsz I.ok.above)
theorem Inv.stkSub (I:Inv X pins σ H s):∀ b ∈ frs X.stack,b ∈ X.env.locals :: X.fs:=fun b hb => by
 rcases I.ok.stk with e | ⟨e,hf⟩
 ·rw [e] at hb; exact List.mem_cons_of_mem _ hb
 ·rw [e] at hb
  unfold frs at hb
  rw [List.filterMap_cons,hf] at hb
  exact hb
theorem Inv.stkFree (I:Inv X pins σ H s):∀ b ∈ frs X.stack,H b=none:=fun b hb => by
 rcases List.mem_cons.mp (I.stkSub b hb) with e | hb
 ·rw [e]; exact I.free
 ·obtain ⟨_,o,ho,_⟩:=I.ok.funs.mem hb
  exact I.base.free b o ho (I.ok.frf b hb) fun z => I.ok.exfs b z hb
theorem Inv.step {g' : Array GenState} {t' : Nat} {d' : Drawn} {ch:List Addr} (I:Inv X pins σ H s)
  (hch:∀ b ∈ ch,(b ∈ X.ex ∨ X.s₀.heap.objs.size ≤ b)∧b ≠ X.env.locals∧(∀ x c,X.env.cells.lookup x=some c→c ≠ b)∧∀ p ∈ X.pn ++ pins,p.1 ≠ b)
  (keep:∀ b o,b ≠ X.env.locals→b ∉ X.fs→b ∉ ch→s.heap.get? b=some o→H b=none→h'.get? b=some o)
  (slot:∀ b o,b ≠ X.env.locals→b ∈ X.fs→b ∉ ch→s.heap.get? b=some o→H b=none→∃ sl,h'.get? b=some { o with slots:=sl }) (free:∀ b o,b ∉ ch→s.heap.get? b=some o→H b=none→H' b=none)
  (there:∀ b o,b ∉ ch→s.heap.get? b=some o→∃ o',h'.get? b=some o')
  (tups:∀ b xs,H b=some (.tup xs)→H' b=some (.tup xs)) (frzs:∀ b o u,H b=some (.frz o u)→H' b=some (.frz o u)) (tbls:∀ b ps,H b=some (.tbl ps)→∃ more,H' b=some (.tbl (ps ++ more)))
  (ns:∀ m,s.heap.Ns X.env.locals m→h'.Ns X.env.locals m) (hok:HOk X.prog X.w H' h') (hg:AllBare g') :
  Inv X pins σ H' { s with heap:=h',gens:=g',drawn:=d',toks:=t' }:=by
 have neL:∀ b o,X.s₀.heap.get? b=some o→b ≠ X.env.locals:=fun b o e => Nat.ne_of_lt (Nat.lt_of_lt_of_le (Heap.lt_size e) I.ok.above)
 have neC:∀ b o,X.s₀.heap.get? b=some o→b ∉ X.ex→b ∉ ch:=fun b o e hx hb => by
  rcases (hch b hb).1 with z | z
  ·exact hx z
  ·exact absurd (Nat.lt_of_lt_of_le (Heap.lt_size e) z) (Nat.lt_irrefl _)
 have cellK:∀ x c,X.env.cells.lookup x=some c→∀ v,s.heap.IsCell c v→h'.IsCell c v:=fun x c e v ⟨o,ho,hd⟩ => by
  have nch:c ∉ ch:=fun z => (hch c z).2.2.1 x c e rfl
  by_cases hc:c ∈ X.fs
  ·obtain ⟨sl,q⟩:=slot c o (I.cne x c e) hc nch ho (I.freeC x c e)
   exact ⟨_,q,hd⟩
  ·exact ⟨o,keep c o (I.cne x c e) hc nch ho (I.freeC x c e),hd⟩
 refine ⟨I.ok,I.os,hg,⟨fun b o e n hb hx => ?_,fun b o e n hb hx => ?_,fun b o e n hx => ?_,fun b o e hx => ?_,fun b xs e => tups b xs (I.base.tups b xs e),fun b o xs e => frzs b o xs (I.base.frzs b o xs e),fun b ps e => ?_⟩,?_,fun x c e => ?_,?_,fun x c e => ?_,fun p hp => ?_,hok,I.len⟩
 ·exact keep b o (neL b o e) hb (neC b o e hx) (I.base.keep b o e n hb hx) (I.base.free b o e n hx)
 ·obtain ⟨sl,e1⟩:=I.base.slot b o e n hb hx
  obtain ⟨sl',e2⟩:=slot b _ (neL b o e) hb (neC b o e hx) e1 (I.base.free b o e n hx)
  exact ⟨sl',e2⟩
 ·obtain ⟨o',e1⟩:=I.base.there b o e hx
  exact free b o' (neC b o e hx) e1 (I.base.free b o e n hx)
 ·obtain ⟨o',e1⟩:=I.base.there b o e hx
  exact there b o' (neC b o e hx) e1
 ·obtain ⟨m1,e1⟩:=I.base.tbls b ps e
  obtain ⟨m2,e2⟩:=tbls b _ e1
  exact ⟨m1 ++ m2,by rw [e2,Array.append_assoc]⟩
 ·obtain ⟨m,hn,hl⟩:=I.loc
  refine ⟨m,ns m hn,fun i x v e1 e2 e3 => ?_⟩
  obtain ⟨u,r,l⟩:=hl i x v e1 e2 e3
  refine ⟨u,r,?_⟩
  rcases l with l | ⟨k,c,e,z⟩
  ·exact .inl l
  ·exact .inr ⟨k,c,e,cellK x c e _ z⟩
 ·obtain ⟨v,z⟩:=I.cell x c e
  exact ⟨v,cellK x c e v z⟩
 ·obtain ⟨m,⟨o,_,_,ho,_⟩,_⟩:=I.loc
  exact free _ o (fun z => (hch _ z).2.1 rfl) ho I.free
 ·obtain ⟨v,o,ho,hd⟩:=I.cell x c e
  exact free c o (fun z => (hch c z).2.2.1 x c e rfl) ho (I.freeC x c e)
 ·obtain ⟨e,n,ne,nf,d⟩:=I.pin p hp
  have nch:p.1 ∉ ch:=fun z => (hch p.1 z).2.2.2 p hp rfl
  exact ⟨keep p.1 p.2 ne nf nch e n,free p.1 p.2 nch e n,ne,nf,d⟩
theorem Inv.un {t' : Nat} (I:Inv X pins σ H s) (u:Un X.fs [] H H' s.heap h') (hok:HOk X.prog X.w H' h'):Inv X pins σ H' { s with heap:=h',toks:=t' }:=by
 obtain ⟨m,⟨o,es,ep,ho,r⟩,_⟩:=id I.loc
 obtain ⟨sl,hL⟩:=u.any ho I.free (by simp)
 exact I.step (g':=s.gens) (d':=s.drawn) (ch:=[]) (fun _ z => nomatch z) (fun b o _ hb _ e n => u.keep b o e n hb (by simp)) (fun b o _ hb _ e n => u.slot b o e n hb (by simp)) (fun b o _ e n => u.free b o e n (by simp)) (fun b o _ e => u.there b o e (by simp)) u.tups u.frzs u.tbls (fun m' hm => by
  obtain ⟨o',es',ep',ho',r'⟩:=hm
  rw [ho] at ho'; cases ho'
  exact ⟨_,es',ep',hL,r'⟩) hok I.bare
theorem Inv.call {g' : Array GenState} {t' : Nat} {d' : Drawn} {ch:List Addr} (I:Inv X pins σ H s) (u:Un (frs X.stack) ch H H' s.heap h') (hok:HOk X.prog X.w H' h') (hg:AllBare g')
  (hch:∀ b ∈ ch,(b ∈ X.ex ∨ X.s₀.heap.objs.size ≤ b)∧b ≠ X.env.locals∧(∀ x c,X.env.cells.lookup x=some c→c ≠ b)∧∀ p ∈ X.pn ++ pins,p.1 ≠ b) :
  Inv X pins σ H' { s with heap:=h',gens:=g',drawn:=d',toks:=t' }:=by
 obtain ⟨m,⟨o,es,ep,ho,r⟩,_⟩:=id I.loc
 obtain ⟨sl,hL⟩:=u.any ho I.free fun z => (hch _ z).2.1 rfl
 exact I.step (ch:=ch) hch (fun b o hL hb hc e n => u.keep b o e n (fun z => (List.mem_cons.mp (I.stkSub b z)).elim hL hb) hc) (fun b o _ _ hc e n => u.any e n hc) (fun b o hc e n => u.free b o e n hc) (fun b o hc e => u.there b o e hc) u.tups u.frzs u.tbls (fun m' hm => by
  obtain ⟨o',es',ep',ho',r'⟩:=hm
  rw [ho] at ho'; cases ho'
  exact ⟨_,es',ep',hL,r'⟩) hok hg
theorem Inv.turned {t' : Nat} {it:Addr} (I:Inv X pins σ H s) (k:∀ b o,b ≠ it→s.heap.get? b=some o→h'.get? b=some o) (hn:H it=none) (hL:it ≠ X.env.locals)
  (h1:it ∈ X.ex ∨ X.s₀.heap.objs.size ≤ it) (h2:∀ x c,X.env.cells.lookup x=some c→c ≠ it) (h3:∀ p ∈ X.pn ++ pins,p.1 ≠ it):Inv X pins σ H { s with heap:=h',toks:=t' }:=by
 have nit:∀ b u,H b=some u→b ≠ it:=fun b u e z => by rw [z,hn] at e; cases e
 refine I.step (g':=s.gens) (d':=s.drawn) (ch:=[it]) (fun b hb => ?_) (fun b o _ _ hc e _ => k b o (fun z => hc (by simp [z])) e) (fun b o _ _ hc e _ => ⟨o.slots,k b o (fun z => hc (by simp [z])) e⟩) (fun _ _ _ _ n => n)
  (fun b o hc e => ⟨o,k b o (fun z => hc (by simp [z])) e⟩) (fun _ _ e => e) (fun _ _ _ e => e) (fun b ps e => ⟨#[],by rw [e]; simp⟩) (fun m hm => ?_) (fun b u e => ?_) I.bare
 ·have e:b=it:=by simpa using hb
  subst e
  exact ⟨h1,hL,h2,h3⟩
 ·obtain ⟨o,es,ep,ho,r⟩:=hm
  exact ⟨o,es,ep,k _ o (Ne.symm hL) ho,r⟩
 ·refine (I.hok b u e).stay (fun c v hc q => k c v ?_ q) (fun _ q => q) fun _ _ q => q
  rcases hc with z | z
  ·rw [z]; exact nit b u e
  ·exact nit c _ z
theorem Inv.tok (I:Inv X pins σ H s) (t:Nat):Inv X pins σ H { s with toks:=t }:=I.un (h':=s.heap) (t':=t) Un.refl I.hok
theorem Inv.kept {t' : Nat} (I:Inv X pins σ H s) (k:∀ b u,s.heap.get? b=some u→h'.get? b=some u):Inv X pins σ H { s with heap:=h',toks:=t' }:=I.un (Un.kept k) (I.hok.kept k)
theorem Inv.laid {a:Addr} {o:HO} {t' : Nat} (I:Inv X pins σ H s) (k:∀ b u,s.heap.get? b=some u→h'.get? b=some u) (hp:s.heap.objs.size ≤ a) (new:ObjOk X.prog X.w (upd H a o) h' a o) :
  Inv X pins σ (upd H a o) { s with heap:=h',toks:=t' }:=I.un (Un.laid k hp (I.hok.fresh hp)) (I.hok.laid k hp new)
theorem Inv.write {x e:Addr} {o:HO} {t' : Nat} (I:Inv X pins σ H s) (mu:Mut (H x)) (he:e=x ∨ H e=some (.own x)) (k:∀ b u,b ≠ e→s.heap.get? b=some u→h'.get? b=some u) (heo:∃ u,h'.get? e=some u)
  (new:ObjOk X.prog X.w (upd H x o) h' x o):Inv X pins σ (upd H x o) { s with heap:=h',toks:=t' }:=I.un (Un.write mu he k heo) (I.hok.write mu he k heo new)
theorem Inv.pins_of {pins' : List (Addr × Obj)} (I:Inv X pins σ H s) (h:∀ p ∈ pins',s.heap.get? p.1=some p.2∧H p.1=none∧p.1 ≠ X.env.locals∧p.1 ∉ X.fs∧∀ v,p.2.data ≠ .cell v):Inv X pins' σ H s :=
 ⟨I.ok,I.os,I.bare,I.base,I.loc,I.cell,I.free,I.freeC,fun p hp => (List.mem_append.mp hp).elim (fun z => I.pin p (List.mem_append_left _ z)) (h p),I.hok,I.len⟩
theorem nodup_ix {N:List Str} (hN:N.Nodup) {i j:Nat} {x:Str} (a:N[i]? = some x) (b:N[j]? = some x):i=j:=by
 obtain ⟨h1,e1⟩:=List.getElem?_eq_some_iff.mp a
 obtain ⟨h2,e2⟩:=List.getElem?_eq_some_iff.mp b
 exact (List.getElem_inj hN).mp (e1.trans e2.symm)
theorem store_ok2 {M:Model} {A:Around} {E:Value→Shared→Prop} {i:Nat} {x:Str} {v:V} {u:Value} {Q:Unit→Shared→Prop} (I:Inv X pins σ H s) (hN:X.N.Nodup) (hi:X.N[i]? = some x) (hx:Loc X.env.scope x) (r:RelV v u)
  (h:∀ s',Inv X pins (σ.set i (some v)) H s'→(∃ a,Heap.SameBut a s.heap s'.heap∧(a=X.env.locals ∨ X.env.cells.lookup x=some a))→Q () s') (hf:X.fn x=true ∨ X.env.scope.names.lookup x=some .local:=by first | exact .inl rfl | exact .inr rfl | assumption):wpAny M A (storeName X.env x u) Q E s:=by
 obtain ⟨m,hn,hl⟩:=id I.loc
 have hcls:(X.env.scope.kind == .class || (X.env.scope.kind == .module && X.env.locals != X.env.globals))=false:=by rw [I.ok.kind]; rfl
 have hiσ:i < σ.length:=by rw [I.len]; exact (List.getElem?_eq_some_iff.mp hi).1
 have cne:=I.cne
 have tracked:∀ {a:Addr} {h' : Heap},(∃ o,s.heap.get? a=some o∧H a=none)→Heap.SameBut a s.heap h'→HOk X.prog X.w H h':=fun {a h'} ha hs b ob e => by
  obtain ⟨_,_,hfree⟩:=ha
  refine (I.hok b ob e).stay (fun c w' hc q => (hs.2 c ?_).trans q) (fun _ q => q) fun _ _ q => q
  rintro rfl
  rcases hc with rfl | hc
  ·rw [hfree] at e; cases e
  ·rw [hfree] at hc; cases hc
 rcases hx with hk | hk
 ·refine wpAny_storeName_local hk hn (fun h' hn' hs => ?_) hcls
  obtain ⟨oL,_,_,hoL,_⟩:=id hn
  refine h _ ⟨I.ok,I.os,I.bare,⟨fun b o e n hb hx => ?_,fun b o e n hb hx => ?_,I.base.free,fun b o e hx => ?_,I.base.tups,I.base.frzs,I.base.tbls⟩,⟨_,hn',fun j y v' e1 e2 e3 => ?_⟩,fun y c e => ?_,I.free,I.freeC,fun p hp => ?_,tracked ⟨oL,hoL,I.free⟩ hs,by simpa using I.len⟩ ⟨_,hs,.inl rfl⟩
  ·exact (hs.2 b (Nat.ne_of_lt (Nat.lt_of_lt_of_le (Heap.lt_size e) I.ok.above))).trans (I.base.keep b o e n hb hx)
  ·obtain ⟨sl,e1⟩:=I.base.slot b o e n hb hx
   exact ⟨sl,(hs.2 b (Nat.ne_of_lt (Nat.lt_of_lt_of_le (Heap.lt_size e) I.ok.above))).trans e1⟩
  ·obtain ⟨o',e1⟩:=I.base.there b o e hx
   exact ⟨o',(hs.2 b (Nat.ne_of_lt (Nat.lt_of_lt_of_le (Heap.lt_size e) I.ok.above))).trans e1⟩
  ·by_cases hj:j=i
   ·subst hj
    rw [hi] at e1; cases e1
    rw [List.getElem?_set_self hiσ] at e2
    cases e2
    exact ⟨u,r,.inl ⟨hk,by simp⟩⟩
   ·rw [List.getElem?_set_ne (Ne.symm hj)] at e2
    obtain ⟨u',r',q⟩:=hl j y v' e1 e2 e3
    refine ⟨u',r',?_⟩
    rcases q with ⟨k,e⟩ | ⟨k,c,e,z⟩
    ·refine .inl ⟨k,?_⟩
     have:y ≠ x:=fun e => hj (nodup_ix hN e1 (e ▸ hi))
     simp [this,e]
    ·exact .inr ⟨k,c,e,z.sameBut hs (cne y c e)⟩
  ·obtain ⟨w',z⟩:=I.cell y c e
   exact ⟨w',z.sameBut hs (cne y c e)⟩
  ·obtain ⟨e,n,ne,nf,d⟩:=I.pin p hp
   exact ⟨(hs.2 p.1 ne).trans e,n,ne,nf,d⟩
 ·have hfn:X.fn x=true:=by
   rcases hf with z | z
   ·exact z
   ·rw [z] at hk; cases hk
  obtain ⟨c,hc⟩:=I.ok.has x (.inl hk)
  obtain ⟨w',z⟩:=I.cell x c hc
  refine wpAny_storeName_cell I.ok.kind hk hc z (fun h' hc' hs => ?_)
  obtain ⟨oc,hoc,hocd⟩:=id z
  refine h { s with heap:=h' } ⟨I.ok,I.os,I.bare,⟨fun b o e n hb hx => ?_,fun b o e n hb hx => ?_,I.base.free,fun b o e hx => ?_,I.base.tups,I.base.frzs,I.base.tbls⟩,⟨m,hn.sameBut hs (Ne.symm (cne x c hc)),fun j y v' e1 e2 e3 => ?_⟩,fun y c' e => ?_,I.free,I.freeC,fun p hp => ?_,tracked ⟨oc,hoc,I.freeC x c hc⟩ hs,by simpa using I.len⟩ ⟨c,hs,.inr hc⟩
  ·exact (hs.2 b (Nat.ne_of_lt (Nat.lt_of_lt_of_le (Heap.lt_size e) (I.ok.cab x c hfn hc)))).trans (I.base.keep b o e n hb hx)
  ·obtain ⟨sl,e1⟩:=I.base.slot b o e n hb hx
   exact ⟨sl,(hs.2 b (Nat.ne_of_lt (Nat.lt_of_lt_of_le (Heap.lt_size e) (I.ok.cab x c hfn hc)))).trans e1⟩
  ·obtain ⟨o',e1⟩:=I.base.there b o e hx
   exact ⟨o',(hs.2 b (Nat.ne_of_lt (Nat.lt_of_lt_of_le (Heap.lt_size e) (I.ok.cab x c hfn hc)))).trans e1⟩
  ·by_cases hj:j=i
   ·subst hj
    rw [hi] at e1; cases e1
    rw [List.getElem?_set_self hiσ] at e2
    cases e2
    exact ⟨u,r,.inr ⟨.inl hk,c,hc,hc'⟩⟩
   ·rw [List.getElem?_set_ne (Ne.symm hj)] at e2
    obtain ⟨u',r',q⟩:=hl j y v' e1 e2 e3
    refine ⟨u',r',?_⟩
    rcases q with q | ⟨k,c',e,z'⟩
    ·exact .inl q
    ·refine .inr ⟨k,c',e,z'.sameBut hs ?_⟩
     rintro rfl
     exact hj (nodup_ix hN e1 (I.ok.inj _ _ _ e hc ▸ hi))
  ·by_cases hcc:c' = c
   ·subst hcc; exact ⟨_,hc'⟩
   ·obtain ⟨w2,z2⟩:=I.cell y c' e
    exact ⟨w2,z2.sameBut hs hcc⟩
  ·obtain ⟨e,n,ne,nf,d⟩:=I.pin p hp
   refine ⟨(hs.2 p.1 ?_).trans e,n,ne,nf,d⟩
   intro q
   rw [q,hoc] at e
   have q' : oc=p.2:=Option.some.inj e
   exact d w' (by rw [← q']; exact hocd)
theorem store_ok {M:Model} {A:Around} {E:Value→Shared→Prop} {i:Nat} {x:Str} {v:V} {u:Value} {Q:Unit→Shared→Prop} (I:Inv X pins σ H s) (hN:X.N.Nodup) (hi:X.N[i]? = some x) (hx:Loc X.env.scope x) (r:RelV v u)
  (h:∀ s',Inv X pins (σ.set i (some v)) H s'→Q () s') (hf:X.fn x=true ∨ X.env.scope.names.lookup x=some .local:=by first | exact .inl rfl | exact .inr rfl | assumption):wpAny M A (storeName X.env x u) Q E s :=
 store_ok2 I hN hi hx r (fun s' I' _ => h s' I') hf
theorem Inv.call' {s' : Shared} {ch:List Addr} (I:Inv X pins σ H s) (ho:s'.os=s.os) (u:Un (frs X.stack) ch H H' s.heap s'.heap) (hok:HOk X.prog X.w H' s'.heap) (hg:AllBare s'.gens)
  (hch:∀ b ∈ ch,(b ∈ X.ex ∨ X.s₀.heap.objs.size ≤ b)∧b ≠ X.env.locals∧(∀ x c,X.env.cells.lookup x=some c→c ≠ b)∧∀ p ∈ X.pn ++ pins,p.1 ≠ b):Inv X pins σ H' s':=by
 obtain ⟨h',g',d',t',o'⟩:=s'
 have e:o' = s.os:=ho
 subst e
 exact I.call (g':=g') (t':=t') (d':=d') u hok hg hch
end
abbrev XK:=Value→Option Addr→Hp→Prop
abbrev St:=List (Option V)
abbrev VK:=V→Hp→Prop
abbrev TE:=St→Hp→VK→Prop
abbrev TT:=St→Hp→(Bool→Hp→Prop)→Prop
abbrev TA:=St→Hp→(List V→Hp→Prop)→Prop
structure Ends where
 nx:St→Hp→Prop
 rt:VK
 bk:St→Hp→Prop:=fun _ _ => False
 ct:St→Hp→Prop:=fun _ _ => False
abbrev TS:=Ends→St→Hp→Prop
def EP (X:Cx) (pins:List (Addr × Obj)) (σ:St) (Q:VK) (u:Value) (s' : Shared):Prop:=∃ v H',Inv X pins σ H' s'∧RelV v u∧Q v H'
def TP (X:Cx) (pins:List (Addr × Obj)) (σ:St) (Q:Bool→Hp→Prop) (b:Bool) (s' : Shared):Prop:=∃ H',Inv X pins σ H' s'∧Q b H'
def AP (X:Cx) (pins:List (Addr × Obj)) (σ:St) (Q:List V→Hp→Prop) (us:List Value) (s' : Shared):Prop:=∃ vs H',Inv X pins σ H' s'∧Vals vs us∧Q vs H'
def SP (X:Cx) (pins:List (Addr × Obj)) (D:Ends) (f:Flow) (s' : Shared):Prop :=
 match f with
 | .next => ∃ σ' H',Inv X pins σ' H' s'∧D.nx σ' H'
 | .brk => ∃ σ' H',Inv X pins σ' H' s'∧D.bk σ' H'
 | .cont => ∃ σ' H',Inv X pins σ' H' s'∧D.ct σ' H'
 | .ret u => ∃ v σ' H',Inv X pins σ' H' s'∧RelV v u∧D.rt v H'
def PE (X:Cx) (e:Expr) (t:TE):Prop :=
 ∀ (pins:List (Addr × Obj)) (s:Shared) (σ:St) (H:Hp) (Q:VK),Inv X pins σ H s→t σ H Q→wpAny (model X.prog X.w) X.A (eval e X.env) (EP X pins σ Q) X.xe s
def PT (X:Cx) (e:Expr) (t:TT):Prop :=
 ∀ (pins:List (Addr × Obj)) (s:Shared) (σ:St) (H:Hp) (Q:Bool→Hp→Prop),Inv X pins σ H s→t σ H Q→wpAny (model X.prog X.w) X.A (isTrue e X.env (eval e X.env)) (TP X pins σ Q) X.xe s
def PW (X:Cx) (e:Expr) (t:TT):Prop :=
 ∀ (whole:Sem Value) (pins:List (Addr × Obj)) (s:Shared) (σ:St) (H:Hp) (Q:Bool→Hp→Prop),Inv X pins σ H s→t σ H Q→wpAny (model X.prog X.w) X.A (isTrue e X.env whole) (TP X pins σ Q) X.xe s
theorem PW.pt {X:Cx} {e:Expr} {t:TT} (h:PW X e t):PT X e t:=h _
def PA (X:Cx) (es:List Expr) (t:TA):Prop :=
 ∀ (pos:PySem.Pos) (pins:List (Addr × Obj)) (s:Shared) (σ:St) (H:Hp) (Q:List V→Hp→Prop),Inv X pins σ H s→t σ H Q→wpAny (model X.prog X.w) X.A (spliced (backTo pos (starEach es X.env))) (AP X pins σ Q) X.xe s
def PS (X:Cx) (st:Stmt) (t:TS):Prop :=
 ∀ (pins:List (Addr × Obj)) (s:Shared) (σ:St) (H:Hp) (D:Ends),Inv X pins σ H s→t D σ H→wpAny (model X.prog X.w) X.A (exec st X.env) (SP X pins D) X.xe s
def PSs (X:Cx) (st:List Stmt) (t:TS):Prop :=
 ∀ (pins:List (Addr × Obj)) (s:Shared) (σ:St) (H:Hp) (D:Ends),Inv X pins σ H s→t D σ H→wpAny (model X.prog X.w) X.A (execs st X.env) (SP X pins D) X.xe s
theorem thn {α:Type} {t:Sem α} {Q Q' : α→Shared→Prop} {M:Model} {A:Around} {E:Value→Shared→Prop} {s:Shared} (h:wpAny M A t Q E s) (hQ:∀ a s,Q a s→Q' a s):wpAny M A t Q' E s:=wpAny_mono h hQ fun _ _ x => x
end L2
namespace L2
open PySem PySem.Spec PyProof.Rows
section
variable {X:Cx}
def tVar (i:Nat):TE:=fun σ H Q => ∃ v,σ[i]? = some (some v)∧Q v H
def tC (v:V):TE:=fun _ H Q => Q v H
theorem pe_var {i:Nat} {x:Str} {pos:PySem.Pos} (hN:X.N[i]? = some x) (hv:Vis X.env.scope x) (hd:(x == ("__debug__" : Str))=false:=by decide) (hcd:(x == ("__classdict__" : Str))=false:=by decide):PE X (.Name x pos) (tVar i):=by
 intro pins s σ H Q I h
 obtain ⟨v,e,h⟩:=h
 obtain ⟨m,hn,hl⟩:=I.loc
 obtain ⟨u,r,l⟩:=hl i x v hN e hv
 have fin:EP X pins σ Q u s:=⟨v,H,I,r,h⟩
 rcases l with ⟨hk,hm⟩ | ⟨hk,c,hc,hcell⟩
 ·exact wpAny_Name (wpAny_loadName_local I.ok.kind hk hn hm fin) hd
 ·rcases hk with hk | hk
  ·exact wpAny_Name (wpAny_loadName_cell I.ok.kind hk hc hcell fin) hd
  ·exact wpAny_Name (wpAny_loadName_free I.ok.kind hk hc hcell fin hcd) hd
theorem pe_int {i j pos} : PE X (.Constant (.int i) j pos) (tC (.int i)):=fun _ _ _ H _ I h => wpAny_Constant_int ⟨.int i,H,I.tok _,⟨_,rfl⟩,h⟩
theorem pe_bl {b j pos} : PE X (.Constant (.bool b) j pos) (tC (.bl b)):=fun _ _ _ H _ I h => Constant_bool ⟨.bl b,H,I,rfl,h⟩
theorem pe_non {j pos} : PE X (.Constant .none j pos) (tC .non):=fun _ _ _ H _ I h => Constant_none ⟨.non,H,I,rfl,h⟩
theorem pe_str {x j pos} : PE X (.Constant (.str x) j pos) (tC (.str x)):=fun _ _ _ H _ I h => Calls.Constant_str ⟨.str x,H,I.tok _,⟨_,rfl⟩,h⟩
def Gl (X:Cx) (x:Str):Prop:=X.env.kindOf x=some .globalImplicit
theorem ld_glob {E:Value→Shared→Prop} {pins:List (Addr × Obj)} {s:Shared} {σ:St} {H:Hp} {x:Str} {u:Value} {pos:PySem.Pos} {Q:Value→Shared→Prop} (I:Inv X pins σ H s) (hg:Gl X x) (hm:X.mg x=some u) (h:Q u s)
  (hd:(x == ("__debug__" : Str))=false:=by decide):wpAny (model X.prog X.w) X.A (eval (.Name x pos) X.env) Q E s :=
 Calls.Name_function_global I.ok.kind hg (Calls.loadGlobal_global (by rw [I.ok.glob]; exact I.mod.glob.keeps I.bk) hm h) hd
theorem ld_blt {E:Value→Shared→Prop} {pins:List (Addr × Obj)} {s:Shared} {σ:St} {H:Hp} {x:Str} {u:Value} {pos:PySem.Pos} {Q:Value→Shared→Prop} (I:Inv X pins σ H s) (hg:Gl X x) (hm:X.mg x=none) (hv:bootBuiltins x=some u) (h:Q u s)
  (hn:x ≠ "__name__" := by decide) (hd:(x == ("__debug__" : Str))=false:=by decide):wpAny (model X.prog X.w) X.A (eval (.Name x pos) X.env) Q E s:=by
 obtain ⟨mb,h1,h2⟩:=I.mod.blt
 exact Calls.Name_function_global I.ok.kind hg (Calls.loadGlobal_builtin (by rw [I.ok.glob]; exact I.mod.glob.keeps I.bk) hm (by rw [I.ok.blt]; exact h1.keeps I.bk) ((h2 x hn).trans hv) h) hd
theorem pe_glob {x:Str} {v:V} {u:Value} {pos:PySem.Pos} (hg:Gl X x) (hm:X.mg x=some u) (r:RelV v u) (hd:(x == ("__debug__" : Str))=false:=by decide):PE X (.Name x pos) (tC v) :=
 fun _ _ _ H _ I h => ld_glob I hg hm ⟨v,H,I,r,h⟩ hd
theorem pe_bltn {x:Str} {v:V} {u:Value} {pos:PySem.Pos} (hg:Gl X x) (hm:X.mg x=none) (hv:bootBuiltins x=some u) (r:RelV v u) (hn:x ≠ "__name__" := by decide) (hd:(x == ("__debug__" : Str))=false:=by decide):PE X (.Name x pos) (tC v) :=
 fun _ _ _ H _ I h => ld_blt I hg hm hv ⟨v,H,I,r,h⟩ hn hd
variable {a b:Expr} {ta tb:TE} {pos:PySem.Pos}
def tB (t:TE):TT:=fun σ H Q => t σ H fun x H1 => ∃ c,x = .bl c∧Q c H1
theorem pt_val {e:Expr} {t:TE} (h:PE X e t) (he:∀ whole,isTrue e X.env whole=(do let v ← whole; standAt e.pos; holding [v] (truthy v)):=by intro _; rfl):PT X e (tB t):=by
 intro pins s σ H Q I hw
 refine isTrue_plain (thn (h pins s σ H _ I hw) fun v s1 ⟨x,H1,I1,r1,q1⟩ => ?_) (he _)
 obtain ⟨d,rfl,q⟩:=q1
 cases r1
 exact wpAny_truthy_bool ⟨H1,I1,q⟩
variable {tA tB' : TT} {rest:List Expr}
def tOr (t u:TT):TT:=fun σ H Q => t σ H fun c H1 => if c=true then Q true H1 else u σ H1 Q
def tNot (t:TT):TT:=fun σ H Q => t σ H fun c H1 => Q (!c) H1
theorem pw_or1 (ha:PT X a tA):PW X (.BoolOp .Or [a] pos) tA:=by
 intro wh pins s σ H Q I h
 refine isTrue_or (thn (ha pins s σ H Q I h) fun c s1 e => ?_)
 cases c with
 | false => exact isTrue_or_nil e
 | true => exact e
theorem pw_or (ha:PT X a tA) (hb:PW X (.BoolOp .Or (b :: rest) pos) tB'):PW X (.BoolOp .Or (a :: b :: rest) pos) (tOr tA tB'):=by
 intro wh pins s σ H Q I h
 refine isTrue_or (thn (ha pins s σ H _ I h) fun c s1 ⟨H1,I1,q1⟩ => ?_)
 cases c with
 | true => exact ⟨H1,I1,q1⟩
 | false => exact hb wh pins s1 σ H1 Q I1 q1
theorem pt_not (ha:PT X a tA):PT X (.UnaryOp .Not a pos) (tNot tA):=by
 intro pins s σ H Q I h
 exact isTrue_not (ha pins s σ H (fun c H1 => Q (!c) H1) I h)
def tAndV (ta tb:TE):TE:=fun σ H Q => ta σ H fun x H1 => ∃ c,x = .bl c∧if c=true then tb σ H1 Q else Q (.bl false) H1
def tOrV (ta tb:TE):TE:=fun σ H Q => ta σ H fun x H1 => ∃ c,x = .bl c∧if c=true then Q (.bl true) H1 else tb σ H1 Q
def tNotV (ta:TE):TE:=fun σ H Q => ta σ H fun x H1 => ∃ c,x = .bl c∧Q (.bl (!c)) H1
theorem pe_one {op} {t:TE} (h:PE X a t):PE X (.BoolOp op [a] pos) t:=fun pins s σ H Q I hw => BoolOp_one (h pins s σ H Q I hw)
theorem pe_and (ha:PE X a ta) (hb:PE X (.BoolOp .And (b :: rest) pos) tb):PE X (.BoolOp .And (a :: b :: rest) pos) (tAndV ta tb):=by
 intro pins s σ H Q I h
 refine BoolOp_and (thn (ha pins s σ H _ I h) fun v s1 ⟨x,H1,I1,r1,q1⟩ => ?_)
 obtain ⟨c,rfl,q1⟩:=q1
 cases r1
 refine wpAny_truthy_bool ?_
 cases c with
 | true => exact hb pins s1 σ H1 Q I1 q1
 | false => exact ⟨.bl false,H1,I1,rfl,q1⟩
theorem pe_or (ha:PE X a ta) (hb:PE X (.BoolOp .Or (b :: rest) pos) tb):PE X (.BoolOp .Or (a :: b :: rest) pos) (tOrV ta tb):=by
 intro pins s σ H Q I h
 refine BoolOp_or (thn (ha pins s σ H _ I h) fun v s1 ⟨x,H1,I1,r1,q1⟩ => ?_)
 obtain ⟨c,rfl,q1⟩:=q1
 cases r1
 refine wpAny_truthy_bool ?_
 cases c with
 | false => exact hb pins s1 σ H1 Q I1 q1
 | true => exact ⟨.bl true,H1,I1,rfl,q1⟩
theorem pe_not (ha:PE X a ta):PE X (.UnaryOp .Not a pos) (tNotV ta):=by
 intro pins s σ H Q I h
 refine UnaryOp_ (thn (ha pins s σ H _ I h) fun v s1 ⟨x,H1,I1,r1,q1⟩ => ?_)
 obtain ⟨c,rfl,q1⟩:=q1
 cases r1
 exact not_of (wpAny_truthy_bool ⟨.bl (!c),H1,I1,rfl,q1⟩)
def tIf (t:TT) (ta tb:TE):TE:=fun σ H Q => t σ H fun c H1 => if c=true then ta σ H1 Q else tb σ H1 Q
theorem pe_ifExp {c:Expr} (hc:PT X c tA) (ha:PE X a ta) (hb:PE X b tb):PE X (.IfExp c a b pos) (tIf tA ta tb):=by
 intro pins s σ H Q I h
 refine wpAny_IfExp (thn (hc pins s σ H _ I h) fun d s1 ⟨H1,I1,q1⟩ => ?_)
 cases d with
 | true => exact ha pins s1 σ H1 Q I1 q1
 | false => exact hb pins s1 σ H1 Q I1 q1
end
end L2
namespace L2
open PySem PySem.Spec PyProof.Rows
def SqL (K:PySem.W.Frag) (H:Hp) (a:Addr) (xs:List V):Prop :=
 Rd H a (.lst xs) ∨
  ∃ (o:Obj) (its:Array Value) (n:Nat),K.lookup a=some o∧o.cls = .type "list" ∧ o.dict=none∧o.data = .seq its n∧its.size ≤ sizeLine∧Vals xs its.toList
def SqT (K:PySem.W.Frag) (H:Hp) (a:Addr) (xs:List V):Prop :=
 Rd H a (.tup xs) ∨
  ∃ (o:Obj) (its:Array Value) (n:Nat),K.lookup a=some o∧o.cls = .type "tuple" ∧ o.data = .seq its n∧its.size ≤ sizeLine∧Vals xs its.toList
def absV:Value→Option V
 | .none => some .non
 | .bool b => some (.bl b)
 | .int i _ => some (.int i)
 | .str x _ => some (.str x)
 | .bytes b _ => some (.byt b)
 | .float b _ => some (.flt b)
 | .ref a => some (.ref a)
 | .type n => some (.ty n)
 | _ => none
theorem RelV.abs {x:V} {u:Value} (r:RelV x u):absV u=some x:=by
 cases x with
 | non => cases r; rfl
 | bl _ => cases r; rfl
 | int _ => obtain ⟨t,rfl⟩:=r; rfl
 | str _ => obtain ⟨t,rfl⟩:=r; rfl
 | byt _ => obtain ⟨t,rfl⟩:=r; rfl
 | flt _ => obtain ⟨t,rfl⟩:=r; rfl
 | ref _ => cases r; rfl
 | ty _ => cases r; rfl
theorem RelV.inj {x y:V} {u:Value} (r:RelV x u) (q:RelV y u):x=y:=Option.some.inj (r.abs.symm.trans q.abs)
theorem Vals.inj:∀ {xs ys:List V} {us:List Value},Vals xs us→Vals ys us→xs=ys
 | _,_,_,.nil,.nil => rfl
 | _,_,_,.cons r t,.cons r' t' => by rw [r.inj r',Vals.inj t t']
section
variable {X:Cx} {pins:List (Addr × Obj)} {σ:St} {H:Hp} {s:Shared} {a:Addr} {xs ys:List V}
theorem SqL.of {K:PySem.W.Frag} (h:H a=some (.lst xs)):SqL K H a xs:=.inl (.inl h)
theorem SqT.of {K:PySem.W.Frag} (h:H a=some (.tup xs)):SqT K H a xs:=.inl (.inl h)
theorem Inv.list (I:Inv X pins σ H s) (h:SqL X.K H a xs):∃ its:List Value,Vals xs its∧PlainL s.heap a its.toArray∧xs.length ≤ sizeLine:=by
 rcases h with h | ⟨o,its,n,hk,hc,hd,hs,hz,r⟩
 ·obtain ⟨z,its,n,r,e⟩:=h.ok I.hok
  exact ⟨its,r,⟨_,n,e,rfl,rfl,rfl⟩,z⟩
 ·refine ⟨its.toList,r,⟨o,n,I.kIn a o hk,hc,hd,by simpa using hs⟩,?_⟩
  have e:=r.length
  simp only [Array.length_toList] at e
  omega
theorem Inv.tuple (I:Inv X pins σ H s) (h:SqT X.K H a xs):∃ its:List Value,Vals xs its∧IsTup s.heap a its.toArray∧xs.length ≤ sizeLine:=by
 rcases h with h | ⟨o,its,n,hk,hc,hs,hz,r⟩
 ·obtain ⟨z,its,r,p⟩:=h.ok I.hok
  exact ⟨its,r,p,z⟩
 ·refine ⟨its.toList,r,⟨o,I.kIn a o hk,hc,n,by simpa using hs⟩,?_⟩
  have e:=r.length
  simp only [Array.length_toList] at e
  omega
theorem Inv.list_inj (I:Inv X pins σ H s) (h:SqL X.K H a xs) (h' : SqL X.K H a ys):xs=ys:=by
 obtain ⟨its,r,⟨o,n,e,_,_,d⟩,_⟩:=I.list h
 obtain ⟨its',r',⟨o',n',e',_,_,d'⟩,_⟩:=I.list h'
 rw [e] at e'; cases e'
 rw [d] at d'
 injection d' with d1 _
 have:its=its':=by simpa using congrArg Array.toList d1
 subst this
 exact r.inj r'
theorem Inv.tuple_inj (I:Inv X pins σ H s) (h:SqT X.K H a xs) (h' : SqT X.K H a ys):xs=ys:=by
 obtain ⟨its,r,⟨o,e,_,n,d⟩,_⟩:=I.tuple h
 obtain ⟨its',r',⟨o',e',_,n',d'⟩,_⟩:=I.tuple h'
 rw [e] at e'; cases e'
 rw [d] at d'
 injection d' with d1 _
 have:its=its':=by simpa using congrArg Array.toList d1
 subst this
 exact r.inj r'
end
abbrev Cx.wish (X:Cx) (E:Value→Shared→Prop):Cx:={ X with xe:=E }
abbrev Cx.nox (X:Cx):Cx:=X.wish fun _ _ => False
theorem Cx.Ok.wish {X:Cx} (ok:X.Ok) (E:Value→Shared→Prop):(X.wish E).Ok :=
 ⟨ok.mod,ok.kind,ok.glob,ok.blt,ok.above,ok.inj,ok.has,ok.cab,ok.hd,ok.frames,ok.stk,ok.exf,ok.bs,ok.bsz,ok.noex,ok.exfs,ok.funs,ok.frf⟩
theorem Cx.Ok.unwish {X:Cx} {E:Value→Shared→Prop} (ok:(X.wish E).Ok):X.Ok :=
 ⟨ok.mod,ok.kind,ok.glob,ok.blt,ok.above,ok.inj,ok.has,ok.cab,ok.hd,ok.frames,ok.stk,ok.exf,ok.bs,ok.bsz,ok.noex,ok.exfs,ok.funs,ok.frf⟩
section
variable {X:Cx} {pins:List (Addr × Obj)} {σ:St} {H:Hp} {s:Shared} {E:Value→Shared→Prop}
theorem Inv.wish (I:Inv X pins σ H s) (E:Value→Shared→Prop):Inv (X.wish E) pins σ H s:=⟨I.ok.wish E,I.os,I.bare,I.base,I.loc,I.cell,I.free,I.freeC,I.pin,I.hok,I.len⟩
theorem Inv.unwish (I:Inv (X.wish E) pins σ H s):Inv X pins σ H s:=⟨I.ok.unwish,I.os,I.bare,I.base,I.loc,I.cell,I.free,I.freeC,I.pin,I.hok,I.len⟩
theorem SP.unwish {D:Ends} {f:Flow} {s' : Shared} (h:SP (X.wish E) pins D f s'):SP X pins D f s':=by
 cases f with
 | next => obtain ⟨σ',H',I,q⟩:=h; exact ⟨σ',H',I.unwish,q⟩
 | brk => obtain ⟨σ',H',I,q⟩:=h; exact ⟨σ',H',I.unwish,q⟩
 | cont => obtain ⟨σ',H',I,q⟩:=h; exact ⟨σ',H',I.unwish,q⟩
 | ret u => obtain ⟨v,σ',H',I,r,q⟩:=h; exact ⟨v,σ',H',I.unwish,r,q⟩
theorem PE.nox {e:Expr} {t:TE} (h:PE X.nox e t):PE X e t:=fun pins s σ H Q I hw =>
 wpAny_mono (h pins s σ H Q (I.wish _) hw) (fun _ _ ⟨v,H',I',r,q⟩ => ⟨v,H',I'.unwish,r,q⟩) fun _ _ z => False.elim z
theorem PT.nox {e:Expr} {t:TT} (h:PT X.nox e t):PT X e t:=fun pins s σ H Q I hw =>
 wpAny_mono (h pins s σ H Q (I.wish _) hw) (fun _ _ ⟨H',I',q⟩ => ⟨H',I'.unwish,q⟩) fun _ _ z => False.elim z
theorem PSs.nox {st:List Stmt} {t:TS} (h:PSs X.nox st t):PSs X st t:=fun pins s σ H D I hw =>
 wpAny_mono (h pins s σ H D (I.wish _) hw) (fun _ _ q => q.unwish) fun _ _ z => False.elim z
end
section
variable {X:Cx} {st:Stmt} {rest:List Stmt} {t u:TS} {e:Expr} {te:TE} {pos:PySem.Pos}
def tNext:TS:=fun D σ H => D.nx σ H
def tSeq (t u:TS):TS:=fun D σ H => t { D with nx:=u D } σ H
theorem pss_nil:PSs X [] tNext:=fun _ _ σ H _ I h => wpAny_execs_nil ⟨σ,H,I,h⟩
theorem pss_cons (h1:PS X st t) (h2:PSs X rest u):PSs X (st :: rest) (tSeq t u):=by
 intro pins s σ H D I h
 refine wpAny_execs_cons (thn (h1 pins s σ H { D with nx:=u D } I h) fun f s1 q => ?_)
 cases f with
 | next =>
  obtain ⟨σ',H',I',q⟩:=q
  exact h2 pins s1 σ' H' D I' q
 | ret v => exact q
 | brk => exact q
 | cont => exact q
theorem pss_one (h1:PS X st t):PSs X [st] t:=by
 intro pins s σ H D I h
 refine wpAny_execs_cons (thn (h1 pins s σ H D I h) fun f s1 q => ?_)
 cases f with
 | next => exact wpAny_execs_nil q
 | ret v => exact q
 | brk => exact q
 | cont => exact q
theorem Inv.quiet {pins:List (Addr × Obj)} {σ:St} {H:Hp} {s:Shared} (I:Inv X pins σ H s):interactive X.env=false:=by simp [interactive,I.ok.kind]
def tDrop (te:TE):TS:=fun D σ H => te σ H fun _ H1 => D.nx σ H1
theorem ps_expr (he:PE X e te) (hs:swapsWith e none pos.line X.env=pure false:=by rfl):PS X (.Expr e pos) (tDrop te):=by
 intro pins s σ H D I h
 exact wpAny_Expr_any (thn (he pins s σ H _ I h) fun v s1 ⟨x,H1,I1,r1,q1⟩ => ⟨σ,H1,I1,q1⟩) I.quiet hs
def tRet (te:TE):TS:=fun D σ H => te σ H D.rt
theorem ps_ret (he:PE X e te):PS X (.Return (some e) pos) (tRet te):=by
 intro pins s σ H D I h
 exact wpAny_Return_some (thn (he pins s σ H _ I h) fun v s1 ⟨x,H1,I1,r1,q1⟩ => ⟨x,σ,H1,I1,r1,q1⟩)
def tIfS (c:TT) (t u:TS):TS:=fun D σ H => c σ H fun b H1 => if b=true then t D σ H1 else u D σ H1
theorem ps_if {c:Expr} {a b:List Stmt} {tc:TT} (hc:PT X c tc) (ha:PSs X a t) (hb:PSs X b u):PS X (.If c a b pos) (tIfS tc t u):=by
 intro pins s σ H D I h
 refine wpAny_If (thn (hc pins s σ H _ I h) fun d s1 ⟨H1,I1,q1⟩ => ?_)
 cases d with
 | true => exact ha pins s1 σ H1 D I1 q1
 | false => exact hb pins s1 σ H1 D I1 q1
end
abbrev TG:=V→St→Hp→(St→Hp→Prop)→Prop
abbrev TGs:=List V→St→Hp→(St→Hp→Prop)→Prop
def PG (X:Cx) (target:Expr) (t:TG):Prop :=
 ∀ (pins:List (Addr × Obj)) (s:Shared) (σ:St) (H:Hp) (v:V) (u:Value) (Q:St→Hp→Prop),Inv X pins σ H s→RelV v u→t v σ H Q →
  wpAny (model X.prog X.w) X.A (assign target X.env u) (fun _ s' => ∃ σ' H',Inv X pins σ' H' s'∧Q σ' H') X.xe s
def PGs (X:Cx) (ts:List Expr) (t:TGs):Prop :=
 ∀ (pins:List (Addr × Obj)) (s:Shared) (σ:St) (H:Hp) (vs:List V) (us:List Value) (Q:St→Hp→Prop),Inv X pins σ H s→Vals vs us→t vs σ H Q →
  wpAny (model X.prog X.w) X.A (assignInOrder ((assignEach ts X.env).map (·.2)) us) (fun _ s' => ∃ σ' H',Inv X pins σ' H' s'∧Q σ' H') X.xe s
abbrev TSet:=V→V→V→Hp→(Hp→Prop)→Prop
def PSet (X:Cx) (t:TSet):Prop :=
 ∀ (pins:List (Addr × Obj)) (s:Shared) (σ:St) (H:Hp) (o i v:V) (ov iv u:Value) (Q:Hp→Prop),Inv X pins σ H s→RelV o ov→RelV i iv→RelV v u→t o i v H Q →
  wpAny (model X.prog X.w) X.A (setItem ov iv u) (fun _ s' => ∃ H',Inv X pins σ H' s'∧Q H') X.xe s
section
variable {X:Cx} {pos:PySem.Pos}
def gName (i:Nat):TG:=fun v σ H Q => Q (σ.set i (some v)) H
theorem pg_name {i:Nat} {x:Str} (hN:X.N.Nodup) (hi:X.N[i]? = some x) (hx:Loc X.env.scope x) (hf:X.fn x=true ∨ X.env.scope.names.lookup x=some .local:=by first | exact .inl rfl | exact .inr rfl | assumption):PG X (.Name x pos) (gName i):=by
 intro pins s σ H v u Q I r h
 exact wpAny_assign_Name (store_ok I hN hi hx r (fun s' I' => ⟨_,H,I',h⟩) hf)
def gNil:TGs:=fun vs σ H Q => vs=[]∧Q σ H
def gCons (t:TG) (u:TGs):TGs:=fun vs σ H Q => ∃ v r,vs=v :: r∧t v σ H fun σ' H' => u r σ' H' Q
theorem pgs_nil:PGs X [] gNil:=by
 intro pins s σ H vs us Q I r h
 obtain ⟨e,h⟩:=h
 subst e
 cases r
 exact assignInOrder_nil ⟨σ,H,I,h⟩
theorem pgs_cons {e:Expr} {es:List Expr} {t:TG} {u:TGs} (h1:PG X e t) (h2:PGs X es u)
  (hs:(assignEach (e :: es) X.env).map (·.2)=assign e X.env :: (assignEach es X.env).map (·.2):=by rfl):PGs X (e :: es) (gCons t u):=by
 intro pins s σ H vs us Q I r h
 obtain ⟨v,vr,e1,h⟩:=h
 subst e1
 cases r with
 | cons r rr =>
  rw [hs]
  refine assignInOrder_cons (thn (h1 pins s σ H _ _ _ I r h) fun _ s1 ⟨σ1,H1,I1,q1⟩ => ?_)
  exact h2 pins s1 σ1 H1 _ _ Q I1 rr q1
def gTup (K:PySem.W.Frag) (n:Nat) (t:TGs):TG:=fun v σ H Q => ∃ a xs,v = .ref a∧SqT K H a xs∧xs.length=n∧t xs σ H Q
theorem pg_tup {es:List Expr} {k:Nat} {t:TGs} {n:Nat} (hc:X.calm=true) (h:PGs X es t)
  (hn:(assignEach es X.env).length=n:=by rfl) (hst:(assignEach es X.env).findIdx? (·.1)=none:=by rfl):PG X (.Tuple es k pos) (gTup X.K n t):=by
 intro pins s σ H v u Q I r hw
 obtain ⟨a,xs,e1,hq,hl,hw⟩:=hw
 subst e1
 cases r
 obtain ⟨its,rv,ht,hz⟩:=I.tuple hq
 refine assign_Tuple_tuple (I.ok.hd hc) ht (by simp [hn,← hl,rv.length]) hst fun h' hx => ?_
 have I1:Inv X pins σ H { s with heap:=h' }:=I.kept (t':=s.toks) fun b o e => hx b o (Nat.ne_of_lt (Heap.lt_size e)) e
 exact h pins _ σ H xs _ Q I1 (by simpa using rv) hw
def gSub (to ti:TE) (t:TSet):TG:=fun v σ H Q => to σ H fun o H1 => ti σ H1 fun i H2 => t o i v H2 fun H3 => Q σ H3
theorem pg_sub {o i:Expr} {to ti:TE} {t:TSet} (ho:PE X o to) (hi:PE X i ti) (hs:PSet X t)
  (ha:∀ v,assign (.Subscript o i pos) X.env v=(do
   let ov ← holding [v] (eval o X.env)
   let iv ← holding [v,ov] (eval i X.env)
   standAt pos
   holding [v,ov,iv] (setItem ov iv v)
   release [v,ov,iv] []):=by intro _; rfl):PG X (.Subscript o i pos) (gSub to ti t):=by
 intro pins s σ H v u Q I r h
 rw [ha]
 refine wpAny_bind (wpAny_holding (thn (ho pins s σ H _ I h) fun ov s1 ⟨x,H1,I1,r1,q1⟩ => ?_))
 refine wpAny_bind (wpAny_holding (thn (hi pins s1 σ H1 _ I1 q1) fun iv s2 ⟨y,H2,I2,r2,q2⟩ => ?_))
 refine wpAny_bind (wpAny_standAt (wpAny_bind (wpAny_holding (thn (hs pins s2 σ H2 x y v ov iv u _ I2 r1 r2 r q2) fun _ s3 ⟨H3,I3,q3⟩ => ?_))))
 exact wpAny_release ⟨σ,H3,I3,q3⟩
def tAsg (te:TE) (g:TG):TS:=fun D σ H => te σ H fun x H1 => g x σ H1 D.nx
theorem ps_asg {tg e:Expr} {te:TE} {g:TG} (he:PE X e te) (hg:PG X tg g) (hs:swapsWithSole [tg] e pos.line X.env=pure false:=by rfl) (hw:swappedStores [tg] e X.env=pure none:=by rfl)
  (h1:(assignEach [tg] X.env).map (·.2)=[assign tg X.env]:=by rfl):PS X (.Assign [tg] e pos) (tAsg te g):=by
 intro pins s σ H D I h
 refine wpAny_Assign_stores (thn (he pins s σ H _ I h) fun v s1 ⟨x,H1,I1,r1,q1⟩ => ?_) hs hw
 rw [h1]
 exact thn (hg pins s1 σ H1 x v _ I1 r1 q1) fun _ s2 q => q
theorem ps_set {i:Nat} {x:Str} {e:Expr} {te:TE} {pos' : PySem.Pos} (hN:X.N.Nodup) (hi:X.N[i]? = some x) (hx:Loc X.env.scope x) (he:PE X e te) (hs:swapsWith e (some (.Name x pos')) pos.line X.env=pure false:=by rfl) (hf:X.fn x=true ∨ X.env.scope.names.lookup x=some .local:=by first | exact .inl rfl | exact .inr rfl | assumption) :
  PS X (.Assign [.Name x pos'] e pos) (tAsg te (gName i)):=by
 intro pins s σ H D I h
 refine wpAny_Assign_Name (thn (he pins s σ H _ I h) fun v s1 ⟨y,H1,I1,r1,q1⟩ => ?_) hs
 exact store_ok I1 hN hi hx r1 (fun s2 I2 => ⟨_,H1,I2,q1⟩) hf
end
section
variable {X:Cx} {pos:PySem.Pos}
def tWhile (c:TT) (tb:TS):TS:=fun D σ H => ∃ W:Nat→St→Hp→Prop,(∃ m,W m σ H)∧∀ m σ H,W m σ H →
 c σ H fun b H1 => if b=true then ∃ N:St→Hp→Prop,(∀ σ' H',N σ' H'→∃ m',m' < m∧W m' σ' H')∧tb { D with nx:=N,ct:=N,bk:=D.nx } σ H1 else D.nx σ H1
theorem ps_while {c:Expr} {body:List Stmt} {tc:TT} {tb:TS} (hp:PassesOwn (model X.prog X.w) X.A X.env X.xe) (hc:PT X c tc) (hb:PSs X body tb):PS X (.While c body [] pos) (tWhile tc tb):=by
 intro pins s σ H D I h
 obtain ⟨W,⟨m0,w0⟩,turn⟩:=h
 refine wpAny_While (codeAny_whileLoop (fun n s' => ∃ σ' H',Inv X pins σ' H' s'∧W n σ' H') ?_ m0 ⟨σ,H,I,w0⟩)
 rintro n s1 ⟨σ1,H1,I1,w1⟩
 refine wpAny_passesOwn hp (thn (hc pins s1 σ1 H1 _ I1 (turn n σ1 H1 w1)) fun b s2 ⟨H2,I2,q2⟩ => ?_)
 cases b with
 | true =>
  obtain ⟨N,hN,q2⟩:=q2
  rw [if_pos rfl]
  refine wpAny_passesOwn hp (thn (hb pins s2 σ1 H2 _ I2 q2) fun f s3 q3 => ?_)
  cases f with
  | next =>
   obtain ⟨σ3,H3,I3,n3⟩:=q3
   obtain ⟨m',hm,w3⟩:=hN σ3 H3 n3
   exact ⟨m',hm,σ3,H3,I3,w3⟩
  | cont =>
   obtain ⟨σ3,H3,I3,n3⟩:=q3
   obtain ⟨m',hm,w3⟩:=hN σ3 H3 n3
   exact ⟨m',hm,σ3,H3,I3,w3⟩
  | brk => exact q3
  | ret v => exact q3
 | false =>
  rw [if_neg Bool.false_ne_true]
  exact wpAny_execs_nil ⟨σ1,H2,I2,q2⟩
end
structure It where
 go:Nat→Hp→Prop
 yld:Nat→Hp→V→Hp→Prop
 stop:Nat→Hp→Prop
def FpOk (X:Cx) (pins:List (Addr × Obj)) (H:Hp) (b:Addr):Prop :=
 H b=none∧b ≠ X.env.locals∧b ∉ X.fs∧(b ∈ X.ex ∨ X.s₀.heap.objs.size ≤ b)∧(∀ x c,X.env.cells.lookup x=some c→c ≠ b)∧∀ p ∈ X.pn ++ pins,p.1 ≠ b
theorem Inv.fpOk {X:Cx} {pins:List (Addr × Obj)} {σ:St} {H H' : Hp} {s:Shared} {b:Addr} (I:Inv X pins σ H s) (hb:s.heap.objs.size ≤ b) (hn:H' b=none):FpOk X pins H' b:=by
 refine ⟨hn,Nat.ne_of_gt (Nat.lt_of_lt_of_le I.lt hb),I.nofs hb,.inr (Nat.le_trans I.sz hb),fun x c e z => ?_,fun p hp z => ?_⟩
 ·obtain ⟨v,q⟩:=I.cell x c e
  exact absurd (Nat.lt_of_lt_of_le q.lt (by rw [z]; exact hb)) (Nat.lt_irrefl _)
 ·exact absurd (Nat.lt_of_lt_of_le (Heap.lt_size (I.pin p hp).1) (by rw [z]; exact hb)) (Nat.lt_irrefl _)
structure Turn (P:Program) (w:World) (K:PySem.W.Frag) (tg:Expr) (J:It) (fp:List Addr) (it:Addr) (tn:Nat→Heap→Prop):Prop where
 mem:it ∈ fp
 obj:∀ i h,tn i h→∀ b ∈ fp,∃ o,h.get? b=some o∧∀ v,o.data ≠ .cell v
 keep:∀ i h h',tn i h→(∀ b ∈ fp,∀ o,h.get? b=some o→h'.get? b=some o)→tn i h'
 item:∀ (X:Cx),X.prog=P→X.w=w→X.K=K→X.calm=true→∀ (i:Nat) (pins:List (Addr × Obj)) (s:Shared) (σ:St) (H:Hp) (E:Value→Shared→Prop),Inv X pins σ H s→(∀ b ∈ fp,FpOk X pins H b)→tn i s.heap→J.go i H →
  wpAny (model P w) X.A (pyNext (.ref it)) (fun r s1 => ∃ u,r=some u ∧
   wpAny (model P w) X.A (letOwnedTupleGo tg (.ref it) u) (fun _ s2 => ∃ x H',Inv X pins σ H' s2∧RelV x u∧J.yld i H x H'∧tn (i + 1) s2.heap∧∀ b ∈ fp,H' b=none) E s1) E s
 done:∀ (X:Cx),X.prog=P→X.w=w→X.K=K→X.calm=true→∀ (i:Nat) (pins:List (Addr × Obj)) (s:Shared) (σ:St) (H:Hp) (E:Value→Shared→Prop),Inv X pins σ H s→(∀ b ∈ fp,FpOk X pins H b)→tn i s.heap→J.stop i H →
  wpAny (model P w) X.A (pyNext (.ref it)) (fun r s1 => r=none∧Inv X pins σ H s1) E s
 self:∀ (A:Around) (i:Nat) (s:Shared) (Q:Value→Shared→Prop) (E:Value→Shared→Prop),tn i s.heap→Q (.ref it) s→wpAny (model P w) A (pyIter (.ref it)) Q E s
abbrev TI:=St→Hp→(It→Hp→Prop)→Prop
def PIE (X:Cx) (pins:List (Addr × Obj)) (σ:St) (tg:Expr) (R:It→Hp→Prop) (itv:Value) (s2:Shared):Prop :=
 ∃ (it:Addr) (fp:List Addr) (tn:Nat→Heap→Prop) (J:It) (H' : Hp),itv = .ref it∧Inv X pins σ H' s2∧Turn X.prog X.w X.K tg J fp it tn∧tn 0 s2.heap∧(∀ b ∈ fp,FpOk X pins H' b)∧R J H'
def PI (X:Cx) (tg iter:Expr) (wi:TI):Prop :=
 ∀ (pins:List (Addr × Obj)) (s:Shared) (σ:St) (H:Hp) (R:It→Hp→Prop),Inv X pins σ H s→wi σ H R →
  wpAny (model X.prog X.w) X.A (eval iter X.env) (fun v s1 => wpAny (model X.prog X.w) X.A (pyIter v) (PIE X pins σ tg R) X.xe s1) X.xe s
theorem go_of {M:Model} {A:Around} {E:Value→Shared→Prop} {s:Shared} {tg:Expr} {it:Addr} {u:Value} {o:Obj} {n:String} {vs:Array Value} {Q:Unit→Shared→Prop} (ho:s.heap.get? it=some o) (hc:o.cls = .type n) (hd:o.data = .fields vs)
  (hn:["enumerate", "zip", "dict_itemiterator", "dict_reverseitemiterator", "odict_iterator", "itertools.zip_longest", "itertools.pairwise"].contains n=false) (hQ:Q () s):wpAny M A (letOwnedTupleGo tg (.ref it) u) Q E s:=by
 unfold letOwnedTupleGo
 cases tg <;> first
  | exact wpAny_pure hQ
  | (cases u <;> first
    | exact wpAny_pure hQ
    | (refine wpAny_bind (wpAny_load ho ?_)
       rw [hc,hd]
       show wpAny M A (if (["enumerate", "zip", "dict_itemiterator", "dict_reverseitemiterator", "odict_iterator", "itertools.zip_longest", "itertools.pairwise"].contains n && vs[0]? == some (rawInt _))=true then _ else _) Q E s
       rw [if_neg (by intro h; rw [hn,Bool.false_and] at h; cases h)]
       exact wpAny_pure hQ))
def Itl (K:PySem.W.Frag) (a:Addr):It :=
 ⟨fun i H => ∃ xs x,SqL K H a xs∧xs[i]? = some x,fun i H x H' => H' = H∧∀ xs,SqL K H a xs→xs[i]? = some x,fun i H => ∃ xs,SqL K H a xs∧xs.length ≤ i⟩
def Itt (K:PySem.W.Frag) (a:Addr):It :=
 ⟨fun i H => ∃ xs x,SqT K H a xs∧xs[i]? = some x,fun i H x H' => H' = H∧∀ xs,SqT K H a xs→xs[i]? = some x,fun i H => ∃ xs,SqT K H a xs∧xs.length ≤ i⟩
def Itr (lo:Int) (n:Nat):It:=⟨fun i _ => i < n,fun i H x H' => H' = H∧x = .int (lo + i),fun i _ => n ≤ i⟩
theorem turn_list {P:Program} {w:World} {K:PySem.W.Frag} {tg:Expr} (a it:Addr):Turn P w K tg (Itl K a) [it] it (fun i h => h.IsListIter it a i) where
 mem:=by simp
 obj:=fun i h st b hb => by
  have e:b=it:=by simpa using hb
  subst e
  obtain ⟨o,e,c,d⟩:=st
  exact ⟨o,e,fun v z => by rw [d] at z; cases z⟩
 keep:=fun i h h' st k => st.at fun o e => k it (by simp) o e
 item:=by
  intro X hP hw hK hc i pins s σ H E I hf st hg
  subst hP hw hK
  obtain ⟨xs,x,hq,hx⟩:=hg
  obtain ⟨its,rv,p,hz⟩:=I.list hq
  obtain ⟨u,hu,ru⟩:=rv.get hx
  obtain ⟨f0,f1,f2,f3,f4,f5⟩:=hf it (by simp)
  refine wpAny_pyNext_list_item st p.isList (x:=u) (by simpa using hu) fun h' st' sb => ?_
  have I1:Inv X pins σ H { s with heap:=h' }:=I.turned (t':=s.toks) (fun b o hb e => (sb.2 b hb).trans e) f0 f1 f3 f4 f5
  obtain ⟨o,e,c,d⟩:=id st'
  exact ⟨u,rfl,go_of (s:={ s with heap:=h' }) e c d (by decide) ⟨x,H,I1,ru,⟨rfl,fun ys hy => by rw [I.list_inj hy hq]; exact hx⟩,st',fun b hb => (hf b hb).1⟩⟩
 done:=by
  intro X hP hw hK hc i pins s σ H E I hf st hg
  subst hP hw hK
  obtain ⟨xs,hq,hx⟩:=hg
  obtain ⟨its,rv,p,hz⟩:=I.list hq
  obtain ⟨f0,f1,f2,f3,f4,f5⟩:=hf it (by simp)
  have hl:=rv.length
  exact wpAny_pyNext_list_end (I.ok.hd hc) st p.isList (by simp; omega) fun h' eb => ⟨rfl,I.turned (t':=s.toks) (fun b o hb e => eb b o hb e) f0 f1 f3 f4 f5⟩
 self:=fun _ _ _ _ _ st h => wpAny_pyIter_listiter st h
theorem turn_tuple {P:Program} {w:World} {K:PySem.W.Frag} {tg:Expr} (a it:Addr):Turn P w K tg (Itt K a) [it] it (fun i h => h.IsTupleIter it a i) where
 mem:=by simp
 obj:=fun i h st b hb => by
  have e:b=it:=by simpa using hb
  subst e
  obtain ⟨o,e,c,d⟩:=st
  exact ⟨o,e,fun v z => by rw [d] at z; cases z⟩
 keep:=fun i h h' st k => st.at fun o e => k it (by simp) o e
 item:=by
  intro X hP hw hK hc i pins s σ H E I hf st hg
  subst hP hw hK
  obtain ⟨xs,x,hq,hx⟩:=hg
  obtain ⟨its,rv,p,hz⟩:=I.tuple hq
  obtain ⟨u,hu,ru⟩:=rv.get hx
  obtain ⟨f0,f1,f2,f3,f4,f5⟩:=hf it (by simp)
  refine wpAny_pyNext_tuple_item st (show s.heap.IsTuple a its.toArray from p) (x:=u) (by simpa using hu) fun h' st' sb => ?_
  have I1:Inv X pins σ H { s with heap:=h' }:=I.turned (t':=s.toks) (fun b o hb e => (sb.2 b hb).trans e) f0 f1 f3 f4 f5
  obtain ⟨o,e,c,d⟩:=id st'
  exact ⟨u,rfl,go_of (s:={ s with heap:=h' }) e c d (by decide) ⟨x,H,I1,ru,⟨rfl,fun ys hy => by rw [I.tuple_inj hy hq]; exact hx⟩,st',fun b hb => (hf b hb).1⟩⟩
 done:=by
  intro X hP hw hK hc i pins s σ H E I hf st hg
  subst hP hw hK
  obtain ⟨xs,hq,hx⟩:=hg
  obtain ⟨its,rv,p,hz⟩:=I.tuple hq
  obtain ⟨f0,f1,f2,f3,f4,f5⟩:=hf it (by simp)
  have hl:=rv.length
  exact wpAny_pyNext_tuple_end (I.ok.hd hc) st (show s.heap.IsTuple a its.toArray from p) (by simp; omega) fun h' eb => ⟨rfl,I.turned (t':=s.toks) (fun b o hb e => eb b o hb e) f0 f1 f3 f4 f5⟩
 self:=fun _ _ _ _ _ st h => wpAny_pyIter_tupleiter st h
theorem turn_range {P:Program} {w:World} {K:PySem.W.Frag} {tg:Expr} (it:Addr) (lo:Int) (n:Nat):Turn P w K tg (Itr lo n) [it] it (fun i h => IsRangeIter h it (lo + (i:Nat) * 1) ((n:Int) - (i:Nat)) 1) where
 mem:=by simp
 obj:=fun i h st b hb => by
  have e:b=it:=by simpa using hb
  subst e
  exact ⟨_,st,fun v z => by
   have z' : Data.fields _=Data.cell v:=z
   cases z'⟩
 keep:=fun i h h' st k => k it (by simp) _ st
 item:=by
  intro X hP hw hK hc i pins s σ H E I hf st hg
  subst hP hw hK
  obtain ⟨f0,f1,f2,f3,f4,f5⟩:=hf it (by simp)
  have W:=Walks.range (prog:=X.prog) (w:=X.w) (I.ok.hd hc) it lo 1 n
  refine W.item i s _ _ hg st fun v h' tk hv st' kk => ?_
  obtain ⟨t,rfl⟩:=hv
  have I1:Inv X pins σ H { s with heap:=h',toks:=tk }:=I.turned (fun b o hb e => kk b o (by simpa using hb) e) f0 f1 f3 f4 f5
  refine ⟨_,rfl,go_of (s:={ s with heap:=h',toks:=tk }) (n := "range_iterator") st' rfl rfl (by decide) ⟨.int (lo + i),H,I1,⟨t,?_⟩,⟨rfl,rfl⟩,st',fun b hb => (hf b hb).1⟩⟩
  rw [Int.mul_one]
 done:=by
  intro X hP hw hK hc i pins s σ H E I hf st hg
  subst hP hw hK
  obtain ⟨f0,f1,f2,f3,f4,f5⟩:=hf it (by simp)
  exact wpAny_pyNext_range_end (I.ok.hd hc) st (by have:n ≤ i:=hg; omega) fun h' eb => ⟨rfl,I.turned (t':=s.toks) (fun b o hb e => eb b o hb e) f0 f1 f3 f4 f5⟩
 self:=fun _ _ _ _ _ st h => wpAny_pyIter_rangeiter st h
end L2
namespace L2
open PySem PySem.Spec PyProof.Rows
section
variable {X:Cx} {tg:Expr}
def iList (K:PySem.W.Frag) (tl:TE):TI:=fun σ H R => tl σ H fun x H1 => ∃ a,x = .ref a∧(∃ xs,SqL K H1 a xs)∧R (Itl K a) H1
def iTup (K:PySem.W.Frag) (tl:TE):TI:=fun σ H R => tl σ H fun x H1 => ∃ a,x = .ref a∧(∃ xs,SqT K H1 a xs)∧R (Itt K a) H1
theorem pi_list {l:Expr} {tl:TE} (hl:PE X l tl):PI X tg l (iList X.K tl):=by
 intro pins s σ H R I h
 refine thn (hl pins s σ H _ I h) fun v s1 ⟨x,H1,I1,r1,q1⟩ => ?_
 obtain ⟨a,e,⟨xs,hq⟩,q⟩:=q1
 subst e
 cases r1
 obtain ⟨its,rv,p,hz⟩:=I1.list hq
 refine wpAny_pyIter_list p.isList ?_
 refine ⟨s1.heap.objs.size,[s1.heap.objs.size],_,_,H1,rfl,I1.kept (t':=s1.toks) fun b o e => Heap.get?_push_of_some _ e,turn_list a _,⟨_,Heap.get?_push_size _ rfl,rfl,rfl⟩,fun b hb => ?_,q⟩
 have e:b=s1.heap.objs.size:=by simpa using hb
 subst e
 exact I1.fpOk (Nat.le_refl _) (I1.hok.fresh (Nat.le_refl _))
theorem pi_tup {l:Expr} {tl:TE} (hl:PE X l tl):PI X tg l (iTup X.K tl):=by
 intro pins s σ H R I h
 refine thn (hl pins s σ H _ I h) fun v s1 ⟨x,H1,I1,r1,q1⟩ => ?_
 obtain ⟨a,e,⟨xs,hq⟩,q⟩:=q1
 subst e
 cases r1
 obtain ⟨its,rv,p,hz⟩:=I1.tuple hq
 refine wpAny_pyIter_tuple (show s1.heap.IsTuple a its.toArray from p) ?_
 refine ⟨s1.heap.objs.size,[s1.heap.objs.size],_,_,H1,rfl,I1.kept (t':=s1.toks) fun b o e => Heap.get?_push_of_some _ e,turn_tuple a _,⟨_,Heap.get?_push_size _ rfl,rfl,rfl⟩,fun b hb => ?_,q⟩
 have e:b=s1.heap.objs.size:=by simpa using hb
 subst e
 exact I1.fpOk (Nat.le_refl _) (I1.hok.fresh (Nat.le_refl _))
theorem range_it {pins:List (Addr × Obj)} {σ:St} {H:Hp} {s:Shared} {R:It→Hp→Prop} {E:Value→Shared→Prop} {lo hi:Int} {t u v:Tok} {tk:Nat} (I:Inv X pins σ H s) (h1 : -(2 ^ 62) ≤ lo) (h2:lo < 2 ^ 62) (h3 : -(2 ^ 62) ≤ hi) (h4:hi < 2 ^ 62)
  (q:R (Itr lo (hi - lo).toNat) H):wpAny (model X.prog X.w) X.A (pyIter (.ref s.heap.objs.size)) (PIE X pins σ tg R) E { s with heap:=s.heap.push { cls:=.type "range",data:=.fields #[.int lo t,.int hi u,.int 1 v] },toks:=tk }:=by
 refine wpAny_pyIter_range (IsRange.new ..) (small_one h1 h2 h3 h4) ?_
 have I1:Inv X pins σ H { s with heap:=s.heap.push { cls:=.type "range",data:=.fields #[.int lo t,.int hi u,.int 1 v] },toks:=tk }:=I.kept fun b o e => Heap.get?_push_of_some _ e
 refine ⟨(s.heap.push { cls:=.type "range",data:=.fields #[.int lo t,.int hi u,.int 1 v] }).objs.size,[(s.heap.push { cls:=.type "range",data:=.fields #[.int lo t,.int hi u,.int 1 v] }).objs.size],_,_,H,rfl,
  I1.kept (t':=tk) fun b o e => Heap.get?_push_of_some _ e,turn_range _ lo (hi - lo).toNat,?_,fun b hb => ?_,q⟩
 ·have e1:lo + ((0:Nat):Int) * 1=lo:=by simp
  have e2:(((hi - lo).toNat:Nat):Int) - ((0:Nat):Int)=Builtin.Range.rangeSize lo hi 1:=by rw [rangeSize_one]; split <;> omega
  show IsRangeIter _ _ (lo + ((0:Nat):Int) * 1) ((((hi - lo).toNat:Nat):Int) - ((0:Nat):Int)) 1
  rw [e1,e2]
  exact Heap.get?_push_size _ rfl
 ·have e:b=(s.heap.push { cls:=.type "range",data:=.fields #[.int lo t,.int hi u,.int 1 v] }).objs.size:=by simpa using hb
  subst e
  exact I1.fpOk (Nat.le_refl _) (I1.hok.fresh (Nat.le_refl _))
def iRng1 (ta:TA):TI:=fun σ H R => ta σ H fun vs H1 => ∃ j:Int,vs=[.int j]∧-(2 ^ 62) ≤ j∧j < 2 ^ 62∧R (Itr 0 j.toNat) H1
def iRng2 (ta:TA):TI:=fun σ H R => ta σ H fun vs H1 => ∃ i j:Int,vs=[.int i,.int j]∧(-(2 ^ 62) ≤ i∧i < 2 ^ 62∧-(2 ^ 62) ≤ j∧j < 2 ^ 62)∧R (Itr i (j - i).toNat) H1
theorem pi_range1 {a:Expr} {ta:TA} {p pos:PySem.Pos} (hg:Gl X "range") (hm:X.mg "range" = none) (ha:PA X [a] ta) (hs:starEach [a] X.env=[(false,eval a X.env)]:=by rfl):PI X tg (.Call (.Name "range" p) [a] [] pos) (iRng1 ta):=by
 intro pins s σ H R I h
 refine Call_ (ld_blt I hg hm boot_range (PyProof.Rows.callWith_type1 (thn (ha pos pins s σ H _ I h) fun us s1 ⟨vs,H1,I1,r1,q1⟩ => ?_) hs rfl))
 obtain ⟨j,e,q1,q2,q⟩:=q1
 subst e
 cases r1 with
 | cons r rr =>
  cases rr
  obtain ⟨t,rfl⟩:=r
  exact call_range_1 (range_it I1 (by omega) (by omega) q1 q2 (by simpa using q))
theorem pi_range2 {a b:Expr} {ta:TA} {p pos:PySem.Pos} (hg:Gl X "range") (hm:X.mg "range" = none) (ha:PA X [a,b] ta) (hs:starEach [a,b] X.env=[(false,eval a X.env),(false,eval b X.env)]:=by rfl) (hs2:starEach [b] X.env=[(false,eval b X.env)]:=by rfl) :
  PI X tg (.Call (.Name "range" p) [a,b] [] pos) (iRng2 ta):=by
 intro pins s σ H R I h
 refine Call_ (ld_blt I hg hm boot_range (PyProof.Rows.callWith_type1 (thn (ha pos pins s σ H _ I h) fun us s1 ⟨vs,H1,I1,r1,q1⟩ => ?_) (by rw [hs,hs2]) (by rw [hs2]; rfl)))
 obtain ⟨i,j,e,⟨q1,q2,q3,q4⟩,q⟩:=q1
 subst e
 cases r1 with
 | cons r rr =>
  cases rr with
  | cons r' rr =>
   cases rr
   obtain ⟨t,rfl⟩:=r
   obtain ⟨t',rfl⟩:=r'
   exact call_range_2 (range_it I1 q1 q2 q3 q4 q)
def tFor (wi:TI) (g:TG) (tb:TS):TS:=fun D σ H => wi σ H fun J H1 => ∃ W:Nat→Nat→St→Hp→Prop,(∃ m,W 0 m σ H1)∧∀ i m σ H,W i m σ H →
 (J.stop i H∧D.nx σ H) ∨ (J.go i H∧∃ N:St→Hp→Prop,(∀ σ' H',N σ' H'→∃ m',m' < m∧W (i + 1) m' σ' H')∧∀ x H',J.yld i H x H'→g x σ H' fun σ2 H2 => tb { D with nx:=N,ct:=N,bk:=D.nx } σ2 H2)
def pinsAt (fp:List Addr) (h:Heap):List (Addr × Obj):=fp.filterMap fun b => (h.get? b).map fun o => (b,o)
theorem mem_pinsAt {fp:List Addr} {h:Heap} {b:Addr} {o:Obj} (hb:b ∈ fp) (e:h.get? b=some o):(b,o) ∈ pinsAt fp h:=List.mem_filterMap.mpr ⟨b,hb,by rw [e]; rfl⟩
theorem of_pinsAt {fp:List Addr} {h:Heap} {p:Addr × Obj} (hp:p ∈ pinsAt fp h):p.1 ∈ fp∧h.get? p.1=some p.2:=by
 obtain ⟨b,hb,e⟩:=List.mem_filterMap.mp hp
 cases q:h.get? b with
 | none => rw [q] at e; cases e
 | some o =>
  rw [q] at e
  have e' : (b,o)=p:=Option.some.inj e
  subst e'
  exact ⟨hb,q⟩
theorem Inv.pinned {pins:List (Addr × Obj)} {σ:St} {H:Hp} {s:Shared} {fp:List Addr} (I:Inv X pins σ H s) (hf:∀ b ∈ fp,FpOk X pins H b) (ho:∀ b ∈ fp,∃ o,s.heap.get? b=some o∧∀ v,o.data ≠ .cell v):Inv X (pins ++ pinsAt fp s.heap) σ H s :=
 I.pins_of fun p hp => (List.mem_append.mp hp).elim (fun z => I.pin p (List.mem_append_right _ z)) fun z => by
  obtain ⟨hb,e⟩:=of_pinsAt z
  obtain ⟨f0,f1,f2,_⟩:=hf p.1 hb
  obtain ⟨o,e',d⟩:=ho p.1 hb
  rw [e] at e'; cases e'
  exact ⟨e,f0,f1,f2,d⟩
theorem Inv.unpinned {pins pl:List (Addr × Obj)} {σ:St} {H:Hp} {s:Shared} (I:Inv X (pins ++ pl) σ H s):Inv X pins σ H s:=I.pins_of fun p hp => I.pin p (List.mem_append_right _ (List.mem_append_left _ hp))
theorem ps_for {iter:Expr} {body:List Stmt} {wi:TI} {g:TG} {tb:TS} {pos:PySem.Pos} (hp:PassesOwn (model X.prog X.w) X.A X.env X.xe) (hc:X.calm=true) (hi:PI X tg iter wi) (hg:PG X tg g) (hb:PSs X body tb)
  (hs:∀ x,foldedSetIterable iter X.env x=pure x:=by intro _; rfl):PS X (.For tg iter body [] pos) (tFor wi g tb):=by
 intro pins s σ H D I h
 refine wpAny_For (thn (hi pins s σ H _ I h) fun v s1 h1 => thn h1 fun itv s2 h2 => ?_) hs
 obtain ⟨it,fp,tn,J,H2,e,I2,T,st2,f2,W,⟨m0,w0⟩,turn⟩:=h2
 subst e
 have stat:∀ {H' : Hp},(∀ b ∈ fp,H' b=none)→∀ b ∈ fp,FpOk X pins H' b:=fun hn b hb => ⟨hn b hb,(f2 b hb).2⟩
 refine codeAny_forLoop_any (fun n s' => ∃ i σ' H',Inv X pins σ' H' s'∧tn i s'.heap∧(∀ b ∈ fp,H' b=none)∧W i n σ' H') ?_ m0 ⟨0,σ,H2,I2,st2,fun b hb => (f2 b hb).1,w0⟩
 rintro n s3 ⟨i,σ3,H3,I3,st3,fr3,w3⟩
 rcases turn i n σ3 H3 w3 with ⟨stop,qn⟩ | ⟨go,N,hN,step⟩
 ·refine wpAny_passesOwn hp (thn (T.done X rfl rfl rfl hc i pins s3 σ3 H3 X.xe I3 (stat fr3) st3 stop) fun r s4 ⟨hr,I4⟩ => ?_)
  subst hr
  exact wpAny_execs_nil ⟨σ3,H3,I4,qn⟩
 ·refine wpAny_passesOwn hp (thn (T.item X rfl rfl rfl hc i pins s3 σ3 H3 X.xe I3 (stat fr3) st3 go) fun r s4 ⟨u,hr,h4⟩ => ?_)
  subst hr
  refine wpAny_passesOwn hp (thn h4 fun _ s5 ⟨x,H5,I5,r5,y5,st5,fr5⟩ => ?_)
  have I5':=I5.pinned (stat fr5) (T.obj _ _ st5)
  refine wpAny_passesOwn hp (thn (hg _ s5 σ3 H5 x u _ I5' r5 (step x H5 y5)) fun _ s6 ⟨σ6,H6,I6,q6⟩ => ?_)
  refine wpAny_passesOwn hp (thn (hb _ s6 σ6 H6 _ I6 q6) fun f s7 q7 => ?_)
  have again:∀ {σ7:St} {H7:Hp},Inv X (pins ++ pinsAt fp s5.heap) σ7 H7 s7→N σ7 H7→∃ m,m < n∧∃ i σ' H',Inv X pins σ' H' s7∧tn i s7.heap∧(∀ b ∈ fp,H' b=none)∧W i m σ' H':=fun {σ7 H7} I7 n7 => by
   obtain ⟨m',hm,w7⟩:=hN σ7 H7 n7
   refine ⟨m',hm,i + 1,σ7,H7,I7.unpinned,T.keep _ _ _ st5 fun b hb o e => (I7.pin (b,o) (List.mem_append_right _ (List.mem_append_right _ (mem_pinsAt hb e)))).1,fun b hb => ?_,w7⟩
   obtain ⟨o,e,d⟩:=T.obj _ _ st5 b hb
   exact (I7.pin (b,o) (List.mem_append_right _ (List.mem_append_right _ (mem_pinsAt hb e)))).2.1
  cases f with
  | next => obtain ⟨σ7,H7,I7,n7⟩:=q7; exact again I7 n7
  | cont => obtain ⟨σ7,H7,I7,n7⟩:=q7; exact again I7 n7
  | brk => obtain ⟨σ7,H7,I7,q7⟩:=q7; exact ⟨σ7,H7,I7.unpinned,q7⟩
  | ret v => obtain ⟨x7,σ7,H7,I7,r7,q7⟩:=q7; exact ⟨x7,σ7,H7,I7.unpinned,r7,q7⟩
end
theorem for_list {K:PySem.W.Frag} {a:Addr} {xs:List V} {g:TG} {tb:TS} {D:Ends} {σ:St} {H:Hp} (Pv:Nat→St→Hp→Prop) (h0:Pv 0 σ H) (hl:∀ i σ H,i ≤ xs.length→Pv i σ H→SqL K H a xs)
  (hs:∀ i x σ H,xs[i]? = some x→Pv i σ H→g x σ H fun σ2 H2 => tb { D with nx:=Pv (i + 1),ct:=Pv (i + 1),bk:=D.nx } σ2 H2) (hd:∀ σ H,Pv xs.length σ H→D.nx σ H) :
  ∃ W:Nat→Nat→St→Hp→Prop,(∃ m,W 0 m σ H)∧∀ i m σ H,W i m σ H →
   ((Itl K a).stop i H∧D.nx σ H) ∨ ((Itl K a).go i H∧∃ N:St→Hp→Prop,(∀ σ' H',N σ' H'→∃ m',m' < m∧W (i + 1) m' σ' H')∧∀ x H',(Itl K a).yld i H x H'→g x σ H' fun σ2 H2 => tb { D with nx:=N,ct:=N,bk:=D.nx } σ2 H2):=by
 refine ⟨fun i m σ H => m=xs.length - i∧i ≤ xs.length∧Pv i σ H,⟨xs.length,by simp,Nat.zero_le _,h0⟩,?_⟩
 rintro i m σ H ⟨rfl,hi,p⟩
 have q:=hl i σ H hi p
 by_cases hlt:i < xs.length
 ·refine .inr ⟨⟨xs,xs[i],q,by simp [hlt]⟩,Pv (i + 1),fun σ' H' p' => ⟨xs.length - (i + 1),by omega,rfl,hlt,p'⟩,fun x H' y => ?_⟩
  obtain ⟨e,y⟩:=y
  subst e
  exact hs i x σ _ (y xs q) p
 ·have e:i=xs.length:=by omega
  subst e
  exact .inl ⟨⟨xs,q,Nat.le_refl _⟩,hd σ H p⟩
theorem for_range {lo:Int} {n:Nat} {g:TG} {tb:TS} {D:Ends} {σ:St} {H:Hp} (Pv:Nat→St→Hp→Prop) (h0:Pv 0 σ H)
  (hs:∀ i σ H,i < n→Pv i σ H→g (.int (lo + i)) σ H fun σ2 H2 => tb { D with nx:=Pv (i + 1),ct:=Pv (i + 1),bk:=D.nx } σ2 H2) (hd:∀ σ H,Pv n σ H→D.nx σ H) :
  ∃ W:Nat→Nat→St→Hp→Prop,(∃ m,W 0 m σ H)∧∀ i m σ H,W i m σ H →
   ((Itr lo n).stop i H∧D.nx σ H) ∨ ((Itr lo n).go i H∧∃ N:St→Hp→Prop,(∀ σ' H',N σ' H'→∃ m',m' < m∧W (i + 1) m' σ' H')∧∀ x H',(Itr lo n).yld i H x H'→g x σ H' fun σ2 H2 => tb { D with nx:=N,ct:=N,bk:=D.nx } σ2 H2):=by
 refine ⟨fun i m σ H => m=n - i∧i ≤ n∧Pv i σ H,⟨n,by simp,Nat.zero_le _,h0⟩,?_⟩
 rintro i m σ H ⟨rfl,hi,p⟩
 by_cases hlt:i < n
 ·refine .inr ⟨hlt,Pv (i + 1),fun σ' H' p' => ⟨n - (i + 1),by omega,rfl,hlt,p'⟩,fun x H' y => ?_⟩
  obtain ⟨e,y⟩:=y
  subst e y
  exact hs i σ _ hlt p
 ·have e:i=n:=by omega
  subst e
  exact .inl ⟨Nat.le_refl _,hd σ H p⟩
theorem while_by {c:TT} {tb:TS} {D:Ends} {σ:St} {H:Hp} (Pv:St→Hp→Prop) (μ:St→Hp→Nat) (h0:Pv σ H)
  (hs:∀ σ H,Pv σ H→c σ H fun b H1 => if b=true then tb { D with nx:=fun σ' H' => Pv σ' H'∧μ σ' H' < μ σ H,ct:=fun σ' H' => Pv σ' H'∧μ σ' H' < μ σ H,bk:=D.nx } σ H1 else D.nx σ H1)
  (mono:∀ σ H Q Q',(∀ b H1,Q b H1→Q' b H1)→c σ H Q→c σ H Q'):tWhile c tb D σ H:=by
 refine ⟨fun m σ H => m=μ σ H∧Pv σ H,⟨_,rfl,h0⟩,?_⟩
 rintro m σ H ⟨rfl,p⟩
 refine mono σ H _ _ (fun b H1 q => ?_) (hs σ H p)
 cases b with
 | true => exact ⟨_,fun σ' H' ⟨p',l⟩ => ⟨_,l,rfl,p'⟩,q⟩
 | false => exact q
end L2
namespace L2
open PySem PySem.Spec PyProof.Rows
abbrev R2:=V→V→Hp→VK→Prop
def OpR (X:Cx) (f:Value→Value→Sem Value) (r:R2):Prop :=
 ∀ (pins:List (Addr × Obj)) (s:Shared) (σ:St) (H:Hp) (x y:V) (v u:Value) (Q:VK),Inv X pins σ H s→RelV x v→RelV y u→r x y H Q →
  wpAny (model X.prog X.w) X.A (f v u) (EP X pins σ Q) X.xe s
def UnR (X:Cx) (f:Value→Sem Value) (r:V→Hp→VK→Prop):Prop :=
 ∀ (pins:List (Addr × Obj)) (s:Shared) (σ:St) (H:Hp) (x:V) (v:Value) (Q:VK),Inv X pins σ H s→RelV x v→r x H Q →
  wpAny (model X.prog X.w) X.A (f v) (EP X pins σ Q) X.xe s
def CallR (X:Cx) (f:Value) (r:List V→Hp→VK→Prop):Prop :=
 ∀ (pins:List (Addr × Obj)) (s:Shared) (σ:St) (H:Hp) (xs:List V) (us:List Value) (Q:VK),Inv X pins σ H s→Vals xs us→r xs H Q →
  wpAny (model X.prog X.w) X.A (call f us) (EP X pins σ Q) X.xe s
def tOp (r:R2) (ta tb:TE):TE:=fun σ H Q => ta σ H fun x H1 => tb σ H1 fun y H2 => r x y H2 Q
def tUn (r:V→Hp→VK→Prop) (ta:TE):TE:=fun σ H Q => ta σ H fun x H1 => r x H1 Q
def rI (C:Int→Int→Prop) (g:Int→Int→V):R2:=fun x y H Q => ∃ i j,x = .int i∧y = .int j∧C i j∧Q (g i j) H
def rI0 (g:Int→Int→V):R2:=fun x y H Q => ∃ i j,x = .int i∧y = .int j∧Q (g i j) H
def rU (g:Int→V):V→Hp→VK→Prop:=fun x H Q => ∃ i,x = .int i∧Q (g i) H
section
variable {X:Cx} {a b c:Expr} {ta tb tc:TE} {pos:PySem.Pos}
theorem binT (ha:PE X a ta) (hb:PE X b tb) {pins:List (Addr × Obj)} {s:Shared} {σ:St} {H:Hp} {R:V→V→Hp→Prop} (I:Inv X pins σ H s)
  (h:ta σ H fun x H1 => tb σ H1 fun y H2 => R x y H2) {Q:Value→Shared→Prop} {f:Value→Value→Sem Value}
  (hf:∀ v u s2 x y H2,Inv X pins σ H2 s2→RelV x v→RelV y u→R x y H2→wpAny (model X.prog X.w) X.A (f v u) Q X.xe s2) :
  wpAny (model X.prog X.w) X.A (eval a X.env) (fun v s₁ => wpAny (model X.prog X.w) X.A (eval b X.env) (fun u s₂ => wpAny (model X.prog X.w) X.A (f v u) Q X.xe s₂) X.xe s₁) X.xe s:=by
 refine thn (ha pins s σ H _ I h) fun v s1 ⟨x,H1,I1,r1,q1⟩ => ?_
 refine thn (hb pins s1 σ H1 _ I1 q1) fun u s2 ⟨y,H2,I2,r2,q2⟩ => ?_
 exact hf v u s2 x y H2 I2 r1 r2 q2
theorem pe_op {op:Operator} {r:R2} (ho:OpR X (binaryOp op) r) (ha:PE X a ta) (hb:PE X b tb):PE X (.BinOp a op b pos) (tOp r ta tb):=by
 intro pins s σ H Q I h
 exact wpAny_BinOp (binT ha hb I h fun v u s2 x y H2 I2 rx ry q => ho pins s2 σ H2 x y v u Q I2 rx ry q)
theorem pe_un {op:UnaryOp} {r:V→Hp→VK→Prop} (ho:UnR X (unaryOp op) r) (ha:PE X a ta):PE X (.UnaryOp op a pos) (tUn r ta):=by
 intro pins s σ H Q I h
 exact UnaryOp_ (thn (ha pins s σ H _ I h) fun v s1 ⟨x,H1,I1,r1,q1⟩ => ho pins s1 σ H1 x v Q I1 r1 q1)
theorem opI {f:Value→Value→Sem Value} {C:Int→Int→Prop} {g:Int→Int→Int}
  (rule:∀ (i j:Int) (t u:Tok) (s:Shared) (Q:Value→Shared→Prop) (E:Value→Shared→Prop),C i j→Q (.int (g i j) s.toks) { s with toks:=s.toks + 1 }→wpAny (model X.prog X.w) X.A (f (.int i t) (.int j u)) Q E s) :
  OpR X f (rI C fun i j => .int (g i j)):=by
 intro pins s σ H x y v u Q I rx ry h
 obtain ⟨i,j,rfl,rfl,hc,q⟩:=h
 obtain ⟨t,rfl⟩:=rx
 obtain ⟨t',rfl⟩:=ry
 exact rule i j t t' s _ _ hc ⟨.int (g i j),H,I.tok _,⟨_,rfl⟩,q⟩
theorem opI0 {f:Value→Value→Sem Value} {g:Int→Int→Int}
  (rule:∀ (i j:Int) (t u:Tok) (s:Shared) (Q:Value→Shared→Prop) (E:Value→Shared→Prop),Q (.int (g i j) s.toks) { s with toks:=s.toks + 1 }→wpAny (model X.prog X.w) X.A (f (.int i t) (.int j u)) Q E s) :
  OpR X f (rI0 fun i j => .int (g i j)):=by
 intro pins s σ H x y v u Q I rx ry h
 obtain ⟨i,j,rfl,rfl,q⟩:=h
 obtain ⟨t,rfl⟩:=rx
 obtain ⟨t',rfl⟩:=ry
 exact rule i j t t' s _ _ ⟨.int (g i j),H,I.tok _,⟨_,rfl⟩,q⟩
theorem opB0 {f:Value→Value→Sem Value} {g:Int→Int→Bool}
  (rule:∀ (i j:Int) (t u:Tok) (s:Shared) (Q:Value→Shared→Prop) (E:Value→Shared→Prop),Q (.bool (g i j)) s→wpAny (model X.prog X.w) X.A (f (.int i t) (.int j u)) Q E s) :
  OpR X f (rI0 fun i j => .bl (g i j)):=by
 intro pins s σ H x y v u Q I rx ry h
 obtain ⟨i,j,rfl,rfl,q⟩:=h
 obtain ⟨t,rfl⟩:=rx
 obtain ⟨t',rfl⟩:=ry
 exact rule i j t t' s _ _ ⟨.bl (g i j),H,I,rfl,q⟩
def CPow (i j:Int):Prop:=0 ≤ j∧j ≤ 1000000∧i.natAbs < 2 ^ 64
def CMul (i j:Int):Prop:=(-(2 ^ 64) < i∧i < 2 ^ 64) ∨ (-(2 ^ 64) < j∧j < 2 ^ 64)
theorem CMul.ok {i j:Int} (h:CMul i j):IntMulOk i j:=by
 rcases h with ⟨h1,h2⟩ | ⟨h1,h2⟩
 ·exact .of_left (intBits_le_64 h1 h2)
 ·exact .of_right (intBits_le_64 h1 h2)
theorem op_add:OpR X (binaryOp .Add) (rI0 fun i j => .int (i + j)):=opI0 fun _ _ _ _ _ _ _ q => add_int q
theorem op_sub:OpR X (binaryOp .Sub) (rI0 fun i j => .int (i - j)):=opI0 fun _ _ _ _ _ _ _ q => sub_int q
theorem op_mul:OpR X (binaryOp .Mult) (rI CMul fun i j => .int (i * j)):=opI fun _ _ _ _ _ _ _ hc q => mul_int q hc.ok
theorem op_mod:OpR X (binaryOp .Mod) (rI (fun _ j => 0 < j) fun i j => .int (i % j)):=opI fun i j _ _ _ _ _ hc q => by
 have h1:(0:Int) < j:=hc
 exact mod_int' (by omega) (by rw [Int.fmod_eq_emod_of_nonneg i (by omega)]; exact q)
theorem op_pow:OpR X (binaryOp .Pow) (rI CPow fun i j => .int (i ^ j.toNat)):=opI fun _ _ _ _ _ _ _ hc q => pow_int_small hc.1 hc.2.1 hc.2.2 q
theorem unI {f:Value→Sem Value} {g:Int→Int}
  (rule:∀ (i:Int) (t:Tok) (s:Shared) (Q:Value→Shared→Prop) (E:Value→Shared→Prop),Q (.int (g i) s.toks) { s with toks:=s.toks + 1 }→wpAny (model X.prog X.w) X.A (f (.int i t)) Q E s) :
  UnR X f (rU fun i => .int (g i)):=by
 intro pins s σ H x v Q I rx h
 obtain ⟨i,rfl,q⟩:=h
 obtain ⟨t,rfl⟩:=rx
 exact rule i t s _ _ ⟨.int (g i),H,I.tok _,⟨_,rfl⟩,q⟩
theorem un_neg:UnR X (unaryOp .USub) (rU fun i => .int (-i)):=unI fun _ _ _ _ _ q => neg_int q
end
def scal:V→V→Bool
 | .non,.non => true | .non,.int _ => true | .int _,.non => true | .non,.bl _ => true | .bl _,.non => true | .non,.str _ => true | .str _,.non => true
 | .int _,.int _ => true | .bl _,.bl _ => true | .str _,.str _ => true | .byt _,.byt _ => true
 | .int _,.str _ => true | .str _,.int _ => true | .bl _,.str _ => true | .str _,.bl _ => true
 | _,_ => false
def rEq:R2:=fun x y H Q => scal x y=true∧Q (.bl (decide (x=y))) H
def rNe:R2:=fun x y H Q => scal x y=true∧Q (.bl (!decide (x=y))) H
theorem dec_int {i j:Int} : decide (V.int i=V.int j)=(i == j):=by
 rw [Bool.eq_iff_iff]
 simp
theorem dec_bl {i j:Bool} : decide (V.bl i=V.bl j)=(i == j):=by
 rw [Bool.eq_iff_iff]
 simp
theorem dec_str {i j:Str} : decide (V.str i=V.str j)=(i == j):=by
 rw [Bool.eq_iff_iff]
 simp
theorem dec_byt {i j:Array UInt8} : decide (V.byt i=V.byt j)=(i.toList == j.toList):=by
 rw [Bool.eq_iff_iff]
 cases i
 cases j
 simp
section
variable {X:Cx} {a b c:Expr} {ta tb tc:TE} {pos:PySem.Pos}
theorem fin_bl {pins:List (Addr × Obj)} {σ:St} {H:Hp} {s:Shared} {Q:VK} {k k' : Bool} (I:Inv X pins σ H s) (q:Q (.bl k) H) (e:k=k'):EP X pins σ Q (.bool k') s:=by
 subst e
 exact ⟨.bl k,H,I,rfl,q⟩
theorem op_eq:OpR X (compareOp .Eq) rEq:=by
 intro pins s σ H x y v u Q I rx ry h
 obtain ⟨hs,q⟩:=h
 cases x with
 | non =>
  cases rx
  cases y with
  | non => cases ry; exact PySem.EqNone.eq_none_none (fin_bl I q (by simp))
  | bl j => cases ry; exact PySem.EqNone.eq_none_bool (fin_bl I q (by simp))
  | int j => obtain ⟨t',rfl⟩:=ry; exact PySem.EqNone.eq_none_int (fin_bl I q (by simp))
  | str j => obtain ⟨t',rfl⟩:=ry; exact PySem.EqNone.eq_none_str (fin_bl I q (by simp))
  | _ => exact absurd (show false=true from hs) Bool.false_ne_true
 | bl i =>
  cases rx
  cases y with
  | non => cases ry; exact PySem.EqNone.eq_bool_none (fin_bl I q (by simp))
  | bl j => cases ry; exact eq_bool (fin_bl I q dec_bl)
  | str j => obtain ⟨t',rfl⟩:=ry; exact PySem.EqMixed.eq_bool_str (fin_bl I q (by simp))
  | _ => exact absurd (show false=true from hs) Bool.false_ne_true
 | int i =>
  obtain ⟨t,rfl⟩:=rx
  cases y with
  | non => cases ry; exact PySem.EqNone.eq_int_none (fin_bl I q (by simp))
  | int j => obtain ⟨t',rfl⟩:=ry; exact eq_int (fin_bl I q dec_int)
  | str j => obtain ⟨t',rfl⟩:=ry; exact PySem.EqMixed.eq_int_str (fin_bl I q (by simp))
  | _ => exact absurd (show false=true from hs) Bool.false_ne_true
 | str i =>
  obtain ⟨t,rfl⟩:=rx
  cases y with
  | non => cases ry; exact PySem.EqNone.eq_str_none (fin_bl I q (by simp))
  | bl j => cases ry; exact PySem.EqMixed.eq_str_bool (fin_bl I q (by simp))
  | int j => obtain ⟨t',rfl⟩:=ry; exact PySem.EqMixed.eq_str_int (fin_bl I q (by simp))
  | str j => obtain ⟨t',rfl⟩:=ry; exact eq_str (fin_bl I q dec_str)
  | _ => exact absurd (show false=true from hs) Bool.false_ne_true
 | byt i =>
  obtain ⟨t,rfl⟩:=rx
  cases y with
  | byt j => obtain ⟨t',rfl⟩:=ry; exact PySem.W.eq_bytes (fin_bl I q dec_byt)
  | _ => exact absurd (show false=true from hs) Bool.false_ne_true
 | _ => cases y <;> exact absurd (show false=true from hs) Bool.false_ne_true
theorem op_ne:OpR X (compareOp .NotEq) rNe:=by
 intro pins s σ H x y v u Q I rx ry h
 obtain ⟨hs,q⟩:=h
 cases x with
 | non =>
  cases rx
  cases y with
  | non => cases ry; exact PySem.EqNone.ne_none_none (fin_bl I q (by simp))
  | bl j => cases ry; exact PySem.EqNone.ne_none_bool (fin_bl I q (by simp))
  | int j => obtain ⟨t',rfl⟩:=ry; exact PySem.EqNone.ne_none_int (fin_bl I q (by simp))
  | str j => obtain ⟨t',rfl⟩:=ry; exact PySem.EqNone.ne_none_str (fin_bl I q (by simp))
  | _ => exact absurd (show false=true from hs) Bool.false_ne_true
 | bl i =>
  cases rx
  cases y with
  | non => cases ry; exact PySem.EqNone.ne_bool_none (fin_bl I q (by simp))
  | bl j => cases ry; exact ne_bool (fin_bl I q (congrArg not dec_bl))
  | str j => obtain ⟨t',rfl⟩:=ry; exact PySem.EqMixed.ne_bool_str (fin_bl I q (by simp))
  | _ => exact absurd (show false=true from hs) Bool.false_ne_true
 | int i =>
  obtain ⟨t,rfl⟩:=rx
  cases y with
  | non => cases ry; exact PySem.EqNone.ne_int_none (fin_bl I q (by simp))
  | int j => obtain ⟨t',rfl⟩:=ry; exact ne_int (fin_bl I q (congrArg not dec_int))
  | str j => obtain ⟨t',rfl⟩:=ry; exact PySem.EqMixed.ne_int_str (fin_bl I q (by simp))
  | _ => exact absurd (show false=true from hs) Bool.false_ne_true
 | str i =>
  obtain ⟨t,rfl⟩:=rx
  cases y with
  | non => cases ry; exact PySem.EqNone.ne_str_none (fin_bl I q (by simp))
  | bl j => cases ry; exact PySem.EqMixed.ne_str_bool (fin_bl I q (by simp))
  | int j => obtain ⟨t',rfl⟩:=ry; exact PySem.EqMixed.ne_str_int (fin_bl I q (by simp))
  | str j => obtain ⟨t',rfl⟩:=ry; exact ne_str (fin_bl I q (congrArg not dec_str))
  | _ => exact absurd (show false=true from hs) Bool.false_ne_true
 | byt i =>
  obtain ⟨t,rfl⟩:=rx
  cases y with
  | byt j => obtain ⟨t',rfl⟩:=ry; exact PySem.W.ne_bytes (fin_bl I q (congrArg not dec_byt))
  | _ => exact absurd (show false=true from hs) Bool.false_ne_true
 | _ => cases y <;> exact absurd (show false=true from hs) Bool.false_ne_true
theorem op_lt:OpR X (compareOp .Lt) (rI0 fun i j => .bl (decide (i < j))):=opB0 fun _ _ _ _ _ _ _ q => lt_int q
theorem op_le:OpR X (compareOp .LtE) (rI0 fun i j => .bl (decide (i ≤ j))):=opB0 fun _ _ _ _ _ _ _ q => le_int q
theorem op_gt:OpR X (compareOp .Gt) (rI0 fun i j => .bl (decide (j < i))):=opB0 fun _ _ _ _ _ _ _ q => gt_int q
theorem op_ge:OpR X (compareOp .GtE) (rI0 fun i j => .bl (decide (j ≤ i))):=opB0 fun _ _ _ _ _ _ _ q => ge_int q
theorem op_in_str:OpR X (compareOp .In) (fun x y H Q => ∃ i j,x = .str i∧y = .str j∧Q (.bl (!(Builtin.Str.occurrences j i 0 j.length 1).isEmpty)) H):=by
 intro pins s σ H x y v u Q I rx ry h
 obtain ⟨i,j,rfl,rfl,q⟩:=h
 obtain ⟨t,rfl⟩:=rx
 obtain ⟨t',rfl⟩:=ry
 exact in_str (fin_bl I q rfl)
theorem nomark (b:Expr) {op:CmpOp} (h:op ≠ .In:=by decide) (h2:op ≠ .NotIn:=by decide):behindInMarks op b=false:=by
 have e1:(op == CmpOp.In)=false:=by cases op <;> first | rfl | exact absurd rfl h
 have e2:(op == CmpOp.NotIn)=false:=by cases op <;> first | rfl | exact absurd rfl h2
 cases b <;> simp [behindInMarks,e1,e2]
theorem pe_cmpR {op:CmpOp} {r:R2} (ho:OpR X (compareOp op) r) (ha:PE X a ta) (hb:PE X b tb) (hm:behindInMarks op b=false):PE X (.Compare a [op] [b] pos) (tOp r ta tb):=by
 intro pins s σ H Q I h
 exact wpAny_Compare1 (binT ha hb I h fun v u s2 x y H2 I2 rx ry q => ho pins s2 σ H2 x y v u Q I2 rx ry q) hm
def tTest (t:TE):TT:=fun σ H Q => t σ H fun x H' => ∃ k,x = .bl k∧Q k H'
theorem pt_cmpR {op:CmpOp} {r:R2} (ho:OpR X (compareOp op) r) (ha:PE X a ta) (hb:PE X b tb) (hm:behindInMarks op b=false):PT X (.Compare a [op] [b] pos) (tTest (tOp r ta tb)):=by
 intro pins s σ H Q I h
 refine wpAny_isTrue_Compare1 (thn (ha pins s σ H _ I h) fun v s1 ⟨x,H1,I1,r1,q1⟩ => thn (hb pins s1 σ H1 _ I1 q1) fun u s2 ⟨y,H2,I2,r2,q2⟩ =>
  thn (ho pins s2 σ H2 x y v u _ I2 r1 r2 q2) fun c s3 ⟨z,H3,I3,r3,k,e,q3⟩ => ?_) hm
 subst e
 cases r3
 exact wpAny_truthy_bool ⟨H3,I3,q3⟩
def tChain (r r' : R2) (ta tb tc:TE):TE:=fun σ H Q => ta σ H fun x H1 => tb σ H1 fun y H2 => r x y H2 fun z H3 => ∃ k,z = .bl k ∧
 (if k=true then tc σ H3 fun w' H4 => r' y w' H4 Q else Q (.bl false) H3)
theorem pt_chain {op op' : CmpOp} {r r' : R2} (ho:OpR X (compareOp op) r) (ho' : OpR X (compareOp op') r') (ha:PE X a ta) (hb:PE X b tb) (hc:PE X c tc)
  (hm:lastMarks [op,op'] [b,c]=false:=by with_unfolding_all rfl):PT X (.Compare a [op,op'] [b,c] pos) (tTest (tChain r r' ta tb tc)):=by
 intro pins s σ H Q I h
 refine isTrue_chain (thn (ha pins s σ H _ I h) fun v s1 ⟨x,H1,I1,r1,q1⟩ => test_link (thn (hb pins s1 σ H1 _ I1 q1) fun u s2 ⟨y,H2,I2,r2,q2⟩ =>
  thn (ho pins s2 σ H2 x y v u _ I2 r1 r2 q2) fun d s3 ⟨z,H3,I3,r3,k,e,q3⟩ => ?_)) hm
 subst e
 cases r3
 refine wpAny_truthy_bool ?_
 cases k with
 | false =>
  obtain ⟨k',e',q'⟩:=q3
  cases e'
  exact ite_ff ⟨H3,I3,q'⟩
 | true =>
  refine ite_tt (test_last (thn (hc pins s3 σ H3 _ I3 q3) fun w' s4 ⟨z',H4,I4,r4,q4⟩ => thn (ho' pins s4 σ H4 y z' u w' _ I4 r2 r4 q4) fun d' s5 ⟨z2,H5,I5,r5,k2,e2,q5⟩ => ?_))
  subst e2
  cases r5
  exact wpAny_truthy_bool ⟨H5,I5,q5⟩
theorem line63:(sizeLine:Nat) < 2 ^ 63:=by rw [sizeLine_eq]; decide
theorem op_add_str:OpR X (binaryOp .Add) (fun x y H Q => ∃ i j,x = .str i∧y = .str j∧i.length + j.length ≤ sizeLine∧Q (.str (i ++ j)) H):=by
 intro pins s σ H x y v u Q I rx ry h
 obtain ⟨i,j,rfl,rfl,hz,q⟩:=h
 obtain ⟨t,rfl⟩:=rx
 obtain ⟨t',rfl⟩:=ry
 exact add_str (fun t' tk => ⟨.str (i ++ j),H,I.tok _,⟨_,rfl⟩,q⟩) hz
theorem vals1 {x:V} {us:List Value} (r:Vals [x] us):∃ u,us=[u]∧RelV x u:=by
 cases r with
 | cons r1 r2 => cases r2; exact ⟨_,rfl,r1⟩
theorem vals2 {x y:V} {us:List Value} (r:Vals [x,y] us):∃ u w',us=[u,w']∧RelV x u∧RelV y w':=by
 cases r with
 | cons r1 r2 =>
  cases r2 with
  | cons r3 r4 => cases r4; exact ⟨_,_,rfl,r1,r3⟩
theorem call_abs:CallR X (.builtin "abs") (fun xs H Q => ∃ i,xs=[.int i]∧Q (.int (if i < 0 then -i else i)) H):=by
 intro pins s σ H xs us Q I r h
 obtain ⟨i,rfl,q⟩:=h
 obtain ⟨u,rfl,t,rfl⟩:=vals1 r
 exact call_abs_int fun u tk => ⟨.int (if i < 0 then -i else i),H,I.tok _,⟨_,rfl⟩,q⟩
theorem call_min2 (hc:X.calm=true):CallR X (.builtin "min") (fun xs H Q => ∃ i j,xs=[.int i,.int j]∧Q (.int (if j < i then j else i)) H):=by
 intro pins s σ H xs us Q I r h
 obtain ⟨i,j,rfl,q⟩:=h
 obtain ⟨u,w',rfl,⟨t,rfl⟩,⟨t',rfl⟩⟩:=vals2 r
 refine min_two_ints (I.ok.hd hc) fun h' tk k => ⟨_,H,I.kept k,?_,q⟩
 by_cases hj:j < i
 ·rw [if_pos hj,if_pos hj]; exact ⟨_,rfl⟩
 ·rw [if_neg hj,if_neg hj]; exact ⟨_,rfl⟩
theorem call_int1:CallR X (.type "int") (fun xs H Q => (∃ i,xs=[.int i]∧Q (.int i) H) ∨ ∃ k,xs=[.bl k]∧Q (.int (if k then 1 else 0)) H):=by
 intro pins s σ H xs us Q I r h
 rcases h with ⟨i,rfl,q⟩ | ⟨k,rfl,q⟩
 ·obtain ⟨u,rfl,t,rfl⟩:=vals1 r
  exact call_int_int ⟨.int i,H,I,⟨_,rfl⟩,q⟩
 ·obtain ⟨u,rfl,r1⟩:=vals1 r
  cases r1
  exact call_int_bool ⟨.int (if k then 1 else 0),H,I.tok _,⟨_,rfl⟩,q⟩
theorem call_str_int:CallR X (.type "str") (fun xs H Q => ∃ i,xs=[.int i]∧i.natAbs.log2 < 1920∧Q (.str (toString i)) H):=by
 intro pins s σ H xs us Q I r h
 obtain ⟨i,rfl,hz,q⟩:=h
 obtain ⟨u,rfl,t,rfl⟩:=vals1 r
 exact PySem.P.str_of_int hz ⟨.str _,H,I.tok _,⟨_,rfl⟩,q⟩
end
end L2
namespace L2
open PySem PySem.Spec PyProof.Rows
structure ObjM (h:Heap) (x dx C:Addr) (mA:Str→Option Value):Prop where
 obj:h.get? x=some (PySem.W.instObj C dx)
 ns:h.Ns1 dx mA
 ne:dx ≠ x
theorem lookIn_ns {h:Heap} {dx:Addr} {mA:Str→Option Value} (n:h.Ns1 dx mA):∃ od,h.get? dx=some od∧∀ name,PySem.W.lookIn name od=some (mA name):=by
 obtain ⟨o,es,ep,ho,hd,hk,_,hm⟩:=n
 refine ⟨o,ho,fun name => ?_⟩
 have e:=hm name
 unfold nsFind findBy at e
 rw [← Array.find?_toList] at e
 unfold PySem.W.lookIn
 rw [hd]
 dsimp only
 split
 ·rename_i y q
  rw [q] at e
  exact congrArg some e
 ·rename_i q
  rw [q] at e
  have a:es.toList.any (·.refKey)=false:=by
   rw [List.any_eq_false]
   intro y hy
   obtain ⟨z,t,hkey⟩:=hk y (Array.mem_toList_iff.mp hy)
   simp [DictEntry.refKey,hkey]
  have a' : ¬ es.toList.any (·.refKey)=true:=by rw [a]; exact Bool.false_ne_true
  rw [if_neg a']
  exact congrArg some e
theorem ObjM.look {h:Heap} {x dx C:Addr} {mA:Str→Option Value} (I:ObjM h x dx C mA):∃ od,PySem.W.InstAt h x (PySem.W.instObj C dx) C (some od)∧∀ name,PySem.W.lookIn name od=some (mA name) :=
 let ⟨od,ho,hl⟩:=lookIn_ns I.ns
 ⟨od,⟨I.obj,rfl,rfl,ho⟩,hl⟩
section
variable {P:Program} {w:World} {H H' : Hp} {h h' : Heap} {a C dx:Addr} {fs fs' : List (Str × V)}
theorem ins_get (hok:HOk P w H h) (e:H a=some (.ins C dx fs)):∃ mA,ObjM h a dx C mA∧(∀ f,RelO (fs.lookup f) (mA f))∧PySem.Within mA (fs.map (·.1))∧fs.length ≤ 1000∧H dx=some (.own a):=by
 obtain ⟨d,z,ne,ob,mA,n,r,q⟩:=(show ObjOk P w H h a (.ins C dx fs) from hok a _ e)
 exact ⟨mA,⟨ob,n,ne⟩,r,q,z,d⟩
end
structure Cls (K:PySem.W.Frag) (C:Addr):Prop where
 pg:PySem.W.plainGet K C Str.empty=true
 hd:PySem.W.hasDictIn K C=true
 po:PySem.W.plainOver K C=true
 sa:PySem.W.findIn K (.ref C) "__setattr__" = some (some (.builtin "object.__setattr__"))
theorem Cls.get {K:PySem.W.Frag} {C:Addr} (c:Cls K C) (f:Str):PySem.W.plainGet K C f=true:=c.pg
section
variable {X:Cx} {pins:List (Addr × Obj)} {σ:St} {H:Hp} {s:Shared} {A:Around} {E:Value→Shared→Prop} {Q:Value→Shared→Prop} {c:Value} {b:Bool}
inductive TyOf (K:PySem.W.Frag) (H:Hp):V→Value→Prop where
 | non:TyOf K H .non (.type "NoneType")
 | bl (x:Bool):TyOf K H (.bl x) (.type "bool")
 | int (i:Int):TyOf K H (.int i) (.type "int")
 | str (x:Str):TyOf K H (.str x) (.type "str")
 | flt (x:UInt64):TyOf K H (.flt x) (.type "float")
 | lst {a:Addr} {xs:List V} (e:H a=some (.lst xs)):TyOf K H (.ref a) (.type "list")
 | frz {a:Addr} {o:Obj} {xs:List V} (e:H a=some (.frz o (.lst xs))):TyOf K H (.ref a) (.type "list")
 | tup {a:Addr} {xs:List V} (e:H a=some (.tup xs)):TyOf K H (.ref a) (.type "tuple")
 | dK {a:Addr} {kvs:List (Key × V)} (e:H a=some (.dK kvs)):TyOf K H (.ref a) (.type "dict")
 | dT {a:Addr} {kvs:List (List Key × V)} (e:H a=some (.dT kvs)):TyOf K H (.ref a) (.type "dict")
 | ins {a C dx:Addr} {fs:List (Str × V)} (e:H a=some (.ins C dx fs)) (cl:Cls K C) (ha:PySem.W.findIn K (.ref C) "__class__" = some (some (.builtin "object.__class__")))
   (hn:PySem.W.specialIn K (.builtin "object.__class__") "__get__" = some (some (.builtin "getset_descriptor.__get__"))) (htk:PySem.W.takesIn K (.builtin "object.__class__")=some true)
   (hm:PySem.W.mroIn K C (.type "object")=some true):TyOf K H (.ref a) (.ref C)
theorem isinst_ok {x:V} {u t:Value} (I:Inv X pins σ H s) (rx:RelV x u) (ty:TyOf X.K H x t) (e:PySem.W.kitOne X.K t c=some b) (h:∀ tk,Q (.bool b) { s with toks:=tk }) :
  wpAny (model X.prog X.w) A (call (.builtin "isinstance") [u,c]) Q E s:=by
 cases ty with
 | non => cases (show u=Value.none from rx); exact PySem.W.kia_one PySem.W.kitx_none I.kIn True.intro e (fun z => nomatch z) h
 | bl y => cases (show u=Value.bool y from rx); exact PySem.W.kia_one PySem.W.kitx_bool I.kIn True.intro e (fun z => nomatch z) h
 | int i => obtain ⟨t,q⟩:=(show ∃ t,u=Value.int i t from rx); cases q; exact PySem.W.kia_one PySem.W.kitx_int I.kIn True.intro e (fun z => nomatch z) h
 | str y => obtain ⟨t,q⟩:=(show ∃ t,u=Value.str y t from rx); cases q; exact PySem.W.kia_one PySem.W.kitx_str I.kIn True.intro e (fun z => nomatch z) h
 | flt y => obtain ⟨t,q⟩:=(show ∃ t,u=Value.float y t from rx); cases q; exact PySem.W.kia_one PySem.W.kitx_float I.kIn True.intro e (fun z => nomatch z) h
 | @lst a xs ea =>
  cases (show u=Value.ref a from rx)
  obtain ⟨_,_,n,_,h1⟩:=(show ObjOk X.prog X.w H s.heap a (.lst xs) from I.hok a _ ea)
  exact PySem.W.kia_one PySem.W.kitx_list I.kIn ⟨_,h1,rfl⟩ e (fun z => nomatch z) h
 | @frz a ob xs ea =>
  cases (show u=Value.ref a from rx)
  obtain ⟨_,_,_,n,_,h1⟩:=(show ObjOk X.prog X.w H s.heap a (.frz ob (.lst xs)) from I.hok a _ ea)
  exact PySem.W.kia_one PySem.W.kitx_list I.kIn ⟨_,h1,rfl⟩ e (fun z => nomatch z) h
 | @tup a xs ea =>
  cases (show u=Value.ref a from rx)
  obtain ⟨_,_,_,p⟩:=(show ObjOk X.prog X.w H s.heap a (.tup xs) from I.hok a _ ea)
  obtain ⟨o,h1,h2,_⟩:=p
  exact PySem.W.kia_one PySem.W.kitx_tuple I.kIn ⟨o,h1,h2⟩ e (fun z => nomatch z) h
 | @dK a kvs ea =>
  cases (show u=Value.ref a from rx)
  obtain ⟨_,_,vs,_,p⟩:=(show ObjOk X.prog X.w H s.heap a (.dK kvs) from I.hok a _ ea)
  obtain ⟨o,es,ep,h1,h2,_⟩:=p
  exact PySem.W.kia_one PySem.W.kitx_dict I.kIn ⟨o,h1,h2.1⟩ e (fun z => nomatch z) h
 | @dT a kvs ea =>
  cases (show u=Value.ref a from rx)
  obtain ⟨_,_,xs,_,o,es,ep,h1,h2,_⟩:=(show ObjOk X.prog X.w H s.heap a (.dT kvs) from I.hok a _ ea)
  exact PySem.W.kia_one PySem.W.kitx_dict I.kIn ⟨o,h1,h2.1⟩ e (fun z => nomatch z) h
 | @ins a C dx fs ea cl ha hn htk hm =>
  cases (show u=Value.ref a from rx)
  obtain ⟨mA,O,_⟩:=ins_get I.hok ea
  obtain ⟨od,J,_⟩:=O.look
  exact PySem.W.kia_one (PySem.W.kitx_own (cl.get _) cl.hd ha hn htk hm) I.kIn J e (fun z => nomatch z) h
end
end L2
namespace L2
open PySem PySem.Spec PyProof.Rows
structure Room (k:Nat) (A:Around):Prop where
 hd:A.handled=none
 dp:A.depth + 3 * k + 5 < recursionLimit
 un:A.units + 16 * k + 200 < cLine
 gd:A.guards=some []
theorem Room.mono {j k:Nat} {A:Around} (r:Room k A) (h:j ≤ k):Room j A:=⟨r.hd,by have:=r.dp; omega,by have:=r.un; omega,r.gd⟩
theorem Room.deeper {k:Nat} {A:Around} (r:Room (k + 1) A) (env:Env):Room k (A.deeper env) :=
 ⟨r.hd,by have:=r.dp; show A.depth + 1 + 3 * k + 5 < _; omega,by have:=r.un; show A.units + 3 + 16 * k + 200 < _; omega,r.gd⟩
theorem Room.depth {k:Nat} {A:Around} (r:Room k A):A.depth < recursionLimit:=by have:=r.dp; omega
theorem Room.units {k:Nat} {A:Around} (r:Room k A):A.units + 64 < cLine:=by have:=r.un; omega
def tNil:TA:=fun _ H Q => Q [] H
def tCons (ta:TE) (tr:TA):TA:=fun σ H Q => ta σ H fun x H1 => tr σ H1 fun xs H2 => Q (x :: xs) H2
section
variable {X:Cx} {e:Expr} {es:List Expr} {te:TE} {t:TA} {pos:PySem.Pos}
theorem pa_nil:PA X [] tNil:=fun _ _ _ _ H Q I h => Calls.spliced_nil ⟨[],H,I,.nil,h⟩
theorem pa_cons (ha:PE X e te) (hr:PA X es t) (hs:starEach (e :: es) X.env=(false,eval e X.env) :: starEach es X.env:=by rfl):PA X (e :: es) (tCons te t):=by
 intro pos pins s σ H Q I h
 rw [hs]
 show wpAny _ _ (spliced ((false,eval e X.env) :: backTo pos (starEach es X.env))) _ _ s
 refine Calls.spliced_cons (thn (ha pins s σ H _ I h) fun u s1 ⟨x,H1,I1,r1,q1⟩ => ?_)
 exact thn (hr pos pins s1 σ H1 _ I1 q1) fun us s2 ⟨xs,H2,I2,r2,q2⟩ => ⟨x :: xs,H2,I2,.cons r1 r2,q2⟩
def tTup (t:TA):TE:=fun σ H Q => t σ H fun xs H1 => xs.length ≤ sizeLine∧∀ p,H1 p=none→Q (.ref p) (upd H1 p (.tup xs))
def tLst (t:TA):TE:=fun σ H Q => t σ H fun xs H1 => xs.length ≤ sizeLine∧∀ p,H1 p=none→Q (.ref p) (upd H1 p (.lst xs))
theorem pe_tup {x1} (h:PA X es t):PE X (.Tuple es x1 pos) (tTup t):=by
 intro pins s σ H Q I hq
 refine wpAny_Tuple_spliced (thn (h pos pins s σ H _ I hq) fun us s1 ⟨xs,H1,I1,r,z,q⟩ => ⟨by rw [← r.length]; exact z,?_⟩)
 have hf:H1 s1.heap.objs.size=none:=I1.hok.fresh (Nat.le_refl _)
 refine ⟨.ref s1.heap.objs.size,upd H1 s1.heap.objs.size (.tup xs),I1.laid (t':=s1.toks) (fun b u e => Heap.get?_push_of_some _ e) (Nat.le_refl _) ?_,rfl,q _ hf⟩
 exact ⟨z,us,r,⟨_,Heap.get?_push_size _ rfl,rfl,_,rfl⟩⟩
theorem pe_lst (h:PA X es t):PE X (.List es pos) (tLst t):=by
 intro pins s σ H Q I hq
 refine wpAny_List_spliced (thn (h pos pins s σ H _ I hq) fun us s1 ⟨xs,H1,I1,r,z,q⟩ => ⟨by rw [← r.length]; exact z,?_⟩)
 have hf:H1 s1.heap.objs.size=none:=I1.hok.fresh (Nat.le_refl _)
 refine ⟨.ref s1.heap.objs.size,upd H1 s1.heap.objs.size (.lst xs),I1.laid (t':=s1.toks) (fun b u e => Heap.get?_push_of_some _ e) (Nat.le_refl _) ?_,rfl,q _ hf⟩
 exact ⟨z,us,0,r,Heap.get?_push_size _ rfl⟩
end
abbrev Sp:=List V→Hp→VK→XK→Prop
abbrev CXT:=List Env→Hp→Shared→XK→Value→Shared→Prop
structure Env0 (P:Program) (w:World) (K:PySem.W.Frag) (mg:Str→Option Value) (base:Heap) (A:Around) (outer:List Env) (s:Shared) (H:Hp):Prop where
 frames:A.frames=some outer
 mod:Mod K mg base
 bs:∀ b o,base.get? b=some o→s.heap.get? b=some o∧H b=none
 bsz:base.objs.size ≤ s.heap.objs.size
 funs:s.heap.FunFrames base outer
 frf:∀ b ∈ frs outer,H b=none
 hok:HOk P w H s.heap
 bare:AllBare s.gens
def CE (outer:List Env) (P:Program) (w:World) (H:Hp) (s:Shared) (Q:VK) (u:Value) (s' : Shared):Prop :=
 ∃ v H',s'.os=s.os∧AllBare s'.gens∧Un (frs outer) [] H H' s.heap s'.heap∧HOk P w H' s'.heap∧RelV v u∧Q v H'
def CR (CX:CXT) (outer:List Env) (P:Program) (w:World) (H:Hp) (s:Shared) (Q:VK) (E:XK) (r:Result) (s' : Shared):Prop :=
 match r with
 | .ok (.ret u) => CE outer P w H s Q u s'
 | .ok _ => False
 | .error e => CX outer H s E e s'
structure FnOk (P:Program) (w:World) (K:PySem.W.Frag) (mg:Str→Option Value) (base:Heap) (CX:CXT) (k:Nat) (f:Addr) (fd:FuncData) (ps:List Str) (sp:Sp):Prop where
 len:∀ vs H Q E,sp vs H Q E→vs.length=ps.length
 run:∀ (A:Around) (outer:List Env) (s:Shared) (H:Hp) (args:Args) (us:List Value) (vs:List V) (Q:VK) (E:XK),Room k A→Env0 P w K mg base A outer s H→BindsTo s fd args (ps.zip us)→Vals vs us→sp vs H Q E →
  codeAny (model P w) A (.call (.ref f) args) (CR CX outer P w H s Q E) s
section
variable {X:Cx} {pins:List (Addr × Obj)} {σ:St} {H:Hp} {s s' : Shared}
theorem Inv.env0 (I:Inv X pins σ H s):Env0 X.prog X.w X.K X.mg X.base X.A X.stack s H :=
 ⟨I.ok.frames,I.ok.mod,I.bs,Nat.le_trans I.ok.bsz I.sz,I.stack,I.stkFree,I.hok,I.bare⟩
theorem Inv.after {Q:VK} {u:Value} (I:Inv X pins σ H s) (h:CE X.stack X.prog X.w H s Q u s'):EP X pins σ Q u s':=by
 obtain ⟨v,H',os,bare,un,hok,r,q⟩:=h
 obtain ⟨hh,g,d,t,os'⟩:=s'
 obtain rfl:os' = s.os:=os
 exact ⟨v,H',I.call (h':=hh) (g':=g) (d':=d) (t':=t) (ch:=[]) un hok bare (fun b z => absurd z (by simp)),r,q⟩
end
def tCall (sp:Sp) (dvs:List V) (E:XK) (t:TA):TE:=fun σ H Q => t σ H fun vs H1 => sp (vs ++ dvs) H1 Q E
def Binds (K:PySem.W.Frag) (fd:FuncData) (ps:List Str) (ds:List Value):Prop :=
 ∀ (s:Shared) (us:List Value),K.In s.heap→(us ++ ds).length=ps.length→BindsTo s fd ⟨us,[]⟩ (ps.zip (us ++ ds))
theorem Binds.all {K:PySem.W.Frag} {fd:FuncData} {ps:List Str} (h:∀ us:List Value,us.length=ps.length→bindArgs fd ⟨us,[]⟩=pure (ps.zip us)):Binds K fd ps []:=fun s us _ hl => by
 rw [List.append_nil] at hl ⊢
 exact .of_eq (h us hl)
def Passes (CX:CXT) (X:Cx) (E:XK):Prop:=∀ (pins:List (Addr × Obj)) (σ:St) (H:Hp) (s:Shared) (e:Value) (s' : Shared),Inv X pins σ H s→CX X.stack H s E e s'→X.xe e s'
section
variable {X:Cx} {CX:CXT} {k:Nat} {f C:Addr} {fd:FuncData} {ps:List Str} {sp:Sp} {dvs:List V} {ds:List Value} {E:XK} {x m:Str} {p pos apos:PySem.Pos} {e o:Expr} {es:List Expr} {ta:TE} {t:TA}
theorem run_fn {pins:List (Addr × Obj)} {σ:St} {H:Hp} {s:Shared} {Q:VK} {us:List Value} {vs:List V} (F:FnOk X.prog X.w X.K X.mg X.base CX k f fd ps sp) (hr:Room k X.A) (hb:Binds X.K fd ps ds) (hd:Vals dvs ds) (hx:Passes CX X E)
  (I:Inv X pins σ H s) (r:Vals vs us) (h:sp (vs ++ dvs) H Q E):wpAny (model X.prog X.w) X.A (call (.ref f) us) (EP X pins σ Q) X.xe s:=by
 have r2:Vals (vs ++ dvs) (us ++ ds):=r.append hd
 have hl:(us ++ ds).length=ps.length:=by rw [← r2.length]; exact F.len _ _ _ _ h
 refine wpAny_call (codeAny_mono (F.run X.A X.stack s H ⟨us,[]⟩ (us ++ ds) (vs ++ dvs) Q E hr I.env0 (hb s us I.kIn hl) r2 h) fun r s' hq => ?_)
 cases r with
 | error e => exact hx pins σ H s e s' I hq
 | ok fl =>
  cases fl with
  | ret u => exact I.after hq
  | next => exact False.elim hq
  | brk => exact False.elim hq
  | cont => exact False.elim hq
theorem pe_call (F:FnOk X.prog X.w X.K X.mg X.base CX k f fd ps sp) (hr:Room k X.A) (hg:Gl X x) (hm:X.mg x=some (.ref f)) (hk:PySem.W.keepIn X.K (.ref f)=true) (hb:Binds X.K fd ps ds) (hd:Vals dvs ds) (hx:Passes CX X E)
  (ha:PA X (e :: es) t) (hdb:(x == ("__debug__" : Str))=false:=by decide) (he:starEach (e :: es) X.env=(false,eval e X.env) :: starEach es X.env:=by rfl) (hpl:(backTo pos (starEach es X.env)).any (·.1)=false:=by rfl) :
  PE X (.Call (.Name x p) (e :: es) [] pos) (tCall sp dvs E t):=by
 intro pins s σ H Q I h
 refine wpAny_Call_Name_kw (ld_glob I hg hm ?_ hdb)
 refine PySem.W.callWith_K (h₀:=X.base) I.ok.mod.kin hk (thn (ha pos pins s σ H _ I h) fun us s1 ⟨vs,H1,I1,r,q⟩ => ⟨I1.kIn,?_⟩) he hpl
 exact run_fn F hr hb hd hx I1 r q
end
structure FnScope (N P:List Str) (sc:Scope):Prop where
 kind:sc.kind = .function
 co:sc.isCoroutine=false
 gen:sc.isGenerator=false
 nd:N.Nodup
 pre:N.take P.length=P
 par:∀ x ∈ P,sc.names.lookup x=some .local ∨ sc.names.lookup x=some .cell
 nofree:∀ y ∈ sc.names,y.2 ≠ .free
theorem bindL_out {kindOf:Str→Option NameKind} {x:Str} : ∀ {binds:List (Str × Value)} {m:Str→Option Value},(∀ v,(x,v) ∉ binds)→bindL kindOf binds m x=m x
 | [],_,_ => rfl
 | (n,v) :: r,m,h => by
  unfold bindL
  rw [bindL_out fun w hw => h w (List.mem_cons_of_mem _ hw)]
  split
  ·have:x ≠ n:=by rintro rfl; exact h v List.mem_cons_self
   simp [this]
  ·rfl
theorem bindC_out {kindOf:Str→Option NameKind} {x:Str} : ∀ {binds:List (Str × Value)} {m:Str→Option Value},(∀ v,(x,v) ∉ binds)→bindC kindOf binds m x=m x
 | [],_,_ => rfl
 | (n,v) :: r,m,h => by
  unfold bindC
  rw [bindC_out fun w hw => h w (List.mem_cons_of_mem _ hw)]
  split
  ·rfl
  ·have:x ≠ n:=by rintro rfl; exact h v List.mem_cons_self
   simp [this]
theorem bindL_get {kindOf:Str→Option NameKind} {x:Str} {v:Value} : ∀ {P:List Str} {vs:List Value} {i:Nat} {m:Str→Option Value},P.Nodup→P[i]? = some x→vs[i]? = some v→kindOf x=some .local →
  bindL kindOf (P.zip vs) m x=some v
 | [],_,_,_,_,h,_,_ => by simp at h
 | _ :: _,[],_,_,_,_,h,_ => by simp at h
 | p :: P,w :: vs,0,m,nd,h1,h2,hk => by
  simp at h1 h2; subst h1; subst h2
  show bindL kindOf ((p,w) :: P.zip vs) m p=_
  unfold bindL
  rw [bindL_out fun v hv => (List.nodup_cons.mp nd).1 (List.of_mem_zip hv).1,if_pos hk]
  simp
 | p :: P,w :: vs,i + 1,m,nd,h1,h2,hk => by
  show bindL kindOf ((p,w) :: P.zip vs) m x=_
  unfold bindL
  exact bindL_get (i:=i) (List.nodup_cons.mp nd).2 (by simpa using h1) (by simpa using h2) hk
theorem bindC_get {kindOf:Str→Option NameKind} {x:Str} {v:Value} : ∀ {P:List Str} {vs:List Value} {i:Nat} {m:Str→Option Value},P.Nodup→P[i]? = some x→vs[i]? = some v→kindOf x ≠ some .local →
  bindC kindOf (P.zip vs) m x=some v
 | [],_,_,_,_,h,_,_ => by simp at h
 | _ :: _,[],_,_,_,_,h,_ => by simp at h
 | p :: P,w :: vs,0,m,nd,h1,h2,hk => by
  simp at h1 h2; subst h1; subst h2
  show bindC kindOf ((p,w) :: P.zip vs) m p=_
  unfold bindC
  rw [bindC_out fun v hv => (List.nodup_cons.mp nd).1 (List.of_mem_zip hv).1,if_neg hk]
  simp
 | p :: P,w :: vs,i + 1,m,nd,h1,h2,hk => by
  show bindC kindOf ((p,w) :: P.zip vs) m x=_
  unfold bindC
  exact bindC_get (i:=i) (List.nodup_cons.mp nd).2 (by simpa using h1) (by simpa using h2) hk
def start (N:List Str) (vs:List V):St:=vs.map some ++ List.replicate (N.length - vs.length) none
def cxOf (CX:CXT) (P:Program) (w:World) (K:PySem.W.Frag) (mg:Str→Option Value) (base:Heap) (N:List Str) (qual:Str) (scope:Scope) (f:Addr) (cd:Value) (A:Around) (outer:List Env) (s:Shared) (H:Hp) (E:XK):Cx where
 prog:=P
 w:=w
 K:=K
 mg:=mg
 base:=base
 A:=A.deeper (envOfC qual scope s.heap.objs.size f cd)
 N:=N
 s₀:=s
 H₀:=H
 env:=envOfC qual scope s.heap.objs.size f cd
 outer:=outer
 stack:=envOfC qual scope s.heap.objs.size f cd :: outer
 ex:=[]
 calm:=true
 fn:=fun _ => true
 pn:=[]
 xe:=fun e s' => wpAny (model P w) (A.deeper (envOfC qual scope s.heap.objs.size f cd)) (leaving (envOfC qual scope s.heap.objs.size f cd) e) (fun _ s'' => CX outer H s E e s'') (fun e' s'' => CX outer H s E e' s'') s'
theorem cell_has {sc:Scope} {n:Nat} {x:Str} (h:sc.names.lookup x=some .cell):∃ c,(cellsFrom n sc.names []).lookup x=some c:=by
 have q:=PySem.W.cellsFrom_some sc.names n [] (.inl h)
 exact Option.isSome_iff_exists.mp q
theorem inv_start {CX:CXT} {P:Program} {w:World} {K:PySem.W.Frag} {mg:Str→Option Value} {base:Heap} {N ps:List Str} {qual:Str} {scope:Scope} {f:Addr} {cd:Value} {A:Around} {outer:List Env} {s s1:Shared} {H:Hp} {E:XK} {us:List Value} {vs:List V}
  (S:FnScope N ps scope) (hd:A.handled=none) (e0:Env0 P w K mg base A outer s H) (hl:vs.length=ps.length) (r:Vals vs us)
  (x:InCallC s s.heap.objs.size (bindL (envOfC qual scope s.heap.objs.size f cd).kindOf (ps.zip us) fun _ => none) (cellsFrom (s.heap.objs.size + 1) scope.names []) (bindC (envOfC qual scope s.heap.objs.size f cd).kindOf (ps.zip us) fun _ => none) s1) :
  Inv (cxOf CX P w K mg base N qual scope f cd A outer s H E) [] (start N vs) H s1:=by
 have hpl:ps.length ≤ N.length:=by have:=congrArg List.length S.pre; rw [List.length_take] at this; omega
 obtain ⟨h1,tk,rfl,hk⟩:=x.done
 have noA:∀ b:Addr,b ∉ (cxOf CX P w K mg base N qual scope f cd A outer s H E).ex:=fun b z => absurd (show b ∈ ([]:List Addr) from z) (by simp)
 refine ⟨⟨e0.mod,S.kind,rfl,rfl,Nat.le_refl _,fun y z c h1 h2 => ?_,fun y hy => ?_,fun y c _ h => ?_,fun _ => hd,Around.frames_deeper e0.frames,.inr ⟨rfl,rfl⟩,fun b z => absurd z (noA b),e0.bs,e0.bsz,fun b _ _ => noA b,fun b z => absurd z (noA b),e0.funs,e0.frf⟩,
  rfl,e0.bare,Un.kept hk,⟨_,x.toInCall.ns,fun i y v h1 h2 h3 => ?_⟩,fun y c h => ⟨_,x.cell y c h⟩,e0.hok.fresh (Nat.le_refl _),fun y c h => ?_,fun p hp => absurd (show p ∈ ([]:List (Addr × Obj)) from hp) (by simp),e0.hok.kept hk,?_⟩
 ·exact name_of_addr x.apart (PySem.mem_of_lookup h1) (PySem.mem_of_lookup h2)
 ·have hy:scope.names.lookup y=some .cell ∨ scope.names.lookup y=some .free:=hy
  rcases hy with hy | hy
  ·exact cell_has hy
  ·exact absurd rfl (S.nofree _ (PySem.mem_of_lookup hy))
 ·exact Nat.le_of_lt (x.above y c (PySem.mem_of_lookup h))
 ·have hi:i < vs.length:=by
   unfold start at h2
   by_cases hi:i < vs.length
   ·exact hi
   ·rw [List.getElem?_append_right (by simpa using hi)] at h2
    rw [List.getElem?_replicate] at h2
    split at h2 <;> cases h2
  have ha:vs[i]? = some v:=by
   unfold start at h2
   rw [List.getElem?_append_left (by simpa using hi),List.getElem?_map] at h2
   cases e:vs[i]? with
   | none => rw [e] at h2; cases h2
   | some a => rw [e] at h2; cases h2; rfl
  obtain ⟨u,hu,rv⟩:=r.get ha
  have hp:ps[i]? = some y:=by
   rw [← S.pre,List.getElem?_take_of_lt (by omega)]; exact h1
  have ndP:ps.Nodup:=by rw [← S.pre]; exact S.nd.sublist (List.take_sublist _ _)
  refine ⟨u,rv,?_⟩
  rcases S.par y (List.mem_of_getElem? hp) with k | k
  ·exact .inl ⟨k,bindL_get ndP hp hu k⟩
  ·obtain ⟨c,e⟩:=cell_has (n:=s.heap.objs.size + 1) k
   refine .inr ⟨.inl k,c,e,?_⟩
   have q:=x.cell y c e
   rw [bindC_get ndP hp hu (by show scope.names.lookup y ≠ _; rw [k]; decide)] at q
   exact q
 ·exact e0.hok.fresh (Nat.le_of_lt (x.above y c (PySem.mem_of_lookup h)))
 ·unfold start
  show _=N.length
  rw [List.length_append,List.length_map,List.length_replicate]
  omega
theorem fn_of {CX:CXT} {P:Program} {w:World} {K:PySem.W.Frag} {mg:Str→Option Value} {base:Heap} {k:Nat} {f:Addr} {name qual:Str} {params:Arguments} {body:List Stmt} {scope:Scope} {dV kV doc pm cdv ct oc:Value} {an od:Option Addr}
  {osl:Array (Option Value)} {N ps:List Str} {sp:Sp} (lk:K.lookup f=some ⟨oc,od,.func (PySem.W.fnOf name qual params body scope dV kV doc pm an cdv ct),osl⟩) (hcd:PySem.W.codeIn K cdv qual=true) (S:FnScope N ps scope)
  (len:∀ vs H Q E,sp vs H Q E→vs.length=ps.length)
  (hbody:∀ (A:Around) (outer:List Env) (s:Shared) (H:Hp) (vs:List V) (Q:VK) (E:XK),Room k (A.deeper (envOfC qual scope s.heap.objs.size f cdv))→sp vs H Q E →
   ∃ t,PSs (cxOf CX P w K mg base N qual scope f cdv A outer s H E) body t∧t { nx:=fun _ H' => Q .non H',rt:=Q } (start N vs) H) :
  FnOk P w K mg base CX (k + 1) f (PySem.W.fnOf name qual params body scope dV kV doc pm an cdv ct) ps sp:=by
 refine ⟨len,fun A outer s H args us vs Q E hr e0 hb r hsp => ?_⟩
 have hl:=len _ _ _ _ hsp
 have KX:K.In s.heap:=e0.mod.kin.keeps fun b o e => (e0.bs b o e).1
 have lim:s.heap.NoLimit:=e0.mod.nolimit.keeps fun b o e => (e0.bs b o e).1
 have hkind:∀ y ∈ ps.zip us,scope.names.lookup y.1=some .local ∨ (scope.names.lookup y.1=some .cell∧((cellsFrom (s.heap.objs.size + 1) scope.names []).lookup y.1).isSome=true):=fun ⟨n,v⟩ hy => by
  rcases S.par n (List.of_mem_zip hy).1 with q | q
  ·exact .inl q
  ·exact .inr ⟨q,PySem.W.cellsFrom_some _ _ _ (.inl q)⟩
 refine codeAny_call_function hr.depth (KX _ _ lk) rfl S.co S.gen rfl (PySem.W.codeRec_of KX hcd) (hb _ _ _ _ ?_)
 refine wpAny_newFunctionEnv_cells S.kind hkind fun env he s1 x => ?_
 subst he
 refine ⟨lim.keeps x.toInCall.keep,codeAny_func ?_⟩
 obtain ⟨t,ht,hq⟩:=hbody A outer s H vs Q E (hr.deeper _) hsp
 have I:Inv (cxOf CX P w K mg base N qual scope f cdv A outer s H E) [] (start N vs) H s1:=inv_start S hr.hd e0 hl r x
 refine wpAny_mono (ht [] s1 (start N vs) H _ I hq) (fun fl s' hs => ?_) fun e s' hs => hs
 have fin:∀ {σ' : St} {H' : Hp} {v:V} {u:Value},Inv (cxOf CX P w K mg base N qual scope f cdv A outer s H E) [] σ' H' s'→RelV v u→Q v H'→CE outer P w H s Q u s' :=
  fun {σ' H' v u} J rv q => ⟨v,H',J.os,J.bare,J.base,J.hok,rv,q⟩
 cases fl with
 | ret u =>
  obtain ⟨v,σ',H',J,rv,q⟩:=hs
  exact fin J rv q
 | next =>
  obtain ⟨σ',H',J,q⟩:=hs
  exact fin (v:=V.non) (u:=Value.none) J rfl q
 | brk =>
  obtain ⟨_,_,_,q⟩:=hs
  exact False.elim q
 | cont =>
  obtain ⟨_,_,_,q⟩:=hs
  exact False.elim q
end L2
namespace L2
open PySem PySem.Spec PyProof.Rows
section
variable {X:Cx} {x:Str} {p pos:PySem.Pos} {e:Expr} {es:List Expr} {t:TA} {id T:String} {r:List V→Hp→VK→Prop}
def tCB (r:List V→Hp→VK→Prop) (t:TA):TE:=fun σ H Q => t σ H fun vs H1 => r vs H1 Q
theorem pe_callB (hc:CallR X (.builtin id) r) (hg:Gl X x) (hm:X.mg x=none) (hv:bootBuiltins x=some (.builtin id)) (ha:PA X (e :: es) t) (hn:x ≠ "__name__" := by decide) (hdb:(x == ("__debug__" : Str))=false:=by decide)
  (he:starEach (e :: es) X.env=(false,eval e X.env) :: starEach es X.env:=by rfl) (hpl:(backTo pos (starEach es X.env)).any (·.1)=false:=by rfl):PE X (.Call (.Name x p) (e :: es) [] pos) (tCB r t):=by
 intro pins s σ H Q I h
 refine wpAny_Call_Name_kw (ld_blt I hg hm hv ?_ hn hdb)
 exact PyProof.Rows.callWith_builtin1 (thn (ha pos pins s σ H _ I h) fun us s1 ⟨vs,H1,I1,r1,q1⟩ => hc pins s1 σ H1 vs us Q I1 r1 q1) he hpl
theorem pe_callTy (hc:CallR X (.type T) r) (hg:Gl X x) (hm:X.mg x=none) (hv:bootBuiltins x=some (.type T)) (ha:PA X (e :: es) t) (hn:x ≠ "__name__" := by decide) (hdb:(x == ("__debug__" : Str))=false:=by decide)
  (he:starEach (e :: es) X.env=(false,eval e X.env) :: starEach es X.env:=by rfl) (hpl:(backTo pos (starEach es X.env)).any (·.1)=false:=by rfl):PE X (.Call (.Name x p) (e :: es) [] pos) (tCB r t):=by
 intro pins s σ H Q I h
 refine wpAny_Call_Name_kw (ld_blt I hg hm hv ?_ hn hdb)
 exact PyProof.Rows.callWith_type1 (thn (ha pos pins s σ H _ I h) fun us s1 ⟨vs,H1,I1,r1,q1⟩ => hc pins s1 σ H1 vs us Q I1 r1 q1) he hpl
end
end L2
namespace HT
open PySem PyProof.Rows
def lexLt:List Int→List Int→Bool
 | [],[] => false
 | [],_ :: _ => true
 | _ :: _,[] => false
 | x :: xs,y :: ys => if x=y then lexLt xs ys else decide (x < y)
theorem lexLt_cons (x y:Int) (xs ys:List Int):lexLt (x :: xs) (y :: ys)=if x=y then lexLt xs ys else decide (x < y):=rfl
theorem lexLt_nil_nil:lexLt [] []=false:=rfl
theorem lexLt_nil_cons (y:Int) (ys:List Int):lexLt [] (y :: ys)=true:=rfl
theorem lexLt_cons_nil (x:Int) (xs:List Int):lexLt (x :: xs) []=false:=rfl
theorem eqAt_int (A:Around) (s:Shared) (a:Int) (t:Tok) (c:Int) (u:Tok):∃ e,SeqAt.EqAt A s (.int a t) (.int c u) e∧(e=true ↔ a=c) :=
 ⟨(a == c),SeqAt.EqAt.int_int a t c u,by simp⟩
theorem rcLt_int (A:Around) (s:Shared) (a:Int) (t:Tok) (c:Int) (u:Tok) (prog:Program) (w:World) (E:Value→Shared→Prop) (Q:Value→Shared→Prop) (h:Q (.bool (decide (a < c))) s) :
  wpAny (model prog w) A (richCompare .Lt (.int a t) (.int c u)) Q E s :=
 (PyProof.Rows.lt_int h:wpAny (model prog w) A (compareOp .Lt (.int a t) (.int c u)) Q E s)
section
open PySem.SeqAt
open PySem.AutoSeq1 (wpAny_loadPart')
open PySem.MeetsSeq PySem.MeetsSeq2 PySem.MeetsSeq3
theorem tuple_lt_ints (l b:Addr) (items items2:Array Value) (n n2:Nat) (dd dd2:Option Addr) (sl sl2:Array (Option Value)) (ns ms:List Int) (hi:IntsAre items.toList ns) (hj:IntsAre items2.toList ms) :
  Meets (Builtin.«tuple.__lt__» ⟨[.ref l,.ref b],[]⟩)
   (fun _ R s => s.heap.get? l=some { cls:=.type "tuple",dict:=dd,data:=.seq items n,slots:=sl }∧s.heap.get? b=some { cls:=.type "tuple",dict:=dd2,data:=.seq items2 n2,slots:=sl2 } ∧
    R (.ok (.ret (.bool (lexLt ns ms)))) s) :=
 .of_wp fun prog w A R s h => by
  obtain ⟨hp,g,d,tk,os⟩:=s; obtain ⟨hl,hb,h⟩:=h
  have f2:=AutoSeq1.sub_tuple_tuple
  have z1:items.size=ns.length:=by rw [← hi.length]; simp
  have z2:items2.size=ms.length:=by rw [← hj.length]; simp
  wp_walk using wpAny_loadPart' hl,wpAny_loadPart' hb,wpAny_forIn_list _ (fun rest b s' => b.1=none∧s' = ⟨hp,g,d,tk,os⟩∧∃ (vs ws:List Value) (ns' ms' : List Int),rest=vs.zip ws ∧
   IntsAre vs ns'∧IntsAre ws ms'∧ns'.length + items2.size=ms'.length + items.size∧R (.ok (.ret (.bool (lexLt ns' ms')))) ⟨hp,g,d,tk,os⟩) _
  case turn =>
   rintro ⟨y,x⟩ rest b s' ⟨hb',rfl,vs,ws,ns',ms',hz,hvi,hwi,hlen,hR⟩
   cases hvi with
   | nil => rw [List.zip_nil_left] at hz; cases hz
   | cons a t hvi' =>
    cases hwi with
    | nil => rw [List.zip_nil_right] at hz; cases hz
    | cons c u hwi' =>
     rw [List.zip_cons_cons] at hz
     injection hz with hyx hrest
     injection hyx with hy hx
     subst hy hx
     rw [lexLt_cons] at hR
     simp only [List.length_cons] at hlen
     obtain ⟨e,he,hiff⟩:=eqAt_int A.in1 ⟨hp,g,d,tk,os⟩ a t c u
     refine wpAny_bind (he prog w _ _ ?_)
     cases e with
     | true =>
      rw [if_pos (hiff.mp rfl)] at hR
      wp_walk
      exact ⟨rfl,rfl,_,_,_,_,hrest,hvi',hwi',by omega,hR⟩
     | false =>
      rw [if_neg (fun q => absurd (hiff.mpr q) Bool.false_ne_true)] at hR
      have hri:=rcLt_int A.in1 ⟨hp,g,d,tk,os⟩ a t c u prog w
      wp_walk using hri
      exact ⟨_,rfl,by simpa using hR⟩
  case fin =>
   rintro ⟨b1,b2⟩ s' ⟨hb',rfl,vs,ws,ns',ms',hz,hvi,hwi,hlen,hR⟩
   simp only at hb'
   subst hb'
   have hv:lexLt ns' ms' = decide (items.size < items2.size):=by
    cases hvi with
    | nil =>
     cases hwi with
     | nil =>
      simp only [List.length_nil] at hlen
      rw [lexLt_nil_nil]
      exact (decide_eq_false (by omega)).symm
     | cons c u hw =>
      simp only [List.length_nil,List.length_cons] at hlen
      rw [lexLt_nil_cons]
      exact (decide_eq_true (by omega)).symm
    | cons a t hv =>
     cases hwi with
     | nil =>
      simp only [List.length_nil,List.length_cons] at hlen
      rw [lexLt_cons_nil]
      exact (decide_eq_false (by omega)).symm
     | cons c u hw =>
      rw [List.zip_cons_cons] at hz
      cases hz
   rw [hv] at hR
   wp_walk
   exact ⟨_,rfl,by simpa [Builtin.Tuple.tupleCompareSizes] using hR⟩
  case h =>
   exact ⟨rfl,rfl,items.toList,items2.toList,ns,ms,rfl,hi,hj,by omega,h⟩
end
section
variable {prog:Program} {w:World} {A:Around} {E:Value→Shared→Prop} {s:Shared}
theorem lt_tupInts {l b:Addr} {items items2:Array Value} {ns ms:List Int} {Q:Value→Shared→Prop} (hl:IsTup s.heap l items) (hb:IsTup s.heap b items2) (hi:IntsAre items.toList ns) (hj:IntsAre items2.toList ms)
  (hu:A.units < cLine) (h:Q (.bool (lexLt ns ms)) s):wpAny (model prog w) A (compareOp .Lt (.ref l) (.ref b)) Q E s:=by
 obtain ⟨⟨cls,dd,data,sl⟩,ho,hc,n,hd⟩:=id hl
 obtain ⟨⟨cls2,dd2,data2,sl2⟩,ho2,hc2,n2,hd2⟩:=id hb
 simp only at hc hd hc2 hd2
 subst hc hd hc2 hd2
 exact richCompare_meets_room (op:=.Lt) ⟨_,ho,rfl⟩ ⟨_,ho2,rfl⟩ PySem.F.slot_tuple_lt PySem.F.entry_tuple_lt (PySem.F.args_tuple_lt_2 _ _) (tuple_lt_ints l b items items2 n n2 dd dd2 sl sl2 ns ms hi hj)
  ⟨ho,ho2,show Value.bool (lexLt ns ms) ≠ Value.notImplemented∧Q (.bool (lexLt ns ms)) s from ⟨(fun x => nomatch x),h⟩⟩ hu
def sIx (n d:Nat):Option Int→Nat
 | none => d
 | some v => if v < 0 then (v + (n:Int)).toNat else min v.toNat n
theorem sIx_nat (n d k:Nat):sIx n d (some (k:Int))=min k n:=by
 show (if (k:Int) < 0 then ((k:Int) + (n:Int)).toNat else min (k:Int).toNat n)=min k n
 rw [if_neg (by omega),Int.toNat_natCast]
end
end HT
namespace L2
open PySem PySem.Spec PyProof.Rows
abbrev TO:=St→Hp→(Option Int→Hp→Prop)→Prop
def PO (X:Cx) (e:Option Expr) (t:TO):Prop :=
 ∀ (pins:List (Addr × Obj)) (s:Shared) (σ:St) (H:Hp) (Q:Option Int→Hp→Prop),Inv X pins σ H s→t σ H Q →
  wpAny (model X.prog X.w) X.A (evalPart e X.env) (fun u s' => ∃ o H',Inv X pins σ H' s'∧IsPart u o∧Q o H') X.xe s
def tNoPart:TO:=fun _ H Q => Q none H
def tPart (t:TE):TO:=fun σ H Q => t σ H fun x H1 => ∃ i,x = .int i∧Q (some i) H1
theorem intsAre_of {ns:List Int} : ∀ {us:List Value},Vals (ns.map V.int) us→IntsAre us ns:=by
 induction ns with
 | nil => intro us r; rw [List.map_nil] at r; cases r; exact .nil
 | cons n ns ih =>
  intro us r
  rw [List.map_cons] at r
  cases r with
  | cons r1 r2 =>
   obtain ⟨t,e⟩:=r1
   subst e
   exact .cons n t (ih r2)
section
variable {X:Cx} {e:Expr} {te:TE} {lo hi:Option Expr} {tl th:TO} {pos p2:PySem.Pos}
theorem po_none:PO X none tNoPart:=by
 intro pins s σ H Q I h
 rw [evalPart_none]
 exact wpAny_pure ⟨none,H,I,.none,h⟩
theorem po_some (h:PE X e te):PO X (some e) (tPart te):=by
 intro pins s σ H Q I hw
 rw [evalPart_some]
 refine thn (h pins s σ H _ I hw) fun u s1 ⟨x,H1,I1,r1,q1⟩ => ?_
 obtain ⟨i,rfl,q⟩:=q1
 obtain ⟨t,rfl⟩:=r1
 exact ⟨some i,H1,I1,.int i t,q⟩
def SlR (X:Cx) (r:V→Option Int→Option Int→Hp→VK→Prop):Prop :=
 ∀ (pins:List (Addr × Obj)) (s:Shared) (σ:St) (H:Hp) (x:V) (v vl vu:Value) (lo hi:Option Int) (sl:Addr) (Q:VK),Inv X pins σ H s→RelV x v→s.heap.IsSliceOf sl vl vu .none→IsPart vl lo→IsPart vu hi→r x lo hi H Q →
  ∃ T id,typeLookup (.type T) "__getitem__" = pure (some (.builtin id))∧s.TypeIs v T∧wpAny (model X.prog X.w) X.A (getItem v (.ref sl)) (EP X pins σ Q) X.xe s
def tSl (r:V→Option Int→Option Int→Hp→VK→Prop) (te:TE) (tl th:TO):TE:=fun σ H Q => te σ H fun x H1 => tl σ H1 fun l H2 => th σ H2 fun u H3 => r x l u H3 Q
theorem pe_slice {r:V→Option Int→Option Int→Hp→VK→Prop} (hr:SlR X r) (he:PE X e te) (hl:PO X lo tl) (hu:PO X hi th):PE X (.Subscript e (.Slice lo hi none p2) pos) (tSl r te tl th):=by
 intro pins s σ H Q I h
 refine Subscript_ (thn (he pins s σ H _ I h) fun v s1 ⟨x,H1,I1,r1,q1⟩ => ?_)
 refine wpAny_Slice (thn (hl pins s1 σ H1 _ I1 q1) fun vl s2 ⟨l,H2,I2,pl,q2⟩ => thn (hu pins s2 σ H2 _ I2 q2) fun vu s3 ⟨u,H3,I3,pu,q3⟩ => ?_)
 rw [evalPart_none]
 refine wpAny_pure ?_
 have I4:Inv X pins σ H3 { s3 with heap:=s3.heap.push { cls:=.type "slice",data:=.fields #[vl,vu,.none] } }:=I3.kept (t':=s3.toks) fun b ob q => Heap.get?_push_of_some _ q
 obtain ⟨T,id,hT,ht,hg⟩:=hr pins { s3 with heap:=s3.heap.push { cls:=.type "slice",data:=.fields #[vl,vu,.none] } } σ H3 x v vl vu l u s3.heap.objs.size Q I4 r1 (Heap.IsSliceOf.new ..) pl pu q3
 show wpAny (model X.prog X.w) X.A (subscriptTail e (.Slice lo hi none p2) v (.ref s3.heap.objs.size)) (EP X pins σ Q) X.xe { s3 with heap:=s3.heap.push { cls:=.type "slice",data:=.fields #[vl,vu,.none] } }
 exact tail_any (ops:=[.ref s3.heap.objs.size,v]) ht hT hg (by with_unfolding_all rfl)
def cutV (xs:List V) (lo hi:Option Int):List V:=(xs.drop (HT.sIx xs.length 0 lo)).take (HT.sIx xs.length xs.length hi - HT.sIx xs.length 0 lo)
theorem cutV_length (xs:List V) (lo hi:Option Int):(cutV xs lo hi).length ≤ xs.length:=by
 unfold cutV
 rw [List.length_take,List.length_drop]
 omega
end
end L2
namespace L2
open PySem PySem.Spec PyProof.Rows
def ixN (n:Nat) (i:Int):Option Nat:=if 0 ≤ i then (if i < n then some i.toNat else none) else if -(n:Int) ≤ i then some (i + n).toNat else none
def atI {α:Type} (xs:List α) (i:Int):Option α:=(ixN xs.length i).bind fun j => xs[j]?
theorem ixN_seq {n:Nat} {i:Int} {j:Nat} (h:ixN n i=some j):seqIndex? i n=some j∧j < n∧-(n:Int) ≤ i∧i < n:=by
 unfold ixN at h
 by_cases h0:0 ≤ i
 ·rw [if_pos h0] at h
  by_cases h1:i < n
  ·rw [if_pos h1] at h
   have e:i.toNat=j:=Option.some.inj h
   exact ⟨by rw [seqIndex_of h0 h1,e],by omega,by omega,h1⟩
  ·rw [if_neg h1] at h; cases h
 ·rw [if_neg h0] at h
  by_cases h1 : -(n:Int) ≤ i
  ·rw [if_pos h1] at h
   have e:(i + n).toNat=j:=Option.some.inj h
   exact ⟨by rw [seqIndex_neg (by omega) h1,e],by omega,h1,by omega⟩
  ·rw [if_neg h1] at h; cases h
theorem atI_get {α:Type} {xs:List α} {i:Int} {v:α} (h:atI xs i=some v):∃ j,seqIndex? i xs.length=some j∧xs[j]? = some v∧j < xs.length∧-(xs.length:Int) ≤ i∧i < xs.length:=by
 unfold atI at h
 cases e:ixN xs.length i with
 | none => rw [e] at h; cases h
 | some j =>
  rw [e] at h
  obtain ⟨h1,h2,h3,h4⟩:=ixN_seq e
  exact ⟨j,h1,h,h2,h3,h4⟩
theorem atI_nat {α:Type} {xs:List α} {j:Nat} {v:α} (h:xs[j]? = some v):atI xs (j:Int)=some v:=by
 have hj:j < xs.length:=(List.getElem?_eq_some_iff.mp h).1
 have e:ixN xs.length (j:Int)=some j:=by
  unfold ixN
  rw [if_pos (by omega),if_pos (by omega)]; simp
 unfold atI; rw [e]; exact h
def PlainIx (b:Expr):Prop:=∀ o i,subscripted b false o i=operate [o,i] (getItem o i)
def IxR (X:Cx) (r:R2):Prop :=
 ∀ (value slice:Expr) (pins:List (Addr × Obj)) (s:Shared) (σ:St) (H:Hp) (x y:V) (v u:Value) (Q:VK),Inv X pins σ H s→RelV x v→RelV y u→r x y H Q →
  subscripted slice false v u=operate [v,u] (getItem v u)→wpAny (model X.prog X.w) X.A (subscriptTail value slice v u) (EP X pins σ Q) X.xe s
def MtR (X:Cx) (id:String) (r:V→List V→Hp→VK→Prop):Prop :=
 ∀ (pins:List (Addr × Obj)) (s:Shared) (σ:St) (H:Hp) (x:V) (xs:List V) (v:Value) (us:List Value) (Q:VK),Inv X pins σ H s→RelV x v→Vals xs us→r x xs H Q →
  wpAny (model X.prog X.w) X.A (call (.builtin id) (v :: us)) (EP X pins σ Q) X.xe s
section
variable {X:Cx} {a b:Expr} {ta tb:TE} {pos:PySem.Pos}
theorem pe_ix {r:R2} (hr:IxR X r) (ha:PE X a ta) (hb:PE X b tb) (hs:PlainIx b):PE X (.Subscript a b pos) (tOp r ta tb):=by
 intro pins s σ H Q I h
 exact Subscript_ (binT ha hb I h fun v u s2 x y H2 I2 rx ry q => hr a b pins s2 σ H2 x y v u Q I2 rx ry q (hs _ _))
def rIxL (K:PySem.W.Frag):R2:=fun x y H Q => ∃ p xs i v,x = .ref p∧y = .int i∧SqL K H p xs∧atI xs i=some v∧Q v H
def rIxT (K:PySem.W.Frag):R2:=fun x y H Q => ∃ p xs i v,x = .ref p∧y = .int i∧SqT K H p xs∧atI xs i=some v∧Q v H
def rIxS:R2:=fun x y H Q => ∃ z i c,x = .str z∧y = .int i∧z.length ≤ sizeLine∧atI z.cps.toList i=some c∧Q (.str ⟨#[c]⟩) H
theorem ix_list:IxR X (rIxL X.K):=by
 intro value slice pins s σ H x y v u Q I rx ry h hs
 obtain ⟨p,xs,i,z,rfl,rfl,hq,he,q⟩:=h
 cases rx
 obtain ⟨t,rfl⟩:=ry
 obtain ⟨its,r,pl,hz⟩:=I.list hq
 obtain ⟨j,h1,h2,h3,h4,h5⟩:=atI_get he
 obtain ⟨w,ew,rw'⟩:=r.get h2
 have hl:=r.length
 have hn:=line63
 have fin:EP X pins σ Q w s:=⟨z,H,I,rw',q⟩
 by_cases h0:0 ≤ i
 ·have hj:i.toNat=j:=by
   rw [seqIndex_of h0 h5] at h1
   exact Option.some.inj h1
  exact item_listR pl.isList h0 (by omega) (by rw [hj]; simpa using ew) fin hs
 ·have hj:(i + (its.toArray.size:Int)).toNat=j:=by
   rw [seqIndex_neg (by omega) h4] at h1
   rw [List.size_toArray,← hl]
   exact Option.some.inj h1
  exact subscriptTail_builtinR (x:=w) pl.isList.typeIs slot_list_getitem.lookup
   (wpAny_getItem_list_neg (Q:=fun r s' => r=w∧EP X pins σ Q r s') pl.isList (by omega) (by rw [List.size_toArray] <;> omega) (by omega) (by rw [hj]; simpa using ew) ⟨rfl,fin⟩) hs
theorem ix_tup:IxR X (rIxT X.K):=by
 intro value slice pins s σ H x y v u Q I rx ry h hs
 obtain ⟨p,xs,i,z,rfl,rfl,hq,he,q⟩:=h
 cases rx
 obtain ⟨t,rfl⟩:=ry
 obtain ⟨its,r,pl,hz⟩:=I.tuple hq
 obtain ⟨j,h1,h2,h3,h4,h5⟩:=atI_get he
 obtain ⟨w,ew,rw'⟩:=r.get h2
 have hl:=r.length
 have hn:=line63
 have fin:EP X pins σ Q w s:=⟨z,H,I,rw',q⟩
 exact subscriptTail_builtinR (x:=w) pl.typeIs slot_tuple_getitem.lookup
  (getItem_tuple (j:=j) (Q:=fun r s' => r=w∧EP X pins σ Q r s') pl (by omega) (by omega) (by rw [List.size_toArray,← hl]; exact h1) (by simpa using ew) ⟨rfl,fin⟩) hs
theorem ix_str:IxR X rIxS:=by
 intro value slice pins s σ H x y v u Q I rx ry h hs
 obtain ⟨z,i,c,rfl,rfl,hz,he,q⟩:=h
 obtain ⟨t,rfl⟩:=rx
 obtain ⟨t',rfl⟩:=ry
 obtain ⟨j,h1,h2,h3,h4,h5⟩:=atI_get he
 have hl:z.cps.toList.length=z.length:=by simp [Str.length]
 rw [hl] at h1 h4 h5
 have hn:=line63
 exact tail_any (typeIs_str s z t) slot_str_getitem.lookup (getItem_str (c:=c) (by
  have e1:decide (i < -(2 ^ 63:Int))=false:=decide_eq_false (by omega)
  have e2:decide (i ≥ 2 ^ 63)=false:=decide_eq_false (by omega)
  rw [e1,e2,Bool.or_false]) (by rw [h1]; simpa using h2) ⟨.str ⟨#[c]⟩,H,I.tok _,⟨_,rfl⟩,q⟩) hs
theorem mapSeq_set (its:List Value) (n j:Nat) (u:Value):Obj.mapSeq (·.setIfInBounds j u) { cls:=.type "list",data:=.seq its.toArray n } = { cls:=.type "list",data:=.seq (its.set j u).toArray n }:=by
 simp [Obj.mapSeq]
theorem Inv.lst {pins:List (Addr × Obj)} {σ:St} {H:Hp} {s:Shared} {p:Addr} {xs:List V} (I:Inv X pins σ H s) (h:H p=some (.lst xs)) :
  ∃ (its:List Value) (n:Nat),Vals xs its∧s.heap.get? p=some { cls:=.type "list",data:=.seq its.toArray n }∧xs.length ≤ sizeLine:=by
 obtain ⟨z,its,n,r,e⟩:=I.hok p _ h
 exact ⟨its,n,r,e,z⟩
theorem Inv.lstUpd {pins:List (Addr × Obj)} {σ:St} {H:Hp} {s:Shared} {p:Addr} {xs ys:List V} {its its' : List Value} {n n' : Nat} {f:Obj→Obj} (I:Inv X pins σ H s) (h:H p=some (.lst xs))
  (ho:s.heap.get? p=some { cls:=.type "list",data:=.seq its.toArray n }) (hf:f { cls:=.type "list",data:=.seq its.toArray n } = { cls:=.type "list",data:=.seq its'.toArray n' }) (r:Vals ys its') (hz:ys.length ≤ sizeLine) (t:Nat) :
  Inv X pins σ (upd H p (.lst ys)) { s with heap:=s.heap.update p f,toks:=t }:=by
 have e:(s.heap.update p f).get? p=some { cls:=.type "list",data:=.seq its'.toArray n' }:=by
  rw [Heap.get?_update_self f ho (by rw [hf] <;> rfl),hf]
 refine I.write (x:=p) (e:=p) (by rw [h]; trivial) (.inl rfl) (fun b u hb q => (Heap.get?_update_other _ _ (Ne.symm hb)).trans q) ⟨_,e⟩ ?_
 exact ⟨hz,its',n',r,e⟩
def rSetL:V→V→V→Hp→(Hp→Prop)→Prop:=fun o i v H Q => ∃ p xs k j,o = .ref p∧i = .int k∧H p=some (.lst xs)∧ixN xs.length k=some j∧Q (upd H p (.lst (xs.set j v)))
theorem set_list:PSet X rSetL:=by
 intro pins s σ H o i v ov iv u Q I ro ri rv h
 obtain ⟨p,xs,k,j,rfl,rfl,hp,hj,q⟩:=h
 cases ro
 obtain ⟨t,rfl⟩:=ri
 obtain ⟨its,n,r,ho,hz⟩:=I.lst hp
 obtain ⟨h1,h2,h3,h4⟩:=ixN_seq hj
 have hl:=r.length
 have hn:=line63
 have I' : Inv X pins σ (upd H p (.lst (xs.set j v))) { s with heap:=s.heap.update p (Obj.mapSeq (·.setIfInBounds j u)) } :=
  I.lstUpd hp ho (mapSeq_set its n j u) (r.set rv j) (by rw [List.length_set]; exact hz) s.toks
 by_cases h0:0 ≤ k
 ·have hk:k.toNat=j:=by
   rw [seqIndex_of h0 h4] at h1
   exact Option.some.inj h1
  exact PySem.W.ki_setAt ho h0 (by omega) (by rw [List.size_toArray,← hl]; exact h4) (by rw [hk]; exact ⟨_,I',q⟩)
 ·have hk:(k + (its.toArray.size:Int)).toNat=j:=by
   rw [seqIndex_neg (by omega) h3] at h1
   rw [List.size_toArray,← hl]
   exact Option.some.inj h1
  exact PySem.W.ki_setBack ho (by omega) (by rw [List.size_toArray,← hl]; exact h3) (by omega) (by rw [hk]; exact ⟨_,I',q⟩)
theorem slice_bounds (lo hi:Option Int) (n:Nat):(sliceBounds lo hi none n).1=((HT.sIx n 0 lo:Nat):Int)∧(sliceBounds lo hi none n).2.1=((HT.sIx n n hi:Nat):Int)∧(sliceBounds lo hi none n).2.2=1:=by
 refine ⟨?_,?_,rfl⟩
 ·cases lo with
  | none => simp [sliceBounds,HT.sIx]
  | some i =>
   simp only [sliceBounds,HT.sIx,Option.getD_none,show (1:Int) > 0 by decide,if_true]
   by_cases h:i < 0
   ·simp only [h,if_true] <;> omega
   ·simp only [h,if_false] <;> omega
 ·cases hi with
  | none => simp [sliceBounds,HT.sIx]
  | some i =>
   simp only [sliceBounds,HT.sIx,Option.getD_none,show (1:Int) > 0 by decide,if_true]
   by_cases h:i < 0
   ·simp only [h,if_true] <;> omega
   ·simp only [h,if_false] <;> omega
theorem slicePick_cut (its:List Value) (lo hi:Option Int):slicePick its.toArray lo hi none=((its.drop (HT.sIx its.length 0 lo)).take (HT.sIx its.length its.length hi - HT.sIx its.length 0 lo)).toArray:=by
 obtain ⟨h1,h2,h3⟩:=slice_bounds lo hi its.toArray.size
 unfold slicePick
 rw [h1,h2,h3]
 simp only [sliceRange_one,pick_run,List.size_toArray] <;> rfl
def rSlL (K:PySem.W.Frag):V→Option Int→Option Int→Hp→VK→Prop:=fun x lo hi H Q => ∃ a xs,x = .ref a∧SqL K H a xs∧∀ p,H p=none→Q (.ref p) (upd H p (.lst (cutV xs lo hi)))
theorem sl_list:SlR X (rSlL X.K):=by
 intro pins s σ H x v vl vu lo hi sl Q I rx hs pl pu h
 obtain ⟨a,xs,rfl,hx,q⟩:=h
 cases rx
 obtain ⟨its,r,ht,hz⟩:=I.list hx
 have hlen:=r.length
 refine ⟨"list",_,slot_list_getitem.lookup,ht.isList.typeIs,?_⟩
 refine wpAny_getItem_list_slice ht.isList hs pl pu .none (by simp) ?_ (by rw [List.size_toArray] <;> omega)
 rw [slicePick_cut,← hlen]
 refine ⟨.ref s.heap.objs.size,_,I.laid (t':=s.toks) (o:=.lst (cutV xs lo hi)) (fun b ob q => Heap.get?_push_of_some _ q) (Nat.le_refl _) ?_,rfl,q _ (I.hok.fresh (Nat.le_refl _))⟩
 exact ⟨Nat.le_trans (cutV_length xs lo hi) hz,_,0,(r.drop (HT.sIx xs.length 0 lo)).take (HT.sIx xs.length xs.length hi - HT.sIx xs.length 0 lo),Heap.get?_push_size _ rfl⟩
theorem call_len_seq:CallR X (.builtin "len") (fun xs H Q => ∃ p ys,xs=[.ref p]∧(SqL X.K H p ys ∨ SqT X.K H p ys)∧Q (.int ys.length) H):=by
 intro pins s σ H xs us Q I r h
 obtain ⟨p,ys,rfl,hq,q⟩:=h
 obtain ⟨u,rfl,rx⟩:=vals1 r
 cases rx
 have hn:=line63
 rcases hq with hq | hq
 ·obtain ⟨its,r',pl,hz⟩:=I.list hq
  have hlen:=r'.length
  exact Calls.call_len_list pl.isList (by simp only [List.size_toArray] <;> omega) ⟨.int ys.length,H,I.tok _,⟨s.toks + 1,by rw [List.size_toArray,hlen]⟩,q⟩
 ·obtain ⟨its,r',pl,hz⟩:=I.tuple hq
  have hlen:=r'.length
  exact len_tuple pl (by simp only [List.size_toArray] <;> omega) ⟨.int ys.length,H,I.tok _,⟨s.toks + 1,by rw [List.size_toArray,hlen]⟩,q⟩
theorem call_len_str:CallR X (.builtin "len") (fun xs H Q => ∃ z,xs=[.str z]∧z.length ≤ sizeLine∧Q (.int z.length) H):=by
 intro pins s σ H xs us Q I r h
 obtain ⟨z,rfl,hz,q⟩:=h
 obtain ⟨u,rfl,t,rfl⟩:=vals1 r
 have hn:=line63
 exact len_str (by omega) ⟨.int z.length,H,I.tok _,⟨_,rfl⟩,q⟩
theorem call_list_of:CallR X (.type "list") (fun xs H Q => ∃ p ys,xs=[.ref p]∧(SqL X.K H p ys ∨ SqT X.K H p ys)∧∀ l,H l=none→Q (.ref l) (upd H l (.lst ys))):=by
 intro pins s σ H xs us Q I r h
 obtain ⟨p,ys,rfl,hq,q⟩:=h
 obtain ⟨u,rfl,rx⟩:=vals1 r
 cases rx
 have fin:∀ (its:List Value),Vals ys its→ys.length ≤ sizeLine→∀ (h' : Heap) (c' : Nat),(∀ b o',s.heap.get? b=some o'→h'.get? b=some o') →
   h'.get? s.heap.objs.size=some { cls:=.type "list",dict:=none,data:=.seq its.toArray c',slots:=#[] }→EP X pins σ Q (.ref s.heap.objs.size) { s with heap:=h' }:=fun its r' hz h' c' kp e =>
  ⟨.ref s.heap.objs.size,_,I.laid (t':=s.toks) kp (Nat.le_refl _) (show ObjOk X.prog X.w _ h' _ (.lst ys) from ⟨hz,its,c',r',e⟩),rfl,q _ (I.hok.fresh (Nat.le_refl _))⟩
 rcases hq with hq | hq
 ·obtain ⟨its,r',pl,hz⟩:=I.list hq
  have hlen:=r'.length
  obtain ⟨o,ho,hc,n,hd⟩:=pl.isList
  exact call_list_seq p (.inl rfl) ho hc hd (fun h' c' kp e => fin its r' hz h' c' kp e) (by simp only [List.size_toArray] <;> omega)
 ·obtain ⟨its,r',pl,hz⟩:=I.tuple hq
  have hlen:=r'.length
  obtain ⟨o,ho,hc,n,hd⟩:=pl
  exact call_list_seq p (.inr rfl) ho hc hd (fun h' c' kp e => fin its r' hz h' c' kp e) (by simp only [List.size_toArray] <;> omega)
theorem call_tuple_of:CallR X (.type "tuple") (fun xs H Q => ∃ p ys,xs=[.ref p]∧((SqL X.K H p ys∧∀ l,H l=none→Q (.ref l) (upd H l (.tup ys))) ∨ (SqT X.K H p ys∧Q (.ref p) H))):=by
 intro pins s σ H xs us Q I r h
 obtain ⟨p,ys,rfl,h⟩:=h
 obtain ⟨u,rfl,rx⟩:=vals1 r
 cases rx
 rcases h with ⟨hq,q⟩ | ⟨hq,q⟩
 ·obtain ⟨its,r',pl,hz⟩:=I.list hq
  have hlen:=r'.length
  refine call_tuple_list pl.isList (fun h' kp => ?_) (by simp only [List.size_toArray] <;> omega)
  have I1:Inv X pins σ H { s with heap:=h' }:=I.kept (t':=s.toks) kp
  have I2:Inv X pins σ (upd H h'.objs.size (.tup ys)) { s with heap:=h'.push { cls:=.type "tuple",data:=.seq its.toArray } } :=
   I1.laid (t':=s.toks) (fun b o e => Heap.get?_push_of_some _ e) (Nat.le_refl _) (show ObjOk X.prog X.w _ _ _ (.tup ys) from ⟨hz,its,r',IsTup.new _ _⟩)
  exact ⟨.ref h'.objs.size,_,I2,rfl,q _ (I1.hok.fresh (Nat.le_refl _))⟩
 ·obtain ⟨its,r',pl,hz⟩:=I.tuple hq
  exact call_tuple_same pl ⟨.ref p,H,I,rfl,q⟩
def tyV (K:PySem.W.Frag) (T:String) (x:V) (H:Hp):Prop:=match x with
 | .str _ => T = "str"
 | .int _ => T = "int"
 | .ref p => (T = "list" ∧ ∃ xs,SqL K H p xs) ∨ (T = "tuple" ∧ ∃ o,K.lookup p=some o∧o.cls = .type "tuple" ∧ o.dict=none) ∨
   (T = "dict" ∧ ((∃ kvs,H p=some (.dK kvs)) ∨ ∃ kvs,H p=some (.dT kvs))) ∨ (T = "set" ∧ ∃ S n,H p=some (.set S n))
 | _ => False
theorem tyV_is {pins:List (Addr × Obj)} {σ:St} {H:Hp} {s:Shared} {T:String} {x:V} {v:Value} (I:Inv X pins σ H s) (r:RelV x v) (ty:tyV X.K T x H) :
  s.TypeIs v T∧∀ a,v = .ref a→∃ ob,s.heap.get? a=some ob∧ob.dict=none:=by
 cases x with
 | str z =>
  obtain ⟨t,rfl⟩:=r
  cases (show T = "str" from ty)
  exact ⟨typeIs_str s z t,fun _ e => nomatch e⟩
 | int i =>
  obtain ⟨t,rfl⟩:=r
  cases (show T = "int" from ty)
  exact ⟨typeIs_int s i t,fun _ e => nomatch e⟩
 | ref p =>
  cases r
  rcases ty with ⟨rfl,xs,hq⟩ | ⟨rfl,o,hk,hc,hd⟩ | ⟨rfl,hk⟩ | ⟨rfl,S,n,hk⟩
  ·obtain ⟨its,_,pl,_⟩:=I.list hq
   refine ⟨pl.isList.typeIs,fun a e => ?_⟩
   cases e
   obtain ⟨o,n,e,c,hd,_⟩:=pl
   exact ⟨o,e,hd⟩
  ·refine ⟨⟨o,I.kIn p o hk,hc⟩,fun a e => ?_⟩
   cases e
   exact ⟨o,I.kIn _ o hk,hd⟩
  ·have z:∃ o,s.heap.get? p=some o∧o.ExactDict:=by
    rcases hk with ⟨kvs,hk⟩ | ⟨kvs,hk⟩
    ·obtain ⟨_,_,_,_,o,_,_,e,ex,_⟩:=I.hok p _ hk
     exact ⟨o,e,ex⟩
    ·obtain ⟨_,_,_,_,o,_,_,e,ex,_⟩:=I.hok p _ hk
     exact ⟨o,e,ex⟩
   obtain ⟨o,e,ex⟩:=z
   refine ⟨⟨o,e,ex.1⟩,fun a e2 => ?_⟩
   cases e2
   exact ⟨o,e,ex.2.1⟩
  ·obtain ⟨o,_,_,_,e,ex,_⟩:=I.hok p _ hk
   refine ⟨⟨o,e,ex.1⟩,fun a e2 => ?_⟩
   cases e2
   exact ⟨o,e,ex.2.1⟩
 | _ => exact False.elim ty
def tBM0 (K:PySem.W.Frag) (T:String) (r:V→List V→Hp→VK→Prop) (to:TE):TE:=fun σ H Q => to σ H fun x H1 => tyV K T x H1∧r x [] H1 Q
def tBM (K:PySem.W.Frag) (T:String) (r:V→List V→Hp→VK→Prop) (to:TE) (t:TA):TE:=fun σ H Q => to σ H fun x H1 => tyV K T x H1∧t σ H1 fun xs H2 => r x xs H2 Q
variable {o e:Expr} {es:List Expr} {to:TE} {t:TA} {name:Str} {apos cpos:PySem.Pos} {T id:String} {r:V→List V→Hp→VK→Prop}
theorem pe_bm0 (pa:PlainAttrs T) (slot:Slot T name id) (hty:typeOf (.builtin id)=pure (.type "method_descriptor")) (hm:MtR X id r) (ho:PE X o to)
  (hbase:attributeBase o name X.env (eval o X.env)=eval o X.env:=by rfl) (hline:(apos.endLine == cpos.line)=true:=by rfl):PE X (.Call (.Attribute o name apos) [] [] cpos) (tBM0 X.K T r to):=by
 intro pins s σ H Q I h
 refine wpAny_Call_method0_late hbase hline (thn (ho pins s σ H _ I h) fun v s1 ⟨x,H1,I1,r1,ty,q1⟩ => ?_)
 obtain ⟨h1,h2⟩:=tyV_is I1 r1 ty
 exact ⟨T,id,pa,slot,hty,h1,h2,Calls.callWith_builtin rfl (PySem.evalArgs_none (hm pins s1 σ H1 x [] v [] Q I1 r1 .nil q1))⟩
theorem pe_bm (pa:PlainAttrs T) (slot:Slot T name id) (hty:typeOf (.builtin id)=pure (.type "method_descriptor")) (hm:MtR X id r) (ho:PE X o to) (ha:PA X (e :: es) t)
  (hbase:attributeBase o name X.env (eval o X.env)=eval o X.env:=by rfl)
  (hfew:((backTo cpos (starEach (e :: es) X.env)).all (fun x => !x.1) && (backToKw cpos (keywordEach [] X.env)).all (fun x => x.1.isSome)
   && decide ((e :: es).length + ([]:List Keyword).length + (if ([]:List Keyword).isEmpty then 0 else 1) < 30))=true:=by rfl)
  (hline:(apos.endLine == cpos.line)=true:=by rfl) (hs:starEach (e :: es) X.env=(false,eval e X.env) :: starEach es X.env:=by rfl) (hplain:(backTo cpos (starEach es X.env)).any (·.1)=false:=by rfl) :
  PE X (.Call (.Attribute o name apos) (e :: es) [] cpos) (tBM X.K T r to t):=by
 intro pins s σ H Q I h
 refine wpAny_Call_method_late hbase hfew hline rfl (thn (ho pins s σ H _ I h) fun v s1 ⟨x,H1,I1,r1,ty,q1⟩ => ?_)
 obtain ⟨h1,h2⟩:=tyV_is I1 r1 ty
 refine ⟨T,id,pa,slot,hty,h1,h2,?_⟩
 have hA:=ha cpos pins s1 σ H1 _ I1 q1
 rw [hs] at hA ⊢
 refine Calls.callWith_builtin (by show (false || (backTo cpos (starEach es X.env)).any (·.1))=false; rw [hplain] <;> rfl) (Calls.evalArgs_plain ?_)
 exact thn hA fun us s2 ⟨vs,H2,I2,r2,q2⟩ => hm pins s2 σ H2 x vs v us Q I2 r1 r2 q2
end
end L2
namespace L2
open PySem PySem.Spec PyProof.Rows
def MtM (X:Cx) (id:String) (r:V→List V→Hp→VK→Prop):Prop :=
 ∀ (pins:List (Addr × Obj)) (s:Shared) (σ:St) (H:Hp) (x:V) (xs:List V) (v:Value) (us:List Value) (Q:VK),Inv X pins σ H s→RelV x v→Vals xs us→r x xs H Q →
  wpAny (model X.prog X.w) X.A (call (.builtin id) (v :: us)) (EP X pins σ Q) X.xe s
theorem Vals.one:∀ {x:V} {us:List Value},Vals [x] us→∃ u,us=[u]∧RelV x u
 | _,_,.cons r .nil => ⟨_,rfl,r⟩
theorem Vals.zero:∀ {us:List Value},Vals [] us→us=[]
 | _,.nil => rfl
theorem Vals.eraseIdx:∀ {xs:List V} {us:List Value} (i:Nat),Vals xs us→Vals (xs.eraseIdx i) (us.eraseIdx i)
 | _,_,_,.nil => .nil
 | _,_,0,.cons _ t => t
 | _,_,i + 1,.cons r t => .cons r (Vals.eraseIdx i t)
theorem Vals.reverse {xs:List V} {us:List Value} (h:Vals xs us):Vals xs.reverse us.reverse:=by
 induction h with
 | nil => exact .nil
 | cons r t ih => rw [List.reverse_cons,List.reverse_cons]; exact Vals.append ih (.cons r .nil)
theorem Vals.rep {xs:List V} {us:List Value} (h:Vals xs us):∀ k:Nat,Vals (List.replicate k xs).flatten (List.replicate k us).flatten
 | 0 => .nil
 | k + 1 => by
  rw [List.replicate_succ,List.replicate_succ,List.flatten_cons,List.flatten_cons]
  exact Vals.append h (Vals.rep h k)
theorem len_erase {α:Type} : ∀ (l:List α) (i:Nat),(l.eraseIdx i).length ≤ l.length
 | [],_ => Nat.le_refl _
 | _ :: _,0 => Nat.le_succ _
 | _ :: r,i + 1 => Nat.succ_le_succ (len_erase r i)
theorem foldl_rep (its:List Value):∀ (k:Nat) (acc:List Value),
  List.foldl (fun x1 x2 => x1 ++ x2) acc.toArray (List.replicate k its.toArray)=(acc ++ (List.replicate k its).flatten).toArray
 | 0,acc => by simp
 | k + 1,acc => by
  have e:acc.toArray ++ its.toArray=(acc ++ its).toArray:=by simp
  have e2:(acc ++ its) ++ (List.replicate k its).flatten=acc ++ (List.replicate (k + 1) its).flatten:=by
   rw [List.replicate_succ,List.flatten_cons,List.append_assoc]
  rw [← e2,← foldl_rep its k (acc ++ its),← e,List.replicate_succ,List.foldl_cons]
section
variable {X:Cx} {pins:List (Addr × Obj)} {σ:St} {H:Hp} {s:Shared} {l b:Addr} {xs ys zs:List V}
theorem Inv.lset {its its' : List Value} {n:Nat} {f:Array Value→Array Value} {t' : Nat} (I:Inv X pins σ H s) (hH:H l=some (.lst xs))
  (e:s.heap.get? l=some { cls:=.type "list",data:=.seq its.toArray n }) (hf:f its.toArray=its'.toArray) (hv:Vals ys its') (hz:ys.length ≤ sizeLine) :
  Inv X pins σ (upd H l (.lst ys)) { s with heap:=s.heap.update l (Obj.mapSeq f),toks:=t' }:=by
 have q:=PySem.IsL.update e f
 rw [hf] at q
 refine I.write (x:=l) (e:=l) (by rw [hH]; exact trivial) (.inl rfl) (fun b' u hb hu => (Heap.get?_update_other s.heap (Obj.mapSeq f) (Ne.symm hb)).trans hu) ⟨_,q⟩ ?_
 exact ⟨hz,its',_,hv,q⟩
theorem Inv.lnew {its:List Value} {t' : Nat} (I:Inv X pins σ H s) (hv:Vals ys its) (hz:ys.length ≤ sizeLine) :
  Inv X pins σ (upd H s.heap.objs.size (.lst ys)) { s with heap:=s.heap.push { cls:=.type "list",data:=.seq its.toArray },toks:=t' } :=
 I.laid (fun _ _ q => Heap.get?_push_of_some _ q) (Nat.le_refl _) ⟨hz,its,0,hv,Heap.get?_push_size _ rfl⟩
theorem Inv.fresh (I:Inv X pins σ H s):H s.heap.objs.size=none:=I.hok.fresh (Nat.le_refl _)
theorem Inv.lstM (I:Inv X pins σ H s) (hH:H l=some (.lst xs)):xs.length ≤ sizeLine∧∃ (its:List Value) (n:Nat),Vals xs its∧xs.length=its.length∧s.heap.get? l=some { cls:=.type "list",data:=.seq its.toArray n }:=by
 obtain ⟨z,its,n,r,e⟩:=I.hok l _ hH
 exact ⟨z,its,n,r,r.length,e⟩
theorem notLongL {n:Nat} (h:n ≤ sizeLine):Builtin.List.listTooLong n=false:=by
 unfold Builtin.List.listTooLong
 exact decide_eq_false (by omega)
end
section
variable {X:Cx}
def rAppend:V→List V→Hp→VK→Prop:=fun x vs H Q => ∃ l xs y,x = .ref l∧vs=[y]∧H l=some (.lst xs)∧xs.length < sizeLine∧Q .non (upd H l (.lst (xs ++ [y])))
theorem mt_append:MtM X "list.append" rAppend:=by
 intro pins s σ H x vs v us Q I rx rv h
 obtain ⟨l,xs,y,rfl,rfl,hH,hz,q⟩:=h
 cases rx
 obtain ⟨u,rfl,ru⟩:=rv.one
 obtain ⟨z,its,n,r,hl,e⟩:=I.lstM hH
 refine call_meets F.slot_list_append ⟨_,e,rfl⟩ F.entry_list_append (F.args_list_append_2 _ _) (PySem.list_append l its.toArray n u (by rw [List.size_toArray]; omega)) ⟨e,?_⟩
 refine ⟨.non,_,I.lset (its':=its ++ [u]) hH e (by simp) (r.append (.cons ru .nil)) ?_,rfl,q⟩
 rw [List.length_append,List.length_singleton]
 omega
def rPopAt:V→List V→Hp→VK→Prop:=fun x vs H Q => ∃ l xs i k y,x = .ref l∧vs=[.int i]∧H l=some (.lst xs)∧-(2 ^ 63) ≤ i∧i < 2 ^ 63∧seqIndex? i xs.length=some k∧xs[k]? = some y∧Q y (upd H l (.lst (xs.eraseIdx k)))
theorem mt_popAt:MtM X "list.pop" rPopAt:=by
 intro pins s σ H x vs v us Q I rx rv h
 obtain ⟨l,xs,i,k,y,rfl,rfl,hH,h1,h2,hk,hy,q⟩:=h
 cases rx
 obtain ⟨u,rfl,ru⟩:=rv.one
 obtain ⟨t,rfl⟩:=ru
 obtain ⟨z,its,n,r,hl,e⟩:=I.lstM hH
 obtain ⟨w,hw,rw'⟩:=r.get hy
 refine call_meets F.slot_list_pop ⟨_,e,rfl⟩ F.entry_list_pop (F.args_list_pop_2 _ _)
  (MeetsSeq.list_pop_at l its.toArray n i t k w (fitsIndex_both h1 h2) (by rw [List.size_toArray,← hl]; exact hk) (by rw [← Array.getElem?_toList]; exact hw) (by rw [List.size_toArray]; omega)) ⟨e,?_⟩
 refine ⟨y,_,I.lset (its':=its.eraseIdx k) hH e ?_ (r.eraseIdx k) ?_,rw',q⟩
 ·show its.toArray.eraseIdxIfInBounds k=(its.eraseIdx k).toArray
  rw [List.eraseIdxIfInBounds_toArray]
 ·have:=len_erase xs k
  omega
def rReverse:V→List V→Hp→VK→Prop:=fun x vs H Q => ∃ l xs,x = .ref l∧vs=[]∧H l=some (.lst xs)∧Q .non (upd H l (.lst xs.reverse))
theorem mt_reverse:MtM X "list.reverse" rReverse:=by
 intro pins s σ H x vs v us Q I rx rv h
 obtain ⟨l,xs,rfl,rfl,hH,q⟩:=h
 cases rx
 have hus:=rv.zero
 subst hus
 obtain ⟨z,its,n,r,hl,e⟩:=I.lstM hH
 refine call_meets F.slot_list_reverse ⟨_,e,rfl⟩ F.entry_list_reverse (F.args_list_reverse_1 _) (AutoSeq1.list_reverse_list_0 l its.toArray n (by rw [List.size_toArray]; omega)) ⟨e,?_⟩
 refine ⟨.non,_,I.lset (its':=its.reverse) hH e (by simp) r.reverse ?_,rfl,q⟩
 rw [List.length_reverse]
 omega
def rCat:R2:=fun x y H Q => ∃ l b xs zs,x = .ref l∧y = .ref b∧H l=some (.lst xs)∧H b=some (.lst zs)∧xs.length + zs.length ≤ sizeLine∧∀ p,H p=none→Q (.ref p) (upd H p (.lst (xs ++ zs)))
theorem op_cat:OpR X (binaryOp .Add) rCat:=by
 intro pins s σ H x y v u Q I rx ry h
 obtain ⟨l,b,xs,zs,rfl,rfl,hH,hB,hz,q⟩:=h
 cases rx
 cases ry
 obtain ⟨z,its,n,r,hl,e⟩:=I.lstM hH
 obtain ⟨z2,its2,n2,r2,hl2,e2⟩:=I.lstM hB
 refine PySem.P.add_list e e2 ?_ (by rw [List.size_toArray,List.size_toArray]; omega)
 have ea:its.toArray ++ its2.toArray=(its ++ its2).toArray:=by simp
 rw [ea]
 exact ⟨.ref _,_,I.lnew (t':=s.toks) (r.append r2) (by rw [List.length_append]; omega),rfl,q _ I.fresh⟩
def rRep:R2:=fun x y H Q => ∃ l k xs,x = .ref l∧y = .int k∧H l=some (.lst xs)∧-(2 ^ 63) ≤ k∧k < 2 ^ 63∧xs.length * k.toNat ≤ sizeLine ∧
 ∀ p,H p=none→Q (.ref p) (upd H p (.lst (List.replicate k.toNat xs).flatten))
theorem len_rep {α:Type} (xs:List α) (k:Nat):(List.replicate k xs).flatten.length=k * xs.length:=by
 induction k with
 | zero => simp
 | succ k ih => rw [List.replicate_succ,List.flatten_cons,List.length_append,ih,Nat.succ_mul,Nat.add_comm]
theorem op_rep:OpR X (binaryOp .Mult) rRep:=by
 intro pins s σ H x y v u Q I rx ry h
 obtain ⟨l,k,xs,rfl,rfl,hH,h1,h2,hz,q⟩:=h
 cases rx
 obtain ⟨t,rfl⟩:=ry
 obtain ⟨z,its,n,r,hl,e⟩:=I.lstM hH
 have hlen:its.toArray.size * k.toNat ≤ sizeLine:=by rw [List.size_toArray,← hl]; exact hz
 have hcap : ¬ its.toArray.size * k.toNat > (2 ^ 63 - 1) / 8:=by
  have:(sizeLine:Nat) ≤ (2 ^ 63 - 1) / 8:=by decide
  omega
 have hfit : ¬ (!Builtin.List.listFitsIndex k)=true:=by
  rw [fitsIndex_both h1 h2]
  exact Bool.false_ne_true
 have hlong : ¬ Builtin.List.listTooLong (its.toArray.size * k.toNat)=true:=by
  rw [notLongL hlen]
  exact Bool.false_ne_true
 have hnew:List.foldl (fun x1 x2 => x1 ++ x2) #[] (List.replicate (if its.toArray.isEmpty=true then 0 else k.toNat) its.toArray)=(List.replicate k.toNat its).flatten.toArray:=by
  have f0:∀ m:Nat,List.foldl (fun x1 x2 => x1 ++ x2) #[] (List.replicate m its.toArray)=(List.replicate m its).flatten.toArray:=fun m => by
   have:=foldl_rep its m []
   rw [List.nil_append] at this
   exact this
  rw [f0]
  cases its with
  | nil => simp
  | cons a r' => rw [if_neg (by simp)]
 refine wpAny_binaryOp_repeat_ref (T := "list") (U := "int") (by decide) ⟨_,e,rfl⟩ (fun s' => typeIs_int s' k t) noFill_list_mul F.fills_int_mul F.slot_int_rmul repeat_list F.slot_int_index.lookup
  (call_meets F.slot_int_rmul (typeIs_int s k t) F.entry_int_rmul (F.args_int_rmul_2 _ _) (int___rmul___int_list k t l its.toArray n)
   ⟨e,rfl,⟨_,e,rfl⟩,call_meets F.slot_list_mul ⟨_,e,rfl⟩ F.entry_list_mul (F.args_list_mul_2 _ _) (AutoListH.list___mul___list_int_3 l its.toArray n k t hfit hcap hlong) ⟨e,?_⟩⟩)
 rw [hnew]
 exact ⟨.ref _,_,I.lnew (t':=s.toks) (r.rep k.toNat) (by rw [len_rep,Nat.mul_comm]; exact hz),rfl,q _ I.fresh⟩
end
end L2
namespace Att
open PySem PySem.W PySem.Calls PyProof.Rows
theorem ints_of_wellAll {P:Params} {h:Heap} : ∀ (ns:List Int) (vs:List Value),WellAll P h vs (ns.map WData.int)→IntsAre vs ns:=by
 intro ns
 induction ns with
 | nil =>
  intro vs w
  rw [List.map_nil] at w
  cases w
  exact .nil
 | cons n ns ih =>
  intro vs w
  rw [List.map_cons] at w
  cases w with
  | cons a b =>
   cases a
   exact .cons _ _ (ih _ b)
theorem script_of {l:OpenLaw} {n:Nat} (hn:l.most=some n) {P:Params} {h:Heap} {args:List WData} {vals:List Value}
  (hpre:l.row.toRowW.claim.pre args=true) (hwl:WellAll P h vals args) :
  ∃ a vs ns,vals=[Value.ref a]∧args=[WData.list (ns.map WData.int)]∧h.get? a=some { cls:=.type "list",data:=.seq vs.toArray }∧IntsAre vs ns∧ns.length ≤ n:=by
 have hsh:WShape.hasAll [] args [.list .int]=true:=(pre_splitW hpre).1
 have hc:l.pre.holds [] { args:=args } = true:=(pre_splitW hpre).2
 obtain ⟨d,r,rfl,h1,h2⟩:=hasAllW_cons hsh
 obtain rfl:=hasAllW_nil h2
 obtain ⟨xs,rfl,h3⟩:=hasW_list h1
 obtain ⟨ns,rfl⟩:=items_int h3
 have hlen:ns.length ≤ n:=by
  unfold OpenLaw.pre at hc
  have h4:(WTm.not (.lt (.lit (.int (n:Int))) (.len (.arg 0)))).holds [] { args:=[.list (ns.map .int)] } = true:=by
   have h4:=(holds_andW hc).1
   rw [hn] at h4
   exact h4
  have h5:=condW_of h4 (w_not (w_lt w_lit (w_len_list (w_arg rfl))))
  rw [List.length_map] at h5
  refine Nat.le_of_not_lt fun q => ?_
  have q' : (n:Int) < ((ns.length:Nat):Int):=by omega
  first
   | (rw [decide_eq_true q'] at h5; exact absurd h5 (by decide))
   | (simp at h5; omega)
 cases hwl with
 | cons w1 w2 =>
  cases w2
  cases w1 with
  | list ho hall => exact ⟨_,_,ns,rfl,rfl,ho,ints_of_wellAll ns _ hall,hlen⟩
theorem post_true (l:OpenLaw) (args:List WData):l.row.toRowW.claim.post args (.bool true) args=true :=
 postW_of (r:=l.row.toRowW) (X:=(true == true))
  (show WShape.has [] (.bool true) .bool=true by first | rfl | decide | simp [WShape.has,WShape.arms,WShape.armsAll])
  (show (WTm.eq .res (.lit (.bool true))).value [] { args:=args,res:=some (.bool true),after:=args } = some (.bool (true == true)) from w_eq_bool (w_res rfl) w_lit) rfl
theorem attach_call {l:OpenLaw} {n:Nat} {q:Program} {loose:List Str} {XP:(Str→Option Value)→Heap→Prop} {YP:World→Heap→Prop} {d:DefRec}
  (hn:l.most=some n) (hdf:d.params.defaults=[])
  (call:∀ (w:World) (s₀ s₁:Shared) (mg mb:Str→Option Value) (fa:Addr) (o:Obj) (pm cd doc:Value) (a:Addr) (vs:List Value) (ns:List Int),
   Ground q loose [] XP w s₀ mg mb s₁.heap→YP w s₁.heap →
   s₁.heap.get? fa=some o→o.data = .func (docDef d.name d.params d.body d.scope pm cd doc)→s₁.heap.CodeRec cd d.name→mg d.name=some (.ref fa) →
   s₁.heap.get? a=some { cls:=.type "list",data:=.seq vs.toArray }→IntsAre vs ns→ns.length ≤ n→s₁.gens = #[] →
   codeAny (model l.prog w) callerA (.call (.ref fa) ⟨[.ref a],[]⟩) (fun r s' => r = .ok (.ret (.bool true))∧OldK s₁.heap s'.heap∧s'.os=s₁.os∧AllBare s'.gens) s₁) :
  WalkO q loose XP YP l.row.toRowW d [] (fun f vs => PySem.call f vs):=by
 intro w s₀ s₁ mg mb G Y fa o pm cd doc dV kV ho hd hcd hD hmg hg args vals as hpre hlay hrd hwl hlo
 obtain rfl:dV = .none:=Dflts.none hD hdf
 obtain rfl:kV = .none:=Dflts.noKw hD
 obtain ⟨a,vs,ns,rfl,rfl,hobj,hints,hlen⟩:=script_of hn hpre hwl
 refine enter_call (codeAny_mono (call w s₀ s₁ mg mb fa o pm cd doc a vs ns G Y ho (fd_plain hd) hcd hmg hobj hints hlen hg) fun r s' hq => ?_)
 obtain ⟨rfl,h2,h3,h4⟩:=hq
 exact ⟨.inl ⟨.bool true,.bool true,[],rfl,fun _ => rfl,.bool true,post_true l _,fun _ => ⟨List.Pairwise.nil,fun _ hm => (nomatch hm)⟩⟩,h2,h3,h4⟩
end Att
namespace L2
open PySem PySem.Spec PyProof.Rows
theorem vals_ints:∀ {vs:List Value} {ns:List Int},IntsAre vs ns→Vals (ns.map V.int) vs
 | _,_,.nil => .nil
 | _,_,.cons n t h => .cons ⟨t,rfl⟩ (vals_ints h)
def Only (H:Hp):Prop:=∀ b,H b=none ∨ ∃ o xs,H b=some (.frz o (.lst xs))
theorem law_call {P:Program} {w:World} {K:PySem.W.Frag} {mg mb:Str→Option Value} {CX:CXT} {k:Nat} {fa a:Addr} {fd:FuncData} {x:Str} {sp:Sp} {s₁:Shared} {vs:List Value} {ns:List Int}
  (KX:K.In s₁.heap) (hns:s₁.heap.Ns mainGlobals mg) (hb:s₁.heap.Ns builtinsNs mb) (hbb:∀ x:Str,x ≠ "__name__" → mb x=bootBuiltins x) (hlim:s₁.heap.NoLimit) (hg:s₁.gens = #[])
  (ha:s₁.heap.get? a=some { cls:=.type "list",data:=.seq vs.toArray }) (hi:IntsAre vs ns) (hl:ns.length ≤ sizeLine) (hr:Room k callerA)
  (F:∀ base:Heap,K.In base→base.Ns mainGlobals mg→FnOk P w K mg base CX k fa fd [x] sp) (hbind:∀ (s:Shared) (u:Value),BindsTo s fd ⟨[u],[]⟩ [(x,u)])
  (hsp:∀ H:Hp,Only H→SqL K H a (ns.map V.int)→sp [.ref a] H (fun v _ => v = .bl true) fun _ _ _ => False)
  (hCX:∀ H e s',CX [] H s₁ (fun _ _ _ => False) e s'→False) :
  codeAny (model P w) callerA (.call (.ref fa) ⟨[.ref a],[]⟩) (fun r s' => r = .ok (.ret (.bool true))∧OldK s₁.heap s'.heap∧s'.os=s₁.os∧AllBare s'.gens) s₁:=by
 have rv:=vals_ints hi
 have lenV:=hi.length
 have core:∀ H:Hp,Only H→SqL K H a (ns.map V.int)→HOk P w H s₁.heap→(∀ b,H b ≠ none→b=a)→(H a ≠ none→K.lookup a=none) →
   codeAny (model P w) callerA (.call (.ref fa) ⟨[.ref a],[]⟩) (fun r s' => r = .ok (.ret (.bool true))∧OldK s₁.heap s'.heap∧s'.os=s₁.os∧AllBare s'.gens) s₁:=by
  intro H hO hS hok hA hK
  have base_of:∀ {b:Addr} {o:Obj},s₁.heap.get? b=some o→H b=none→(hidT s₁.heap H).get? b=some o:=fun e n => hidT_get e n
  have noA:∀ {b:Addr} {o:Obj} {es:Array DictEntry} {ep:Nat},s₁.heap.get? b=some o→o.data = .dict es ep→H b=none:=fun {b o es ep} e d => by
   cases q:H b with
   | none => rfl
   | some u =>
    have e' : b=a:=hA b (by rw [q]; simp)
    subst e'
    rw [ha] at e; cases e
    have d' : Data.seq vs.toArray _=Data.dict es ep:=d
    cases d'
  have nsK:∀ {b:Addr} {m:Str→Option Value},s₁.heap.Ns b m→(hidT s₁.heap H).Ns b m:=fun {b m} ⟨o,es,ep,e,d,r⟩ => ⟨o,es,ep,base_of e (noA e d),d,r⟩
  have hKb:K.In (hidT s₁.heap H):=fun b o e => base_of (KX b o e) (by
   cases q:H b with
   | none => rfl
   | some u =>
    have e' : b=a:=hA b (by rw [q]; simp)
    subst e'
    rw [hK (by rw [q]; simp)] at e; cases e)
  have hM:Mod K mg (hidT s₁.heap H):=⟨hKb,nsK hns,⟨mb,nsK hb,hbb⟩,let ⟨mc,h1,h2⟩:=hlim; ⟨mc,nsK h1,h2⟩⟩
  have e0:Env0 P w K mg (hidT s₁.heap H) callerA [] s₁ H:=⟨rfl,hM,fun b o e => of_hidT e,Nat.le_of_eq (hidT_size _ _),trivial,fun b hb => absurd (show b ∈ ([]:List Addr) from hb) (by simp),hok,.of_eq hg⟩
  refine codeAny_mono ((F _ hKb (nsK hns)).run callerA [] s₁ H ⟨[.ref a],[]⟩ [.ref a] [.ref a] _ _ hr e0 (hbind s₁ (.ref a)) (.cons rfl .nil) (hsp H hO hS)) fun r s' h => ?_
  cases r with
  | error e => exact (hCX H e s' h).elim
  | ok fl =>
   cases fl with
   | next => exact False.elim h
   | brk => exact False.elim h
   | cont => exact False.elim h
   | ret u =>
    obtain ⟨v,H',os,bare,un,hok',r',q⟩:=h
    have q' : v = .bl true:=q
    subst q'
    obtain rfl:u=Value.bool true:=r'
    refine ⟨rfl,OldK.of_keep fun b o e => ?_,os,bare⟩
    cases q:H b with
    | none => exact un.keep b o e q (by intro z; exact absurd (show b ∈ ([]:List Addr) from z) (by simp)) (by simp)
    | some u =>
     rcases hO b with z | ⟨ob,xs,z⟩
     ·rw [q] at z; cases z
     ·have z2:=un.frzs b ob _ z
      obtain ⟨e1,_⟩:=hok b _ z
      obtain ⟨e2,_⟩:=hok' b _ z2
      rw [e] at e1; cases e1
      exact e2
 cases hk:K.lookup a with
 | some o =>
  have e:=KX a o hk
  rw [ha] at e
  cases e
  refine core (fun _ => none) (fun _ => .inl rfl) (.inr ⟨_,vs.toArray,_,hk,rfl,rfl,rfl,by rw [List.size_toArray,lenV]; exact hl,by simpa using rv⟩) (fun b u z => by have z' : (none:Option HO)=some u:=z; cases z') (fun b z => absurd rfl z) fun z => absurd rfl z
 | none =>
  refine core (fun b => if b=a then some (.frz { cls:=.type "list",data:=.seq vs.toArray } (.lst (ns.map V.int))) else none) (fun b => ?_) (.inl (.inr ⟨{ cls:=.type "list",data:=.seq vs.toArray },if_pos rfl⟩)) (fun b u z => ?_) (fun b z => ?_) fun _ => hk
  ·by_cases hb:b=a
   ·exact .inr ⟨_,_,if_pos hb⟩
   ·exact .inl (if_neg hb)
  ·by_cases hb:b=a
   ·have z':=(if_pos hb).symm.trans z
    cases z'
    subst hb
    exact ⟨ha,by rw [List.length_map]; exact hl,vs,_,rv,ha⟩
   ·have z':=(if_neg hb).symm.trans z
    cases z'
  ·by_cases hb:b=a
   ·exact hb
   ·exact absurd (if_neg hb) z
end L2
namespace L2
open PySem PySem.Spec PyProof.Rows
theorem walk_of {l:PySem.W.OpenLaw} {n k:Nat} {q:Program} {loose:List Str} {XP:(Str→Option Value)→Heap→Prop} {YP:World→Heap→Prop} {d:DefRec} {K:Params→PySem.W.Frag} {CX:World→CXT} {sp:World→Sp} {x:Str}
  (hn:l.most=some n) (hn2:n ≤ sizeLine) (hdf:d.params.defaults=[]) (hr:Room k callerA)
  (hY:∀ (w:World) (h:Heap),YP w h→(K w.params).In h)
  (F:∀ (w:World) (mg:Str→Option Value) (fa:Addr) (h:Heap),(K w.params).In h→h.Ns mainGlobals mg→mg d.name=some (.ref fa) →
   ∃ fd:FuncData,(∀ (s:Shared) (u:Value),BindsTo s fd ⟨[u],[]⟩ [(x,u)]) ∧
    ∀ base:Heap,(K w.params).In base→base.Ns mainGlobals mg→FnOk l.prog w (K w.params) mg base (CX w) k fa fd [x] (sp w))
  (hsp:∀ (w:World) (H:Hp) (a:Addr) (ns:List Int),ns.length ≤ n→Only H→SqL (K w.params) H a (ns.map V.int)→sp w [.ref a] H (fun v _ => v = .bl true) fun _ _ _ => False)
  (hCX:∀ (w:World) (H:Hp) (s:Shared) (e:Value) (s' : Shared),CX w [] H s (fun _ _ _ => False) e s'→False) :
  PySem.W.WalkO q loose XP YP l.row.toRowW d [] (fun f vs => PySem.call f vs):=by
 refine Att.attach_call hn hdf fun w s₀ s₁ mg mb fa o pm cd doc a vs ns G Y ho hd hcd hmg hobj hints hlen hg => ?_
 have KX:=hY w _ Y
 obtain ⟨fd,hb,hF⟩:=F w mg fa _ KX G.T.g hmg
 exact law_call KX G.T.g G.T.b G.T.builtins G.T.nolimit hg hobj hints (Nat.le_trans hlen hn2) hr hF hb (fun H hO hS => hsp w H a ns hlen hO hS) fun H e s' => hCX w H s₁ e s'
end L2
namespace L2
open PySem PySem.Spec PyProof.Rows
def defArgs (s:Stmt):Arguments:=match s with
 | .FunctionDef _ a _ _ _ _ _ _ _ _ => a
 | _ => { posonlyargs:=[],args:=[],vararg:=none,kwonlyargs:=[],kw_defaults:=[],kwarg:=none,defaults:=[] }
def defBody (s:Stmt):List Stmt:=match s with
 | .FunctionDef _ _ b _ _ _ _ _ _ _ => b
 | _ => []
def defScope (s:Stmt):Scope:=match s with
 | .FunctionDef _ _ _ _ _ _ sc _ _ _ => sc
 | _ => { kind:=.function,names:=[],isGenerator:=false,isCoroutine:=false }
abbrev CX0:CXT:=fun _ _ _ _ _ _ => False
abbrev E0:XK:=fun _ _ _ => False
theorem pass0 {X:Cx} : Passes CX0 X E0:=fun _ _ _ _ _ _ _ h => h.elim
structure Fun (K:PySem.W.Frag) (x qual:Str) (st:Stmt) (f:Addr) (fd:FuncData):Prop where
 ex:∃ (oc:Value) (od:Option Addr) (kV doc pm:Value) (an:Option Addr) (cdv ct:Value) (osl:Array (Option Value)),
  fd=PySem.W.fnOf x qual (defArgs st) (defBody st) (defScope st) .none kV doc pm an cdv ct∧K.lookup f=some ⟨oc,od,.func fd,osl⟩∧PySem.W.codeIn K cdv qual=true
 kp:PySem.W.keepIn K (.ref f)=true
section
variable {P:Program} {w:World} {K:PySem.W.Frag} {mg:Str→Option Value} {base:Heap}
theorem Fun.ok {x qual:Str} {st:Stmt} {f:Addr} {fd:FuncData} {N ps:List Str} {k:Nat} {sp:Sp} (F:Fun K x qual st f fd) (S:FnScope N ps (defScope st)) (len:∀ vs H Q E,sp vs H Q E→vs.length=ps.length)
  (hbody:∀ (cdv:Value) (A:Around) (outer:List Env) (s:Shared) (H:Hp) (vs:List V) (Q:VK) (E:XK),Room k (A.deeper (envOfC qual (defScope st) s.heap.objs.size f cdv))→sp vs H Q E →
   ∃ t,PSs (cxOf CX0 P w K mg base N qual (defScope st) f cdv A outer s H E).nox (defBody st) t∧t { nx:=fun _ H' => Q .non H',rt:=Q } (start N vs) H):FnOk P w K mg base CX0 (k + 1) f fd ps sp:=by
 obtain ⟨oc,od,kV,doc,pm,an,cdv,ct,osl,rfl,lk,hcd⟩:=F.ex
 refine fn_of lk hcd S len fun A outer s H vs Q E hr hsp => ?_
 obtain ⟨t,h,q⟩:=hbody cdv A outer s H vs Q E hr hsp
 exact ⟨t,h.nox,q⟩
theorem Fun.binds {x qual:Str} {st:Stmt} {f:Addr} {fd:FuncData} {ps:List Str} (F:Fun K x qual st f fd)
  (h:∀ (kV doc pm:Value) (an:Option Addr) (cdv ct:Value) (us:List Value),us.length=ps.length→bindArgs (PySem.W.fnOf x qual (defArgs st) (defBody st) (defScope st) .none kV doc pm an cdv ct) ⟨us,[]⟩=pure (ps.zip us)):Binds K fd ps []:=by
 obtain ⟨oc,od,kV,doc,pm,an,cdv,ct,osl,rfl,lk,hcd⟩:=F.ex
 exact .all (h kV doc pm an cdv ct)
theorem fun_mk {x qual:Str} {st:Stmt} {f:Addr} {oc:Value} {od an:Option Addr} {osl:Array (Option Value)} {kV doc pm cdv ct:Value} (l:K.lookup f=some ⟨oc,od,.func (PySem.W.fnOf x qual (defArgs st) (defBody st) (defScope st) .none kV doc pm an cdv ct),osl⟩)
  (c:PySem.W.codeIn K cdv qual=true) (k:PySem.W.keepIn K (.ref f)=true):Fun K x qual st f (PySem.W.fnOf x qual (defArgs st) (defBody st) (defScope st) .none kV doc pm an cdv ct):=⟨⟨oc,od,kV,doc,pm,an,cdv,ct,osl,rfl,l,c⟩,k⟩
end
theorem small1000 {n:Nat} (h:n ≤ 1000):n < sizeLine:=Nat.lt_of_le_of_lt h (by decide)
section
variable {X:Cx}
theorem pv (i:Nat) {x:Str} {pos:PySem.Pos} (hN:X.N[i]? = some x:=by rfl) (hv:Vis X.env.scope x:=by first | exact Or.inl rfl | exact Or.inr (Or.inl rfl) | exact Or.inr (Or.inr rfl)) (hd:(x == ("__debug__" : Str))=false:=by decide)
  (hcd:(x == ("__classdict__" : Str))=false:=by decide):PE X (.Name x pos) (tVar i):=pe_var hN hv hd hcd
end
theorem iteF {A B:Prop} (h:B):if false=true then A else B:=by
 rw [if_neg Bool.false_ne_true]
 exact h
theorem iteT {A B:Prop} (h:A):if true=true then A else B:=by
 rw [if_pos rfl]
 exact h
theorem ite2 {c A B:Prop} [Decidable c] (h1:c→A) (h2 : ¬ c→B):if c then A else B:=by
 by_cases h:c
 ·rw [if_pos h]
  exact h1 h
 ·rw [if_neg h]
  exact h2 h
def Same (H H' : Hp):Prop:=∀ b o,H b=some o→H' b=some o
theorem Same.refl (H:Hp):Same H H:=fun _ _ h => h
theorem Same.trans {H H1 H2:Hp} (a:Same H H1) (b:Same H1 H2):Same H H2:=fun c o h => b c o (a c o h)
theorem Same.free {H H' : Hp} (e:Same H H') {l:Addr} (h:H' l=Option.none):H l=Option.none:=by
 cases q:H l with
 | none => rfl
 | some o =>
  rw [e l o q] at h
  cases h
theorem Same.seq {K:PySem.W.Frag} {H H' : Hp} {a:Addr} {xs:List V} (e:Same H H') (h:SqL K H a xs):SqL K H' a xs:=by
 rcases h with (h | ⟨o,h⟩) | h
 ·exact .inl (.inl (e _ _ h))
 ·exact .inl (.inr ⟨o,e _ _ h⟩)
 ·exact .inr h
end L2
set_option maxHeartbeats 4000000
namespace L2
open PySem PySem.Spec PyProof.Rows
section
variable {X:Cx}
def CDivL (i j:Int):Prop:=0 < j∧j.natAbs.log2 < 9000
theorem op_fdivL:OpR X (binaryOp .FloorDiv) (rI CDivL fun i j => .int (i / j)):=opI fun i j _ _ _ _ _ hc q => by
 have h1:(0:Int) < j:=hc.1
 exact floordiv_int (by omega) (by rw [Int.fdiv_eq_ediv_of_nonneg i (by omega)]; exact q) (.inl (PyProof.noPylong_of_log2 hc.2))
theorem call_isinst {T:String} : CallR X (.builtin "isinstance") (fun xs H Q => ∃ x t b,xs=[x,.ty T]∧TyOf X.K H x t∧PySem.W.kitOne X.K t (.type T)=some b∧Q (.bl b) H):=by
 intro pins s σ H xs us Q I r h
 obtain ⟨x,t,b,rfl,ty,e,q⟩:=h
 obtain ⟨u,w',rfl,r1,r2⟩:=vals2 r
 cases (show w' = .type T from r2)
 exact isinst_ok I r1 ty e fun tk => ⟨.bl b,H,I.tok _,rfl,q⟩
theorem mt_bits:MtR X "int.bit_length" (fun x vs H Q => ∃ i,x = .int i∧vs=[]∧Q (.int (Builtin.Int.intBits i:Nat)) H):=by
 intro pins s σ H x xs v us Q I r rv h
 obtain ⟨i,rfl,rfl,q⟩:=h
 obtain ⟨t,rfl⟩:=r
 cases rv.zero
 exact call_gives F.slot_int_bit_length (typeIs_int _ _ _) F.entry_int_bit_length (F.args_int_bit_length_1 _) (AutoIntG2.int_bit_length_int_0 _ _) (show EP X pins σ Q _ _ from ⟨.int _,H,I.tok _,⟨_,rfl⟩,q⟩)
theorem kit_ib {K:PySem.W.Frag} : PySem.W.kitOne K (.type "int") (.type "bool")=some false:=by with_unfolding_all rfl
theorem kit_ii {K:PySem.W.Frag} : PySem.W.kitOne K (.type "int") (.type "int")=some true:=by rfl
end
end L2
namespace L2
open PySem PySem.Spec PyProof.Rows
section
variable {X:Cx}
theorem clos_go (env:Env):∀ (names:List (Str × NameKind)) (acc:List (Str × Addr)),(∀ y ∈ names,y.2 = .free→∃ c,env.cells.lookup y.1=some c)→(∀ y c,acc.lookup y=some c→env.cells.lookup y=some c) →
  ∃ cl,(forIn names acc fun (x:Str × NameKind) (r:List (Str × Addr)) => if (x.2 == NameKind.free)=true then (do let c ← cellOf env x.1; pure (ForInStep.yield ((x.1,c) :: r))) else pure (ForInStep.yield r):Sem _)=pure cl ∧
   (∀ y c,cl.lookup y=some c→env.cells.lookup y=some c)∧(∀ y,(y,NameKind.free) ∈ names→(cl.lookup y).isSome=true)∧(∀ y,(acc.lookup y).isSome=true→(cl.lookup y).isSome=true)
 | [],acc,_,h => ⟨acc,by simp,h,fun y z => absurd z (by simp),fun _ z => z⟩
 | (n,k) :: r,acc,hf,h => by
  by_cases hk:k = .free
  ·subst hk
   obtain ⟨c,hc⟩:=hf (n,.free) List.mem_cons_self rfl
   obtain ⟨cl,e,h1,h2,h3⟩:=clos_go env r ((n,c) :: acc) (fun y hy => hf y (List.mem_cons_of_mem _ hy)) (fun y d hd => by
    rw [List.lookup_cons] at hd
    cases z:y == n with
    | true =>
     rw [z] at hd
     have:y=n:=by simpa using z
     subst this
     cases hd
     exact hc
    | false => rw [z] at hd; exact h y d hd)
   have hin:∀ y,(((n,c) :: acc).lookup y).isSome=true ∨ True:=fun _ => .inr trivial
   refine ⟨cl,?_,h1,fun y hy => ?_,fun y hy => h3 y ?_⟩
   ·rw [List.forIn_cons]
    have e0:cellOf env n=pure c:=by unfold cellOf; rw [hc]
    simp only [beq_self_eq_true,if_true,e0,pure_bind]
    exact e
   ·rcases List.mem_cons.mp hy with z | z
    ·cases z
     exact h3 _ (by rw [List.lookup_cons]; simp)
    ·exact h2 y z
   ·rw [List.lookup_cons]
    cases y == n with
    | true => rfl
    | false => exact hy
  ·obtain ⟨cl,e,h1,h2,h3⟩:=clos_go env r acc (fun y hy => hf y (List.mem_cons_of_mem _ hy)) h
   refine ⟨cl,?_,h1,fun y hy => ?_,h3⟩
   ·rw [List.forIn_cons]
    have hb:(k == NameKind.free)=false:=by simpa using hk
    simp only [hb,Bool.false_eq_true,if_false,pure_bind]
    exact e
   ·rcases List.mem_cons.mp hy with z | z
    ·cases z; exact absurd rfl hk
    ·exact h2 y z
theorem clos_ok {scope:Scope} {env:Env} (hf:∀ y ∈ scope.names,y.2 = .free→∃ c,env.cells.lookup y.1=some c):∃ cl,closureFor scope env=pure cl∧(∀ y c,cl.lookup y=some c→env.cells.lookup y=some c)∧(∀ y,(y,NameKind.free) ∈ scope.names→(cl.lookup y).isSome=true):=by
 obtain ⟨cl,e,h1,h2,_⟩:=clos_go env scope.names [] hf (fun y c h => by cases h)
 refine ⟨cl,?_,h1,h2⟩
 unfold closureFor
 simp only [bind_pure]
 exact e
end
end L2
namespace L2
open PySem PySem.Spec PyProof.Rows
section
variable {X:Cx}
def tYes:TT:=fun _ H Q => Q true H
def PIf (X:Cx) (ifs:List Expr) (t:TT):Prop :=
 ∀ (pins:List (Addr × Obj)) (s:Shared) (σ:St) (H:Hp) (Q:Bool→Hp→Prop),Inv X pins σ H s→t σ H Q →
  wpAny (model X.prog X.w) X.A (forIn ifs true fun c r => if r=true then do let ok ← isTrue c X.env (eval c X.env); pure (ForInStep.yield ok) else pure (ForInStep.yield r)) (TP X pins σ Q) X.xe s
theorem pif_nil:PIf X [] tYes:=fun pins s σ H Q I h => wpAny_tests_nil ⟨H,I,h⟩
theorem pif_one {c:Expr} {t:TT} (hc:PT X c t):PIf X [c] t:=fun pins s σ H Q I h => wpAny_tests_one (hc pins s σ H Q I h)
theorem relabel_kind {names:List (Str × NameKind)} {env:Env} {x:Str} {k:NameKind} (hc:∀ y ∈ names,y.2 ≠ .cell) (h:(names.map fun (n,k) => if (k == NameKind.free && env.scope.kind == .function && env.kindOf n == some .cell) then (n,NameKind.cell) else (n,k)).lookup x=some k) :
  (k = .cell ∨ k = .free)→names.lookup x=some .free∧(k = .cell→env.kindOf x=some .cell):=by
 induction names with
 | nil => cases h
 | cons p r ih =>
  obtain ⟨n,k0⟩:=p
  intro hk
  have h:List.lookup x ((if (k0 == NameKind.free && env.scope.kind == .function && env.kindOf n == some .cell)=true then (n,NameKind.cell) else (n,k0)) :: _)=some k:=h
  by_cases c:(k0 == NameKind.free && env.scope.kind == .function && env.kindOf n == some .cell)=true
  ·rw [if_pos c] at h
   rw [List.lookup_cons] at h ⊢
   cases z:x == n with
   | true =>
    have e:x=n:=by simpa using z
    subst e
    simp only [Bool.and_eq_true,beq_iff_eq] at c
    exact ⟨by rw [c.1.1],fun _ => c.2⟩
   | false => rw [z] at h; exact ih (fun y hy => hc y (List.mem_cons_of_mem _ hy)) h hk
  ·rw [if_neg c] at h
   rw [List.lookup_cons] at h ⊢
   cases z:x == n with
   | true =>
    rw [z] at h
    have e:k0=k:=Option.some.inj h
    subst e
    rcases hk with rfl | rfl
    ·exact absurd rfl (hc (n,.cell) List.mem_cons_self)
    ·exact ⟨rfl,fun z => by cases z⟩
   | false => rw [z] at h; exact ih (fun y hy => hc y (List.mem_cons_of_mem _ hy)) h hk
end
end L2
namespace L2
open PySem PySem.Spec PyProof.Rows
section
variable {X:Cx}
theorem relabel_local {names:List (Str × NameKind)} {env:Env} {x:Str} (h:(names.map fun (n,k) => if (k == NameKind.free && env.scope.kind == .function && env.kindOf n == some .cell) then (n,NameKind.cell) else (n,k)).lookup x=some .local) :
  names.lookup x=some .local:=by
 induction names with
 | nil => cases h
 | cons p r ih =>
  obtain ⟨n,k0⟩:=p
  have h:List.lookup x ((if (k0 == NameKind.free && env.scope.kind == .function && env.kindOf n == some .cell)=true then (n,NameKind.cell) else (n,k0)) :: _)=some .local:=h
  by_cases c:(k0 == NameKind.free && env.scope.kind == .function && env.kindOf n == some .cell)=true
  ·rw [if_pos c] at h
   rw [List.lookup_cons] at h ⊢
   cases z:x == n with
   | true => rw [z] at h; cases h
   | false => rw [z] at h; exact ih h
  ·rw [if_neg c] at h
   rw [List.lookup_cons] at h ⊢
   cases z:x == n with
   | true => rw [z] at h; exact h
   | false => rw [z] at h; exact ih h
end
end L2
namespace L2
open PySem PySem.Spec PyProof.Rows
inductive DI (K:PySem.W.Frag) (H:Hp):V→PyData→Prop where
 | non:DI K H .non .none
 | bl (b:Bool):DI K H (.bl b) (.bool b)
 | int (i:Int):DI K H (.int i) (.int i)
 | str (x:Str):DI K H (.str x) (.str x)
 | tup {a:Addr} {xs:List V} {ds:List PyData} : SqT K H a xs→xs.length=ds.length→(∀ (i:Nat) (x:V) (d:PyData),xs[i]? = some x→ds[i]? = some d→DI K H x d)→DI K H (.ref a) (.tuple ds)
 | lst {a:Addr} {xs:List V} {ds:List PyData} : SqL K H a xs→xs.length=ds.length→(∀ (i:Nat) (x:V) (d:PyData),xs[i]? = some x→ds[i]? = some d→DI K H x d)→DI K H (.ref a) (.list ds)
section
variable {X:Cx} {pins:List (Addr × Obj)} {σ:St} {H:Hp} {s:Shared}
theorem readsAll_of:∀ {us:List Value} {ds:List PyData} {xs:List V},Vals xs us→xs.length=ds.length→(∀ (i:Nat) (x:V) (d:PyData) (u:Value),xs[i]? = some x→ds[i]? = some d→RelV x u→∃ as,Reads s.heap u d as)→∃ as,ReadsAll s.heap us ds as
 | _,ds,_,.nil,hl,_ => by
  cases ds with
  | nil => exact ⟨_,.nil⟩
  | cons d r => cases hl
 | _,ds,_,.cons (a:=x) r t,hl,h => by
  cases ds with
  | nil => cases hl
  | cons d rest =>
   obtain ⟨as,ra⟩:=h 0 x d _ rfl rfl r
   obtain ⟨bs,rb⟩:=readsAll_of t (by simpa using hl) (fun i y e u h1 h2 h3 => h (i + 1) y e u (by simpa using h1) (by simpa using h2) h3)
   exact ⟨_,.cons ra rb⟩
theorem DI.reads (I:Inv X pins σ H s) {x:V} {d:PyData} (h:DI X.K H x d):∀ {u:Value},RelV x u→∃ as,Reads s.heap u d as:=by
 induction h with
 | non => intro u r; cases r; exact ⟨_,.none⟩
 | bl b => intro u r; cases r; exact ⟨_,.bool b⟩
 | int i => intro u r; obtain ⟨t,rfl⟩:=r; exact ⟨_,.int i t⟩
 | str x => intro u r; obtain ⟨t,rfl⟩:=r; exact ⟨_,.str x t⟩
 | tup hq hl _ ih =>
  intro u r
  cases r
  obtain ⟨its,rv,⟨o,e,c,n,hd⟩,_⟩:=I.tuple hq
  obtain ⟨as,ra⟩:=readsAll_of (s:=s) rv hl (fun i y d u h1 h2 h3 => ih i y d h1 h2 h3)
  exact ⟨_,.tuple e c hd (by simpa using ra)⟩
 | lst hq hl _ ih =>
  intro u r
  cases r
  obtain ⟨its,rv,pl,_⟩:=I.list hq
  obtain ⟨o,e,c,n,hd⟩:=pl.isList
  obtain ⟨as,ra⟩:=readsAll_of (s:=s) rv hl (fun i y d u h1 h2 h3 => ih i y d h1 h2 h3)
  exact ⟨_,.list e c hd (by simpa using ra)⟩
def rEqD (K:PySem.W.Frag) (g:Bool→Bool):R2:=fun x y H Q => ∃ dx dy,DI K H x dx∧DI K H y dy∧dx.canLay0=true∧dy.canLay0=true∧dx.depth ≤ 60∧Q (.bl (g (PyData.eqv dx dy))) H
theorem op_eqD {k:Nat} (hr:Room k X.A):OpR X (compareOp .Eq) (rEqD X.K fun b => b):=by
 intro pins s σ H x y v u Q I rx ry h
 obtain ⟨dx,dy,hx,hy,cx,cy,hd,q⟩:=h
 obtain ⟨as,ra⟩:=hx.reads I rx
 obtain ⟨bs,rb⟩:=hy.reads I ry
 have hu:=hr.units
 exact SeqAt.compareEq_reads ra rb cx cy (by omega) ⟨.bl _,H,I,rfl,q⟩
theorem op_neD {k:Nat} (hr:Room k X.A):OpR X (compareOp .NotEq) (rEqD X.K fun b => !b):=by
 intro pins s σ H x y v u Q I rx ry h
 obtain ⟨dx,dy,hx,hy,cx,cy,hd,q⟩:=h
 obtain ⟨as,ra⟩:=hx.reads I rx
 obtain ⟨bs,rb⟩:=hy.reads I ry
 have hu:=hr.units
 exact SeqAt.compareNe_reads ra rb cx cy (by omega) ⟨.bl _,H,I,rfl,q⟩
end
end L2
namespace L2
open PySem PySem.Spec PyProof.Rows
section
variable {X:Cx}
theorem range_all_get (bs:List Bool):(List.range bs.length).all (fun i => bs.getD i true)=bs.all id:=by
 induction bs with
 | nil => rfl
 | cons b r ih =>
  rw [List.length_cons,List.range_succ_eq_map,List.all_cons,List.all_map,List.all_cons]
  have:(List.range r.length).all ((fun i => (b :: r).getD i true) ∘ Nat.succ)=(List.range r.length).all (fun i => r.getD i true):=by
   congr 1
  rw [this,ih]
  rfl
theorem call_all (hc:X.calm=true):CallR X (.builtin "all") (fun xs H Q => ∃ (p:Addr) (bs:List Bool),xs=[.ref p]∧SqL X.K H p (bs.map V.bl)∧Q (.bl (bs.all id)) H):=by
 intro pins s σ H xs us Q I r h
 obtain ⟨p,bs,rfl,hq,q⟩:=h
 obtain ⟨u,rfl,rx⟩:=vals1 r
 cases rx
 obtain ⟨its,rv,pl,hz⟩:=I.list hq
 have hlt:p < s.heap.objs.size:=by
  obtain ⟨o,e,_⟩:=pl.isList
  exact Heap.lt_size e
 have hlen:its.length=bs.length:=by have:=rv.length; rw [List.length_map] at this; exact this.symm
 refine call_all_walk (wpAny_pyIter_list pl.isList ?_)
 refine ⟨_,_,_,_,_,_,fun i => bs.getD i true,rfl,Walks.list (A:=X.A.in1) (I.ok.hd hc) s.heap.objs.size p (Nat.ne_of_lt hlt) its.toArray,?_,?_,fun h' tk hk => ?_⟩
 ·exact ⟨⟨_,Heap.get?_push_size _ rfl,rfl,rfl⟩,(let ⟨o,e,c⟩:=pl.isList; ⟨o,Heap.get?_push_of_some _ e,c⟩)⟩
 ·intro i v s' Q' E' hP hQ
  have hv:its[i]? = some v:=by simpa using hP
  have hil:i < bs.length:=by rw [← hlen]; exact (List.getElem?_eq_some_iff.mp hv).1
  obtain ⟨u,e,ru⟩:=rv.get (x:=V.bl (bs.getD i true)) (i:=i) (by rw [List.getElem?_map,List.getElem?_eq_getElem hil,List.getD_eq_getElem?_getD,List.getElem?_eq_getElem hil]; rfl)
  rw [hv] at e
  cases e
  cases ru
  exact wpAny_truthy_bool hQ
 ·have e:(List.range its.toArray.size).all (fun i => bs.getD i true)=bs.all id:=by
   rw [List.size_toArray,hlen]; exact range_all_get bs
  rw [e]
  refine ⟨.bl _,H,?_,rfl,q⟩
  exact I.kept fun b o eb => hk b o (by simp; exact Nat.ne_of_lt (Heap.lt_size eb)) (Heap.get?_push_of_some _ eb)
theorem call_isinstK {K:PySem.W.Frag} {T:String} (hK:X.K=K:=by rfl):CallR X (.builtin "isinstance") (fun xs H Q => ∃ x t b,xs=[x,.ty T]∧TyOf K H x t∧PySem.W.kitOne K t (.type T)=some b∧Q (.bl b) H):=by
 subst hK; exact call_isinst
theorem ix_listK {K:PySem.W.Frag} (hK:X.K=K:=by rfl):IxR X (rIxL K):=by subst hK; exact ix_list
theorem ix_tupK {K:PySem.W.Frag} (hK:X.K=K:=by rfl):IxR X (rIxT K):=by subst hK; exact ix_tup
theorem call_lenK {K:PySem.W.Frag} (hK:X.K=K:=by rfl):CallR X (.builtin "len") (fun xs H Q => ∃ p ys,xs=[.ref p]∧(SqL K H p ys ∨ SqT K H p ys)∧Q (.int ys.length) H):=by subst hK; exact call_len_seq
end
end L2
namespace L2
open PySem PySem.Spec PyProof.Rows
section
variable {X:Cx}
theorem Vals.of_get:∀ {xs:List V} {us:List Value},xs.length=us.length→(∀ (i:Nat) (x:V) (u:Value),xs[i]? = some x→us[i]? = some u→RelV x u)→Vals xs us
 | [],[],_,_ => .nil
 | [],_ :: _,h,_ => by cases h
 | _ :: _,[],h,_ => by cases h
 | x :: xs,u :: us,h,k => .cons (k 0 x u rfl rfl) (Vals.of_get (by simpa using h) fun i y v h1 h2 => k (i + 1) y v (by simpa using h1) (by simpa using h2))
theorem call_range1:CallR X (.type "range") (fun xs H Q => ∃ j:Int,xs=[.int j]∧-(2 ^ 62) ≤ j∧j < 2 ^ 62∧∀ p,H p=none→Q (.ref p) (upd H p (.rng 0 j))):=by
 intro pins s σ H xs us Q I r h
 obtain ⟨j,rfl,h1,h2,q⟩:=h
 obtain ⟨u,rfl,t,rfl⟩:=vals1 r
 refine call_range_1 ?_
 exact ⟨.ref _,upd H s.heap.objs.size (.rng 0 j),I.laid (fun b u e => Heap.get?_push_of_some _ e) (Nat.le_refl _) ⟨_,_,_,Heap.get?_push_size _ rfl⟩,rfl,q _ (I.hok.fresh (Nat.le_refl _))⟩
end
end L2
namespace L2
open PySem PySem.Spec PyProof.Rows
section
variable {X:Cx}
section
variable {prog:Program} {w:World} {A:Around} {R:Result→Shared→Prop} {s:Shared}
theorem loop_turns {elt tg iter:Expr} {ifs:List Expr} {scope:Scope} {pos:PySem.Pos} {it acc:Value} {env:Env} {EE:Value→Shared→Prop} (hE:EE=notedBy (model prog w) A env fun e s' => R (.error e) s') (I:Nat→Shared→Prop)
  (turn:∀ n s,I n s→wpAny (model prog w) A (pyNext it) (fun r z1 => match r with
   | none => R (.ok .next) z1
   | some v => wpAny (model prog w) A (letOwnedTupleGo tg it v) (fun _ y1 => wpAny (model prog w) A (assign tg env v) (fun _ z2 =>
     wpAny (model prog w) A (forIn ifs true fun c r => if r=true then do let ok ← isTrue c env (eval c env); pure (ForInStep.yield ok) else pure (ForInStep.yield r)) (fun ok z3 =>
      if ok=true then wpAny (model prog w) A (eval elt env) (fun x z4 => wpAny (model prog w) A (call (.builtin "list.append") [acc,x]) (fun _ z5 => ∃ m,m < n∧I m z5) EE z4) EE z3 else ∃ m,m < n∧I m z3) EE z2) EE y1) EE z1) EE s)
  (n:Nat) (h:I n s):codeAny (model prog w) A (.compLoop (.ListComp elt [⟨tg,iter,ifs,0⟩] scope pos) 0 it acc env) R s:=by
 subst hE
 refine codeAny_loop rfl I (fun n s hI => ?_) n h
 show wpAny _ A ((compTurn (.ListComp elt [⟨tg,iter,ifs,0⟩] scope pos) 0 it acc env).onRaise (fun x => do noteFrame x env; theTreesLotGoes x)) _ _ s
 refine wpAny_noted ?_
 rw [compTurn_list]
 refine wpAny_bind (wpAny_standAt (wpAny_bind (wpAny_mono (turn n s hI) (fun r z1 q1 => ?_) fun _ _ z => z)))
 cases r with
 | none => exact wpAny_pure q1
 | some v =>
  refine wpAny_bind (wpAny_mono q1 (fun _ y1 q1 => ?_) fun _ _ z => z)
  refine wpAny_bind (wpAny_mono q1 (fun _ z2 q2 => wpAny_bind (wpAny_mono q2 (fun ok z3 q3 => ?_) fun _ _ z => z)) fun _ _ z => z)
  cases ok with
  | false => exact wpAny_pure ⟨rfl,q3⟩
  | true => exact wpAny_bind (wpAny_bind (wpAny_mono q3 (fun x z4 q4 => wpAny_bind (wpAny_mono q4 (fun _ z5 q5 => wpAny_pure (wpAny_pure ⟨rfl,q5⟩)) fun _ _ z => z)) fun _ _ z => z))
end
def cxC (X:Cx) (xs Nb:List Str) (scope:Scope) (cl:List (Str × Addr)) (C:Addr) (s₂:Shared) (H₂:Hp) (fp:List Addr):Cx :=
 { X with N:=xs ++ Nb,s₀:=s₂,H₀:=H₂,env:=compEnvC scope cl C X.env,outer:=X.stack,stack:=X.stack,ex:=fp,fn:=fun _ => false,pn:=[],xe:=fun _ _ => False }
def InB (X:Cx) (xs Nb:List Str) (scope:Scope) (φ:Cx→Prop):Prop:=∀ (cl:List (Str × Addr)) (C:Addr) (s₂:Shared) (H₂:Hp) (fp:List Addr),φ (cxC X xs Nb scope cl C s₂ H₂ fp)
def CGo (k:Nat) (J:It) (g:TG) (tt:TT) (te:TE) (Q:VK) (σ:St) (H1:Hp):Prop:=∃ W:Nat→Nat→List V→Hp→Prop,(∃ m,W 0 m [] H1)∧∀ i m ys H,W i m ys H →
 (J.stop i H∧∀ D,H D=none→Q (.ref D) (upd H D (.lst ys))) ∨ (J.go i H∧ys.length < sizeLine∧∃ N:List V→Hp→Prop,(∀ zs H',N zs H'→∃ m',m' < m∧W (i + 1) m' zs H')∧∀ v H' (pre:St),pre.length=k→J.yld i H v H'→g v (pre ++ σ) H' fun σ' H2 => (∃ pre' : St,σ' = pre' ++ σ∧pre'.length=k)∧tt σ' H2 fun ok H3 => if ok=true then te σ' H3 fun y H4 => N (ys ++ [y]) H4 else N ys H3)
def tCompG (k:Nat) (wi:TI) (g:TG) (tt:TT) (te:TE):TE:=fun σ H Q => wi σ H fun J H1 => CGo k J g tt te Q σ H1
theorem comp_core {elt iter tg:Expr} {xs Nb:List Str} {ifs:List Expr} {scope:Scope} {pos:PySem.Pos} {wi:TI} {g:TG} {tt:TT} {te:TE}
  (hc:X.calm=true) (hi:PI X tg iter wi) (hlen:Nb.length=X.N.length) (hNb:∀ p ∈ Nb.zip X.N,p.1=p.2 ∨ scope.names.lookup p.1=none) (hxN:∀ y ∈ Nb,scope.names.lookup y ≠ some .local)
  (hg:InB X xs Nb scope fun Y => PG Y tg g) (ht:InB X xs Nb scope fun Y => PIf Y ifs tt) (he:InB X xs Nb scope fun Y => PE Y elt te)
  (hcell:∀ y ∈ scope.names,y.2 ≠ .cell) (hkind:scope.kind = .function) (hnames:∀ y ∈ scope.names,y.2 = .local→scope.names.lookup y.1=some .local)
  (hfree:∀ y ∈ scope.names,y.2 = .free→X.env.kindOf y.1=some .cell)
  (hs:∀ x,foldedSetIterable iter X.env x=pure x) {pos2:PySem.Pos} {use:Option (Value→Sem Unit)} {QQ:Value→Shared→Prop} {pins:List (Addr × Obj)} {s:Shared} {σ:St} {H:Hp} {Q:VK} (I:Inv X pins σ H s) (h:tCompG xs.length wi g tt te σ H Q)
  (post:∀ (s2 s4:Shared) (H2 H4:Hp) (C D:Addr) (m4:Str→Option Value),Inv X pins σ H2 s2→s2.heap.objs.size ≤ C→s4.heap.Ns C m4→H4 C=none→(∀ h',Heap.SameBut C s4.heap h'→Inv X pins σ H4 { s4 with heap:=h' })→Q (.ref D) H4→compPost (model X.prog X.w) X.A X.xe use QQ (.ref D) C (.ok .next) s4) :
  wpAny (model X.prog X.w) X.A (comprehension (.ListComp elt [⟨tg,iter,ifs,0⟩] scope pos) scope X.env pos2 (newList []) false (eval iter X.env) use) QQ X.xe s:=by
 obtain ⟨cl,hcl,cl1,cl2⟩:=clos_ok (scope:=scope) (env:=X.env) (fun y hy hf => I.ok.has y.1 (.inl (hfree y hy hf)))
 refine wpAny_comprehension_free rfl hs hcl hkind hnames (thn (hi pins s σ H _ I h) fun v s1 h1 => thn h1 fun itv s2 h2 => ?_)
 obtain ⟨it,fp,tn,J,H2,e,I2,T,st2,f2,W,⟨m0,w0⟩,turn⟩:=h2
 subst e
 refine wpAny_newObj_type (wpAny_newFunctionEnv hcell (by intro y hy; simp at hy) (fun h₁ hns₁ hsb₁ => ?_) hkind)
 dsimp only at hns₁ hsb₁ ⊢
 generalize hHp:s2.heap.push { cls:=.type "list",dict:=none,data:=.seq ([]:List Value).toArray } = Hp2 at hns₁ hsb₁ ⊢
 have hC:Hp2.objs.size=s2.heap.objs.size + 1:=by rw [← hHp,Heap.size_push]
 have hDC:s2.heap.objs.size ≠ Hp2.objs.size:=by rw [hC]; exact Nat.ne_of_lt (Nat.lt_succ_self _)
 have below:∀ b,b < s2.heap.objs.size→b ≠ Hp2.objs.size∧b ≠ s2.heap.objs.size:=fun b hb => ⟨by rw [hC]; exact Nat.ne_of_lt (Nat.lt_succ_of_lt hb),Nat.ne_of_lt hb⟩
 have old:∀ b o,s2.heap.get? b=some o→h₁.get? b=some o:=fun b o e => hsb₁.extBut b o (below b (Heap.lt_size e)).1 (Heap.get?_push_of_some _ (hHp ▸ Heap.get?_push_of_some _ e))
 have hacc:h₁.PlainList s2.heap.objs.size #[]:=⟨_,hsb₁.extBut _ _ hDC (Heap.get?_push_of_some _ (hHp ▸ Heap.get?_push_size _ rfl))⟩
 generalize hY:cxC X xs Nb scope cl Hp2.objs.size s2 H2 fp=Y
 have Yprog:Y.prog=X.prog:=by rw [← hY]; rfl
 have fpLt:∀ b ∈ fp,b < s2.heap.objs.size:=fun b hb => by
  obtain ⟨o,e,_⟩:=T.obj _ _ st2 b hb
  exact Heap.lt_size e
 have cellLt:∀ y c,cl.lookup y=some c→c < s2.heap.objs.size:=fun y c hc => by
  obtain ⟨v,q⟩:=I2.cell y c (cl1 y c hc)
  exact q.lt
 have frSub:∀ b ∈ frs X.stack,b < s2.heap.objs.size:=fun b hb => by
  rcases List.mem_cons.mp (I2.stkSub b hb) with z | z
  ·rw [z]; exact I2.lt
  ·by_cases hlt:b < s2.heap.objs.size
   ·exact hlt
   ·exact absurd z (I2.nofs (Nat.le_of_not_lt hlt))
 have ok:(cxC X xs Nb scope cl Hp2.objs.size s2 H2 fp).Ok:=by
  refine ⟨I2.ok.mod,hkind,I2.ok.glob,I2.ok.blt,(by show s2.heap.objs.size ≤ Hp2.objs.size; omega),fun y z c h1 h2 => I2.ok.inj y z c (cl1 y c h1) (cl1 z c h2),fun y hy => ?_,fun y c hf _ => absurd hf (by intro z; cases z),I2.ok.hd,I2.ok.frames,.inl rfl,fun b hb => ⟨?_,fun y c h1 h2 => ?_⟩,I2.bs,Nat.le_trans I2.ok.bsz I2.sz,fun b o e hb => ?_,fun b hb hm => ?_,I2.stack,I2.stkFree⟩
  ·have hy:(scope.names.map fun (n,k) => if (k == NameKind.free && X.env.scope.kind == .function && X.env.kindOf n == some .cell) then (n,NameKind.cell) else (n,k)).lookup y=some .cell ∨ (scope.names.map fun (n,k) => if (k == NameKind.free && X.env.scope.kind == .function && X.env.kindOf n == some .cell) then (n,NameKind.cell) else (n,k)).lookup y=some .free:=hy
   have q:scope.names.lookup y=some .free:=by
    rcases hy with z | z
    ·exact (relabel_kind hcell z (.inl rfl)).1
    ·exact (relabel_kind hcell z (.inr rfl)).1
   exact Option.isSome_iff_exists.mp (cl2 y (PySem.mem_of_lookup q))
  ·exact (below b (fpLt b hb)).1
  ·exact (f2 b hb).2.2.2.2.1 y c (cl1 y c h1) h2
  ·rcases (f2 b hb).2.2.2.1 with z | z
   ·exact I2.ok.noex b o e z
   ·exact absurd (Nat.lt_of_lt_of_le (Heap.lt_size e) (Nat.le_trans I2.ok.bsz z)) (Nat.lt_irrefl _)
  ·rcases List.mem_cons.mp (I2.stkSub b hm) with z | z
   ·exact (f2 b hb).2.1 z
   ·exact (f2 b hb).2.2.1 z
 have fpY:∀ {H' : Hp} {pl:List (Addr × Obj)},(∀ b ∈ fp,H' b=none)→(∀ p ∈ pl,p.1=s2.heap.objs.size)→∀ b ∈ fp,FpOk Y pl H' b:=fun {H' pl} hn hp b hb => by
  rw [← hY]
  refine ⟨hn b hb,(below b (fpLt b hb)).1,fun hm => ?_,.inl hb,fun y c h1 h2 => (f2 b hb).2.2.2.2.1 y c (cl1 y c h1) h2,fun p hm z => ?_⟩
  ·rcases List.mem_cons.mp (I2.stkSub b hm) with z | z
   ·exact (f2 b hb).2.1 z
   ·exact (f2 b hb).2.2.1 z
  ·have hm:p ∈ pl:=hm
   rw [hp p hm] at z
   exact (below b (fpLt b hb)).2 z.symm
 have HD:H2 s2.heap.objs.size=none:=I2.hok.fresh (Nat.le_refl _)
 have HC:H2 Hp2.objs.size=none:=I2.hok.fresh (by omega)
 obtain ⟨m2,hns2,hloc2⟩:=I2.loc
 have IY:∀ tk,Inv (cxC X xs Nb scope cl Hp2.objs.size s2 H2 fp) [] (List.replicate xs.length none ++ σ) H2 { s2 with heap:=h₁,toks:=tk }:=fun tk => by
  refine ⟨ok,rfl,I2.bare,Un.kept old,⟨_,hns₁,fun i y v h1 h2 h3 => ?_⟩,fun y c h1 => ?_,HC,fun y c h1 => I2.freeC y c (cl1 y c h1),fun p hp => absurd (show p ∈ ([]:List (Addr × Obj)) from hp) (by simp),I2.hok.kept old,(by show (List.replicate xs.length (none:Option V) ++ σ).length=(xs ++ Nb).length; rw [List.length_append,List.length_append,List.length_replicate,hlen,I2.len])⟩
  ·have h1:(xs ++ Nb)[i]? = some y:=h1
   by_cases hik:i < xs.length
   ·rw [List.getElem?_append_left (by rw [List.length_replicate]; exact hik),List.getElem?_replicate,if_pos hik] at h2
    cases h2
   ·rw [List.getElem?_append_right (by omega)] at h1
    rw [List.getElem?_append_right (by rw [List.length_replicate]; omega),List.length_replicate] at h2
    generalize i - xs.length=i at h1 h2
    have h3:Vis (relabel scope X.env) y:=h3
    have key:∀ k,(k=NameKind.cell ∨ k=NameKind.free)→(relabel scope X.env).names.lookup y=some k→∃ u,RelV v u∧Look (compEnvC scope cl Hp2.objs.size X.env) h₁ (fun x => ([]:List (Str × Value)).reverse.lookup x) y u:=fun k hk hl => by
     obtain ⟨q1,_⟩:=relabel_kind hcell hl hk
     have q2:=hfree (y,.free) (PySem.mem_of_lookup q1) rfl
     have h1' : X.N[i]? = some y:=by
      have hi' : i < X.N.length:=by rw [← hlen]; exact (List.getElem?_eq_some_iff.mp h1).1
      have hz:(Nb.zip X.N)[i]? = some (y,X.N[i]):=by rw [List.getElem?_zip_eq_some]; exact ⟨h1,List.getElem?_eq_getElem hi'⟩
      rcases hNb _ (List.mem_of_getElem? hz) with z | z
      ·have z:y=X.N[i]:=z
       rw [z]; exact List.getElem?_eq_getElem hi'
      ·have z:scope.names.lookup y=none:=z
       rw [q1] at z; cases z
     obtain ⟨u,r,l⟩:=hloc2 i y v h1' h2 (.inr (.inl q2))
     refine ⟨u,r,.inr ⟨?_,?_⟩⟩
     ·rcases hk with rfl | rfl
      ·exact .inl hl
      ·exact .inr hl
     ·rcases l with ⟨k1,_⟩ | ⟨_,c,e1,z⟩
      ·rw [q2] at k1; cases k1
      ·obtain ⟨c',e2⟩:=Option.isSome_iff_exists.mp (cl2 y (PySem.mem_of_lookup q1))
       have e3:=cl1 y c' e2
       rw [e1] at e3
       cases e3
       obtain ⟨o,ho,hd⟩:=z
       exact ⟨c,e2,o,old c o ho,hd⟩
    rcases h3 with h3 | h3 | h3
    ·
     exfalso
     exact hxN y (List.mem_of_getElem? h1) (relabel_local h3)
    ·exact key _ (.inl rfl) h3
    ·exact key _ (.inr rfl) h3
  ·obtain ⟨v,o,ho,hd⟩:=I2.cell y c (cl1 y c h1)
   exact ⟨v,o,old c o ho,hd⟩
 have noErr:∀ {α:Type} {m:Sem α} {G:α→Shared→Prop} {E' : Value→Shared→Prop} {s' : Shared},wpAny (model X.prog X.w) X.A m G (fun _ _ => False) s'→wpAny (model X.prog X.w) X.A m G E' s':=fun h => wpAny_mono h (fun _ _ q => q) fun _ _ q => q.elim
 have loop:∀ (tk:Nat) (R:Result→Shared→Prop),R=compPost (model X.prog X.w) X.A X.xe use QQ (.ref s2.heap.objs.size) Hp2.objs.size →
   codeAny (model X.prog X.w) X.A (.compLoop (.ListComp elt [⟨tg,iter,ifs,0⟩] scope pos) 0 (.ref it) (.ref s2.heap.objs.size) (compEnvC scope cl Hp2.objs.size X.env)) R { s2 with heap:=h₁,toks:=tk }:=by
  rintro tk R rfl
  refine loop_turns rfl (fun n s' => ∃ i σv H' ys its,σv.length=xs.length∧Inv Y [] (σv ++ σ) H' s'∧tn i s'.heap∧(∀ b ∈ fp,H' b=none)∧Vals ys its∧ys.length ≤ sizeLine∧s'.heap.PlainList s2.heap.objs.size its.toArray∧H' s2.heap.objs.size=none∧W i n ys H') ?_ m0
   ⟨0,List.replicate xs.length none,H2,[],[],List.length_replicate,hY ▸ IY tk,T.keep _ _ _ st2 fun b _ o e => old b o e,fun b hb => (f2 b hb).1,.nil,Nat.zero_le _,hacc,HD,w0⟩
  rintro n s3 ⟨i,σv,H3,ys,its,lv,I3,st3,fr3,rv,hz,⟨nn,pl3⟩,HD3,w3⟩
  have I3p:Inv Y [(s2.heap.objs.size,{ cls:=.type "list",data:=.seq its.toArray nn })] (σv ++ σ) H3 s3:=I3.pins_of fun p hp => by
   rw [List.mem_singleton] at hp
   subst hp
   refine ⟨pl3,HD3,?_,fun hm => ?_,fun v z => by cases z⟩
   ·rw [← hY]; exact hDC
   ·rw [← hY] at hm
    exact absurd (frSub _ hm) (Nat.lt_irrefl _)
  have pinD:∀ p ∈ [((s2.heap.objs.size:Addr),({ cls:=.type "list",data:=.seq its.toArray nn } : Obj))],p.1=s2.heap.objs.size:=fun p hp => by
   rw [List.mem_singleton] at hp
   rw [hp]
  subst hY
  rcases turn i n ys H3 w3 with ⟨stop,qn⟩ | ⟨go,hlt,NN,hNN,step⟩
  ·refine noErr (thn (T.done (cxC X xs Nb scope cl Hp2.objs.size s2 H2 fp) rfl rfl rfl hc i _ s3 _ H3 (fun _ _ => False) I3p (fpY fr3 pinD) st3 stop) fun r s4 ⟨hr,I4⟩ => ?_)
   subst hr
   obtain ⟨m4,hns4,_⟩:=I4.loc
   refine post s2 s4 H2 (upd H3 s2.heap.objs.size (.lst ys)) Hp2.objs.size s2.heap.objs.size m4 I2 (by omega) hns4 (by rw [upd_ne (Ne.symm hDC)]; exact I4.free) (fun h' sb => ?_) (qn _ HD3)
   have pl4:=(I4.pin _ (List.mem_append_right _ List.mem_cons_self)).1
   have up:∀ b o,b ≠ Hp2.objs.size→s4.heap.get? b=some o→h'.get? b=some o:=fun b o hb e => sb.extBut b o hb e
   have base:=I4.base
   have HC4:H3 Hp2.objs.size=none:=I4.free
   have neC:∀ b o,s2.heap.get? b=some o→b ≠ Hp2.objs.size:=fun b o e => (below b (Heap.lt_size e)).1
   have neD:∀ b o,s2.heap.get? b=some o→b ≠ s2.heap.objs.size:=fun b o e => (below b (Heap.lt_size e)).2
   have hokN:HOk X.prog X.w (upd H3 s2.heap.objs.size (.lst ys)) h':=fun b u e => by
    by_cases hb:b=s2.heap.objs.size
    ·subst hb
     rw [upd_same] at e
     cases e
     exact ⟨hz,its,nn,rv,up _ _ hDC pl4⟩
    ·rw [upd_ne hb] at e
     refine (I4.hok b u e).stay (fun c v hc q => up c v ?_ q) (fun c q => by rw [upd_ne (ne_of_none q HD3)]; exact q) fun c xs q => by rw [upd_ne (ne_of_none q HD3)]; exact q
     rcases hc with z | z
     ·rw [z]; exact ne_of_none e HC4
     ·exact ne_of_none z HC4
   refine I2.call' (s':={ s4 with heap:=h' }) (ch:=fp) I4.os ⟨fun b o e n hb hx' => up b o (neC b o e) (base.keep b o e n hb hx'),fun b o e n hb hx' => ?_,fun b o e n hx' => ?_,fun b o e hx' => ?_,fun b xs e => ?_,fun b o u e => ?_,fun b ps e => ?_⟩ hokN I4.bare (fun b hb => ?_)
   ·obtain ⟨sl,q⟩:=base.slot b o e n hb hx'
    exact ⟨sl,up b _ (neC b o e) q⟩
   ·rw [upd_ne (neD b o e)]
    exact base.free b o e n hx'
   ·obtain ⟨o',q⟩:=base.there b o e hx'
    exact ⟨o',up b o' (neC b o e) q⟩
   ·have q:=base.tups b xs e
    rw [upd_ne (ne_of_none q HD3)]; exact q
   ·have q:=base.frzs b o u e
    rw [upd_ne (ne_of_none q HD3)]; exact q
   ·obtain ⟨more,q⟩:=base.tbls b ps e
    exact ⟨more,by rw [upd_ne (ne_of_none q HD3)]; exact q⟩
   ·obtain ⟨_,g1,_,g3,g4,g5⟩:=f2 b hb
    exact ⟨g3,g1,g4,g5⟩
  ·refine noErr (thn (T.item (cxC X xs Nb scope cl Hp2.objs.size s2 H2 fp) rfl rfl rfl hc i _ s3 _ H3 (fun _ _ => False) I3p (fpY fr3 pinD) st3 go) fun r s4 ⟨u,hr,h4⟩ => ?_)
   subst hr
   refine noErr (thn h4 fun _ s5 ⟨v,H5,I5,r5,y5,st5,fr5⟩ => ?_)
   have I5':=I5.pinned (fpY fr5 pinD) (T.obj _ _ st5)
   have stp:=step v H5 σv lv y5
   refine noErr (thn (hg cl Hp2.objs.size s2 H2 fp _ s5 _ H5 v u _ I5' r5 stp) fun _ s6 ⟨σ6,H6,I6,⟨pre',e6,l6⟩,stp⟩ => ?_)
   subst e6
   have again:∀ {s7 s8:Shared} {H7:Hp} {zs:List V} {ws:List Value} {m' : Nat},Inv (cxC X xs Nb scope cl Hp2.objs.size s2 H2 fp) ([((s2.heap.objs.size:Addr),({ cls:=.type "list",data:=.seq its.toArray nn } : Obj))] ++ pinsAt fp s5.heap) (pre' ++ σ) H7 s7 →
     (∃ h',s8 = { s7 with heap:=h' }∧(∀ b o,b ≠ s2.heap.objs.size→s7.heap.get? b=some o→h'.get? b=some o)∧h'.PlainList s2.heap.objs.size ws.toArray)→Vals zs ws→zs.length ≤ sizeLine→m' < n→W (i + 1) m' zs H7 →
     ∃ m,m < n∧∃ i σv H' ys its,σv.length=xs.length∧Inv (cxC X xs Nb scope cl Hp2.objs.size s2 H2 fp) [] (σv ++ σ) H' s8∧tn i s8.heap∧(∀ b ∈ fp,H' b=none)∧Vals ys its∧ys.length ≤ sizeLine∧s8.heap.PlainList s2.heap.objs.size its.toArray∧H' s2.heap.objs.size=none∧W i m ys H':=by
    rintro s7 s8 H7 zs ws m' I7 ⟨h',rfl,up,plw⟩ rz hzz hm w7
    have HD7:H7 s2.heap.objs.size=none:=(I7.pin _ (List.mem_append_right _ (List.mem_append_left _ List.mem_cons_self))).2.1
    have fr7:∀ b ∈ fp,H7 b=none:=fun b hb => by
     obtain ⟨o,e,d⟩:=T.obj _ _ st5 b hb
     exact (I7.pin (b,o) (List.mem_append_right _ (List.mem_append_right _ (mem_pinsAt hb e)))).2.1
    have I7' : Inv (cxC X xs Nb scope cl Hp2.objs.size s2 H2 fp) [] (pre' ++ σ) H7 s7:=I7.pins_of fun p hp => absurd hp (by simp)
    refine ⟨m',hm,i + 1,pre',H7,zs,ws,l6,?_,?_,fr7,rz,hzz,plw,HD7,w7⟩
    ·have:=I7'.turned (it:=s2.heap.objs.size) (h':=h') (t':=s7.toks) up HD7 hDC (.inr (Nat.le_refl _)) (fun y c h1 h2 => absurd (cellLt y c h1) (by rw [h2]; exact Nat.lt_irrefl _)) (fun p hp => absurd (show p ∈ ([]:List (Addr × Obj)) from hp) (by simp))
     exact this
    ·refine T.keep _ _ _ st5 fun b hb o e => up b o (below b (fpLt b hb)).2 ?_
     exact (I7.pin (b,o) (List.mem_append_right _ (List.mem_append_right _ (mem_pinsAt hb e)))).1
   refine noErr (thn (ht cl Hp2.objs.size s2 H2 fp _ s6 _ H6 _ I6 stp) fun okb s7 ⟨H7,I7,q7⟩ => ?_)
   have pl7:=(I7.pin _ (List.mem_append_right _ (List.mem_append_left _ List.mem_cons_self))).1
   cases okb with
   | false =>
    rw [if_neg Bool.false_ne_true] at q7 ⊢
    obtain ⟨m',hm,w7⟩:=hNN _ _ q7
    exact again I7 ⟨s7.heap,rfl,fun _ _ _ e => e,nn,pl7⟩ rv hz hm w7
   | true =>
    rw [if_pos rfl] at q7 ⊢
    refine noErr (thn (he cl Hp2.objs.size s2 H2 fp _ s7 _ H7 _ I7 q7) fun w' s8 ⟨y,H8,I8,r8,q8⟩ => ?_)
    obtain ⟨m',hm,w8⟩:=hNN _ _ q8
    have pl8:=(I8.pin _ (List.mem_append_right _ (List.mem_append_left _ List.mem_cons_self))).1
    refine wpAny_list_append_plain (hsz:=by have:=rv.length; simp only [List.size_toArray]; omega) ⟨nn,pl8⟩ fun h9 pl9 sb9 => ?_
    refine again I8 ⟨h9,rfl,fun b o hb e => sb9.extBut b o hb e,?_⟩ (rv.append (.cons r8 .nil)) (by rw [List.length_append,List.length_singleton]; omega) hm w8
    have e9:its.toArray.push w' = (its ++ [w']).toArray:=by simp
    rw [← e9]
    exact pl9
 refine codeAny_compStart_list (loop _ _ rfl) (noErr (T.self _ 0 _ _ _ (T.keep _ _ _ st2 fun b _ o e => old b o e) (loop _ _ rfl)))
theorem pe_compG {elt iter tg:Expr} {xs Nb:List Str} {ifs:List Expr} {scope:Scope} {pos:PySem.Pos} {wi:TI} {g:TG} {tt:TT} {te:TE}
  (hc:X.calm=true) (hi:PI X tg iter wi) (hlen:Nb.length=X.N.length) (hNb:∀ p ∈ Nb.zip X.N,p.1=p.2 ∨ scope.names.lookup p.1=none) (hxN:∀ y ∈ Nb,scope.names.lookup y ≠ some .local)
  (hg:InB X xs Nb scope fun Y => PG Y tg g) (ht:InB X xs Nb scope fun Y => PIf Y ifs tt) (he:InB X xs Nb scope fun Y => PE Y elt te)
  (hcell:∀ y ∈ scope.names,y.2 ≠ .cell) (hkind:scope.kind = .function) (hnames:∀ y ∈ scope.names,y.2 = .local→scope.names.lookup y.1=some .local)
  (hfree:∀ y ∈ scope.names,y.2 = .free→X.env.kindOf y.1=some .cell)
  (hs:∀ x,foldedSetIterable iter X.env x=pure x:=by intro _; rfl) :
  PE X (.ListComp elt [⟨tg,iter,ifs,0⟩] scope pos) (tCompG xs.length wi g tt te):=by
 intro pins s σ H Q I h
 rw [eval_ListComp]
 exact comp_core (use:=none) (QQ:=EP X pins σ Q) hc hi hlen hNb hxN hg ht he hcell hkind hnames hfree hs I h fun s2 s4 H2 H4 C D m4 _ _ hn _ IX q => ⟨m4,hn,fun h' sb => ⟨.ref D,H4,IX h' sb,rfl,q⟩⟩
theorem ps_compG {elt iter tg:Expr} {xs Nb:List Str} {ifs:List Expr} {scope:Scope} {pos spos py:PySem.Pos} {wi:TI} {g g2:TG} {tt:TT} {te:TE} {y:Str}
  (hg2:PG X (.Name y py) g2) (hsw:swapsWith (.ListComp elt [⟨tg,iter,ifs,0⟩] scope pos) (some (.Name y py)) spos.line X.env=pure true)
  (hc:X.calm=true) (hi:PI X tg iter wi) (hlen:Nb.length=X.N.length) (hNb:∀ p ∈ Nb.zip X.N,p.1=p.2 ∨ scope.names.lookup p.1=none) (hxN:∀ y ∈ Nb,scope.names.lookup y ≠ some .local)
  (hg:InB X xs Nb scope fun Y => PG Y tg g) (ht:InB X xs Nb scope fun Y => PIf Y ifs tt) (he:InB X xs Nb scope fun Y => PE Y elt te)
  (hcell:∀ y ∈ scope.names,y.2 ≠ .cell) (hkind:scope.kind = .function) (hnames:∀ y ∈ scope.names,y.2 = .local→scope.names.lookup y.1=some .local)
  (hfree:∀ y ∈ scope.names,y.2 = .free→X.env.kindOf y.1=some .cell)
  (hs:∀ x,foldedSetIterable iter X.env x=pure x:=by intro _; rfl) :
  PS X (.Assign [.Name y py] (.ListComp elt [⟨tg,iter,ifs,0⟩] scope pos) spos) (tAsg (tCompG xs.length wi g tt te) g2):=by
 intro pins s σ H D I h
 rw [exec_Assign_Name_used _ _ _ _ hsw]
 refine wpAny_bind (wpAny_standAt (wpAny_bind ?_))
 show wpAny (model X.prog X.w) X.A (comprehension (.ListComp elt [⟨tg,iter,ifs,0⟩] scope pos) scope X.env _ (newList []) false (eval iter X.env) (some (assign (.Name y py) X.env)) >>= fun _ => pure ()) _ _ s
 refine wpAny_bind (wpAny_mono (comp_core (use:=some (assign (.Name y py) X.env)) (QQ:=fun _ s' => SP X pins D .next s') hc hi hlen hNb hxN hg ht he hcell hkind hnames hfree hs I h ?_) (fun _ s' hq => wpAny_pure (wpAny_pure hq)) fun _ _ e => e)
 intro s2 s4 H2 H4 C R m4 I2 hC hn HC IX q
 have I4:Inv X pins σ H4 s4:=IX s4.heap (Heap.SameBut.refl _ _)
 obtain ⟨o,es,ep,ho,hd,hn'⟩:=id hn
 have hLC:C ≠ X.env.locals:=fun z => absurd (Nat.lt_of_lt_of_le I2.lt hC) (by rw [z]; exact Nat.lt_irrefl _)
 have hfsC:C ∉ X.fs:=I2.nofs hC
 have I4p:Inv X ((C,o) :: pins) σ H4 s4:=I4.pins_of fun p hp => by
  rcases List.mem_cons.mp hp with rfl | z
  ·exact ⟨ho,HC,hLC,hfsC,fun v z => by rw [hd] at z; cases z⟩
  ·exact I4.pin p (List.mem_append_right _ z)
 show wpAny _ X.A (assign (.Name y py) X.env (.ref R)) _ _ s4
 refine thn (hg2 _ s4 σ H4 (.ref R) (.ref R) _ I4p rfl q) fun _ s5 ⟨σ5,H5,I5,q5⟩ => ?_
 have pC:=I5.pin (C,o) (List.mem_append_right _ List.mem_cons_self)
 refine ⟨m4,⟨o,es,ep,pC.1,hd,hn'⟩,fun h' sb => ⟨σ5,H5,?_,q5⟩⟩
 have I6:Inv X pins σ5 H5 s5:=I5.pins_of fun p hp => I5.pin p (List.mem_append_right _ (List.mem_cons_of_mem _ hp))
 exact I6.turned (it:=C) (h':=h') (t':=s5.toks) (fun b o hb e => sb.extBut b o hb e) pC.2.1 hLC (.inr (Nat.le_trans I2.sz hC)) (fun y c e z => by
   obtain ⟨v,qq⟩:=I2.cell y c e
   exact absurd (Nat.lt_of_lt_of_le qq.lt hC) (by rw [z]; exact Nat.lt_irrefl _)) (fun p hp z => by
   exact absurd (Nat.lt_of_lt_of_le (Heap.lt_size (I2.pin p hp).1) hC) (by rw [z]; exact Nat.lt_irrefl _))
theorem compL {K:PySem.W.Frag} {k:Nat} {a:Addr} {xs:List V} {g:TG} {tt:TT} {te:TE} {Q:VK} {σ:St} {H:Hp} (Pv:Nat→List V→Hp→Prop) (h0:Pv 0 [] H) (hb:xs.length ≤ 1000) (hz:∀ i ys H,Pv i ys H→ys.length ≤ i) (hl:∀ i ys H,i ≤ xs.length→Pv i ys H→SqL K H a xs)
  (hs:∀ i x ys H (pre:St),pre.length=k→xs[i]? = some x→Pv i ys H→g x (pre ++ σ) H fun σ' H2 => (∃ pre' : St,σ' = pre' ++ σ∧pre'.length=k)∧tt σ' H2 fun ok H3 => if ok=true then te σ' H3 fun y H4 => Pv (i + 1) (ys ++ [y]) H4 else Pv (i + 1) ys H3) (hd:∀ ys H,Pv xs.length ys H→∀ D,H D=none→Q (.ref D) (upd H D (.lst ys))):CGo k (Itl K a) g tt te Q σ H:=by
 refine ⟨fun i m ys H => m=xs.length - i∧i ≤ xs.length∧Pv i ys H,⟨xs.length,by simp,Nat.zero_le _,h0⟩,?_⟩
 rintro i m ys H ⟨rfl,hi,p⟩
 have q:=hl i ys H hi p
 by_cases hlt:i < xs.length
 ·refine .inr ⟨⟨xs,xs[i],q,by simp [hlt]⟩,Nat.lt_of_le_of_lt (hz i ys H p) (small1000 (by omega)),Pv (i + 1),fun zs H' p' => ⟨xs.length - (i + 1),by omega,rfl,hlt,p'⟩,fun x H' pre hp y => ?_⟩
  obtain ⟨e,y⟩:=y
  subst e
  exact hs i x ys _ pre hp (y xs q) p
 ·have e:i=xs.length:=by omega
  subst e
  exact .inl ⟨⟨xs,q,Nat.le_refl _⟩,hd ys H p⟩
theorem compT {K:PySem.W.Frag} {k:Nat} {a:Addr} {xs:List V} {g:TG} {tt:TT} {te:TE} {Q:VK} {σ:St} {H:Hp} (Pv:Nat→List V→Hp→Prop) (h0:Pv 0 [] H) (hb:xs.length ≤ 1000) (hz:∀ i ys H,Pv i ys H→ys.length ≤ i) (hl:∀ i ys H,i ≤ xs.length→Pv i ys H→SqT K H a xs)
  (hs:∀ i x ys H (pre:St),pre.length=k→xs[i]? = some x→Pv i ys H→g x (pre ++ σ) H fun σ' H2 => (∃ pre' : St,σ' = pre' ++ σ∧pre'.length=k)∧tt σ' H2 fun ok H3 => if ok=true then te σ' H3 fun y H4 => Pv (i + 1) (ys ++ [y]) H4 else Pv (i + 1) ys H3) (hd:∀ ys H,Pv xs.length ys H→∀ D,H D=none→Q (.ref D) (upd H D (.lst ys))):CGo k (Itt K a) g tt te Q σ H:=by
 refine ⟨fun i m ys H => m=xs.length - i∧i ≤ xs.length∧Pv i ys H,⟨xs.length,by simp,Nat.zero_le _,h0⟩,?_⟩
 rintro i m ys H ⟨rfl,hi,p⟩
 have q:=hl i ys H hi p
 by_cases hlt:i < xs.length
 ·refine .inr ⟨⟨xs,xs[i],q,by simp [hlt]⟩,Nat.lt_of_le_of_lt (hz i ys H p) (small1000 (by omega)),Pv (i + 1),fun zs H' p' => ⟨xs.length - (i + 1),by omega,rfl,hlt,p'⟩,fun x H' pre hp y => ?_⟩
  obtain ⟨e,y⟩:=y
  subst e
  exact hs i x ys _ pre hp (y xs q) p
 ·have e:i=xs.length:=by omega
  subst e
  exact .inl ⟨⟨xs,q,Nat.le_refl _⟩,hd ys H p⟩
theorem compR {k:Nat} {lo:Int} {n:Nat} {g:TG} {tt:TT} {te:TE} {Q:VK} {σ:St} {H:Hp} (Pv:Nat→List V→Hp→Prop) (h0:Pv 0 [] H) (hb:n ≤ 1000) (hz:∀ i ys H,Pv i ys H→ys.length ≤ i)
  (hs:∀ (i:Nat) ys H (pre:St),pre.length=k→i < n→Pv i ys H→g (.int (lo + i)) (pre ++ σ) H fun σ' H2 => (∃ pre' : St,σ' = pre' ++ σ∧pre'.length=k)∧tt σ' H2 fun ok H3 => if ok=true then te σ' H3 fun y H4 => Pv (i + 1) (ys ++ [y]) H4 else Pv (i + 1) ys H3) (hd:∀ ys H,Pv n ys H→∀ D,H D=none→Q (.ref D) (upd H D (.lst ys))):CGo k (Itr lo n) g tt te Q σ H:=by
 refine ⟨fun i m ys H => m=n - i∧i ≤ n∧Pv i ys H,⟨n,by simp,Nat.zero_le _,h0⟩,?_⟩
 rintro i m ys H ⟨rfl,hi,p⟩
 by_cases hlt:i < n
 ·refine .inr ⟨hlt,Nat.lt_of_le_of_lt (hz i ys H p) (small1000 (by omega)),Pv (i + 1),fun zs H' p' => ⟨n - (i + 1),by omega,rfl,hlt,p'⟩,fun x H' pre hp y => ?_⟩
  obtain ⟨e,y⟩:=y
  subst e y
  exact hs i ys _ pre hp hlt p
 ·have e:i=n:=by omega
  subst e
  exact .inl ⟨Nat.le_refl _,hd ys H p⟩
end
end L2
namespace L2
open PySem PySem.Spec PyProof.Rows
section
variable {X:Cx}
theorem pg_tupK {K:PySem.W.Frag} {es:List Expr} {k:Nat} {t:TGs} {n:Nat} {pos:PySem.Pos} (hc:X.calm=true) (h:PGs X es t) (hK:X.K=K:=by rfl)
  (hn:(assignEach es X.env).length=n:=by rfl) (hst:(assignEach es X.env).findIdx? (·.1)=none:=by rfl):PG X (.Tuple es k pos) (gTup K n t):=by
 subst hK; exact pg_tup hc h hn hst
theorem sl_listK {K:PySem.W.Frag} (hK:X.K=K:=by rfl):SlR X (rSlL K):=by subst hK; exact sl_list
end
def dT (ns:List Int):PyData:=.tuple (ns.map .int)
theorem eqvAll_ints:∀ ns ms:List Int,PyData.eqvAll (ns.map .int) (ms.map .int)=decide (ns=ms)
 | [],[] => rfl
 | [],_ :: _ => rfl
 | _ :: _,[] => rfl
 | n :: ns,m :: ms => by
  show (PyData.eqv (.int n) (.int m) && PyData.eqvAll (ns.map .int) (ms.map .int))=_
  rw [eqvAll_ints ns ms]
  show ((n == m) && _)=_
  by_cases h:n=m
  ·subst h; by_cases h2:ns=ms <;> simp [h2]
  ·simp [h]
theorem eqv_dT (ns ms:List Int):PyData.eqv (dT ns) (dT ms)=decide (ns=ms):=eqvAll_ints ns ms
theorem lay_ints:∀ ns:List Int,PyData.canLayAll0 (ns.map .int)=true
 | [] => rfl
 | _ :: ns => by show (true && _)=true; rw [lay_ints ns]; rfl
theorem lay_dT (ns:List Int):(dT ns).canLay0=true:=lay_ints ns
theorem dep_ints:∀ ns:List Int,PyData.depthAll (ns.map .int)=0
 | [] => rfl
 | _ :: ns => by show max 0 _=0; rw [dep_ints ns]; rfl
theorem dep_dT (ns:List Int):(dT ns).depth=1:=by show PyData.depthAll _ + 1=1; rw [dep_ints]
def Tups (H H' : Hp):Prop:=∀ b ys,H b=some (.tup ys)→H' b=some (.tup ys)
theorem Same.tups {H H' : Hp} (s:Same H H'):Tups H H':=fun b ys e => s b _ e
def tot (L:List (Int × List Int)):Int:=(L.map (·.1)).sum
theorem take_succ' {α:Type} {L:List α} {i:Nat} {e:α} (h:L[i]? = some e):L.take (i + 1)=L.take i ++ [e]:=by
 rw [List.take_add_one,h]; rfl
end L2
namespace L2
open PySem PySem.Spec PyProof.Rows
section
variable {X:Cx}
theorem preSum_take (ns:List Int):∀ n,preSum (fun i => ns.getD i 0) n=(ns.take n).sum
 | 0 => rfl
 | n + 1 => by
  show preSum _ n + ns.getD n 0=_
  rw [preSum_take ns n,List.take_add_one,List.getD_eq_getElem?_getD]
  cases ns[n]? with
  | none => simp
  | some z => simp
theorem call_sum (hc:X.calm=true):CallR X (.builtin "sum") (fun xs H Q => ∃ (p:Addr) (ns:List Int),xs=[.ref p]∧SqL X.K H p (ns.map V.int)∧Q (.int ns.sum) H):=by
 intro pins s σ H xs us Q I r h
 obtain ⟨p,ns,rfl,hq,q⟩:=h
 obtain ⟨u,rfl,rx⟩:=vals1 r
 cases rx
 obtain ⟨its,rv,pl,hz⟩:=I.list hq
 have hlt:p < s.heap.objs.size:=by
  obtain ⟨o,e,_⟩:=pl.isList
  exact Heap.lt_size e
 have hlen:its.length=ns.length:=by have:=rv.length; rw [List.length_map] at this; exact this.symm
 refine call_sum_walkAnyS (wpAny_pyIter_list pl.isList ?_)
 refine ⟨_,_,_,_,_,_,_,fun i => ns.getD i 0,rfl,(Walks.list (A:=X.A.in1) (I.ok.hd hc) s.heap.objs.size p (Nat.ne_of_lt hlt) its.toArray).toS,?_,?_,?_,fun s' t' hm => ?_⟩
 ·exact ⟨⟨_,Heap.get?_push_size _ rfl,rfl,rfl⟩,(let ⟨o,e,c⟩:=pl.isList; ⟨o,Heap.get?_push_of_some _ e,c⟩)⟩
 ·intro b hb
  simp at hb
  rcases hb with rfl | rfl
  ·simp [Heap.size_push]
  ·rw [Heap.size_push]; exact Nat.lt_succ_of_lt hlt
 ·intro i v hP
  have hv:its[i]? = some v:=by simpa using hP
  have hil:i < ns.length:=by rw [← hlen]; exact (List.getElem?_eq_some_iff.mp hv).1
  obtain ⟨u,e,ru⟩:=rv.get (x:=V.int (ns.getD i 0)) (i:=i) (by rw [List.getElem?_map,List.getElem?_eq_getElem hil,List.getD_eq_getElem?_getD,List.getElem?_eq_getElem hil]; rfl)
  rw [hv] at e
  cases e
  exact ru
 ·have e:preSum (fun i => ns.getD i 0) its.toArray.size=ns.sum:=by
   rw [List.size_toArray,hlen,preSum_take,List.take_length]
  rw [e]
  obtain ⟨hk,hg,hd,ho,ht⟩:=hm
  refine ⟨.int _,H,?_,⟨t',rfl⟩,q⟩
  have es:s' = { s with heap:=s'.heap,toks:=s'.toks }:=by
   cases s'; simp_all
  rw [es]
  exact I.kept fun b o eb => hk b o (by simp; exact Nat.ne_of_lt (Heap.lt_size eb)) (Heap.get?_push_of_some _ eb)
end
end L2
namespace L2
open PySem PySem.Spec PyProof.Rows
section
variable {X:Cx}
theorem call_sorted:CallR X (.builtin "sorted") (fun xs H Q => ∃ (p:Addr) (ns:List Int),xs=[.ref p]∧SqL X.K H p (ns.map V.int)∧ns.length < 64∧∀ (l:Addr) (ms:List Int),H l=none→ms.Perm ns→ms.Pairwise (· ≤ ·)→Q (.ref l) (upd H l (.lst (ms.map V.int)))):=by
 intro pins s σ H xs us Q I r h
 obtain ⟨p,ns,rfl,hq,h64,q⟩:=h
 obtain ⟨u,rfl,rx⟩:=vals1 r
 cases rx
 obtain ⟨its,rv,pl,hz⟩:=I.list hq
 have hlen:its.length=ns.length:=by have:=rv.length; rw [List.length_map] at this; exact this.symm
 refine sorted_ints (vs:=its) pl.isList (intsAre_of rv) (by omega) fun out ms hI hp hw => ?_
 obtain ⟨e,he⟩:=sortedAll_at s.heap its out
 have hl:ms.length=ns.length:=hp.length_eq
 refine ⟨.ref _,upd H (s.heap.objs.size + 1) (.lst (ms.map V.int)),I.laid (t':=s.toks) (fun b ob z => sortedAll_old z) (Nat.le_succ _) ⟨?_,out.toList,e,vals_ints hI,?_⟩,rfl,q _ ms (I.hok.fresh (Nat.le_succ _)) hp hw⟩
 ·rw [List.length_map,hl]
  exact Nat.le_of_lt (small1000 (by omega))
 ·rw [he]
end
end L2
namespace L2
abbrev WL:=List (Int × List Int)
def mx (i j:Int):Int:=if j > i then j else i
def Pos (L:WL):Prop:=∀ e ∈ L,0 < e.1
end L2
namespace L2
open PySem PySem.Spec PyProof.Rows
inductive Th (H:Hp):V→PyData→Prop where
 | non:Th H .non .none
 | bl (b:Bool):Th H (.bl b) (.bool b)
 | int (i:Int):Th H (.int i) (.int i)
 | str (x:Str):Th H (.str x) (.str x)
 | tup {a:Addr} {xs:List V} {ds:List PyData} : H a=some (.tup xs)→xs.length=ds.length→(∀ (i:Nat) (x:V) (d:PyData),xs[i]? = some x→ds[i]? = some d→Th H x d)→Th H (.ref a) (.tuple ds)
 | lst {a:Addr} {xs:List V} {ds:List PyData} : H a=some (.lst xs)→xs.length=ds.length→(∀ (i:Nat) (x:V) (d:PyData),xs[i]? = some x→ds[i]? = some d→Th H x d)→Th H (.ref a) (.list ds)
theorem Th.up {H H' : Hp} {x:V} {d:PyData} (h:Th H x d) (s:Same H H'):Th H' x d:=by
 induction h with
 | non => exact .non
 | bl b => exact .bl b
 | int i => exact .int i
 | str x => exact .str x
 | tup a b _ ih => exact .tup (s _ _ a) b ih
 | lst a b _ ih => exact .lst (s _ _ a) b ih
def tyName:PyData→String
 | .none => "NoneType"
 | .bool _ => "bool"
 | .int _ => "int"
 | .str _ => "str"
 | .list _ => "list"
 | .tuple _ => "tuple"
 | .dict _ => "dict"
theorem Th.ty {K:PySem.W.Frag} {H:Hp} {x:V} {d:PyData} (h:Th H x d):TyOf K H x (.type (tyName d)):=by
 cases h with
 | non => exact .non
 | bl b => exact .bl b
 | int i => exact .int i
 | str x => exact .str x
 | tup a _ _ => exact .tup a
 | lst a _ _ => exact .lst a
def isInt:PyData→Bool
 | .int _ | .bool _ => true
 | _ => false
def isBool:PyData→Bool
 | .bool _ => true
 | _ => false
def isTup:PyData→Bool
 | .tuple _ => true
 | _ => false
theorem kit_int {K:PySem.W.Frag} (d:PyData):PySem.W.kitOne K (.type (tyName d)) (.type "int")=some (isInt d):=by
 cases d <;> with_unfolding_all rfl
theorem kit_bool {K:PySem.W.Frag} (d:PyData):PySem.W.kitOne K (.type (tyName d)) (.type "bool")=some (isBool d):=by
 cases d <;> with_unfolding_all rfl
theorem kit_tup {K:PySem.W.Frag} (d:PyData):PySem.W.kitOne K (.type (tyName d)) (.type "tuple")=some (isTup d):=by
 cases d <;> with_unfolding_all rfl
theorem int_short {i:Int} (h1 : -(10 ^ 79) < i) (h2:i < 10 ^ 79):(Str.ofString (toString i)).length ≤ 80:=by
 by_cases h0:0 ≤ i
 ·exact Nat.le_trans (toString_length_le (k:=79) h0 (by decide) h2) (by decide)
 ·rw [len_text_neg (by omega)]
  have:=toString_length_le (v:=0 - i) (k:=79) (by omega) (by decide) (by omega)
  omega
section
variable {X:Cx} {es:List Expr} {te:TE} {t:TA}
theorem pa_Constant {c:Const} {j:Nat} {p:PySem.Pos} (ha:PE X (.Constant c j p) te) (hr:PA X es t):PA X (.Constant c j p :: es) (tCons te t):=pa_cons ha hr rfl
theorem pa_Name {x:Str} {p:PySem.Pos} (ha:PE X (.Name x p) te) (hr:PA X es t):PA X (.Name x p :: es) (tCons te t):=pa_cons ha hr rfl
theorem pa_UnaryOp {o:UnaryOp} {e:Expr} {p:PySem.Pos} (ha:PE X (.UnaryOp o e p) te) (hr:PA X es t):PA X (.UnaryOp o e p :: es) (tCons te t):=pa_cons ha hr rfl
theorem pa_BinOp {a b:Expr} {o:Operator} {p:PySem.Pos} (ha:PE X (.BinOp a o b p) te) (hr:PA X es t):PA X (.BinOp a o b p :: es) (tCons te t):=pa_cons ha hr rfl
theorem pa_Subscript {a b:Expr} {p:PySem.Pos} (ha:PE X (.Subscript a b p) te) (hr:PA X es t):PA X (.Subscript a b p :: es) (tCons te t):=pa_cons ha hr rfl
theorem pa_Call {f:Expr} {l:List Expr} {kw:List Keyword} {p:PySem.Pos} (ha:PE X (.Call f l kw p) te) (hr:PA X es t):PA X (.Call f l kw p :: es) (tCons te t):=pa_cons ha hr rfl
end
theorem pa_o2 {X:Cx} {e1 e2:Expr} {t1 t2:TE} {es:List Expr} {t:TA} (h1:PE X e1 t1) (h2:PE X e2 t2) (hr:PA X es t) (s1:∀ l,starEach (e1 :: l) X.env=(false,eval e1 X.env) :: starEach l X.env:=by intro _; rfl) (s2:∀ l,starEach (e2 :: l) X.env=(false,eval e2 X.env) :: starEach l X.env:=by intro _; rfl):PA X (e1 :: e2 :: es) (tCons t1 (tCons t2 t)):=(pa_cons h1 (pa_cons h2 hr (s2 _)) (s1 _))
theorem pa_o3 {X:Cx} {e1 e2 e3:Expr} {t1 t2 t3:TE} {es:List Expr} {t:TA} (h1:PE X e1 t1) (h2:PE X e2 t2) (h3:PE X e3 t3) (hr:PA X es t) (s1:∀ l,starEach (e1 :: l) X.env=(false,eval e1 X.env) :: starEach l X.env:=by intro _; rfl) (s2:∀ l,starEach (e2 :: l) X.env=(false,eval e2 X.env) :: starEach l X.env:=by intro _; rfl) (s3:∀ l,starEach (e3 :: l) X.env=(false,eval e3 X.env) :: starEach l X.env:=by intro _; rfl):PA X (e1 :: e2 :: e3 :: es) (tCons t1 (tCons t2 (tCons t3 t))):=(pa_cons h1 (pa_cons h2 (pa_cons h3 hr (s3 _)) (s2 _)) (s1 _))
theorem pa_o4 {X:Cx} {e1 e2 e3 e4:Expr} {t1 t2 t3 t4:TE} {es:List Expr} {t:TA} (h1:PE X e1 t1) (h2:PE X e2 t2) (h3:PE X e3 t3) (h4:PE X e4 t4) (hr:PA X es t) (s1:∀ l,starEach (e1 :: l) X.env=(false,eval e1 X.env) :: starEach l X.env:=by intro _; rfl) (s2:∀ l,starEach (e2 :: l) X.env=(false,eval e2 X.env) :: starEach l X.env:=by intro _; rfl) (s3:∀ l,starEach (e3 :: l) X.env=(false,eval e3 X.env) :: starEach l X.env:=by intro _; rfl) (s4:∀ l,starEach (e4 :: l) X.env=(false,eval e4 X.env) :: starEach l X.env:=by intro _; rfl):PA X (e1 :: e2 :: e3 :: e4 :: es) (tCons t1 (tCons t2 (tCons t3 (tCons t4 t)))):=(pa_cons h1 (pa_cons h2 (pa_cons h3 (pa_cons h4 hr (s4 _)) (s3 _)) (s2 _)) (s1 _))
theorem sw_sub {a b:Expr} {p:PySem.Pos} {t:Option Expr} {l:Nat} {env:Env} : swapsWith (.Subscript a b p) t l env=pure false:=rfl
end L2
set_option maxHeartbeats 1000000
namespace L2
open PySem PySem.Spec PyProof.Rows
section
variable {X:Cx}
theorem strsAre_of {ss:List Str} : ∀ {us:List Value},Vals (ss.map V.str) us→StrsAre us ss:=by
 induction ss with
 | nil => intro us r; cases r; exact .nil
 | cons a l ih =>
  intro us r
  cases r with
  | cons ra rl => obtain ⟨t,rfl⟩:=ra; exact .cons a t (ih rl)
theorem mt_join:MtR X "str.join" (fun x vs H Q => ∃ (sep:Str) (p:Addr) (ss:List Str),x = .str sep∧vs=[.ref p]∧SqL X.K H p (ss.map V.str)∧sep.length ≤ 16∧(ss.map (·.length)).sum + ss.length ≤ 1048576∧Q (.str (Str.join sep ss)) H):=by
 intro pins s σ H x xs v us Q I rx rv h
 obtain ⟨sep,p,ss,rfl,rfl,hq,hs,hw,q⟩:=h
 obtain ⟨t,rfl⟩:=rx
 obtain ⟨u,rfl,ru⟩:=vals1 rv
 cases ru
 obtain ⟨its,r,pl,hz⟩:=I.list hq
 exact join_listW pl.isList (strsAre_of r) hs hw fun t' k => ⟨.str _,H,I.tok _,⟨_,rfl⟩,by show Q (.str (Builtin.Str.glued sep ss)) H; rw [StrLaws.glued_eq_join]; exact q⟩
theorem mt_zfill:MtR X "str.zfill" (fun x vs H Q => ∃ (z:Str) (i:Int),x = .str z∧vs=[.int i]∧PadOk i=true∧Q (.str (Txt.zfill z i)) H):=by
 intro pins s σ H x xs v us Q I rx rv h
 obtain ⟨z,i,rfl,rfl,hp,q⟩:=h
 obtain ⟨t,rfl⟩:=rx
 obtain ⟨u,rfl,ru⟩:=vals1 rv
 obtain ⟨t2,rfl⟩:=ru
 exact SC.zfill hp fun t' k => ⟨.str _,H,I.tok _,⟨_,rfl⟩,q⟩
theorem call_divmodW:CallR X (.builtin "divmod") (fun xs H Q => ∃ a b:Int,xs=[.int a,.int b]∧b ≠ 0∧Builtin.divisionGoesByPylong a b=false∧∀ p,H p=none→Q (.ref p) (upd H p (.tup [.int (a.fdiv b),.int (a.fmod b)]))):=by
 intro pins s σ H xs us Q I r h
 obtain ⟨a,b,rfl,hb,hd,q⟩:=h
 obtain ⟨u,w,rfl,⟨t1,rfl⟩,⟨t2,rfl⟩⟩:=vals2 r
 refine divmod_int hb ?_ (Or.inl hd)
 refine ⟨.ref s.heap.objs.size,_,I.laid (t':=s.toks + 1 + 1) (o:=.tup [.int (a.fdiv b),.int (a.fmod b)]) (fun b ob z => Heap.get?_push_of_some _ z) (Nat.le_refl _) ?_,rfl,q _ (I.hok.fresh (Nat.le_refl _))⟩
 exact ⟨by show 2 ≤ sizeLine; decide,_,.cons ⟨_,rfl⟩ (.cons ⟨_,rfl⟩ .nil),⟨_,Heap.get?_push_size _ rfl,rfl,_,rfl⟩⟩
theorem rvi_nolen:typeLookup (.type "list_reverseiterator") "__len__" = pure none:=by rw [typeLookup_type,builtinLookup_eq_fast]; kernel_rfl
theorem rvi_hint:typeLookup (.type "list_reverseiterator") "__length_hint__" = pure (some (.builtin "list_reverseiterator.__length_hint__")):=by rw [typeLookup_type,builtinLookup_eq_fast]; kernel_rfl
section
variable {prog:Program} {w:World} {A:Around} {E:Value→Shared→Prop} {s:Shared} {J:Addr} {fp wr:List Addr} {G:Array GenState→Array GenState→Prop} {n:Nat} {P:Nat→Value→Prop} {St:Nat→Shared→Prop}
theorem collect_rev {R:List Value→Shared→Prop} (Wk:WalksS prog w A.in1 J fp wr G n P St) (ht:∀ i s,St i s→s.TypeIs (.ref J) "list_reverseiterator") (h0:St 0 s) (hfp:∀ b ∈ fp,b < s.heap.objs.size) (hJ:J ∈ fp)
  (hn:n ≤ sizeLine) (hR:∀ s' acc,Moved wr G s s'→ItemsOf P acc n→R acc.toList s'):wpAny (model prog w) A (collect (.ref J)) R E s:=by
 have nf:s.heap.objs.size ∉ fp:=fun m => Nat.lt_irrefl _ (hfp _ m)
 have nJ:s.heap.objs.size ≠ J:=fun e => nf (e ▸ hJ)
 unfold collect
 refine wpAny_bind (wpAny_runValue (codeAny_builtin PySem.F.entry_proto_collect ?_))
 rw [Around.under_plainId PySem.F.plain_proto_collect _]
 show wpAny _ A.in1 (newList [] >>= fun q => again (.builtin "list.__iadd__" ⟨[q,.ref J],[]⟩)) _ _ s
 refine wpAny_bind (wpAny_newObj_type (wpAny_pure ⟨plainId_quiet PySem.F.plain_list_iadd _,codeAny_builtin PySem.F.entry_list_iadd ?_⟩))
 rw [Around.under_plainId PySem.F.plain_list_iadd _]
 have g1:=Wk.frame 0 s (s.heap.push { cls:=.type "list",data:=.seq ([]:List Value).toArray }) s.toks h0 (Nat.le_refl _) fun b _ o z => Heap.get?_push_of_some _ z
 have g2:(s.heap.push { cls:=.type "list",data:=.seq ([]:List Value).toArray }).get? s.heap.objs.size=some { cls:=.type "list",data:=.seq ([]:List Value).toArray }:=Heap.get?_push_size _ rfl
 have g3:Builtin.List.listSameRef (.ref s.heap.objs.size) (.ref J)=false:=by simp [Builtin.List.listSameRef,nJ]
 show wpAny _ A.in1 (Builtin.List.listExtendWith (.ref s.heap.objs.size) (.ref J) (.ref s.heap.objs.size)) _ _ _
 unfold Builtin.List.listExtendWith
 refine wpAny_bind (wpAny_typeOf (ht 0 _ g1) ?_)
 rw [if_neg (by rw [g3]; decide)]
 refine wpAny_bind (Wk.self 0 _ _ _ g1 (wpAny_bind (wpAny_holding ?_)))
 unfold Builtin.List.listLengthHint
 refine wpAny_bind (wpAny_specialOf (ht 0 _ g1) rvi_nolen ?_)
 show wpAny _ A.in1 (specialOf (Value.ref J) (Str.ofString "__length_hint__") >>= _) _ _ _
 refine wpAny_bind (wpAny_specialOf (ht 0 _ g1) rvi_hint ?_)
 generalize hid:("list_reverseiterator.__length_hint__" : String)=id0
 wp_delta
 rw [show splitId id0=some ("list_reverseiterator", "__length_hint__") from by subst hid; decide +kernel]
 subst hid
 refine wpAny_bind (wpAny_isInstance (b:=true) (ht 0 _ g1) (by rw [isSubtype_type]; kernel_rfl) (wpAny_pure ?_))
 rw [if_neg (by decide)]
 refine wpAny_pure ⟨plainId_quiet PySem.F.plain_extend_loop _,codeAny_extend_loopS Wk hn _ nf _ n 0 _ _ _ rfl (Nat.zero_le _) g1 g2 (ItemsOf.nil P) fun s' acc' c' hm hS' hacc => ?_⟩
 show wpAny _ A (load s.heap.objs.size >>= _) _ _ s'
 exact wpAny_bind (wpAny_load hS' (wpAny_pure (hR s' acc' (Moved.drop_new (o:={ cls:=.type "list",data:=.seq ([]:List Value).toArray }) (tk:=s.toks) hm (Nat.le_refl _)) hacc)))
end
section
variable {prog:Program} {w:World} {A:Around} {E:Value→Shared→Prop} {s:Shared}
theorem strsAre_split:∀ {us:List Value} {ss:List Str},StrsAre us ss→∃ l:List (Str × Tok),strValues l=us∧l.map (·.1)=ss
 | _,_,.nil => ⟨[],rfl,rfl⟩
 | _,_,.cons y t h => by
  obtain ⟨l,e1,e2⟩:=strsAre_split h
  exact ⟨(y,t) :: l,by rw [← e1]; rfl,by rw [← e2]; rfl⟩
theorem strsAre_rev {us:List Value} {ss:List Str} (h:StrsAre us ss):StrsAre us.reverse ss.reverse:=by
 have app:∀ {a:List Value} {b:List Str} {c:List Value} {d:List Str},StrsAre a b→StrsAre c d→StrsAre (a ++ c) (b ++ d):=by
  intro a b c d h1 h2
  induction h1 with
  | nil => exact h2
  | cons y t _ ih => exact .cons y t ih
 induction h with
 | nil => exact .nil
 | cons y t _ ih => rw [List.reverse_cons,List.reverse_cons]; exact app ih (.cons y t .nil)
theorem join_rev {J l:Addr} {its:List Value} {ss:List Str} {x:Str} {t:Tok} {R:Value→Shared→Prop} (hh:A.handled=none) (hit:s.heap.IsRevIter J l ((its.toArray.size:Int) - 1)) (hl:s.heap.IsList l its.toArray) (hne:l ≠ J)
  (hs:StrsAre its ss) (hsz:its.length ≤ sizeLine) (hsep:x.length ≤ 16) (hw:(ss.map (·.length)).sum + ss.length ≤ 1048576)
  (hR:∀ (s' : Shared) (t' : Tok) (k:Nat),(∀ b o,b ≠ J→s.heap.get? b=some o→s'.heap.get? b=some o)→s'.gens=s.gens→s'.drawn=s.drawn→s'.os=s.os→R (.str (Str.join x ss.reverse) t') { s' with toks:=k }) :
  wpAny (model prog w) A (call (.builtin "str.join") [.str x t,.ref J]) R E s:=by
 refine wpAny_call (codeAny_call_builtin PySem.F.slot_str_join.plain PySem.F.entry_str_join (PySem.F.slot_str_join.check _ _ _ _ _ _ _ _ (typeIs_str _ _ _) (PySem.F.args_str_join_2 _ _) ?_))
 rw [join_tree_other]
 refine wpAny_bind (wpAny_typeOf hit.typeIs ?_)
 show wpAny _ A.in1 ((pyIter (.ref J)).tryCatch _ >>= fun z => collect z >>= fun zs => joinTail x zs) _ _ s
 refine wpAny_bind (wpAny_tryCatch (wpAny_pyIter_revIter hit ?_))
 have Wk:=(Walks.listRev (prog:=prog) (w:=w) (A:=A.in1.in1) hh J l hne its.toArray).toS
 have hJ:J < s.heap.objs.size:=by obtain ⟨o,ho,_⟩:=hit; exact Heap.lt_size ho
 have hl' : l < s.heap.objs.size:=by obtain ⟨o,ho,_⟩:=hl; exact Heap.lt_size ho
 refine wpAny_bind (collect_rev Wk (fun i s' st => st.2.1.typeIs) ⟨Nat.zero_le _,by simpa using hit,hl⟩ (fun b hb => ?_) (by simp) (by simpa using hsz) fun s' acc hm hacc => ?_)
 ·rcases List.mem_cons.mp hb with rfl | hb
  ·exact hJ
  ·rw [List.mem_singleton.mp hb]; exact hl'
 have e:acc.toList=its.reverse:=by
  apply List.ext_getElem?
  intro i
  by_cases hi:i < its.length
  ·have:i < acc.size:=by rw [hacc.1]; simpa using hi
   have h2:=hacc.2 i _ (Array.getElem?_eq_getElem this)
   rw [Array.getElem?_toList,Array.getElem?_eq_getElem this,List.getElem?_reverse hi,← h2]
   simp
  ·rw [List.getElem?_eq_none (by rw [Array.length_toList,hacc.1]; simpa using hi),List.getElem?_eq_none (by simpa using hi)]
 rw [e]
 obtain ⟨ls,e1,e2⟩:=strsAre_split (strsAre_rev hs)
 rw [← e1]
 have hw2:((ss.reverse).map (·.length)).sum + ss.reverse.length ≤ 1048576:=by
  rw [List.map_reverse,List.sum_reverse,List.length_reverse]; exact hw
 have hok:=joinOk_of_weight (sep:=x) hw2 hsep
 rw [← e2] at hok
 have hok2:=hok
 unfold JoinOk at hok2
 rw [Bool.not_eq_true'] at hok2
 have g:Gives (joinTail x (strValues ls)) (joinMade x ls):=by
  have g0:=gives_joinTail x ls hok2
  cases ls with
  | nil => exact g0
  | cons p r => cases r with
   | nil => exact g0
   | cons q r' => exact g0
 refine g prog w A (wants R E) s' (post_join ls ⟨joinFit_length hok2,fun t' k => ?_⟩)
 have:=hR s' t' k (fun b o hb z => hm.heap b o (by simpa using hb) z) hm.gens hm.drawn hm.os
 rw [← e2] at this
 show R (.str (Builtin.Str.glued x (ls.map (·.1))) t') _
 rw [StrLaws.glued_eq_join]
 exact this
end
theorem boot_reversed:bootBuiltins "reversed" = some (.type "reversed"):=by decide +kernel
theorem pe_joinRev {o a:Expr} {to ta:TE} {p pos apos cpos:PySem.Pos} (hc:X.calm=true) (ho:PE X o to) (ha:PE X a ta) (hg:Gl X "reversed") (hm:X.mg "reversed" = none) (hsa:starEach [a] X.env=[(false,eval a X.env)]:=by rfl)
  (hbase:attributeBase o "join" X.env (eval o X.env)=eval o X.env:=by rfl) (hline:(apos.endLine == cpos.line)=true:=by rfl) :
  PE X (.Call (.Attribute o "join" apos) [.Call (.Name "reversed" p) [a] [] pos] [] cpos) (fun σ H Q => to σ H fun x H1 => ∃ sep:Str,x = .str sep∧ta σ H1 fun y H2 => ∃ (l:Addr) (ss:List Str),y = .ref l∧SqL X.K H2 l (ss.map V.str) ∧
   sep.length ≤ 16∧(ss.map (·.length)).sum + ss.length ≤ 1048576∧Q (.str (Str.join sep ss.reverse)) H2):=by
 intro pins s σ H Q I h
 refine wpAny_Call_method_late hbase (by rfl) hline rfl (thn (ho pins s σ H _ I h) fun v s1 ⟨x,H1,I1,r1,sep,ex,q1⟩ => ?_)
 subst ex
 obtain ⟨t,rfl⟩:=r1
 obtain ⟨h1,h2⟩:=tyV_is I1 (x:=.str sep) (T := "str") ⟨t,rfl⟩ rfl
 refine ⟨"str", "str.join",PySem.F.plainAttrs_str,PySem.F.slot_str_join,PySem.F.type_str_join,h1,h2,?_⟩
 refine Calls.callWith_builtin rfl (Calls.evalArgs_plain ?_)
 show wpAny _ _ (spliced ((false,eval (.Call (.Name "reversed" p) [a] [] pos) X.env) :: [])) _ _ s1
 refine Calls.spliced_cons (wpAny_Call_Name_kw (ld_blt I1 hg hm boot_reversed ?_))
 refine PyProof.Rows.callWith_type1 (rest:=[]) ?_ hsa rfl
 rw [hsa]
 show wpAny _ _ (spliced ((false,eval a X.env) :: [])) _ _ s1
 refine Calls.spliced_cons (thn (ha pins s1 σ H1 _ I1 q1) fun u s2 ⟨y,H2,I2,r2,l,ss,ey,hq,hs,hw,q⟩ => Calls.spliced_nil ?_)
 subst ey
 cases r2
 obtain ⟨its,r,pl,hz⟩:=I2.list hq
 have hlen:=r.length
 refine call_reversed_list pl.isList (Calls.spliced_nil ?_)
 have hl:l < s2.heap.objs.size:=by obtain ⟨ob,hob,_⟩:=pl.isList; exact Heap.lt_size hob
 refine join_rev (J:=s2.heap.objs.size) (l:=l) (its:=its) (I2.ok.hd hc) ⟨_,Heap.get?_push_size _ rfl,rfl,rfl⟩ (pl.isList.push _) (Nat.ne_of_lt hl) (strsAre_of r) (by rw [← hlen]; exact hz) hs hw fun s' t' k hk hg2 hd ho2 => ?_
 obtain ⟨hp,g,d,tk,os⟩:=s'
 dsimp only at hk hg2 hd ho2
 subst hg2 hd ho2
 exact ⟨.str _,H2,I2.kept (h':=hp) (t':=k) fun b ob z => hk b ob (Nat.ne_of_lt (Heap.lt_size z)) (Heap.get?_push_of_some _ z),⟨_,rfl⟩,q⟩
end
end L2
namespace L2
open PySem PySem.Spec PyProof.Rows
section
variable {X:Cx} {pins:List (Addr × Obj)} {σ:St} {H:Hp} {s:Shared} {h' : Heap}
theorem Inv.turnedNew {t' : Nat} {ch:List Addr} {p:Addr} {xs:List V} (I:Inv X pins σ H s) (k:∀ b o,b ∉ ch→s.heap.get? b=some o→h'.get? b=some o) (hf:∀ b ∈ ch,FpOk X pins H b) (hp:s.heap.objs.size ≤ p)
  (new:ObjOk X.prog X.w (upd H p (.tup xs)) h' p (.tup xs)):Inv X pins σ (upd H p (.tup xs)) { s with heap:=h',toks:=t' }:=by
 have hn:H p=none:=I.hok.fresh hp
 have nit:∀ b u,H b=some u→b ∉ ch:=fun b u e z => by rw [(hf b z).1] at e; cases e
 have nL:X.env.locals ∉ ch:=fun z => (hf _ z).2.1 rfl
 refine I.step (g':=s.gens) (d':=s.drawn) (ch:=ch) (fun b hb => ?_) (fun b o _ _ hc e _ => k b o hc e) (fun b o _ _ hc e _ => ⟨o.slots,k b o hc e⟩) (fun b o _ e n => ?_)
  (fun b o hc e => ⟨o,k b o hc e⟩) (fun b xs e => ?_) (fun b o u e => ?_) (fun b ps e => ⟨#[],?_⟩) (fun m hm => ?_) (fun b u e => ?_) I.bare
 ·obtain ⟨f0,f1,f2,f3,f4,f5⟩:=hf b hb
  exact ⟨f3,f1,f4,f5⟩
 ·rw [upd_ne (fun z => by rw [z] at e; exact absurd (Nat.lt_of_lt_of_le (Heap.lt_size e) hp) (Nat.lt_irrefl _))]
  exact n
 ·rw [upd_ne (ne_of_none e hn)]; exact e
 ·rw [upd_ne (ne_of_none e hn)]; exact e
 ·rw [upd_ne (ne_of_none e hn),e]; simp
 ·obtain ⟨o,es,ep,ho,r⟩:=hm
  exact ⟨o,es,ep,k _ o nL ho,r⟩
 ·by_cases hb:b=p
  ·subst hb; rw [upd_same] at e; cases e; exact new
  ·rw [upd_ne hb] at e
   refine (I.hok b u e).stay (fun c v hc q => k c v ?_ q) (fun c q => by rw [upd_ne (ne_of_none q hn)]; exact q) fun c xs q => by rw [upd_ne (ne_of_none q hn)]; exact q
   rcases hc with z | z
   ·rw [z]; exact nit b u e
   ·exact nit c _ z
theorem Inv.turnedL {t' : Nat} {ch:List Addr} (I:Inv X pins σ H s) (k:∀ b o,b ∉ ch→s.heap.get? b=some o→h'.get? b=some o) (hf:∀ b ∈ ch,FpOk X pins H b):Inv X pins σ H { s with heap:=h',toks:=t' }:=by
 have nit:∀ b u,H b=some u→b ∉ ch:=fun b u e z => by rw [(hf b z).1] at e; cases e
 have nL:X.env.locals ∉ ch:=fun z => (hf _ z).2.1 rfl
 refine I.step (g':=s.gens) (d':=s.drawn) (ch:=ch) (fun b hb => ?_) (fun b o _ _ hc e _ => k b o hc e) (fun b o _ _ hc e _ => ⟨o.slots,k b o hc e⟩) (fun b o _ e n => n)
  (fun b o hc e => ⟨o,k b o hc e⟩) (fun b xs e => e) (fun b o u e => e) (fun b ps e => ⟨#[],by rw [e]; simp⟩) (fun m hm => ?_) (fun b u e => ?_) I.bare
 ·obtain ⟨f0,f1,f2,f3,f4,f5⟩:=hf b hb
  exact ⟨f3,f1,f4,f5⟩
 ·obtain ⟨o,es,ep,ho,r⟩:=hm
  exact ⟨o,es,ep,k _ o nL ho,r⟩
 ·refine (I.hok b u e).stay (fun c v hc q => k c v ?_ q) (fun _ q => q) fun _ _ q => q
  rcases hc with z | z
  ·rw [z]; exact nit b u e
  ·exact nit c _ z
end
def Itz (K:PySem.W.Frag) (a b:Addr):It :=
 ⟨fun i H => ∃ xs ys x y,SqL K H a xs∧SqL K H b ys∧xs[i]? = some x∧ys[i]? = some y,
  fun i H v H' => ∃ p x y,v = .ref p∧H p=none∧H' = upd H p (.tup [x,y])∧(∀ xs,SqL K H a xs→xs[i]? = some x)∧(∀ ys,SqL K H b ys→ys[i]? = some y),
  fun i H => ∃ xs ys,SqL K H a xs∧SqL K H b ys∧(xs[i]? = none ∨ ys[i]? = none)⟩
def ZipAt (z TI TO i1 i2 a b:Addr) (i:Nat) (h:Heap):Prop:=IsZip h z TI TO .none∧IsPair h TI (.ref i1) (.ref i2)∧(∃ u v,IsPair h TO u v)∧h.IsListIter i1 a i∧h.IsListIter i2 b i
theorem turn_zip {P:Program} {w:World} {K:PySem.W.Frag} {es:List Expr} {k:Nat} {pos:PySem.Pos} (a b z TI TO i1 i2:Addr) (D:ZipApart z TI TO i1 i2 a b):Turn P w K (.Tuple es k pos) (Itz K a b) [z,TI,TO,i1,i2] z (ZipAt z TI TO i1 i2 a b) where
 mem:=by simp
 obj:=fun i h st c hc => by
  obtain ⟨hz,hTI,⟨u,v,hTO⟩,⟨o1,e1,c1,d1⟩,⟨o2,e2,c2,d2⟩⟩:=st
  simp only [List.mem_cons,List.not_mem_nil,or_false] at hc
  rcases hc with rfl | rfl | rfl | rfl | rfl
  ·exact ⟨_,hz,fun v q => by cases q⟩
  ·exact ⟨_,hTI,fun v q => by cases q⟩
  ·exact ⟨_,hTO,fun v q => by cases q⟩
  ·exact ⟨o1,e1,fun v q => by rw [d1] at q; cases q⟩
  ·exact ⟨o2,e2,fun v q => by rw [d2] at q; cases q⟩
 keep:=fun i h h' st q => by
  obtain ⟨hz,hTI,⟨u,v,hTO⟩,l1,l2⟩:=st
  exact ⟨q _ (by simp) _ hz,q _ (by simp) _ hTI,⟨u,v,q _ (by simp) _ hTO⟩,l1.at fun o e => q _ (by simp) o e,l2.at fun o e => q _ (by simp) o e⟩
 item:=by
  intro X hP hw hK hc i pins s σ H E I hf st hg
  subst hP hw hK
  obtain ⟨xs,ys,x,y,hq1,hq2,hx,hy⟩:=hg
  obtain ⟨hz,hTI,⟨u,v,hTO⟩,l1,l2⟩:=st
  obtain ⟨its1,rv1,p1,_⟩:=I.list hq1
  obtain ⟨its2,rv2,p2,_⟩:=I.list hq2
  obtain ⟨ux,hux,rux⟩:=rv1.get hx
  obtain ⟨uy,huy,ruy⟩:=rv2.get hy
  refine wpAny_pyNext_zip_item D hz hTI hTO l1 l2 p1.isList p2.isList (x:=ux) (y:=uy) (by simpa using hux) (by simpa using huy) fun h' z1 TO1 j1 j2 T1 sz kp => ?_
  refine ⟨_,rfl,wpAny_letOwnedTupleGo_zip z1 fun h2 z2 sb => ?_⟩
  have hzlt:z < s.heap.objs.size:=Heap.lt_size hz
  have hpz:s.heap.objs.size ≠ z:=Nat.ne_of_gt hzlt
  have T2:IsPair h2 s.heap.objs.size ux uy:=sb.extBut _ _ hpz T1
  have kp2:∀ c o,c ∉ [z,TI,TO,i1,i2]→s.heap.get? c=some o→h2.get? c=some o:=fun c o hc e => by
   simp only [List.mem_cons,List.not_mem_nil,or_false,not_or] at hc
   exact sb.extBut _ _ hc.1 (kp c o hc.1 hc.2.2.1 hc.2.2.2.1 hc.2.2.2.2 e)
  have I2:Inv X pins σ (upd H s.heap.objs.size (.tup [x,y])) { s with heap:=h2,toks:=s.toks }:=I.turnedNew kp2 hf (Nat.le_refl _) ⟨by show 2 ≤ sizeLine; decide,[ux,uy],.cons rux (.cons ruy .nil),⟨_,T2,rfl,_,rfl⟩⟩
  refine ⟨.ref s.heap.objs.size,_,I2,rfl,⟨_,x,y,rfl,I.hok.fresh (Nat.le_refl _),rfl,fun xs' h => ?_,fun ys' h => ?_⟩,⟨z2,?_,⟨ux,uy,?_⟩,?_,?_⟩,fun c hc => ?_⟩
  ·rw [I.list_inj h hq1]; exact hx
  ·rw [I.list_inj h hq2]; exact hy
  ·exact sb.extBut _ _ D.TIz (kp _ _ D.TIz D.TITO D.TIi1 D.TIi2 hTI)
  ·exact sb.extBut _ _ D.TOz TO1
  ·exact j1.at fun o e => sb.extBut _ _ D.i1z e
  ·exact j2.at fun o e => sb.extBut _ _ D.i2z e
  ·have hlt:c < s.heap.objs.size:=by
    simp only [List.mem_cons,List.not_mem_nil,or_false] at hc
    rcases hc with rfl | rfl | rfl | rfl | rfl
    ·exact hzlt
    ·exact Heap.lt_size hTI
    ·exact Heap.lt_size hTO
    ·obtain ⟨_,e,_⟩:=l1; exact Heap.lt_size e
    ·obtain ⟨_,e,_⟩:=l2; exact Heap.lt_size e
   rw [upd_ne (Nat.ne_of_lt hlt)]
   exact (hf c hc).1
 done:=by
  intro X hP hw hK hc i pins s σ H E I hf st hg
  subst hP hw hK
  obtain ⟨xs,ys,hq1,hq2,hend⟩:=hg
  obtain ⟨hz,hTI,⟨u,v,hTO⟩,l1,l2⟩:=st
  obtain ⟨its1,rv1,p1,_⟩:=I.list hq1
  obtain ⟨its2,rv2,p2,_⟩:=I.list hq2
  have e1:=rv1.length
  have e2:=rv2.length
  refine wpAny_pyNext_zip_end (I.ok.hd hc) D hz hTI hTO l1 l2 p1.isList p2.isList (hend.imp (fun q => ?_) (fun q => ?_)) fun h' kp => ⟨rfl,I.turnedL (t':=s.toks) (ch:=[z,TI,TO,i1,i2]) (fun c o hc e => ?_) hf⟩
  ·rw [List.getElem?_eq_none_iff] at q
   simp
   omega
  ·rw [List.getElem?_eq_none_iff] at q
   simp
   omega
  ·simp only [List.mem_cons,List.not_mem_nil,or_false,not_or] at hc
   exact kp c o hc.1 hc.2.2.1 hc.2.2.2.1 hc.2.2.2.2 e
 self:=fun _ _ _ _ _ st h => wpAny_pyIter_zip st.1 h
section
variable {X:Cx}
def iZip (K:PySem.W.Frag) (ta:TA):TI:=fun σ H R => ta σ H fun vs H1 => ∃ a b,vs=[.ref a,.ref b]∧(∃ xs,SqL K H1 a xs)∧(∃ ys,SqL K H1 b ys)∧R (Itz K a b) H1
theorem pi_zip {tes:List Expr} {tk:Nat} {tpos p pos:PySem.Pos} {a b:Expr} {ta:TA} (hg:Gl X "zip") (hm:X.mg "zip" = none) (ha:PA X [a,b] ta)
  (hs:starEach [a,b] X.env=[(false,eval a X.env),(false,eval b X.env)]:=by rfl) (hs2:starEach [b] X.env=[(false,eval b X.env)]:=by rfl):PI X (.Tuple tes tk tpos) (.Call (.Name "zip" p) [a,b] [] pos) (iZip X.K ta):=by
 intro pins s σ H R I h
 refine wpAny_Call_Name_kw (ld_blt I hg hm boot_zip ?_)
 refine PyProof.Rows.callWith_type1 (thn (ha pos pins s σ H _ I h) fun us s1 ⟨vs,H1,I1,r1,l1,l2,e,⟨xs,hx⟩,⟨ys,hy⟩,q⟩ => ?_) (by rw [hs,hs2]) (by rw [hs2]; rfl)
 subst e
 obtain ⟨u1,u2,rfl,rfl,rfl⟩:=vals2 r1
 obtain ⟨its1,rv1,p1,_⟩:=I1.list hx
 obtain ⟨its2,rv2,p2,_⟩:=I1.list hy
 have a1:l1 < s1.heap.objs.size:=by obtain ⟨_,e,_⟩:=p1.isList; exact Heap.lt_size e
 have a2:l2 < s1.heap.objs.size:=by obtain ⟨_,e,_⟩:=p2.isList; exact Heap.lt_size e
 refine call_zip_2 p1.isList p2.isList fun h' hz hTI hTO hi1 hi2 sz kp => ?_
 refine wpAny_pyIter_zip hz ?_
 refine ⟨_,[_,_,_,_,_],_,_,H1,rfl,I1.kept (t':=s1.toks) kp,turn_zip l1 l2 _ _ _ _ _ (zipApart_new a1 a2),⟨hz,hTI,⟨_,_,hTO⟩,hi1,hi2⟩,fun c hc => ?_,q⟩
 have hge:s1.heap.objs.size ≤ c:=by
  simp only [List.mem_cons,List.not_mem_nil,or_false] at hc
  rcases hc with rfl | rfl | rfl | rfl | rfl
  ·exact Nat.le_add_right _ _
  ·exact Nat.le_add_right _ _
  ·exact Nat.le_add_right _ _
  ·exact Nat.le_refl _
  ·exact Nat.le_add_right _ _
 exact I1.fpOk hge (I1.hok.fresh hge)
theorem compZ {K:PySem.W.Frag} {k n:Nat} {a b:Addr} {xs ys:List V} {g:TG} {tt:TT} {te:TE} {Q:VK} {σ:St} {H:Hp} (Pv:Nat→List V→Hp→Prop) (h0:Pv 0 [] H) (hn:n=min xs.length ys.length) (hb:n ≤ 1000) (hz:∀ i zs H,Pv i zs H→zs.length ≤ i) (hl:∀ i zs H,i ≤ n→Pv i zs H→SqL K H a xs∧SqL K H b ys)
  (hs:∀ i x y zs H (pre:St) (p:Addr),pre.length=k→xs[i]? = some x→ys[i]? = some y→Pv i zs H→H p=none→g (.ref p) (pre ++ σ) (upd H p (.tup [x,y])) fun σ' H2 => (∃ pre' : St,σ' = pre' ++ σ∧pre'.length=k)∧tt σ' H2 fun ok H3 => if ok=true then te σ' H3 fun y H4 => Pv (i + 1) (zs ++ [y]) H4 else Pv (i + 1) zs H3) (hd:∀ zs H,Pv n zs H→∀ D,H D=none→Q (.ref D) (upd H D (.lst zs))):CGo k (Itz K a b) g tt te Q σ H:=by
 refine ⟨fun i m zs H => m=n - i∧i ≤ n∧Pv i zs H,⟨n,by simp,Nat.zero_le _,h0⟩,?_⟩
 rintro i m zs H ⟨rfl,hi,p⟩
 obtain ⟨q1,q2⟩:=hl i zs H hi p
 by_cases hlt:i < n
 ·have h1:i < xs.length:=by omega
  have h2:i < ys.length:=by omega
  refine .inr ⟨⟨xs,ys,xs[i],ys[i],q1,q2,by simp [h1],by simp [h2]⟩,Nat.lt_of_le_of_lt (hz i zs H p) (small1000 (by omega)),Pv (i + 1),fun zs H' p' => ⟨n - (i + 1),by omega,rfl,hlt,p'⟩,fun x H' pre hp y => ?_⟩
  obtain ⟨q,x1,y1,rfl,hq,rfl,e1,e2⟩:=y
  exact hs i x1 y1 zs _ pre q hp (e1 xs q1) (e2 ys q2) p hq
 ·have e:i=n:=by omega
  subst e
  refine .inl ⟨⟨xs,ys,q1,q2,?_⟩,hd zs H p⟩
  by_cases hx:xs.length ≤ ys.length
  ·exact .inl (List.getElem?_eq_none (by omega))
  ·exact .inr (List.getElem?_eq_none (by omega))
end
end L2
namespace L2
open PySem PySem.Spec PyProof.Rows
def ThL (H:Hp) (xs:List V) (ds:List PyData):Prop:=xs.length=ds.length∧∀ (i:Nat) (x:V) (d:PyData),xs[i]? = some x→ds[i]? = some d→Th H x d
theorem ThL.tup {H:Hp} {a:Addr} {xs:List V} {ds:List PyData} (k:ThL H xs ds) (h:H a=some (.tup xs)):Th H (.ref a) (.tuple ds):=.tup h k.1 k.2
theorem ThL.ints {H:Hp} (ns:List Int):ThL H (ns.map V.int) (ns.map .int):=by
 refine ⟨by simp,fun i x d h1 h2 => ?_⟩
 rw [List.getElem?_map] at h1 h2
 cases z:ns[i]? with
 | none => rw [z] at h1; cases h1
 | some n => rw [z] at h1 h2; cases h1; cases h2; exact .int n
end L2
namespace L2
open PySem PySem.Spec PyProof.Rows
section
variable {prog:Program} {w:World} {A:Around} {E:Value→Shared→Prop} {s:Shared}
open Builtin Builtin.Str in
theorem split_raw {x y:Str} {t u:Tok} {Q:Value→Shared→Prop} (hy:(y.length == 0)=false)
  (h:∀ l k,l.map (·.1)=Txt.split x y→Q (.ref s.heap.objs.size) { s with heap:=s.heap.push { cls:=.type "list",data:=.seq (strValues l).toArray },toks:=k }) (hsz:x.length + 2 ≤ sizeLine) :
  wpAny (model prog w) A (call (.builtin "str.split") [.str x t,.str y u]) Q E s:=by
 have hn:(partsBetween x (occurrences x y 0 x.length (x.length + 1)) y.length).length ≤ sizeLine:=by
  have e1:=StrLaws.occ_length_le x y 0 x.length (x.length + 1)
  rw [length_partsBetween]; omega
 cases h1:(decide (x.length < y.length) || decide (strKind x < strKind y))
 ·cases hf:(occurrences x y 0 x.length (x.length + 1)).isEmpty
  ·refine call_meets F.slot_str_split (typeIs_str _ _ _) F.entry_str_split (F.args_str_split_2 _ _) (meets_str_split_sep x y t u h1 hy hf (by omega) hn) ?_
   show wants Q E _ { s with toks:=_,heap:=s.heap.push { cls:=.type "list",data:=.seq (strsFrom s.toks (partsBetween x (occurrences x y 0 x.length (x.length + 1)) y.length)).toArray } }
   rw [strsFrom_eq]
   exact h (numbered s.toks _) _ ((numbered_texts _ _).trans ((if_neg (ne_true_of_eq_false h1)).trans (if_neg (ne_true_of_eq_false hf))).symm)
  ·exact call_meets F.slot_str_split (typeIs_str _ _ _) F.entry_str_split (F.args_str_split_2 _ _) (meets_str_split_not_found x y t u h1 hy hf)
    (h [(x,t)] s.toks ((if_neg (ne_true_of_eq_false h1)).trans (if_pos hf)).symm)
 ·exact call_meets F.slot_str_split (typeIs_str _ _ _) F.entry_str_split (F.args_str_split_2 _ _) (meets_str_split_cannot_occur x y t u h1)
   (h [(x,t)] s.toks (if_pos h1).symm)
end
theorem vals_strs:∀ l:List (Str × Tok),Vals ((l.map (·.1)).map V.str) (strValues l)
 | [] => .nil
 | p :: l => .cons ⟨_,rfl⟩ (vals_strs l)
open Builtin Builtin.Str in
theorem split_len (x y:Str):(Txt.split x y).length ≤ x.length + 2:=by
 unfold Txt.split
 split
 ·simp
 ·split
  ·simp
  ·have e1:=StrLaws.occ_length_le x y 0 x.length (x.length + 1)
   rw [length_partsBetween]; omega
section
variable {X:Cx}
theorem mt_split:MtR X "str.split" (fun x vs H Q => ∃ z y:Str,x = .str z∧vs=[.str y]∧(y.length == 0)=false∧z.length ≤ 100000∧∀ l,H l=none→Q (.ref l) (upd H l (.lst ((Txt.split z y).map V.str)))):=by
 intro pins s σ H x xs v us Q I rx rv h
 obtain ⟨z,y,rfl,rfl,hy,hz,q⟩:=h
 obtain ⟨t,rfl⟩:=rx
 obtain ⟨u,rfl,ru⟩:=vals1 rv
 obtain ⟨t2,rfl⟩:=ru
 have big:100002 ≤ sizeLine:=by decide
 refine split_raw hy (fun l k e => ?_) (by omega)
 refine ⟨.ref s.heap.objs.size,_,I.laid (t':=k) (o:=.lst ((Txt.split z y).map V.str)) (fun b ob e => Heap.get?_push_of_some _ e) (Nat.le_refl _) ⟨?_,strValues l,0,?_,?_⟩,rfl,q _ (I.hok.fresh (Nat.le_refl _))⟩
 ·rw [List.length_map]
  have:=split_len z y
  omega
 ·rw [← e]
  exact vals_strs l
 ·exact Heap.get?_push_size _ rfl
theorem mt_starts:MtR X "str.startswith" (fun x vs H Q => ∃ z y:Str,x = .str z∧vs=[.str y]∧Q (.bl (Txt.startswith z y)) H):=by
 intro pins s σ H x xs v us Q I rx rv h
 obtain ⟨z,y,rfl,rfl,q⟩:=h
 obtain ⟨t,rfl⟩:=rx
 obtain ⟨u,rfl,ru⟩:=vals1 rv
 obtain ⟨t2,rfl⟩:=ru
 exact SC.startswith ⟨.bl _,H,I,rfl,q⟩
theorem call_int_text:CallR X (.type "int") (fun xs H Q => ∃ (z:Str) (n:Int),xs=[.str z]∧PySem.intText? z=some n∧z.length ≤ 640∧Q (.int n) H):=by
 intro pins s σ H xs us Q I r h
 obtain ⟨z,n,rfl,hn,hl,q⟩:=h
 obtain ⟨u,rfl,ru⟩:=vals1 r
 obtain ⟨t,rfl⟩:=ru
 exact PySem.W.KIN.call_text hn hl ⟨.int n,H,I.tok _,⟨_,rfl⟩,q⟩
end
end L2
namespace L2
open PySem PySem.Spec PyProof.Rows
def subS (z:Str) (a b:Nat):Str:=⟨((z.cps.toList.drop a).take (b - a)).toArray⟩
def ClipLo (lo:Option Int) (n a:Nat):Prop:=(lo=none∧a=0) ∨ ∃ k:Nat,lo=some (k:Int)∧a=min k n
def ClipHi (hi:Option Int) (n b:Nat):Prop:=(hi=none∧b=n) ∨ ∃ k:Nat,hi=some (k:Int)∧b=min k n
theorem clip_eq {lo hi:Option Int} {n a b:Nat} (h1:ClipLo lo n a) (h2:ClipHi hi n b):Builtin.Str.strSliceIndices lo hi 1 n=Builtin.Str.strSliceIndices (some (a:Int)) (some (b:Int)) 1 n:=by
 have an:a ≤ n:=by rcases h1 with ⟨_,rfl⟩ | ⟨k,_,rfl⟩ <;> omega
 have bn:b ≤ n:=by rcases h2 with ⟨_,rfl⟩ | ⟨k,_,rfl⟩ <;> omega
 have key:∀ k:Nat,(max 0 (min (if ((k:Int)) < 0 then (k:Int) + (n:Int) else (k:Int)) (n:Int)))=((min k n:Nat):Int):=fun k => by rw [if_neg (by omega)]; omega
 have ka:min a n=a:=by omega
 have kb:min b n=b:=by omega
 unfold Builtin.Str.strSliceIndices
 rcases h1 with ⟨rfl,rfl⟩ | ⟨k,rfl,rfl⟩ <;> rcases h2 with ⟨rfl,rfl⟩ | ⟨k2,rfl,rfl⟩ <;> simp only [gt_iff_lt,Int.zero_lt_one,Int.one_pos,if_true,key] <;> congr 1 <;> omega
def rSlS:V→Option Int→Option Int→Hp→VK→Prop:=fun x lo hi H Q => ∃ (z:Str) (a b:Nat),x = .str z∧ClipLo lo z.length a∧ClipHi hi z.length b∧a ≤ b∧z.length ≤ sizeLine∧Q (.str (subS z a b)) H
section
variable {X:Cx}
theorem sl_str:SlR X rSlS:=by
 intro pins s σ H x v vl vu lo hi sl Q I rx hs pl pu h
 obtain ⟨z,a,b,rfl,h1,h2,hab,hz,q⟩:=h
 obtain ⟨t,rfl⟩:=rx
 have bn:b ≤ z.length:=by rcases h2 with ⟨_,rfl⟩ | ⟨k,_,rfl⟩ <;> omega
 have fin:∀ (l u:Option (Int × Tok)),l.map (·.1)=lo→u.map (·.1)=hi→(sliceMade z t l u none).post (EP X pins σ Q) s:=fun l u el eu => by
  have e:slicePicked z l u none=Builtin.Str.strSliceIndices (some (a:Int)) (some (b:Int)) 1 z.length:=by
   show Builtin.Str.strSliceIndices (l.map (·.1)) (u.map (·.1)) 1 z.length=_
   rw [el,eu]
   exact clip_eq h1 h2
  have e2:(slicePicked z l u none).filterMap (z.cps[·]?)=(z.cps.toList.drop a).take (b - a):=by
   rw [e,StrLaws.sliced_plain z hab bn]
  have e3:(slicePicked z l u none).length=b - a:=by
   rw [e,StrLaws.strSliceIndices_plain hab bn]
   simp
  unfold sliceMade
  by_cases hl:b - a=z.length
  ·rw [if_pos (by rw [e3]; simp [hl])]
   refine ⟨.str z,H,I,⟨t,rfl⟩,?_⟩
   have ea:a=0:=by omega
   have eb:b=z.length:=by omega
   have:subS z a b=z:=by
    unfold subS
    rw [ea,eb,List.drop_zero,List.take_of_length_le (by simp [Str.length])]
   rw [this] at q
   exact q
  ·rw [if_neg (by rw [e3]; simpa using hl),e2]
   refine ⟨?_,.str _,H,I.tok _,⟨_,rfl⟩,q⟩
   show ((z.cps.toList.drop a).take (b - a)).toArray.size ≤ sizeLine
   have:z.cps.size ≤ sizeLine:=hz
   simp
   omega
 have hsl:∃ o,s.heap.get? sl=some o∧o.cls = .type "slice" ∧ o.data = .fields #[vl,vu,.none]:=by obtain ⟨o,ho,hc,hd⟩:=hs; exact ⟨o,ho,hc,hd⟩
 cases pl with
 | none =>
  cases pu with
  | none => exact ⟨"str",_,F.slot_str_getitem.lookup,typeIs_str _ _ _,wpAny_getItem_str_slice (l:=none) (u:=none) (st:=none) hsl rfl (fin none none rfl rfl)⟩
  | int i ti => exact ⟨"str",_,F.slot_str_getitem.lookup,typeIs_str _ _ _,wpAny_getItem_str_slice (l:=none) (u:=some (_,ti)) (st:=none) hsl rfl (fin none (some (_,ti)) rfl rfl)⟩
 | int i ti =>
  cases pu with
  | none => exact ⟨"str",_,F.slot_str_getitem.lookup,typeIs_str _ _ _,wpAny_getItem_str_slice (l:=some (_,ti)) (u:=none) (st:=none) hsl rfl (fin (some (_,ti)) none rfl rfl)⟩
  | int j tj => exact ⟨"str",_,F.slot_str_getitem.lookup,typeIs_str _ _ _,wpAny_getItem_str_slice (l:=some (_,ti)) (u:=some (_,tj)) (st:=none) hsl rfl (fin (some (_,ti)) (some (_,tj)) rfl rfl)⟩
def Itx (x:Str):It:=⟨fun i H => i < x.cps.size,fun i H v H' => H' = H∧∃ c,x.cps[i]? = some c∧v = .str ⟨#[c]⟩,fun i H => i=x.cps.size⟩
theorem turn_ascii {P:Program} {w:World} {K:PySem.W.Frag} {tg:Expr} (x:Str) (t:Tok) (it:Addr):Turn P w K tg (Itx x) [it] it (fun i h => h.IsStrIter it "str_ascii_iterator" x t i) where
 mem:=by simp
 obj:=fun i h st b hb => by
  have e:b=it:=by simpa using hb
  subst e
  obtain ⟨o,e,c,d⟩:=st
  exact ⟨o,e,fun v z => by rw [d] at z; cases z⟩
 keep:=fun i h h' st k => by
  obtain ⟨o,e,c,d⟩:=st
  exact ⟨o,k it (by simp) o e,c,d⟩
 item:=by
  intro X hP hw hK hc i pins s σ H E I hf st hg
  subst hP hw hK
  obtain ⟨f0,f1,f2,f3,f4,f5⟩:=hf it (by simp)
  have hlt:i < x.cps.size:=hg
  have hx:x.cps[i]? = some (x.cps[i]'hlt):=Array.getElem?_eq_getElem hlt
  refine wpAny_pyNext_ascii_item st hx fun h' st' sb => ?_
  have I1:Inv X pins σ H { s with heap:=h',toks:=s.toks + 1 }:=I.turned (t':=s.toks + 1) (fun b o hb e => (sb.2 b hb).trans e) f0 f1 f3 f4 f5
  obtain ⟨o,e,c,d⟩:=id st'
  exact ⟨_,rfl,go_of (s:={ s with heap:=h',toks:=s.toks + 1 }) e c d (by decide) ⟨.str _,H,I1,⟨_,rfl⟩,⟨rfl,_,hx,rfl⟩,st',fun b hb => (hf b hb).1⟩⟩
 done:=by
  intro X hP hw hK hc i pins s σ H E I hf st hg
  subst hP hw hK
  obtain ⟨f0,f1,f2,f3,f4,f5⟩:=hf it (by simp)
  exact wpAny_pyNext_ascii_end (I.ok.hd hc) st (by simp [show i=x.cps.size from hg]) fun h' eb => ⟨rfl,I.turned (t':=s.toks) (fun b o hb e => eb b o hb e) f0 f1 f3 f4 f5⟩
 self:=fun _ _ _ _ _ st h => wpAny_pyIter_striter_ascii st h
theorem turn_wide {P:Program} {w:World} {K:PySem.W.Frag} {tg:Expr} (x:Str) (t:Tok) (it:Addr):Turn P w K tg (Itx x) [it] it (fun i h => h.IsStrIter it "str_iterator" x t i) where
 mem:=by simp
 obj:=fun i h st b hb => by
  have e:b=it:=by simpa using hb
  subst e
  obtain ⟨o,e,c,d⟩:=st
  exact ⟨o,e,fun v z => by rw [d] at z; cases z⟩
 keep:=fun i h h' st k => by
  obtain ⟨o,e,c,d⟩:=st
  exact ⟨o,k it (by simp) o e,c,d⟩
 item:=by
  intro X hP hw hK hc i pins s σ H E I hf st hg
  subst hP hw hK
  obtain ⟨f0,f1,f2,f3,f4,f5⟩:=hf it (by simp)
  have hlt:i < x.cps.size:=hg
  have hx:x.cps[i]? = some (x.cps[i]'hlt):=Array.getElem?_eq_getElem hlt
  refine wpAny_pyNext_wide_item st hx fun h' st' sb => ?_
  have I1:Inv X pins σ H { s with heap:=h',toks:=s.toks + 1 }:=I.turned (t':=s.toks + 1) (fun b o hb e => (sb.2 b hb).trans e) f0 f1 f3 f4 f5
  obtain ⟨o,e,c,d⟩:=id st'
  exact ⟨_,rfl,go_of (s:={ s with heap:=h',toks:=s.toks + 1 }) e c d (by decide) ⟨.str _,H,I1,⟨_,rfl⟩,⟨rfl,_,hx,rfl⟩,st',fun b hb => (hf b hb).1⟩⟩
 done:=by
  intro X hP hw hK hc i pins s σ H E I hf st hg
  subst hP hw hK
  obtain ⟨f0,f1,f2,f3,f4,f5⟩:=hf it (by simp)
  exact wpAny_pyNext_wide_end (I.ok.hd hc) st (by simp [show i=x.cps.size from hg]) fun h' eb => ⟨rfl,I.turned (t':=s.toks) (fun b o hb e => eb b o hb e) f0 f1 f3 f4 f5⟩
 self:=fun _ _ _ _ _ st h => wpAny_pyIter_striter_wide st h
def iStr (ta:TE):TI:=fun σ H R => ta σ H fun x H1 => ∃ z,x = .str z∧R (Itx z) H1
theorem pi_str {tg l:Expr} {tl:TE} (hl:PE X l tl):PI X tg l (iStr tl):=by
 intro pins s σ H R I h
 refine thn (hl pins s σ H _ I h) fun v s1 ⟨x,H1,I1,r1,z,e,q⟩ => ?_
 subst e
 obtain ⟨t,rfl⟩:=r1
 have fo:∀ b ∈ [s1.heap.objs.size],_:=fun b hb => by
  have e:b=s1.heap.objs.size:=by simpa using hb
  subst e
  exact I1.fpOk (Nat.le_refl _) (I1.hok.fresh (Nat.le_refl _))
 cases ha:z.cps.all (· < 128)
 ·refine wpAny_pyIter_wide ha ?_
  exact ⟨s1.heap.objs.size,[s1.heap.objs.size],_,_,H1,rfl,I1.kept (t':=s1.toks) fun b o e => Heap.get?_push_of_some _ e,turn_wide z t _,⟨_,Heap.get?_push_size _ rfl,rfl,rfl⟩,fo,q⟩
 ·refine wpAny_pyIter_ascii ha ?_
  exact ⟨s1.heap.objs.size,[s1.heap.objs.size],_,_,H1,rfl,I1.kept (t':=s1.toks) fun b o e => Heap.get?_push_of_some _ e,turn_ascii z t _,⟨_,Heap.get?_push_size _ rfl,rfl,rfl⟩,fo,q⟩
end
theorem compX {k:Nat} {x:Str} {g:TG} {tt:TT} {te:TE} {Q:VK} {σ:St} {H:Hp} (Pv:Nat→List V→Hp→Prop) (h0:Pv 0 [] H) (hb:x.cps.size ≤ 1000) (hz:∀ i ys H,Pv i ys H→ys.length ≤ i)
  (hs:∀ i c ys H (pre:St),pre.length=k→x.cps[i]? = some c→Pv i ys H→g (.str ⟨#[c]⟩) (pre ++ σ) H fun σ' H2 => (∃ pre' : St,σ' = pre' ++ σ∧pre'.length=k)∧tt σ' H2 fun ok H3 => if ok=true then te σ' H3 fun y H4 => Pv (i + 1) (ys ++ [y]) H4 else Pv (i + 1) ys H3) (hd:∀ ys H,Pv x.cps.size ys H→∀ D,H D=none→Q (.ref D) (upd H D (.lst ys))):CGo k (Itx x) g tt te Q σ H:=by
 refine ⟨fun i m ys H => m=x.cps.size - i∧i ≤ x.cps.size∧Pv i ys H,⟨x.cps.size,by simp,Nat.zero_le _,h0⟩,?_⟩
 rintro i m ys H ⟨rfl,hi,p⟩
 by_cases hlt:i < x.cps.size
 ·refine .inr ⟨hlt,Nat.lt_of_le_of_lt (hz i ys H p) (small1000 (by omega)),Pv (i + 1),fun zs H' p' => ⟨x.cps.size - (i + 1),by omega,rfl,hlt,p'⟩,fun v H' pre hp y => ?_⟩
  obtain ⟨rfl,c,hc,rfl⟩:=y
  exact hs i c ys _ pre hp hc p
 ·have e:i=x.cps.size:=by omega
  subst e
  exact .inl ⟨rfl,hd ys H p⟩
end L2
set_option maxHeartbeats 4000000
namespace L2
open PySem PySem.Spec PyProof.Rows
section
variable {X:Cx}
section
variable {prog:Program} {w:World} {A:Around} {R:Result→Shared→Prop} {s:Shared}
abbrev e2 (elt tg iter:Expr) (ifs:List Expr) (tg2 iter2:Expr) (ifs2:List Expr) (scope:Scope) (pos:PySem.Pos):Expr:=.ListComp elt [⟨tg,iter,ifs,0⟩,⟨tg2,iter2,ifs2,0⟩] scope pos
theorem turn_two0 (elt tg iter:Expr) (ifs:List Expr) (tg2 iter2:Expr) (ifs2:List Expr) (scope:Scope) (pos:PySem.Pos) (it acc:Value) (env:Env):compTurn (e2 elt tg iter ifs tg2 iter2 ifs2 scope pos) 0 it acc env=(do
  standAt iter.pos
  match ← pyNext it with
  | none => pure (.done .next)
  | some v =>
   letOwnedTupleGo tg it v
   assign tg env v
   let mut ok:=true
   for c in ifs do
    if ok then ok ← isTrue c env (eval c env)
   if ok then
    let x ← eval iter2 env
    standAt iter2.pos
    let x ← foldedSetIterable iter2 env x
    let _ ← runOwn (.compStart (e2 elt tg iter ifs tg2 iter2 ifs2 scope pos) 1 (← holding [x] (pyIter x)) acc env) env
   again (.compLoop (e2 elt tg iter ifs tg2 iter2 ifs2 scope pos) 0 it acc env)):=rfl
theorem turn_two1 (elt tg iter:Expr) (ifs:List Expr) (tg2 iter2:Expr) (ifs2:List Expr) (scope:Scope) (pos:PySem.Pos) (it acc:Value) (env:Env):compTurn (e2 elt tg iter ifs tg2 iter2 ifs2 scope pos) 1 it acc env=(do
  standAt iter2.pos
  match ← pyNext it with
  | none => pure (.done .next)
  | some v =>
   letOwnedTupleGo tg2 it v
   assign tg2 env v
   let mut ok:=true
   for c in ifs2 do
    if ok then ok ← isTrue c env (eval c env)
   if ok then (eval elt env >>= fun x => call (.builtin "list.append") [acc,x] >>= fun _ => pure ():Sem Unit)
   again (.compLoop (e2 elt tg iter ifs tg2 iter2 ifs2 scope pos) 1 it acc env)):=rfl
theorem loop_two1 {elt tg iter tg2 iter2:Expr} {ifs ifs2:List Expr} {scope:Scope} {pos:PySem.Pos} {it acc:Value} {env:Env} {EE:Value→Shared→Prop} (hE:EE=notedBy (model prog w) A env fun e s' => R (.error e) s') (I:Nat→Shared→Prop)
  (turn:∀ n s,I n s→wpAny (model prog w) A (pyNext it) (fun r z1 => match r with
   | none => R (.ok .next) z1
   | some v => wpAny (model prog w) A (letOwnedTupleGo tg2 it v) (fun _ y1 => wpAny (model prog w) A (assign tg2 env v) (fun _ z2 =>
     wpAny (model prog w) A (forIn ifs2 true fun c r => if r=true then do let ok ← isTrue c env (eval c env); pure (ForInStep.yield ok) else pure (ForInStep.yield r)) (fun ok z3 =>
      if ok=true then wpAny (model prog w) A (eval elt env) (fun x z4 => wpAny (model prog w) A (call (.builtin "list.append") [acc,x]) (fun _ z5 => ∃ m,m < n∧I m z5) EE z4) EE z3 else ∃ m,m < n∧I m z3) EE z2) EE y1) EE z1) EE s)
  (n:Nat) (h:I n s):codeAny (model prog w) A (.compLoop (e2 elt tg iter ifs tg2 iter2 ifs2 scope pos) 1 it acc env) R s:=by
 subst hE
 refine codeAny_loop rfl I (fun n s hI => ?_) n h
 show wpAny _ A ((compTurn (e2 elt tg iter ifs tg2 iter2 ifs2 scope pos) 1 it acc env).onRaise (fun x => do noteFrame x env; theTreesLotGoes x)) _ _ s
 refine wpAny_noted ?_
 rw [turn_two1]
 refine wpAny_bind (wpAny_standAt (wpAny_bind (wpAny_mono (turn n s hI) (fun r z1 q1 => ?_) fun _ _ z => z)))
 cases r with
 | none => exact wpAny_pure q1
 | some v =>
  refine wpAny_bind (wpAny_mono q1 (fun _ y1 q1 => ?_) fun _ _ z => z)
  refine wpAny_bind (wpAny_mono q1 (fun _ z2 q2 => wpAny_bind (wpAny_mono q2 (fun ok z3 q3 => ?_) fun _ _ z => z)) fun _ _ z => z)
  cases ok with
  | false => exact wpAny_pure ⟨rfl,q3⟩
  | true => exact wpAny_bind (wpAny_bind (wpAny_mono q3 (fun x z4 q4 => wpAny_bind (wpAny_mono q4 (fun _ z5 q5 => wpAny_pure (wpAny_pure ⟨rfl,q5⟩)) fun _ _ z => z)) fun _ _ z => z))
theorem loop_two0 {elt tg iter tg2 iter2:Expr} {ifs ifs2:List Expr} {scope:Scope} {pos:PySem.Pos} {it acc:Value} {env:Env} (hs2:∀ x,foldedSetIterable iter2 env x=pure x) (I:Nat→Shared→Prop)
  (turn:∀ n s,I n s→wpAny (model prog w) A (pyNext it) (fun r z1 => match r with
   | none => R (.ok .next) z1
   | some v => wpAny (model prog w) A (letOwnedTupleGo tg it v) (fun _ y1 => wpAny (model prog w) A (assign tg env v) (fun _ z2 =>
     wpAny (model prog w) A (forIn ifs true fun c r => if r=true then do let ok ← isTrue c env (eval c env); pure (ForInStep.yield ok) else pure (ForInStep.yield r)) (fun ok z3 =>
      if ok=true then wpAny (model prog w) A (eval iter2 env) (fun x z4 => wpAny (model prog w) A (pyIter x) (fun i2 z5 => codeAny (model prog w) A (.compStart (e2 elt tg iter ifs tg2 iter2 ifs2 scope pos) 1 i2 acc env) (fun r s' => match r with | .ok _ => ∃ m,m < n∧I m s' | .error _ => False) z5) (fun _ _ => False) z4) (fun _ _ => False) z3 else ∃ m,m < n∧I m z3) (fun _ _ => False) z2) (fun _ _ => False) y1) (fun _ _ => False) z1) (fun _ _ => False) s)
  (n:Nat) (h:I n s):codeAny (model prog w) A (.compLoop (e2 elt tg iter ifs tg2 iter2 ifs2 scope pos) 0 it acc env) R s:=by
 refine codeAny_loop rfl I (fun n s hI => ?_) n h
 show wpAny _ A ((compTurn (e2 elt tg iter ifs tg2 iter2 ifs2 scope pos) 0 it acc env).onRaise (fun x => do noteFrame x env; theTreesLotGoes x)) _ _ s
 refine wpAny_noted ?_
 rw [turn_two0]
 refine wpAny_bind (wpAny_standAt (wpAny_bind (wpAny_mono (turn n s hI) (fun r z1 q1 => ?_) fun _ _ z => z.elim)))
 cases r with
 | none => exact wpAny_pure q1
 | some v =>
  refine wpAny_bind (wpAny_mono q1 (fun _ y1 q1 => ?_) fun _ _ z => z.elim)
  refine wpAny_bind (wpAny_mono q1 (fun _ z2 q2 => wpAny_bind (wpAny_mono q2 (fun ok z3 q3 => ?_) fun _ _ z => z.elim)) fun _ _ z => z.elim)
  cases ok with
  | false => exact wpAny_pure ⟨rfl,q3⟩
  | true =>
   refine wpAny_bind (wpAny_mono q3 (fun x z4 q4 => wpAny_bind (wpAny_standAt (wpAny_bind (wpAny_of_eq (hs2 x) (wpAny_bind (wpAny_holding (wpAny_mono q4 (fun i2 z5 q5 => ?_) fun _ _ z => z.elim))))))) fun _ _ z => z.elim)
   refine wpAny_bind (wpAny_runOwn (codeAny_mono q5 fun r s' q => ?_))
   cases r with
   | ok f => exact wpAny_pure ⟨rfl,q⟩
   | error e => exact q.elim
theorem start_two1 {elt tg iter tg2 iter2:Expr} {ifs ifs2:List Expr} {scope:Scope} {pos:PySem.Pos} {it acc:Value} {env:Env}
  (h0:codeAny (model prog w) A (.compLoop (e2 elt tg iter ifs tg2 iter2 ifs2 scope pos) 1 it acc env) R s)
  (h:wpAny (model prog w) A (pyIter it) (fun it' s' => codeAny (model prog w) A (.compLoop (e2 elt tg iter ifs tg2 iter2 ifs2 scope pos) 1 it' acc env) R s') (fun _ _ => False) s) :
  codeAny (model prog w) A (.compStart (e2 elt tg iter ifs tg2 iter2 ifs2 scope pos) 1 it acc env) R s:=by
 refine codeAny_of_tree ?_
 show wpAny _ _ ((compStart (e2 elt tg iter ifs tg2 iter2 ifs2 scope pos) 1 it acc env).onRaise (fun x => do noteFrame x env; standAt theWindowsPlace)) _ _ s
 refine wpAny_notedAt ?_
 unfold compStart
 show wpAny _ _ (ask >>= _) _ _ s
 refine wpAny_bind (wpAny_askSetting (wpAny_ite ?_))
 split
 ·exact wpAny_pure ⟨rfl,h0⟩
 ·refine wpAny_bind (wpAny_rule ?_)
  show wpAny _ _ (standAt iter2.pos >>= _) _ _ s
  exact wpAny_bind (wpAny_standAt (wpAny_bind (wpAny_mono h (fun it' s' q => wpAny_pure ⟨rfl,q⟩) fun _ _ z => z.elim)))
end
def CGi (k:Nat) (J:It) (g:TG) (tt:TT) (te:TE) (N:List V→Hp→Prop) (σ:St) (ys:List V) (σ1:St) (H1:Hp):Prop:=∃ W:Nat→Nat→List V→St→Hp→Prop,(∃ m,W 0 m ys σ1 H1)∧∀ j m zs σ' H,W j m zs σ' H →
 (J.stop j H∧N zs H) ∨ (J.go j H∧zs.length < sizeLine∧∃ N2:List V→St→Hp→Prop,(∀ ws σ2 H',N2 ws σ2 H'→∃ m',m' < m∧W (j + 1) m' ws σ2 H')∧∀ v H',J.yld j H v H'→g v σ' H' fun σ2 H2 => (∃ pre' : St,σ2=pre' ++ σ∧pre'.length=k)∧tt σ2 H2 fun ok H3 => if ok=true then te σ2 H3 fun y H4 => N2 (zs ++ [y]) σ2 H4 else N2 zs σ2 H3)
def CGo2 (k:Nat) (J:It) (g:TG) (tt:TT) (wi2:TI) (g2:TG) (tt2:TT) (te:TE) (Q:VK) (σ:St) (H1:Hp):Prop:=∃ W:Nat→Nat→List V→Hp→Prop,(∃ m,W 0 m [] H1)∧∀ i m ys H,W i m ys H →
 (J.stop i H∧∀ D,H D=none→Q (.ref D) (upd H D (.lst ys))) ∨ (J.go i H∧∃ N:List V→Hp→Prop,(∀ zs H',N zs H'→∃ m',m' < m∧W (i + 1) m' zs H')∧∀ v H' (pre:St),pre.length=k→J.yld i H v H'→g v (pre ++ σ) H' fun σ' H2 => (∃ pre' : St,σ' = pre' ++ σ∧pre'.length=k)∧tt σ' H2 fun ok H3 => if ok=true then wi2 σ' H3 fun J2 H4 => CGi k J2 g2 tt2 te N σ ys σ' H4 else N ys H3)
def tComp2 (k:Nat) (wi:TI) (g:TG) (tt:TT) (wi2:TI) (g2:TG) (tt2:TT) (te:TE):TE:=fun σ H Q => wi σ H fun J H1 => CGo2 k J g tt wi2 g2 tt2 te Q σ H1
theorem comp_core2 {elt iter tg iter2 tg2:Expr} {xs Nb:List Str} {ifs ifs2:List Expr} {scope:Scope} {pos:PySem.Pos} {wi wi2:TI} {g g2:TG} {tt tt2:TT} {te:TE}
  (hc:X.calm=true) (hi:PI X tg iter wi) (hlen:Nb.length=X.N.length) (hNb:∀ p ∈ Nb.zip X.N,p.1=p.2 ∨ scope.names.lookup p.1=none) (hxN:∀ y ∈ Nb,scope.names.lookup y ≠ some .local)
  (hg:InB X xs Nb scope fun Y => PG Y tg g) (ht:InB X xs Nb scope fun Y => PIf Y ifs tt) (hi2:InB X xs Nb scope fun Y => PI Y tg2 iter2 wi2) (hg2:InB X xs Nb scope fun Y => PG Y tg2 g2) (ht2:InB X xs Nb scope fun Y => PIf Y ifs2 tt2) (hs2:∀ env x,foldedSetIterable iter2 env x=pure x) (he:InB X xs Nb scope fun Y => PE Y elt te)
  (hcell:∀ y ∈ scope.names,y.2 ≠ .cell) (hkind:scope.kind = .function) (hnames:∀ y ∈ scope.names,y.2 = .local→scope.names.lookup y.1=some .local)
  (hfree:∀ y ∈ scope.names,y.2 = .free→X.env.kindOf y.1=some .cell)
  (hs:∀ x,foldedSetIterable iter X.env x=pure x) {pos2:PySem.Pos} {use:Option (Value→Sem Unit)} {QQ:Value→Shared→Prop} {pins:List (Addr × Obj)} {s:Shared} {σ:St} {H:Hp} {Q:VK} (I:Inv X pins σ H s) (h:tComp2 xs.length wi g tt wi2 g2 tt2 te σ H Q)
  (post:∀ (s2 s4:Shared) (H2 H4:Hp) (C D:Addr) (m4:Str→Option Value),Inv X pins σ H2 s2→s2.heap.objs.size ≤ C→s4.heap.Ns C m4→H4 C=none→(∀ h',Heap.SameBut C s4.heap h'→Inv X pins σ H4 { s4 with heap:=h' })→Q (.ref D) H4→compPost (model X.prog X.w) X.A X.xe use QQ (.ref D) C (.ok .next) s4) :
  wpAny (model X.prog X.w) X.A (comprehension (.ListComp elt [⟨tg,iter,ifs,0⟩,⟨tg2,iter2,ifs2,0⟩] scope pos) scope X.env pos2 (newList []) false (eval iter X.env) use) QQ X.xe s:=by
 obtain ⟨cl,hcl,cl1,cl2⟩:=clos_ok (scope:=scope) (env:=X.env) (fun y hy hf => I.ok.has y.1 (.inl (hfree y hy hf)))
 refine wpAny_comprehension_free rfl hs hcl hkind hnames (thn (hi pins s σ H _ I h) fun v s1 h1 => thn h1 fun itv s2 h2 => ?_)
 obtain ⟨it,fp,tn,J,H2,e,I2,T,st2,f2,W,⟨m0,w0⟩,turn⟩:=h2
 subst e
 refine wpAny_newObj_type (wpAny_newFunctionEnv hcell (by intro y hy; simp at hy) (fun h₁ hns₁ hsb₁ => ?_) hkind)
 dsimp only at hns₁ hsb₁ ⊢
 generalize hHp:s2.heap.push { cls:=.type "list",dict:=none,data:=.seq ([]:List Value).toArray } = Hp2 at hns₁ hsb₁ ⊢
 have hC:Hp2.objs.size=s2.heap.objs.size + 1:=by rw [← hHp,Heap.size_push]
 have hDC:s2.heap.objs.size ≠ Hp2.objs.size:=by rw [hC]; exact Nat.ne_of_lt (Nat.lt_succ_self _)
 have below:∀ b,b < s2.heap.objs.size→b ≠ Hp2.objs.size∧b ≠ s2.heap.objs.size:=fun b hb => ⟨by rw [hC]; exact Nat.ne_of_lt (Nat.lt_succ_of_lt hb),Nat.ne_of_lt hb⟩
 have old:∀ b o,s2.heap.get? b=some o→h₁.get? b=some o:=fun b o e => hsb₁.extBut b o (below b (Heap.lt_size e)).1 (Heap.get?_push_of_some _ (hHp ▸ Heap.get?_push_of_some _ e))
 have hacc:h₁.PlainList s2.heap.objs.size #[]:=⟨_,hsb₁.extBut _ _ hDC (Heap.get?_push_of_some _ (hHp ▸ Heap.get?_push_size _ rfl))⟩
 generalize hY:cxC X xs Nb scope cl Hp2.objs.size s2 H2 fp=Y
 have Yprog:Y.prog=X.prog:=by rw [← hY]; rfl
 have fpLt:∀ b ∈ fp,b < s2.heap.objs.size:=fun b hb => by
  obtain ⟨o,e,_⟩:=T.obj _ _ st2 b hb
  exact Heap.lt_size e
 have cellLt:∀ y c,cl.lookup y=some c→c < s2.heap.objs.size:=fun y c hc => by
  obtain ⟨v,q⟩:=I2.cell y c (cl1 y c hc)
  exact q.lt
 have frSub:∀ b ∈ frs X.stack,b < s2.heap.objs.size:=fun b hb => by
  rcases List.mem_cons.mp (I2.stkSub b hb) with z | z
  ·rw [z]; exact I2.lt
  ·by_cases hlt:b < s2.heap.objs.size
   ·exact hlt
   ·exact absurd z (I2.nofs (Nat.le_of_not_lt hlt))
 have ok:(cxC X xs Nb scope cl Hp2.objs.size s2 H2 fp).Ok:=by
  refine ⟨I2.ok.mod,hkind,I2.ok.glob,I2.ok.blt,(by show s2.heap.objs.size ≤ Hp2.objs.size; omega),fun y z c h1 h2 => I2.ok.inj y z c (cl1 y c h1) (cl1 z c h2),fun y hy => ?_,fun y c hf _ => absurd hf (by intro z; cases z),I2.ok.hd,I2.ok.frames,.inl rfl,fun b hb => ⟨?_,fun y c h1 h2 => ?_⟩,I2.bs,Nat.le_trans I2.ok.bsz I2.sz,fun b o e hb => ?_,fun b hb hm => ?_,I2.stack,I2.stkFree⟩
  ·have hy:(scope.names.map fun (n,k) => if (k == NameKind.free && X.env.scope.kind == .function && X.env.kindOf n == some .cell) then (n,NameKind.cell) else (n,k)).lookup y=some .cell ∨ (scope.names.map fun (n,k) => if (k == NameKind.free && X.env.scope.kind == .function && X.env.kindOf n == some .cell) then (n,NameKind.cell) else (n,k)).lookup y=some .free:=hy
   have q:scope.names.lookup y=some .free:=by
    rcases hy with z | z
    ·exact (relabel_kind hcell z (.inl rfl)).1
    ·exact (relabel_kind hcell z (.inr rfl)).1
   exact Option.isSome_iff_exists.mp (cl2 y (PySem.mem_of_lookup q))
  ·exact (below b (fpLt b hb)).1
  ·exact (f2 b hb).2.2.2.2.1 y c (cl1 y c h1) h2
  ·rcases (f2 b hb).2.2.2.1 with z | z
   ·exact I2.ok.noex b o e z
   ·exact absurd (Nat.lt_of_lt_of_le (Heap.lt_size e) (Nat.le_trans I2.ok.bsz z)) (Nat.lt_irrefl _)
  ·rcases List.mem_cons.mp (I2.stkSub b hm) with z | z
   ·exact (f2 b hb).2.1 z
   ·exact (f2 b hb).2.2.1 z
 have fpY:∀ {H' : Hp} {pl:List (Addr × Obj)},(∀ b ∈ fp,H' b=none)→(∀ p ∈ pl,p.1=s2.heap.objs.size)→∀ b ∈ fp,FpOk Y pl H' b:=fun {H' pl} hn hp b hb => by
  rw [← hY]
  refine ⟨hn b hb,(below b (fpLt b hb)).1,fun hm => ?_,.inl hb,fun y c h1 h2 => (f2 b hb).2.2.2.2.1 y c (cl1 y c h1) h2,fun p hm z => ?_⟩
  ·rcases List.mem_cons.mp (I2.stkSub b hm) with z | z
   ·exact (f2 b hb).2.1 z
   ·exact (f2 b hb).2.2.1 z
  ·have hm:p ∈ pl:=hm
   rw [hp p hm] at z
   exact (below b (fpLt b hb)).2 z.symm
 have HD:H2 s2.heap.objs.size=none:=I2.hok.fresh (Nat.le_refl _)
 have HC:H2 Hp2.objs.size=none:=I2.hok.fresh (by omega)
 obtain ⟨m2,hns2,hloc2⟩:=I2.loc
 have IY:∀ tk,Inv (cxC X xs Nb scope cl Hp2.objs.size s2 H2 fp) [] (List.replicate xs.length none ++ σ) H2 { s2 with heap:=h₁,toks:=tk }:=fun tk => by
  refine ⟨ok,rfl,I2.bare,Un.kept old,⟨_,hns₁,fun i y v h1 h2 h3 => ?_⟩,fun y c h1 => ?_,HC,fun y c h1 => I2.freeC y c (cl1 y c h1),fun p hp => absurd (show p ∈ ([]:List (Addr × Obj)) from hp) (by simp),I2.hok.kept old,(by show (List.replicate xs.length (none:Option V) ++ σ).length=(xs ++ Nb).length; rw [List.length_append,List.length_append,List.length_replicate,hlen,I2.len])⟩
  ·have h1:(xs ++ Nb)[i]? = some y:=h1
   by_cases hik:i < xs.length
   ·rw [List.getElem?_append_left (by rw [List.length_replicate]; exact hik),List.getElem?_replicate,if_pos hik] at h2
    cases h2
   ·rw [List.getElem?_append_right (by omega)] at h1
    rw [List.getElem?_append_right (by rw [List.length_replicate]; omega),List.length_replicate] at h2
    generalize i - xs.length=i at h1 h2
    have h3:Vis (relabel scope X.env) y:=h3
    have key:∀ k,(k=NameKind.cell ∨ k=NameKind.free)→(relabel scope X.env).names.lookup y=some k→∃ u,RelV v u∧Look (compEnvC scope cl Hp2.objs.size X.env) h₁ (fun x => ([]:List (Str × Value)).reverse.lookup x) y u:=fun k hk hl => by
     obtain ⟨q1,_⟩:=relabel_kind hcell hl hk
     have q2:=hfree (y,.free) (PySem.mem_of_lookup q1) rfl
     have h1' : X.N[i]? = some y:=by
      have hi' : i < X.N.length:=by rw [← hlen]; exact (List.getElem?_eq_some_iff.mp h1).1
      have hz:(Nb.zip X.N)[i]? = some (y,X.N[i]):=by rw [List.getElem?_zip_eq_some]; exact ⟨h1,List.getElem?_eq_getElem hi'⟩
      rcases hNb _ (List.mem_of_getElem? hz) with z | z
      ·have z:y=X.N[i]:=z
       rw [z]; exact List.getElem?_eq_getElem hi'
      ·have z:scope.names.lookup y=none:=z
       rw [q1] at z; cases z
     obtain ⟨u,r,l⟩:=hloc2 i y v h1' h2 (.inr (.inl q2))
     refine ⟨u,r,.inr ⟨?_,?_⟩⟩
     ·rcases hk with rfl | rfl
      ·exact .inl hl
      ·exact .inr hl
     ·rcases l with ⟨k1,_⟩ | ⟨_,c,e1,z⟩
      ·rw [q2] at k1; cases k1
      ·obtain ⟨c',e2⟩:=Option.isSome_iff_exists.mp (cl2 y (PySem.mem_of_lookup q1))
       have e3:=cl1 y c' e2
       rw [e1] at e3
       cases e3
       obtain ⟨o,ho,hd⟩:=z
       exact ⟨c,e2,o,old c o ho,hd⟩
    rcases h3 with h3 | h3 | h3
    ·
     exfalso
     exact hxN y (List.mem_of_getElem? h1) (relabel_local h3)
    ·exact key _ (.inl rfl) h3
    ·exact key _ (.inr rfl) h3
  ·obtain ⟨v,o,ho,hd⟩:=I2.cell y c (cl1 y c h1)
   exact ⟨v,o,old c o ho,hd⟩
 have noErr:∀ {α:Type} {m:Sem α} {G:α→Shared→Prop} {E' : Value→Shared→Prop} {s' : Shared},wpAny (model X.prog X.w) X.A m G (fun _ _ => False) s'→wpAny (model X.prog X.w) X.A m G E' s':=fun h => wpAny_mono h (fun _ _ q => q) fun _ _ q => q.elim
 have loop:∀ (tk:Nat) (R:Result→Shared→Prop),R=compPost (model X.prog X.w) X.A X.xe use QQ (.ref s2.heap.objs.size) Hp2.objs.size →
   codeAny (model X.prog X.w) X.A (.compLoop (.ListComp elt [⟨tg,iter,ifs,0⟩,⟨tg2,iter2,ifs2,0⟩] scope pos) 0 (.ref it) (.ref s2.heap.objs.size) (compEnvC scope cl Hp2.objs.size X.env)) R { s2 with heap:=h₁,toks:=tk }:=by
  rintro tk R rfl
  refine loop_two0 (fun x => hs2 _ x) (fun n s' => ∃ i σv H' ys its,σv.length=xs.length∧Inv Y [] (σv ++ σ) H' s'∧tn i s'.heap∧(∀ b ∈ fp,H' b=none)∧Vals ys its∧ys.length ≤ sizeLine∧s'.heap.PlainList s2.heap.objs.size its.toArray∧H' s2.heap.objs.size=none∧W i n ys H') ?_ m0
   ⟨0,List.replicate xs.length none,H2,[],[],List.length_replicate,hY ▸ IY tk,T.keep _ _ _ st2 fun b _ o e => old b o e,fun b hb => (f2 b hb).1,.nil,Nat.zero_le _,hacc,HD,w0⟩
  rintro n s3 ⟨i,σv,H3,ys,its,lv,I3,st3,fr3,rv,hz,⟨nn,pl3⟩,HD3,w3⟩
  have I3p:Inv Y [(s2.heap.objs.size,{ cls:=.type "list",data:=.seq its.toArray nn })] (σv ++ σ) H3 s3:=I3.pins_of fun p hp => by
   rw [List.mem_singleton] at hp
   subst hp
   refine ⟨pl3,HD3,?_,fun hm => ?_,fun v z => by cases z⟩
   ·rw [← hY]; exact hDC
   ·rw [← hY] at hm
    exact absurd (frSub _ hm) (Nat.lt_irrefl _)
  have pinD:∀ p ∈ [((s2.heap.objs.size:Addr),({ cls:=.type "list",data:=.seq its.toArray nn } : Obj))],p.1=s2.heap.objs.size:=fun p hp => by
   rw [List.mem_singleton] at hp
   rw [hp]
  subst hY
  rcases turn i n ys H3 w3 with ⟨stop,qn⟩ | ⟨go,NN,hNN,step⟩
  ·refine noErr (thn (T.done (cxC X xs Nb scope cl Hp2.objs.size s2 H2 fp) rfl rfl rfl hc i _ s3 _ H3 (fun _ _ => False) I3p (fpY fr3 pinD) st3 stop) fun r s4 ⟨hr,I4⟩ => ?_)
   subst hr
   obtain ⟨m4,hns4,_⟩:=I4.loc
   refine post s2 s4 H2 (upd H3 s2.heap.objs.size (.lst ys)) Hp2.objs.size s2.heap.objs.size m4 I2 (by omega) hns4 (by rw [upd_ne (Ne.symm hDC)]; exact I4.free) (fun h' sb => ?_) (qn _ HD3)
   have pl4:=(I4.pin _ (List.mem_append_right _ List.mem_cons_self)).1
   have up:∀ b o,b ≠ Hp2.objs.size→s4.heap.get? b=some o→h'.get? b=some o:=fun b o hb e => sb.extBut b o hb e
   have base:=I4.base
   have HC4:H3 Hp2.objs.size=none:=I4.free
   have neC:∀ b o,s2.heap.get? b=some o→b ≠ Hp2.objs.size:=fun b o e => (below b (Heap.lt_size e)).1
   have neD:∀ b o,s2.heap.get? b=some o→b ≠ s2.heap.objs.size:=fun b o e => (below b (Heap.lt_size e)).2
   have hokN:HOk X.prog X.w (upd H3 s2.heap.objs.size (.lst ys)) h':=fun b u e => by
    by_cases hb:b=s2.heap.objs.size
    ·subst hb
     rw [upd_same] at e
     cases e
     exact ⟨hz,its,nn,rv,up _ _ hDC pl4⟩
    ·rw [upd_ne hb] at e
     refine (I4.hok b u e).stay (fun c v hc q => up c v ?_ q) (fun c q => by rw [upd_ne (ne_of_none q HD3)]; exact q) fun c xs q => by rw [upd_ne (ne_of_none q HD3)]; exact q
     rcases hc with z | z
     ·rw [z]; exact ne_of_none e HC4
     ·exact ne_of_none z HC4
   refine I2.call' (s':={ s4 with heap:=h' }) (ch:=fp) I4.os ⟨fun b o e n hb hx' => up b o (neC b o e) (base.keep b o e n hb hx'),fun b o e n hb hx' => ?_,fun b o e n hx' => ?_,fun b o e hx' => ?_,fun b xs e => ?_,fun b o u e => ?_,fun b ps e => ?_⟩ hokN I4.bare (fun b hb => ?_)
   ·obtain ⟨sl,q⟩:=base.slot b o e n hb hx'
    exact ⟨sl,up b _ (neC b o e) q⟩
   ·rw [upd_ne (neD b o e)]
    exact base.free b o e n hx'
   ·obtain ⟨o',q⟩:=base.there b o e hx'
    exact ⟨o',up b o' (neC b o e) q⟩
   ·have q:=base.tups b xs e
    rw [upd_ne (ne_of_none q HD3)]; exact q
   ·have q:=base.frzs b o u e
    rw [upd_ne (ne_of_none q HD3)]; exact q
   ·obtain ⟨more,q⟩:=base.tbls b ps e
    exact ⟨more,by rw [upd_ne (ne_of_none q HD3)]; exact q⟩
   ·obtain ⟨_,g1,_,g3,g4,g5⟩:=f2 b hb
    exact ⟨g3,g1,g4,g5⟩
  ·refine noErr (thn (T.item (cxC X xs Nb scope cl Hp2.objs.size s2 H2 fp) rfl rfl rfl hc i _ s3 _ H3 (fun _ _ => False) I3p (fpY fr3 pinD) st3 go) fun r s4 ⟨u,hr,h4⟩ => ?_)
   subst hr
   refine noErr (thn h4 fun _ s5 ⟨v,H5,I5,r5,y5,st5,fr5⟩ => ?_)
   have I5':=I5.pinned (fpY fr5 pinD) (T.obj _ _ st5)
   have stp:=step v H5 σv lv y5
   refine noErr (thn (hg cl Hp2.objs.size s2 H2 fp _ s5 _ H5 v u _ I5' r5 stp) fun _ s6 ⟨σ6,H6,I6,⟨pre',e6,l6⟩,stp⟩ => ?_)
   subst e6
   generalize hpo:pinsAt fp s5.heap=po at I5' I6
   have poA:∀ p ∈ po,p.1 ∈ fp:=fun p hp => by rw [← hpo] at hp; exact (of_pinsAt hp).1
   have poD:∀ p ∈ po,p.1 ≠ s2.heap.objs.size:=fun p hp => (below _ (fpLt _ (poA p hp))).2
   have again:∀ {s7:Shared} {H7:Hp} {pre7:St} {zs:List V} {ws:List Value} {m' : Nat},pre7.length=xs.length→Inv (cxC X xs Nb scope cl Hp2.objs.size s2 H2 fp) po (pre7 ++ σ) H7 s7→s7.heap.PlainList s2.heap.objs.size ws.toArray→H7 s2.heap.objs.size=none→Vals zs ws→zs.length ≤ sizeLine→m' < n→W (i + 1) m' zs H7 →
     ∃ m,m < n∧∃ i σv H' ys its,σv.length=xs.length∧Inv (cxC X xs Nb scope cl Hp2.objs.size s2 H2 fp) [] (σv ++ σ) H' s7∧tn i s7.heap∧(∀ b ∈ fp,H' b=none)∧Vals ys its∧ys.length ≤ sizeLine∧s7.heap.PlainList s2.heap.objs.size its.toArray∧H' s2.heap.objs.size=none∧W i m ys H':=by
    intro s7 H7 pre7 zs ws m' l7 I7 plw HD7 rz hzz hm w7
    have fr7:∀ b ∈ fp,H7 b=none:=fun b hb => by
     obtain ⟨o,e,d⟩:=T.obj _ _ st5 b hb
     exact (I7.pin (b,o) (List.mem_append_right _ (by rw [← hpo]; exact mem_pinsAt hb e))).2.1
    refine ⟨m',hm,i + 1,pre7,H7,zs,ws,l7,I7.pins_of fun p hp => absurd hp (by simp),?_,fr7,rz,hzz,plw,HD7,w7⟩
    refine T.keep _ _ _ st5 fun b hb o e => ?_
    exact (I7.pin (b,o) (List.mem_append_right _ (by rw [← hpo]; exact mem_pinsAt hb e))).1
   refine noErr (thn (ht cl Hp2.objs.size s2 H2 fp _ s6 _ H6 _ I6 stp) fun okb s7 ⟨H7,I7,q7⟩ => ?_)
   have pl7:=(I7.pin _ (List.mem_append_right _ (List.mem_append_left _ List.mem_cons_self)))
   have I7o:Inv (cxC X xs Nb scope cl Hp2.objs.size s2 H2 fp) po (pre' ++ σ) H7 s7:=I7.pins_of fun p hp => I7.pin p (List.mem_append_right _ (List.mem_append_right _ hp))
   cases okb with
   | false =>
    rw [if_neg Bool.false_ne_true] at q7 ⊢
    obtain ⟨m',hm,w7⟩:=hNN _ _ q7
    exact again l6 I7o ⟨nn,pl7.1⟩ pl7.2.1 rv hz hm w7
   | true =>
    rw [if_pos rfl] at q7 ⊢
    refine noErr (thn (hi2 cl Hp2.objs.size s2 H2 fp _ s7 _ H7 _ I7 q7) fun x s8 h8 => noErr (thn h8 fun itv s9 h9 => ?_))
    obtain ⟨it2,fp2,tn2,J2,H9,e9,I9,T2,st9,f9,W2,⟨m2,w2⟩,turn2⟩:=h9
    subst e9
    have pl9:=(I9.pin _ (List.mem_append_right _ (List.mem_append_left _ List.mem_cons_self)))
    have I9o:Inv (cxC X xs Nb scope cl Hp2.objs.size s2 H2 fp) po (pre' ++ σ) H9 s9:=I9.pins_of fun p hp => I9.pin p (List.mem_append_right _ (List.mem_append_right _ hp))
    have fp2D:∀ b ∈ fp2,b ≠ s2.heap.objs.size:=fun b hb z => (f9 b hb).2.2.2.2.2 _ (List.mem_append_right _ (List.mem_append_left _ List.mem_cons_self)) z.symm
    have inner:codeAny (model X.prog X.w) X.A (.compLoop (e2 elt tg iter ifs tg2 iter2 ifs2 scope pos) 1 (.ref it2) (.ref s2.heap.objs.size) (compEnvC scope cl Hp2.objs.size X.env)) (fun r s' => match r with | .ok _ => ∃ m,m < n∧∃ i σv H' ys its,σv.length=xs.length∧Inv (cxC X xs Nb scope cl Hp2.objs.size s2 H2 fp) [] (σv ++ σ) H' s'∧tn i s'.heap∧(∀ b ∈ fp,H' b=none)∧Vals ys its∧ys.length ≤ sizeLine∧s'.heap.PlainList s2.heap.objs.size its.toArray∧H' s2.heap.objs.size=none∧W i m ys H' | .error _ => False) s9:=by
     refine loop_two1 rfl (fun n' s' => ∃ (j:Nat) (pv:St) (H' : Hp) (zs:List V) (ws:List Value),pv.length=xs.length∧Inv (cxC X xs Nb scope cl Hp2.objs.size s2 H2 fp) po (pv ++ σ) H' s'∧tn2 j s'.heap∧(∀ b ∈ fp2,H' b=none)∧Vals zs ws∧zs.length ≤ sizeLine∧s'.heap.PlainList s2.heap.objs.size ws.toArray∧H' s2.heap.objs.size=none∧W2 j n' zs (pv ++ σ) H') ?_ m2 ⟨0,pre',H9,ys,its,l6,I9o,st9,fun b hb => (f9 b hb).1,rv,hz,⟨nn,pl9.1⟩,pl9.2.1,w2⟩
     rintro n' t0 ⟨j,pv,K0,zs,ws,lpv,J0,tst,tfr,rz,hzz,⟨nz,plz⟩,KD,ww⟩
     have J0p:Inv (cxC X xs Nb scope cl Hp2.objs.size s2 H2 fp) ([((s2.heap.objs.size:Addr),({ cls:=.type "list",data:=.seq ws.toArray nz } : Obj))] ++ po) (pv ++ σ) K0 t0:=J0.pins_of fun p hp => by
      rcases List.mem_append.mp hp with hp | hp
      ·rw [List.mem_singleton] at hp
       subst hp
       exact ⟨plz,KD,hDC,fun hm => absurd (frSub _ hm) (Nat.lt_irrefl _),fun v z => by cases z⟩
      ·exact J0.pin p (List.mem_append_right _ hp)
     have fpI:∀ {K' : Hp},(∀ b ∈ fp2,K' b=none)→∀ b ∈ fp2,FpOk (cxC X xs Nb scope cl Hp2.objs.size s2 H2 fp) ([((s2.heap.objs.size:Addr),({ cls:=.type "list",data:=.seq ws.toArray nz } : Obj))] ++ po) K' b:=fun {K'} hn b hb => by
      obtain ⟨_,a1,a2,a3,a4,a5⟩:=f9 b hb
      refine ⟨hn b hb,a1,a2,a3,a4,fun p hp => ?_⟩
      have hp:p ∈ [((s2.heap.objs.size:Addr),({ cls:=.type "list",data:=.seq ws.toArray nz } : Obj))] ++ po:=hp
      rcases List.mem_append.mp hp with hp | hp
      ·rw [List.mem_singleton] at hp
       subst hp
       exact fun z => fp2D b hb z.symm
      ·exact a5 p (List.mem_append_right _ (List.mem_append_right _ hp))
     rcases turn2 j n' zs _ K0 ww with ⟨stop2,qn2⟩ | ⟨go2,hlt2,N2,hN2,step2⟩
     ·refine noErr (thn (T2.done (cxC X xs Nb scope cl Hp2.objs.size s2 H2 fp) rfl rfl rfl hc j _ t0 _ K0 (fun _ _ => False) J0p (fpI tfr) tst stop2) fun r t1 ⟨hr,J1⟩ => ?_)
      subst hr
      obtain ⟨m',hm,w7⟩:=hNN _ _ qn2
      have p1:=J1.pin _ (List.mem_append_right _ (List.mem_append_left _ List.mem_cons_self))
      exact again lpv (J1.pins_of fun p hp => J1.pin p (List.mem_append_right _ (List.mem_append_right _ hp))) ⟨nz,p1.1⟩ p1.2.1 rz hzz hm w7
     ·refine noErr (thn (T2.item (cxC X xs Nb scope cl Hp2.objs.size s2 H2 fp) rfl rfl rfl hc j _ t0 _ K0 (fun _ _ => False) J0p (fpI tfr) tst go2) fun r t1 ⟨u2,hr,h4⟩ => ?_)
      subst hr
      refine noErr (thn h4 fun _ t2 ⟨v2,K2,J2',r2,y2,ts2,tf2⟩ => ?_)
      have J2p:=J2'.pinned (fpI tf2) (T2.obj _ _ ts2)
      have stp2:=step2 v2 K2 y2
      refine noErr (thn (hg2 cl Hp2.objs.size s2 H2 fp _ t2 _ K2 v2 u2 _ J2p r2 stp2) fun _ t3 ⟨σ7,K3,J3,⟨pv',e7,l7⟩,stp2⟩ => ?_)
      subst e7
      have again2:∀ {t7 t8:Shared} {K7:Hp} {zs' : List V} {ws' : List Value} {m' : Nat},Inv (cxC X xs Nb scope cl Hp2.objs.size s2 H2 fp) (([((s2.heap.objs.size:Addr),({ cls:=.type "list",data:=.seq ws.toArray nz } : Obj))] ++ po) ++ pinsAt fp2 t2.heap) (pv' ++ σ) K7 t7 →
        (∃ h',t8 = { t7 with heap:=h' }∧(∀ b o,b ≠ s2.heap.objs.size→t7.heap.get? b=some o→h'.get? b=some o)∧h'.PlainList s2.heap.objs.size ws'.toArray)→Vals zs' ws'→zs'.length ≤ sizeLine→m' < n'→W2 (j + 1) m' zs' (pv' ++ σ) K7 →
        ∃ m,m < n'∧∃ (j:Nat) (pv:St) (H' : Hp) (zs:List V) (ws:List Value),pv.length=xs.length∧Inv (cxC X xs Nb scope cl Hp2.objs.size s2 H2 fp) po (pv ++ σ) H' t8∧tn2 j t8.heap∧(∀ b ∈ fp2,H' b=none)∧Vals zs ws∧zs.length ≤ sizeLine∧t8.heap.PlainList s2.heap.objs.size ws.toArray∧H' s2.heap.objs.size=none∧W2 j m zs (pv ++ σ) H':=by
       rintro t7 t8 K7 zs' ws' m' J7 ⟨h',rfl,up,plw⟩ rz' hzz' hm w7
       have KD7:K7 s2.heap.objs.size=none:=(J7.pin _ (List.mem_append_right _ (List.mem_append_left _ (List.mem_append_left _ List.mem_cons_self)))).2.1
       have p2:∀ b ∈ fp2,∃ o,t2.heap.get? b=some o∧t7.heap.get? b=some o∧K7 b=none:=fun b hb => by
        obtain ⟨o,e,d⟩:=T2.obj _ _ ts2 b hb
        have:=J7.pin (b,o) (List.mem_append_right _ (List.mem_append_right _ (mem_pinsAt hb e)))
        exact ⟨o,e,this.1,this.2.1⟩
       have J7' : Inv (cxC X xs Nb scope cl Hp2.objs.size s2 H2 fp) po (pv' ++ σ) K7 t7:=J7.pins_of fun p hp => J7.pin p (List.mem_append_right _ (List.mem_append_left _ (List.mem_append_right _ hp)))
       refine ⟨m',hm,j + 1,pv',K7,zs',ws',l7,?_,?_,fun b hb => (p2 b hb).choose_spec.2.2,rz',hzz',plw,KD7,w7⟩
       ·have:=J7'.turned (it:=s2.heap.objs.size) (h':=h') (t':=t7.toks) up KD7 hDC (.inr (Nat.le_refl _)) (fun y c h1 h2 => absurd (cellLt y c h1) (by rw [h2]; exact Nat.lt_irrefl _)) (fun p hp => poD p hp)
        exact this
       ·refine T2.keep _ _ _ ts2 fun b hb o e => up b o (fp2D b hb) ?_
        obtain ⟨o',e1,e2,_⟩:=p2 b hb
        rw [e] at e1
        cases e1
        exact e2
      refine noErr (thn (ht2 cl Hp2.objs.size s2 H2 fp _ t3 _ K3 _ J3 stp2) fun okb t7 ⟨K7,J7,q7⟩ => ?_)
      have pl7:=(J7.pin _ (List.mem_append_right _ (List.mem_append_left _ (List.mem_append_left _ List.mem_cons_self)))).1
      cases okb with
      | false =>
       rw [if_neg Bool.false_ne_true] at q7 ⊢
       obtain ⟨m',hm,w7⟩:=hN2 _ _ _ q7
       exact again2 J7 ⟨t7.heap,rfl,fun _ _ _ e => e,nz,pl7⟩ rz hzz hm w7
      | true =>
       rw [if_pos rfl] at q7 ⊢
       refine noErr (thn (he cl Hp2.objs.size s2 H2 fp _ t7 _ K7 _ J7 q7) fun w' t8 ⟨y,K8,J8,r8,q8⟩ => ?_)
       obtain ⟨m',hm,w8⟩:=hN2 _ _ _ q8
       have pl8:=(J8.pin _ (List.mem_append_right _ (List.mem_append_left _ (List.mem_append_left _ List.mem_cons_self)))).1
       refine wpAny_list_append_plain (hsz:=by have:=rz.length; simp only [List.size_toArray]; omega) ⟨nz,pl8⟩ fun h9 pl9 sb9 => ?_
       refine again2 J8 ⟨h9,rfl,fun b o hb e => sb9.extBut b o hb e,?_⟩ (rz.append (.cons r8 .nil)) (by rw [List.length_append,List.length_singleton]; omega) hm w8
       have e9:ws.toArray.push w' = (ws ++ [w']).toArray:=by simp
       rw [← e9]
       exact pl9
    exact start_two1 inner (T2.self _ 0 _ _ _ st9 inner)
 refine codeAny_compStart_list (loop _ _ rfl) (noErr (T.self _ 0 _ _ _ (T.keep _ _ _ st2 fun b _ o e => old b o e) (loop _ _ rfl)))
theorem pe_comp2 {elt iter tg iter2 tg2:Expr} {xs Nb:List Str} {ifs ifs2:List Expr} {scope:Scope} {pos:PySem.Pos} {wi wi2:TI} {g g2:TG} {tt tt2:TT} {te:TE}
  (hc:X.calm=true) (hi:PI X tg iter wi) (hlen:Nb.length=X.N.length) (hNb:∀ p ∈ Nb.zip X.N,p.1=p.2 ∨ scope.names.lookup p.1=none) (hxN:∀ y ∈ Nb,scope.names.lookup y ≠ some .local)
  (hg:InB X xs Nb scope fun Y => PG Y tg g) (ht:InB X xs Nb scope fun Y => PIf Y ifs tt) (hi2:InB X xs Nb scope fun Y => PI Y tg2 iter2 wi2) (hg2:InB X xs Nb scope fun Y => PG Y tg2 g2) (ht2:InB X xs Nb scope fun Y => PIf Y ifs2 tt2) (he:InB X xs Nb scope fun Y => PE Y elt te)
  (hcell:∀ y ∈ scope.names,y.2 ≠ .cell) (hkind:scope.kind = .function) (hnames:∀ y ∈ scope.names,y.2 = .local→scope.names.lookup y.1=some .local)
  (hfree:∀ y ∈ scope.names,y.2 = .free→X.env.kindOf y.1=some .cell)
  (hs:∀ x,foldedSetIterable iter X.env x=pure x:=by intro _; rfl) (hs2:∀ env x,foldedSetIterable iter2 env x=pure x:=by intro _ _; rfl) :
  PE X (.ListComp elt [⟨tg,iter,ifs,0⟩,⟨tg2,iter2,ifs2,0⟩] scope pos) (tComp2 xs.length wi g tt wi2 g2 tt2 te):=by
 intro pins s σ H Q I h
 rw [eval_ListComp]
 exact comp_core2 (use:=none) (QQ:=EP X pins σ Q) hc hi hlen hNb hxN hg ht hi2 hg2 ht2 hs2 he hcell hkind hnames hfree hs I h fun s2 s4 H2 H4 C D m4 _ _ hn _ IX q => ⟨m4,hn,fun h' sb => ⟨.ref D,H4,IX h' sb,rfl,q⟩⟩
theorem comp2LT {K:PySem.W.Frag} {k:Nat} {a:Addr} {xs:List V} {g:TG} {tt:TT} {wi2:TI} {g2:TG} {tt2:TT} {te:TE} {Q:VK} {σ:St} {H:Hp} (Pv:Nat→List V→Hp→Prop) (h0:Pv 0 [] H) (hl:∀ i ys H,i ≤ xs.length→Pv i ys H→SqL K H a xs)
  (hs:∀ i x ys H (pre:St),pre.length=k→xs[i]? = some x→Pv i ys H→g x (pre ++ σ) H fun σ' H2 => (∃ pre' : St,σ' = pre' ++ σ∧pre'.length=k)∧tt σ' H2 fun ok H3 => if ok=true then wi2 σ' H3 fun J2 H4 => CGi k J2 g2 tt2 te (Pv (i + 1)) σ ys σ' H4 else Pv (i + 1) ys H3)
  (hd:∀ ys H,Pv xs.length ys H→∀ D,H D=none→Q (.ref D) (upd H D (.lst ys))):CGo2 k (Itl K a) g tt wi2 g2 tt2 te Q σ H:=by
 refine ⟨fun i m ys H => m=xs.length - i∧i ≤ xs.length∧Pv i ys H,⟨xs.length,by simp,Nat.zero_le _,h0⟩,?_⟩
 rintro i m ys H ⟨rfl,hi,p⟩
 have q:=hl i ys H hi p
 by_cases hlt:i < xs.length
 ·refine .inr ⟨⟨xs,xs[i],q,by simp [hlt]⟩,Pv (i + 1),fun zs H' p' => ⟨xs.length - (i + 1),by omega,rfl,hlt,p'⟩,fun x H' pre hp y => ?_⟩
  obtain ⟨e,y⟩:=y
  subst e
  exact hs i x ys _ pre hp (y xs q) p
 ·have e:i=xs.length:=by omega
  subst e
  exact .inl ⟨⟨xs,q,Nat.le_refl _⟩,hd ys H p⟩
theorem compIT {K:PySem.W.Frag} {k:Nat} {a:Addr} {xs:List V} {g:TG} {tt:TT} {te:TE} {N:List V→Hp→Prop} {σ σ1:St} {ys:List V} {H:Hp} (Pv:Nat→List V→St→Hp→Prop) (h0:Pv 0 ys σ1 H) (hz:∀ i ys σ' H,Pv i ys σ' H→ys.length ≤ 1000) (hl:∀ i ys σ' H,i ≤ xs.length→Pv i ys σ' H→SqT K H a xs)
  (hs:∀ i x ys σ' H,xs[i]? = some x→Pv i ys σ' H→g x σ' H fun σ2 H2 => (∃ pre' : St,σ2=pre' ++ σ∧pre'.length=k)∧tt σ2 H2 fun ok H3 => if ok=true then te σ2 H3 fun y H4 => Pv (i + 1) (ys ++ [y]) σ2 H4 else Pv (i + 1) ys σ2 H3) (hd:∀ ys σ' H,Pv xs.length ys σ' H→N ys H):CGi k (Itt K a) g tt te N σ ys σ1 H:=by
 refine ⟨fun i m ys σ' H => m=xs.length - i∧i ≤ xs.length∧Pv i ys σ' H,⟨xs.length,by simp,Nat.zero_le _,h0⟩,?_⟩
 rintro i m ys σ' H ⟨rfl,hi,p⟩
 have q:=hl i ys σ' H hi p
 by_cases hlt:i < xs.length
 ·refine .inr ⟨⟨xs,xs[i],q,by simp [hlt]⟩,Nat.lt_of_le_of_lt (hz i ys σ' H p) (by decide),Pv (i + 1),fun zs σ2 H' p' => ⟨xs.length - (i + 1),by omega,rfl,hlt,p'⟩,fun x H' y => ?_⟩
  obtain ⟨e,y⟩:=y
  subst e
  exact hs i x ys σ' _ (y xs q) p
 ·have e:i=xs.length:=by omega
  subst e
  exact .inl ⟨⟨xs,q,Nat.le_refl _⟩,hd ys σ' H p⟩
end
end L2
set_option maxHeartbeats 1000000
namespace L2
open PySem PySem.Spec PyProof.Rows
structure TB (t:SetTable) (led:Bool):Prop where
 led:t.led=led
 dum:t.dummies = #[]
 up:t.place.toList.Pairwise (· < ·)
theorem below_go {xs:Array Nat} (h:xs.toList.Pairwise (· < ·)) (j:Nat):∀ (fuel lo hi:Nat),hi ≤ xs.size→lo ≤ hi→hi - lo ≤ fuel→(∀ i,i < lo→xs.getD i 0 < j)→(∀ i,hi ≤ i→i < xs.size→j ≤ xs.getD i 0) →
  SetTable.below.go xs j fuel lo hi ≤ xs.size∧(∀ i,i < SetTable.below.go xs j fuel lo hi→xs.getD i 0 < j)∧(∀ i,SetTable.below.go xs j fuel lo hi ≤ i→i < xs.size→j ≤ xs.getD i 0):=by
 have inc:∀ a b,a ≤ b→b < xs.size→xs.getD a 0 ≤ xs.getD b 0:=fun a b hab hb => by
  rcases Nat.lt_or_eq_of_le hab with z | z
  ·have:=List.pairwise_iff_getElem.mp h a b (by simpa using Nat.lt_trans z hb) (by simpa using hb) z
   simp only [Array.getElem_toList] at this
   rw [Array.getD_eq_getD_getElem?,Array.getD_eq_getD_getElem?,Array.getElem?_eq_getElem (Nat.lt_trans z hb),Array.getElem?_eq_getElem hb]
   exact Nat.le_of_lt this
  ·rw [z]; exact Nat.le_refl _
 intro fuel
 induction fuel with
 | zero =>
  intro lo hi h1 h2 h3 h4 h5
  have e:lo=hi:=by omega
  subst e
  exact ⟨h1,h4,h5⟩
 | succ fuel ih =>
  intro lo hi h1 h2 h3 h4 h5
  unfold SetTable.below.go
  by_cases hlt:lo < hi
  ·rw [if_pos hlt]
   have hm:(lo + hi) / 2 < hi:=by omega
   have hm0:lo ≤ (lo + hi) / 2:=by omega
   have hms:(lo + hi) / 2 < xs.size:=by omega
   have eg:xs.getD ((lo + hi) / 2) j=xs.getD ((lo + hi) / 2) 0:=by
    rw [Array.getD_eq_getD_getElem?,Array.getD_eq_getD_getElem?,Array.getElem?_eq_getElem hms]; rfl
   dsimp only
   rw [eg]
   by_cases hc:xs.getD ((lo + hi) / 2) 0 < j
   ·rw [if_pos hc]
    refine ih _ _ h1 (by omega) (by omega) (fun i hi' => ?_) h5
    exact Nat.lt_of_le_of_lt (inc i _ (by omega) hms) hc
   ·rw [if_neg hc]
    refine ih _ _ (by omega) (by omega) (by omega) h4 (fun i hi' hs => ?_)
    exact Nat.le_trans (Nat.not_lt.mp hc) (inc _ i hi' hs)
  ·rw [if_neg hlt]
   have e:lo=hi:=by omega
   subst e
   exact ⟨h1,h4,h5⟩
theorem below_ok {xs:Array Nat} (h:xs.toList.Pairwise (· < ·)) (j:Nat):SetTable.below xs j ≤ xs.size∧(∀ i,i < SetTable.below xs j→xs.getD i 0 < j)∧(∀ i,SetTable.below xs j ≤ i→i < xs.size→j ≤ xs.getD i 0) :=
 below_go h j xs.size 0 xs.size (Nat.le_refl _) (Nat.zero_le _) (Nat.le_refl _) (fun i hi => by omega) (fun i h1 h2 => by omega)
theorem below_next {xs:Array Nat} (h:xs.toList.Pairwise (· < ·)) {i:Nat} (hi:i ≤ xs.size) {s:Nat} (hs:s=if i=0 then 0 else xs.getD (i - 1) 0 + 1):SetTable.below xs s=i:=by
 obtain ⟨b1,b2,b3⟩:=below_ok h s
 have lt:∀ a b,a < b→b < xs.size→xs.getD a 0 < xs.getD b 0:=fun a b hab hb => by
  have:=List.pairwise_iff_getElem.mp h a b (by simpa using Nat.lt_trans hab hb) (by simpa using hb) hab
  simp only [Array.getElem_toList] at this
  rw [Array.getD_eq_getD_getElem?,Array.getD_eq_getD_getElem?,Array.getElem?_eq_getElem (Nat.lt_trans hab hb),Array.getElem?_eq_getElem hb]
  exact this
 rcases Nat.lt_trichotomy (SetTable.below xs s) i with z | z | z
 ·exfalso
  have i0:i ≠ 0:=by omega
  rw [if_neg i0] at hs
  have h1:=b3 (i - 1) (by omega) (by omega)
  omega
 ·exact z
 ·exfalso
  have h1:=b2 i z
  by_cases i0:i=0
  ·rw [if_pos i0] at hs; omega
  ·rw [if_neg i0] at hs
   have h2:=lt (i - 1) i (by omega) (by omega)
   omega
theorem put_tb {t:SetTable} {led:Bool} (h:TB t led) {j:Nat} (he:t.slot j = .empty):TB (t.put j).1 led:=by
 have hd:SetTable.has t.dummies j=false:=by rw [h.dum]; rfl
 refine ⟨h.led,?_,?_⟩
 ·show (if SetTable.has t.dummies j=true then _ else t.dummies) = #[]
  rw [hd]
  exact h.dum
 ·show (SetTable.insertAt t.place (SetTable.below t.place j) j).toList.Pairwise (· < ·)
  rw [SetTable.toList_insertAt]
  obtain ⟨b1,b2,b3⟩:=below_ok h.up j
  have hne:t.place[SetTable.below t.place j]? ≠ some j:=fun z => by
   unfold SetTable.slot at he
   dsimp only at he
   rw [z] at he
   simp at he
  rw [List.pairwise_append]
  refine ⟨h.up.sublist (List.take_sublist _ _),?_,?_⟩
  ·rw [List.pairwise_cons]
   refine ⟨fun b hb => ?_,h.up.sublist (List.drop_sublist _ _)⟩
   obtain ⟨i,hi⟩:=List.mem_iff_getElem?.mp hb
   rw [List.getElem?_drop,Array.getElem?_toList] at hi
   obtain ⟨hlt,hg⟩:=Array.getElem?_eq_some_iff.mp hi
   have h1:=b3 _ (Nat.le_add_right _ i) hlt
   rw [Array.getD_eq_getD_getElem?,hi] at h1
   rcases Nat.lt_or_eq_of_le h1 with z | z
   ·exact z
   ·exfalso
    have z:j=b:=z
    cases i with
    | zero => exact hne (by rw [← z] at hi; simpa using hi)
    | succ i =>
     have hlt0:SetTable.below t.place j < t.place.size:=by omega
     have h2:=b3 _ (Nat.le_refl _) hlt0
     have h3:=List.pairwise_iff_getElem.mp h.up (SetTable.below t.place j) (SetTable.below t.place j + (i + 1)) (by simpa using hlt0) (by simpa using hlt) (by omega)
     simp only [Array.getElem_toList] at h3
     rw [Array.getD_eq_getD_getElem?,Array.getElem?_eq_getElem hlt0] at h2
     have h2:j ≤ t.place[SetTable.below t.place j]:=h2
     omega
  ·intro a ha b hb
   have haj:a < j:=by
    obtain ⟨i,hi⟩:=List.mem_iff_getElem?.mp ha
    rw [List.getElem?_take] at hi
    split at hi
    ·rename_i hir
     rw [Array.getElem?_toList] at hi
     have:=b2 i hir
     rw [Array.getD_eq_getD_getElem?,hi] at this
     exact this
    ·cases hi
   rcases List.mem_cons.mp hb with rfl | hb
   ·exact haj
   ·obtain ⟨i,hi⟩:=List.mem_iff_getElem?.mp hb
    rw [List.getElem?_drop,Array.getElem?_toList] at hi
    obtain ⟨hlt,hg⟩:=Array.getElem?_eq_some_iff.mp hi
    have h1:=b3 _ (Nat.le_add_right _ i) hlt
    rw [Array.getD_eq_getD_getElem?,hi] at h1
    exact Nat.lt_of_lt_of_le haj h1
theorem filter_fst {α β:Type} (f:α→Option β):∀ l:List α,((l.filterMap fun j => (f j).map (j,·)).map (·.1))=l.filter fun j => (f j).isSome
 | [] => rfl
 | a :: l => by
  cases h:f a with
  | none => simp [h,filter_fst f l]
  | some b => simp [h,filter_fst f l]
end L2
set_option maxHeartbeats 2000000
namespace L2
open PySem PySem.Spec PyProof.Rows
section
variable {prog:Program} {w:World} {A:Around} {E:Value→Shared→Prop} {s:Shared}
theorem stored_at {h:Heap} {a:Addr} {o:Obj} {es:Array (Int × Value)} {ep:Nat} {t:SetTable} (ho:h.get? a=some o) (hd:o.data = .set es ep t) (es' : Array (Int × Value)) (t' : SetTable) :
  (h.update a (Obj.putSet es' t')).get? a=some { o with data:=.set es' (ep + 1) t' }:=by
 have z:=Heap.get?_update_self (Obj.putSet es' t') ho (by rw [putSet_of es' t' hd]; rfl)
 rw [putSet_of es' t' hd] at z
 exact z
end
end L2
set_option maxHeartbeats 4000000
namespace L2
open PySem PySem.Spec PyProof.Rows
def ddStep (acc:List Int) (k:Int):List Int:=if k ∈ acc then acc else acc ++ [k]
def dd (ns:List Int):List Int:=ns.foldl ddStep []
section
variable {prog:Program} {w:World} {A:Around} {E:Value→Shared→Prop} {s:Shared}
theorem set_new_j (a:Value) {Q1:Value→Shared→Prop} (h:Q1 (.ref s.heap.objs.size) { s with heap:=s.heap.push { cls:=.type "set",dict:=none,data:=.set #[] 0 (.fresh 0 0 (!w.params.followText "set-order")) } }) :
  codeAny (model prog w) A (.call (.builtin "set.__new__") ⟨[.type "set",a],[]⟩) (wants Q1 E) s:=by
 refine codeAny_of_tree ?_
 show wpAny _ A.in1 (do checkBuiltinCall "set.__new__" ⟨[.type "set",a],[]⟩; again (.builtin "set.__new__" ⟨[.type "set",a],[]⟩)) _ _ s
 refine wpAny_bind (wpAny_of_eq (PySem.F.newCall_set_1 a) (wpAny_pure ⟨plainId_quiet PySem.F.plain_set_new _,codeAny_builtin PySem.F.entry_set_new ?_⟩))
 rw [Around.under_plainId PySem.F.plain_set_new _]
 unfold Builtin.«set.__new__» Builtin.Frozenset.newClass
 have hsub:=sub_set_self
 obtain ⟨hp,g,d,tk,os⟩:=s
 dsimp only
 wp_walk
 refine wpAny_askSetting (wpAny_pure ?_)
 dsimp only
 simp only [newObj]
 exact wpAny_bind (wpAny_alloc (wpAny_pure (wpAny_pure h)))
end
end L2
namespace L2
open PySem PySem.Spec PyProof.Rows
theorem sti_owner:Manifest.owners.lookup (String.ofList ['r','o','t','a','r','e','t','i','_','t','e','s'].reverse)=some Manifest.sig_set_iterator:=by kernel_rfl
theorem sti_next:Slot "set_iterator" "__next__" "set_iterator.__next__" := .of (owner := "set_iterator") (n := "__next__") (by rw [typeLookup_type,builtinLookup_eq_fast]; kernel_rfl) (by decide +kernel) (by decide +kernel) (by decide +kernel) (by first | exact .inl (by decide +kernel) | exact .inr (by decide +kernel)) (by rw [isSubtype_type]; kernel_rfl)
theorem sti_entry:entryFor table "set_iterator.__next__" = some Builtin.«set_iterator.__next__»:=entryFor_of_tree (by kernel_rfl)
theorem sti_args (a:Value):argsOk "set_iterator.__next__" ⟨[a],[]⟩:=by
 unfold argsOk
 rw [signature?_of (id := "set_iterator.__next__") (n:=['_','_','t','x','e','n','_','_']) (o:=['r','o','t','a','r','e','t','i','_','t','e','s']) (by kernel_rfl) sti_owner]
 kernel_rfl
theorem sti_iter:Slot "set_iterator" "__iter__" "set_iterator.__iter__" := .of (owner := "set_iterator") (n := "__iter__") (by rw [typeLookup_type,builtinLookup_eq_fast]; kernel_rfl) (by decide +kernel) (by decide +kernel) (by decide +kernel) (by first | exact .inl (by decide +kernel) | exact .inr (by decide +kernel)) (by rw [isSubtype_type]; kernel_rfl)
theorem sti_iargs (a:Value):argsOk "set_iterator.__iter__" ⟨[a],[]⟩:=by
 unfold argsOk
 rw [signature?_of (id := "set_iterator.__iter__") (n:=['_','_','r','e','t','i','_','_']) (o:=['r','o','t','a','r','e','t','i','_','t','e','s']) (by kernel_rfl) sti_owner]
 kernel_rfl
theorem sti_ientry:entryFor table "set_iterator.__iter__" = some Builtin.«dict_keyiterator.__iter__» :=
 entryFor_alias (id' := "dict_keyiterator.__iter__") (by kernel_rfl) (by first | rfl | decide +kernel | (unfold String.splitOn; simp +decide [String.splitOnAux])) (by decide +kernel) (by kernel_rfl)
theorem st_ientry:entryFor table "set.__iter__" = some Builtin.«frozenset.__iter__»:=entryFor_alias (id' := "frozenset.__iter__") (by kernel_rfl) rfl (by decide +kernel) (by kernel_rfl)
theorem erase_perm {α:Type} : ∀ {l:List α} {i:Nat} (hi:i < l.length),(l[i] :: l.eraseIdx i).Perm l
 | [],i,hi => by simp at hi
 | a :: l,0,hi => .refl _
 | a :: l,i + 1,hi => by
  have hi' : i < l.length:=by simpa using hi
  have:=erase_perm hi'
  show (l[i] :: a :: l.eraseIdx i).Perm (a :: l)
  exact (List.Perm.swap ..).trans (this.cons a)
section
variable {prog:Program} {w:World} {A:Around} {E:Value→Shared→Prop} {s:Shared}
theorem choose_any {src:Source} {n:Nat} {Q:Nat→Shared→Prop} (hn:n ≠ 0) (h:∀ i d',i < n→Q i { s with drawn:=d' }):wpAny (model prog w) A (choose src n) Q E s:=fun Γ p _ => by
 show Sem.wp _ _ (.choose src n .pure) _ _ _ _
 rw [Sem.wp]
 refine ⟨hn,?_⟩
 rw [Sem.wp]
 exact h _ _ (Nat.mod_lt _ (by omega))
theorem drawOrder_perm {α:Type} : ∀ (n:Nat) (xs:List α) (s:Shared) {Q:List α→Shared→Prop},xs.length=n→(∀ ys d',ys.Perm xs→Q ys { s with drawn:=d' })→wpAny (model prog w) A (drawOrder n xs) Q E s
 | 0,xs,s,Q,hl,h => by
  have:xs=[]:=List.eq_nil_of_length_eq_zero hl
  subst this
  unfold drawOrder
  exact wpAny_pure (h [] s.drawn (.refl _))
 | n + 1,[],s,Q,hl,h => by simp at hl
 | n + 1,x :: xs,s,Q,hl,h => by
  unfold drawOrder
  refine wpAny_bind (choose_any (by simp) fun i d' hi => ?_)
  have e:(x :: xs)[i]? = some (x :: xs)[i]:=List.getElem?_eq_getElem hi
  rw [e]
  dsimp only
  refine wpAny_bind (drawOrder_perm n _ _ (by rw [List.length_eraseIdx_of_lt hi]; omega) fun ys d2 hp => wpAny_pure (h _ d2 ?_))
  have hq:((x :: xs)[i] :: (x :: xs).eraseIdx i).Perm (x :: xs):=(erase_perm hi)
  exact (hp.cons _).trans hq
end
theorem pick_go {α:Type} (next:Nat→Nat):∀ (fuel k:Nat) (left:List α) (out:Array α),left.length=fuel→(pickOrder.go next fuel k left out).toList.Perm (out.toList ++ left)
 | 0,k,left,out,h => by
  have:left=[]:=List.eq_nil_of_length_eq_zero h
  subst this
  unfold pickOrder.go
  simp
 | fuel + 1,k,left,out,h => by
  unfold pickOrder.go
  have hi:next k % left.length < left.length:=Nat.mod_lt _ (by omega)
  rw [List.getElem?_eq_getElem hi]
  dsimp only
  refine (pick_go next fuel (k + 1) _ _ (by rw [List.length_eraseIdx_of_lt hi]; omega)).trans ?_
  rw [Array.toList_push,List.append_assoc]
  exact (erase_perm hi).append_left _
theorem pick_perm {α:Type} (next:Nat→Nat) (xs:Array α):(pickOrder next xs).toList.Perm xs.toList:=by
 unfold pickOrder
 have:=pick_go next xs.size 0 xs.toList #[] (by simp)
 simpa using this
end L2
namespace L2
open PySem PySem.Spec PyProof.Rows
def setIt (S:Addr) (first:Value) (i n ep:Nat):Obj:={ cls:=.type "set_iterator",data:=.fields #[first,rawInt i,.ref S,rawInt n,rawInt ep] }
structure Order (w:World) (S:Addr) (es:Array (Int × Value)) (ep:Nat) (t:SetTable) (T:Addr) where
 ord:List Value
 first:Nat→Value
 tup:Option (Array Value)
 perm:ord.Perm (es.toList.map (·.2))
 how:(w.params.followText "set-order" = true∧tup=none∧(∀ i,first i=rawInt 0)∧ord=(pickOrder (w.params.setOrder S ep) es).toList.map (·.2)) ∨
  (w.params.followText "set-order" = false∧(!t.plain && decide (es.size > 1))=false∧tup=none∧(∀ i,first i=rawInt ((if i=0 then 0 else t.place.getD (i - 1) 0 + 1:Nat):Int))∧ord=es.toList.map (·.2)) ∨
  (w.params.followText "set-order" = false∧∃ ps:List Nat,tup=some (ps.map fun (i:Nat) => rawInt i).toArray∧ps.Perm (List.range es.size)∧(∀ i,first i = .ref T)∧ord=ps.filterMap fun i => (es[i]?).map (·.2))
def StI (S I T:Addr) (o:Obj) (n ep:Nat) (first:Nat→Value) (tup:Option (Array Value)) (i:Nat) (h:Heap):Prop :=
 h.get? S=some o∧h.get? I=some (setIt S (first i) i n ep)∧∀ ps,tup=some ps→h.get? T=some { cls:=.type "tuple",data:=.seq ps }
section
variable {prog:Program} {w:World} {A:Around} {E:Value→Shared→Prop} {s:Shared} {S I T:Addr} {o:Obj} {es:Array (Int × Value)} {ep:Nat} {t:SetTable}
theorem setNext_j {slot given:Nat} {Q:Option (Value × Nat)→Shared→Prop} (O:Order w S es ep t T) (hnt:O.tup=none) (ho:s.heap.get? S=some o) (hd:o.data = .set es ep t) (hf:t.fits es.size=true) (tb:TB t (!w.params.followText "set-order"))
  (hsl:O.first given=rawInt slot) (hg:given ≤ es.size)
  (h:∀ x,O.ord[given]? = some x→∀ nx:Nat,O.first (given + 1)=rawInt nx→Q (some (x,nx)) s) (h2:O.ord[given]? = none→Q none s):wpAny (model prog w) A (setNext S slot given ep) Q E s:=by
 unfold setNext
 refine wpAny_bind (wpAny_setState_of ho hd hf ?_)
 dsimp only
 unfold setsByText
 refine wpAny_bind (wpAny_bind (wpAny_askSetting (wpAny_pure ?_)))
 show wpAny _ _ (if w.params.followText "set-order" = true then _ else _) _ _ _
 rcases O.how with ⟨bt,_,hfi,hor⟩ | ⟨bt,dr,_,hfi,hor⟩ | ⟨bt,ps,ht,_⟩
 ·rw [if_pos bt,if_neg (by simp)]
  have e0:slot=0:=by
   have:=hfi given
   rw [hsl] at this
   simp [rawInt] at this
   omega
  subst e0
  refine wpAny_bind ?_
  unfold setWalk
  refine wpAny_bind (wpAny_setState_of ho hd hf ?_)
  dsimp only
  unfold setsByText
  refine wpAny_bind (wpAny_bind (wpAny_askSetting (wpAny_pure ?_)))
  show wpAny _ _ (if w.params.followText "set-order" = true then _ else _) _ _ _
  rw [if_pos bt]
  refine wpAny_bind (wpAny_askSetting (wpAny_pure (wpAny_pure ?_)))
  show Q (Option.map (fun e => (e.snd,0)) (pickOrder (w.params.setOrder S ep) es)[given]?) s
  have eo:O.ord[given]? = Option.map (·.2) (pickOrder (w.params.setOrder S ep) es)[given]?:=by rw [hor,List.getElem?_map,Array.getElem?_toList]
  cases hp:(pickOrder (w.params.setOrder S ep) es)[given]? with
  | none => rw [hp] at eo; exact h2 eo
  | some x => rw [hp] at eo; exact h _ eo 0 (hfi _)
 ·rw [if_neg (by rw [bt]; decide)]
  show wpAny _ _ (if (!t.plain && decide (es.size > 1))=true then _ else _) _ _ _
  rw [if_neg (by rw [dr]; decide)]
  have hled:t.led=true:=by rw [tb.led,bt]; rfl
  refine wpAny_bind ?_
  show wpAny _ _ (if (!t.led && !es.isEmpty)=true then _ else _) _ _ _
  rw [if_neg (by rw [hled]; simp)]
  refine wpAny_pure (wpAny_pure ?_)
  have psz:t.place.size=es.size:=by
   unfold SetTable.fits at hf
   simp at hf
   exact hf.1
  have hs2:slot=if given=0 then 0 else t.place.getD (given - 1) 0 + 1:=by
   have z:=hfi given
   rw [hsl] at z
   exact Int.ofNat.inj (Value.int.inj z).1
  have hbl:SetTable.below t.place slot=given:=below_next tb.up (by omega) hs2
  rw [hbl]
  have eo:O.ord[given]? = Option.map (·.2) es[given]?:=by rw [hor,List.getElem?_map,Array.getElem?_toList]
  by_cases hlt:given < es.size
  ·rw [Array.getElem?_eq_getElem hlt] at eo ⊢
   rw [Array.getElem?_eq_getElem (by omega:given < t.place.size)]
   refine h _ eo _ ?_
   rw [hfi]
   simp only [Nat.add_one_sub_one,Nat.add_eq_zero_iff,Nat.one_ne_zero,and_false,if_false]
   rw [Array.getD_eq_getD_getElem?,Array.getElem?_eq_getElem (by omega:given < t.place.size)]
   rfl
  ·rw [Array.getElem?_eq_none (by omega)] at eo ⊢
   exact h2 eo
 ·rw [hnt] at ht; cases ht
theorem stop_j {α:Type} {R:α→Shared→Prop} {Ex:Value→Shared→Prop} (hh:A.handled=none) (h:∀ e h',(∀ b ob,s.heap.get? b=some ob→h'.get? b=some ob)→(∃ ob,h'.get? e=some ob∧ob.cls = .type "StopIteration")→Ex (.ref e) { s with heap:=h' }) :
  wpAny (model prog w) A (newExc (.type "StopIteration") [] >>= fun e => (raiseNew e:Sem α)) R Ex s:=by
 refine wpAny_bind ?_
 simp only [newExc,newTuple]
 refine wpAny_bind (wpAny_newObj_type ?_ (by size_fits))
 refine wpAny_bind (m:=firstArgMember _ _) (wpAny_of_eq (a:=Value.none) (by first | rfl | (simp only [firstArgMember]; rfl)) ?_)
 refine wpAny_newObj_type ?_ (by size_fits)
 simp only [raiseNew]
 refine wpAny_bind (wpAny_handled ?_)
 rw [hh]
 exact wpAny_bind (wpAny_pure (wpAny_throw (h _ _ (fun b ob z => Heap.get?_push_of_some _ (Heap.get?_push_of_some _ z)) ⟨_,Heap.get?_push_size _ rfl,rfl⟩)))
theorem next_j (O:Order w S es ep t T) (hIS:I ≠ S) (hIT:I ≠ T) (hh:A.handled=none) (hd:o.data = .set es ep t) (hf:t.fits es.size=true) (tb:TB t (!w.params.followText "set-order")) {i:Nat} (hi:i ≤ es.size)
  (st:StI S I T o es.size ep O.first O.tup i s.heap) {Q:Option Value→Shared→Prop}
  (h:∀ x h',O.ord[i]? = some x→StI S I T o es.size ep O.first O.tup (i + 1) h'→(∀ b ob,b ≠ I→s.heap.get? b=some ob→h'.get? b=some ob)→Q (some x) { s with heap:=h' })
  (h2:∀ h',O.ord[i]? = none→(∀ b ob,b ≠ I→s.heap.get? b=some ob→h'.get? b=some ob)→Q none { s with heap:=h' }):wpAny (model prog w) A (pyNext (.ref I)) Q E s:=by
 obtain ⟨ho,hit,htp⟩:=st
 have hT:s.TypeIs (.ref I) "set_iterator" := ⟨_,hit,rfl⟩
 unfold pyNext
 refine wpAny_bind (wpAny_attempt (wpAny_callSpecial?_slot (name:=Str.ofString "__next__") hT sti_next (wpAny_call_entry sti_next hT sti_entry ?_ (sti_args _))))
 unfold Builtin.«set_iterator.__next__»
 refine wpAny_bind (wpAny_of_eq (a:=(Value.ref I,[])) rfl ?_)
 try dsimp only
 refine wpAny_bind (wpAny_fieldsOf hit rfl ?_)
 show wpAny _ _ (setEntries S >>= _) _ _ _
 refine wpAny_bind (wpAny_setEntries_of ho hd hf ?_)
 show wpAny _ _ (if (((es.size:Nat):Int) != ((es.size:Nat):Int))=true then _ else _) _ _ _
 rw [if_neg (by simp)]
 cases hfst:O.tup with
 | none =>
  have hcase:∃ slot:Nat,O.first i=rawInt slot:=by
   rcases O.how with ⟨_,_,hfi,_⟩ | ⟨_,_,_,hfi,_⟩ | ⟨_,ps,ht,_⟩
   ·exact ⟨0,hfi i⟩
   ·exact ⟨_,hfi i⟩
   ·rw [hfst] at ht; cases ht
  obtain ⟨slot,hsl⟩:=hcase
  rw [hsl] at hit ⊢
  show wpAny _ _ (setNext S slot i ep >>= _) _ _ _
  refine wpAny_bind (setNext_j O hfst ho hd hf tb hsl hi (fun x hx nx hnx => ?_) (fun hx => ?_))
  ·show wpAny _ _ (setField (Value.ref I) 0 (rawInt nx) >>= fun _ => setField (Value.ref I) 1 (rawInt ((i:Int) + 1)) >>= fun _ => ret x) _ _ _
   refine wpAny_bind (wpAny_setField_rec hit (by simp) fun h1 e1 b1 => wpAny_bind (wpAny_setField_rec (s:={ s with heap:=h1 }) e1 (by simp) fun h3 e3 b3 => wpAny_pure ⟨_,rfl,wpAny_pure ?_⟩))
   have kp:∀ b ob,b ≠ I→s.heap.get? b=some ob→h3.get? b=some ob:=fun b ob hb z => b3.extBut b ob hb (b1.extBut b ob hb z)
   refine h x h3 hx ⟨kp S _ (Ne.symm hIS) ho,?_,fun ps hp => by rw [hfst] at hp; cases hp⟩ kp
   rw [e3,hnx]
   simp [setIt]
  ·show wpAny _ _ (setField (Value.ref I) 2 Value.none >>= fun _ => newExc (Value.type "StopIteration") [] >>= fun e => raiseNew e) _ _ _
   refine wpAny_bind (wpAny_setField_rec hit (by simp) fun h1 e1 b1 => stop_j (s:={ s with heap:=h1 }) hh fun e h3 kp ⟨ob,hob,hc⟩ => ?_)
   refine wpAny_bind (wpAny_isInstance (T := "StopIteration") (b:=true) ⟨ob,hob,hc⟩ isSubtype_stop (wpAny_pure ?_))
   exact h2 h3 hx fun b ob hb z => kp b ob (b1.extBut b ob hb z)
 | some ps =>
  have hcase:O.first i = .ref T:=by
   rcases O.how with ⟨_,ht,_⟩ | ⟨_,_,ht,_⟩ | ⟨_,qs,ht,_,hfi,_⟩
   ·rw [hfst] at ht; cases ht
   ·rw [hfst] at ht; cases ht
   ·exact hfi i
  rw [hcase] at hit ⊢
  have hTo:=htp ps hfst
  obtain ⟨qs,eps,hqp,hfi,hor⟩:∃ qs:List Nat,ps=(qs.map fun (i:Nat) => rawInt i).toArray∧qs.Perm (List.range es.size)∧(∀ i,O.first i = .ref T)∧O.ord=qs.filterMap fun i => (es[i]?).map (·.2):=by
   rcases O.how with ⟨_,ht,_⟩ | ⟨_,_,ht,_⟩ | ⟨_,qs,ht,h3,h4,h5⟩
   ·rw [hfst] at ht; cases ht
   ·rw [hfst] at ht; cases ht
   ·rw [hfst] at ht; cases ht; exact ⟨qs,rfl,h3,h4,h5⟩
  have qin:∀ q ∈ qs,q < es.size:=fun q hq => List.mem_range.mp (hqp.mem_iff.mp hq)
  have ogt:∀ n:Nat,O.ord[n]? = (qs[n]?).bind fun q => (es[q]?).map (·.2):=by
   rw [hor]
   clear hor eps hqp hTo hfst
   induction qs with
   | nil => intro n; simp
   | cons q qs ih =>
    intro n
    have hq:=qin q List.mem_cons_self
    rw [List.filterMap_cons_some (b:=es[q].2) (by rw [Array.getElem?_eq_getElem hq]; rfl)]
    cases n with
    | zero => simp [Array.getElem?_eq_getElem hq]
    | succ n => simpa using ih (fun z hz => qin z (List.mem_cons_of_mem _ hz)) n
  show wpAny _ _ (seqItems? (Value.ref T) >>= _) _ _ _
  refine wpAny_bind (wpAny_seqItems hTo rfl ?_)
  have epi:ps[((i:Nat):Int).toNat]? = (qs[i]?).map fun (q:Nat) => rawInt q:=by rw [eps]; simp
  show wpAny _ _ (match ps[((i:Nat):Int).toNat]? with | some (Value.int place tok) => _ | some val => _ | none => _) _ _ _
  rw [epi]
  cases hqi:qs[i]? with
  | some q =>
   have hql:=qin q (List.mem_of_getElem? hqi)
   show wpAny _ _ (setNextDrawn S q ep >>= fun x => setField (Value.ref I) 1 (rawInt ((i:Int) + 1)) >>= fun _ => ret x) _ _ _
   refine wpAny_bind ?_
   unfold setNextDrawn
   refine wpAny_bind (wpAny_setState_of ho hd hf ?_)
   dsimp only
   rw [if_neg (by simp)]
   refine wpAny_bind (wpAny_pure ?_)
   rw [Array.getElem?_eq_getElem hql]
   refine wpAny_pure ?_
   show wpAny _ _ (setField (Value.ref I) 1 (rawInt ((i:Int) + 1)) >>= fun _ => ret es[q].2) _ _ _
   refine wpAny_bind (wpAny_setField_rec hit (by simp) fun h3 e3 b3 => wpAny_pure ⟨_,rfl,wpAny_pure ?_⟩)
   refine h _ h3 (by rw [ogt,hqi]; simp [Array.getElem?_eq_getElem hql]) ⟨b3.extBut S _ (Ne.symm hIS) ho,?_,fun qs' hp => b3.extBut T _ (Ne.symm hIT) (htp qs' hp)⟩ fun b ob hb z => b3.extBut b ob hb z
   rw [e3,hfi]
   simp [setIt]
  | none =>
   show wpAny _ _ (setField (Value.ref I) 0 (rawInt 0) >>= fun _ => setField (Value.ref I) 2 Value.none >>= fun _ => newExc (Value.type "StopIteration") [] >>= fun e => raiseNew e) _ _ _
   refine wpAny_bind (wpAny_setField_rec hit (by simp) fun h0 e0 b0 => wpAny_bind (wpAny_setField_rec (s:={ s with heap:=h0 }) e0 (by simp) fun h1 e1 b1 => stop_j (s:={ s with heap:=h1 }) hh fun e h3 kp ⟨ob,hob,hc⟩ => ?_))
   refine wpAny_bind (wpAny_isInstance (T := "StopIteration") (b:=true) ⟨ob,hob,hc⟩ isSubtype_stop (wpAny_pure ?_))
   exact h2 h3 (by rw [ogt,hqi]; rfl) fun b ob hb z => kp b ob (b1.extBut b ob hb (b0.extBut b ob hb z))
theorem order_len (O:Order w S es ep t T):O.ord.length=es.size:=by rw [O.perm.length_eq]; simp
theorem walks_j (O:Order w S es ep t T) (hIS:I ≠ S) (hIT:I ≠ T) (hh:A.handled=none) (hd:o.data = .set es ep t) (hf:t.fits es.size=true) (tb:TB t (!w.params.followText "set-order")) :
  Walks prog w A I [I,S,T] [I] es.size (fun i v => O.ord[i]? = some v) (fun i h => i ≤ es.size∧StI S I T o es.size ep O.first O.tup i h) where
 sub:=fun b hb => by rw [List.mem_singleton.mp hb]; simp
 frame:=fun i h h' x k => ⟨x.1,k S (by simp) _ x.2.1,k I (by simp) _ x.2.2.1,fun ps hp => k T (by simp) _ (x.2.2.2 ps hp)⟩
 item:=fun i s Q E hi x hQ => next_j O hIS hIT hh hd hf tb x.1 x.2 (fun v h' hv st kp => hQ v h' s.toks hv ⟨hi,st⟩ fun b ob hb z => kp b ob (by simpa using hb) z) (fun h' hn _ => by
  rw [List.getElem?_eq_none_iff,order_len O] at hn
  omega)
 done:=fun s Q E x hQ => next_j O hIS hIT hh hd hf tb x.1 x.2 (fun v h' hv _ _ => by
  have:=(List.getElem?_eq_some_iff.mp hv).1
  rw [order_len O] at this
  omega) (fun h' _ kp => hQ h' s.toks fun b ob hb z => kp b ob (by simpa using hb) z)
 self:=fun i s Q E x hQ => by
  have hT:s.TypeIs (.ref I) "set_iterator" := ⟨_,x.2.2.1,rfl⟩
  refine wpAny_pyIter_slot hT sti_iter (wpAny_call_entry sti_iter hT sti_ientry ?_ (sti_iargs _))
  show wpAny _ _ (ret (.ref I)) _ _ s
  exact wpAny_pure ⟨_,rfl, "set_iterator",_,hT,sti_next.lookup,hQ⟩
end
end L2
namespace L2
open PySem PySem.Spec PyProof.Rows
section
variable {prog:Program} {w:World} {A:Around} {E:Value→Shared→Prop} {s:Shared} {S I T:Addr} {o:Obj} {es:Array (Int × Value)} {ep:Nat} {t:SetTable}
theorem iter_j {Q:Value→Shared→Prop} (ho:s.heap.get? S=some o) (hx:o.ExactSet) (hd:o.data = .set es ep t) (hf:t.fits es.size=true) (hb:es.size < scanBound)
  (h:∀ (T I:Addr) (O:Order w S es ep t T) h' d',I ≠ S→I ≠ T→s.heap.objs.size ≤ I→(T=S ∨ s.heap.objs.size ≤ T)→StI S I T o es.size ep O.first O.tup 0 h'→(∀ b ob,s.heap.get? b=some ob→h'.get? b=some ob)→Q (.ref I) { s with heap:=h',drawn:=d' }) :
  wpAny (model prog w) A (pyIter (.ref S)) Q E s:=by
 have hT:s.TypeIs (.ref S) "set" := ⟨o,ho,hx.1⟩
 have hSl:S < s.heap.objs.size:=Heap.lt_size ho
 refine wpAny_pyIter_slot hT PySem.F.slot_set_iter (wpAny_call_entry PySem.F.slot_set_iter hT st_ientry ?_ (PySem.F.args_set_iter_1 _))
 unfold Builtin.«frozenset.__iter__» Builtin.Frozenset.slot0 slotArgs
 simp only [List.isEmpty_nil,Bool.not_true,Bool.false_eq_true,↓reduceIte,bind_assoc,List.length_nil,bne_self_eq_false]
 unfold Builtin.Frozenset.addrOf Builtin.Frozenset.sizeOf
 refine wpAny_bind (wpAny_pure ?_)
 try dsimp only
 refine wpAny_bind (wpAny_pure ?_)
 refine wpAny_bind (wpAny_bind (wpAny_setEntries_of ho hd hf (wpAny_pure ?_)))
 unfold setDrawn
 refine wpAny_bind (wpAny_bind (wpAny_setState_of ho hd hf ?_))
 dsimp only
 unfold setsByText
 refine wpAny_bind (wpAny_bind (wpAny_askSetting (wpAny_pure (wpAny_pure ?_))))
 show wpAny _ _ (if (!w.params.followText "set-order" && (!t.plain && decide (es.size > 1)))=true then _ else _) _ _ _
 have easy:∀ (O:Order w S es ep t S),O.tup=none→O.first 0=rawInt 0→wpAny (model prog w) A.in1 (do
   let first ← pure (rawInt 0)
   let e ← setEpoch S
   let z ← newFields "set_iterator" [first,rawInt 0,Value.ref S,rawInt es.size,rawInt e]
   ret z) (fun fin s' => ∃ v,fin=Fin.done (Flow.ret v)∧∃ T' r,s'.TypeIs v T'∧typeLookup (Value.type T') (Str.ofString "__next__")=pure (some r)∧Q v s') E s:=fun O ht hf0 => by
  refine wpAny_bind (wpAny_pure (wpAny_bind (wpAny_setEpoch_of ho hd hf ?_)))
  unfold newFields
  refine wpAny_bind (wpAny_newObj_type (wpAny_pure ⟨_,rfl, "set_iterator",_,⟨_,Heap.get?_push_size _ rfl,rfl⟩,sti_next.lookup,?_⟩))
  refine h S _ O _ s.drawn (Nat.ne_of_gt hSl) (Nat.ne_of_gt hSl) (Nat.le_refl _) (.inl rfl) ⟨Heap.get?_push_of_some _ ho,?_,fun ps hp => by rw [ht] at hp; cases hp⟩ (fun b ob z => Heap.get?_push_of_some _ z)
  rw [hf0]
  exact Heap.get?_push_size _ rfl
 cases bt:w.params.followText "set-order" with
 | true =>
  rw [if_neg (by simp)]
  exact easy ⟨_,fun _ => rawInt 0,none,(pick_perm _ es).map _,.inl ⟨bt,rfl,fun _ => rfl,rfl⟩⟩ rfl rfl
 | false =>
  cases dr:(!t.plain && decide (es.size > 1)) with
  | false =>
   rw [if_neg (by simp)]
   exact easy ⟨_,fun i => rawInt ((if i=0 then 0 else t.place.getD (i - 1) 0 + 1:Nat):Int),none,.refl _,.inr (.inl ⟨bt,dr,rfl,fun _ => rfl,rfl⟩)⟩ rfl rfl
  | true =>
   rw [if_pos (by simp)]
   refine wpAny_bind (drawOrder_perm es.size _ s (by simp) fun ps d' hp => ?_)
   refine wpAny_bind (wpAny_newTuple (wpAny_bind (wpAny_setEpoch_of (Heap.get?_push_of_some _ ho) hd hf ?_)) (hsz:=by rw [List.length_map,hp.length_eq,List.length_range]; exact fits_of_scanBound hb))
   unfold newFields
   refine wpAny_bind (wpAny_newObj_type (wpAny_pure ⟨_,rfl, "set_iterator",_,⟨_,Heap.get?_push_size _ rfl,rfl⟩,sti_next.lookup,?_⟩))
   have hpm:(ps.filterMap fun i => (es[i]?).map (·.2)).Perm (es.toList.map (·.2)):=by
    have e1:=hp.filterMap fun i => (es[i]?).map (·.2)
    have e2:(List.range es.size).filterMap (fun i => (es[i]?).map (·.2))=es.toList.map (·.2):=by
     rw [← List.map_filterMap,filterMap_getElem?_range]
    rw [e2] at e1
    exact e1
   refine h s.heap.objs.size _ ⟨_,fun _ => .ref s.heap.objs.size,some (ps.map fun (i:Nat) => rawInt i).toArray,hpm,.inr (.inr ⟨bt,ps,rfl,hp,fun _ => rfl,rfl⟩)⟩ _ d' ?_ ?_ ?_ (.inr (Nat.le_refl _)) ⟨Heap.get?_push_of_some _ (Heap.get?_push_of_some _ ho),Heap.get?_push_size _ rfl,fun qs hq => ?_⟩ (fun b ob z => Heap.get?_push_of_some _ (Heap.get?_push_of_some _ z))
   ·rw [Heap.size_push]; exact Nat.ne_of_gt (Nat.lt_succ_of_lt hSl)
   ·rw [Heap.size_push]; exact Nat.ne_of_gt (Nat.lt_succ_self _)
   ·rw [Heap.size_push]; exact Nat.le_succ _
   ·cases hq; exact Heap.get?_push_of_some _ (Heap.get?_push_size _ rfl)
theorem collect_set {R:List Value→Shared→Prop} (hh:A.handled=none) (ho:s.heap.get? S=some o) (hx:o.ExactSet) (hd:o.data = .set es ep t) (hf:t.fits es.size=true) (hb:es.size < scanBound) (tb:TB t (!w.params.followText "set-order"))
  (hR:∀ (vs:List Value) (h' : Heap) (tk:Nat) (d' : Drawn),vs.Perm (es.toList.map (·.2))→(∀ b ob,s.heap.get? b=some ob→h'.get? b=some ob)→R vs { s with heap:=h',toks:=tk,drawn:=d' }):wpAny (model prog w) A (collect (.ref S)) R E s:=by
 have hSl:S < s.heap.objs.size:=Heap.lt_size ho
 unfold collect
 refine wpAny_bind (wpAny_runValue (codeAny_builtin PySem.F.entry_proto_collect ?_))
 rw [Around.under_plainId PySem.F.plain_proto_collect _]
 show wpAny _ A.in1 (newList [] >>= fun q => again (.builtin "list.__iadd__" ⟨[q,.ref S],[]⟩)) _ _ s
 refine wpAny_bind (wpAny_newObj_type (wpAny_pure ⟨plainId_quiet PySem.F.plain_list_iadd _,codeAny_builtin PySem.F.entry_list_iadd ?_⟩))
 rw [Around.under_plainId PySem.F.plain_list_iadd _]
 have g2:(s.heap.push { cls:=.type "list",data:=.seq ([]:List Value).toArray }).get? s.heap.objs.size=some { cls:=.type "list",data:=.seq ([]:List Value).toArray }:=Heap.get?_push_size _ rfl
 have ho1:(s.heap.push { cls:=.type "list",data:=.seq ([]:List Value).toArray }).get? S=some o:=Heap.get?_push_of_some _ ho
 have g3:Builtin.List.listSameRef (.ref s.heap.objs.size) (.ref S)=false:=by simp [Builtin.List.listSameRef,Nat.ne_of_gt hSl]
 show wpAny _ A.in1 (Builtin.List.listExtendWith (.ref s.heap.objs.size) (.ref S) (.ref s.heap.objs.size)) _ _ _
 unfold Builtin.List.listExtendWith
 refine wpAny_bind (wpAny_typeOf (T := "set") ⟨o,ho1,hx.1⟩ ?_)
 rw [if_neg (by rw [g3]; decide)]
 refine wpAny_bind (iter_j ho1 hx hd hf hb fun T I O h1 d1 hIS hIT hIs hTs st kp => ?_)
 refine wpAny_bind (wpAny_holding ?_)
 unfold Builtin.List.listLengthHint
 refine wpAny_bind (wpAny_specialOf (T := "set") ⟨o,kp _ _ ho1,hx.1⟩ PySem.F.slot_set_len.lookup ?_)
 generalize hid:("set.__len__" : String)=id0
 wp_delta
 rw [show splitId id0=some ("set", "__len__") from by subst hid; decide +kernel]
 subst hid
 refine wpAny_bind (wpAny_isInstance (T := "set") (b:=true) ⟨o,kp _ _ ho1,hx.1⟩ (by rw [isSubtype_type]; kernel_rfl) ?_)
 refine wpAny_ite_split (fun z => absurd z (by decide)) (fun _ => ?_)
 refine wpAny_ite_split (fun _ => ?_) (fun z => absurd (by decide +kernel) z)
 refine wpAny_bind (wpAny_typeOf (T := "set") ⟨o,kp _ _ ho1,hx.1⟩ (wpAny_pure ?_))
 refine wpAny_ite_split (fun _ => ?_) (fun z => absurd (by decide +kernel) z)
 refine wpAny_bind (wpAny_rule (wpAny_bind ?_))
 have hIs' : s.heap.objs.size < I:=by rw [Heap.size_push] at hIs; exact hIs
 have hI0:I ≠ s.heap.objs.size:=Nat.ne_of_gt hIs'
 have hT0:T ≠ s.heap.objs.size:=by
  rcases hTs with z | z
  ·rw [z]; exact Nat.ne_of_lt hSl
  ·rw [Heap.size_push] at z; exact Nat.ne_of_gt z
 have hS0:S ≠ s.heap.objs.size:=Nat.ne_of_lt hSl
 have gl:=kp _ _ g2
 show wpAny _ _ (updateSeq s.heap.objs.size (·.push .none) >>= fun _ => updateSeq s.heap.objs.size (·.pop)) _ _ _
 refine wpAny_bind (wpAny_updateSeq gl rfl ?_)
 have gl2:=Heap.get?_update_self (Obj.mapSeq (·.push Value.none)) gl rfl
 refine wpAny_updateSeq (hz:=by seq_fits) gl2 rfl ?_
 have gl3:=Heap.get?_update_self (Obj.mapSeq (·.pop)) gl2 rfl
 have oth:∀ b ob,b ≠ s.heap.objs.size→h1.get? b=some ob→((h1.update s.heap.objs.size (Obj.mapSeq (·.push Value.none))).update s.heap.objs.size (Obj.mapSeq (·.pop))).get? b=some ob:=fun b ob hb z =>
  (Heap.get?_update_other _ _ (Ne.symm hb)).trans ((Heap.get?_update_other _ _ (Ne.symm hb)).trans z)
 have Wk:=(walks_j (prog:=prog) (A:=A.in1) O hIS hIT hh hd hf tb).toS
 refine wpAny_pure ⟨plainId_quiet PySem.F.plain_extend_loop _,codeAny_extend_loopS Wk (fits_of_scanBound hb) s.heap.objs.size (by simp [Ne.symm hI0,Ne.symm hT0,Ne.symm hS0]) _ es.size 0 _ #[] _ rfl (Nat.zero_le _)
  ⟨Nat.zero_le _,oth _ _ hS0 st.1,oth _ _ hI0 st.2.1,fun ps hp => oth _ _ hT0 (st.2.2 ps hp)⟩ gl3 (ItemsOf.nil _) fun s' acc' c' hm hS' hacc => ?_⟩
 show wpAny _ A (load s.heap.objs.size >>= _) _ _ s'
 refine wpAny_bind (wpAny_load hS' (wpAny_pure ?_))
 have ea:acc'.toList=O.ord:=by
  apply List.ext_getElem?
  intro i
  by_cases hi:i < es.size
  ·have hl:i < acc'.size:=by rw [hacc.1]; exact hi
   rw [Array.getElem?_toList,Array.getElem?_eq_getElem hl]
   exact (hacc.2 i _ (Array.getElem?_eq_getElem hl)).symm
  ·rw [List.getElem?_eq_none (by rw [Array.length_toList,hacc.1]; omega),List.getElem?_eq_none (by rw [order_len O]; omega)]
 rw [ea]
 have:=hR O.ord s'.heap s'.toks s'.drawn O.perm fun b ob z => ?_
 ·obtain ⟨h9,g9,d9,t9,o9⟩:=s'
  have eg:g9=s.gens:=hm.gens
  have eo:o9=s.os:=hm.os
  subst eg eo
  exact this
 ·have hb0:b < s.heap.objs.size:=Heap.lt_size z
  refine hm.heap b ob ?_ (oth b ob (Nat.ne_of_lt hb0) (kp b ob (Heap.get?_push_of_some _ z)))
  simp only [List.mem_cons,List.not_mem_nil,or_false,not_or]
  exact ⟨Nat.ne_of_lt hb0,Nat.ne_of_lt (Nat.lt_trans hb0 hIs')⟩
end
theorem Inv.keptD {X:Cx} {pins:List (Addr × Obj)} {σ:St} {H:Hp} {s:Shared} {h' : Heap} {t' : Nat} {d' : Drawn} (I:Inv X pins σ H s) (k:∀ b u,s.heap.get? b=some u→h'.get? b=some u):Inv X pins σ H { s with heap:=h',toks:=t',drawn:=d' } :=
 I.step (g':=s.gens) (d':=d') (ch:=[]) (fun _ z => nomatch z) (fun b o _ _ _ e _ => k b o e) (fun b o _ _ _ e _ => ⟨o.slots,k b o e⟩) (fun _ _ _ _ n => n) (fun b o _ e => ⟨o,k b o e⟩) (fun _ _ e => e) (fun _ _ _ e => e) (fun b ps e => ⟨#[],by rw [e]; simp⟩)
  (fun m hm => by obtain ⟨o,es,ep,ho,r⟩:=hm; exact ⟨o,es,ep,k _ o ho,r⟩) (I.hok.kept k) I.bare
theorem boot_set:bootBuiltins "set" = some (.type "set"):=by decide +kernel
theorem boot_sortedX:bootBuiltins "sorted" = some (.builtin "sorted"):=by decide +kernel
end L2
set_option maxHeartbeats 1000000
namespace L2
open PySem PySem.Spec PyProof.Rows
def RK (rk:Value→Int) (xs:Array Keyed) (i:Nat):Int:=match xs[i]? with
 | some p => rk p.1
 | none => 0
theorem RK_of {rk:Value→Int} {xs ys:Array Keyed} {i j:Nat} (h:xs[i]? = ys[j]?):RK rk xs i=RK rk ys j:=by unfold RK; rw [h]
theorem RK_bub {rk:Value→Int} {xs:Array Keyed} {a d:Nat} (ha:a < xs.size) (hd:d ≤ a) (k:Nat):RK rk (bubble xs a d) k=if k=a - d then RK rk xs a else if a - d < k∧k ≤ a then RK rk xs (k - 1) else RK rk xs k:=by
 have z:=getElem?_bubble ha d hd k
 split
 ·rename_i h; rw [if_pos h] at z; exact RK_of z
 ·rename_i h
  rw [if_neg h] at z
  split
  ·rename_i g; rw [if_pos g] at z; exact RK_of z
  ·rename_i g; rw [if_neg g] at z; exact RK_of z
theorem RK_mir {rk:Value→Int} {xs:Array Keyed} {a b:Nat} (hb:b ≤ xs.size) (k:Nat):RK rk (mirror xs a b ((b - a) / 2)) k=if a ≤ k∧k < b then RK rk xs (a + b - 1 - k) else RK rk xs k:=by
 have z:=getElem?_mirror_all (i:=a) hb k
 split
 ·rename_i h; rw [if_pos h] at z; exact RK_of z
 ·rename_i h; rw [if_neg h] at z; exact RK_of z
structure SB (k0:SortKind) (a0:Array Keyed) (st:SortSt):Prop where
 pm:(arrOf st).Perm a0
 kd:kindOf st=k0
 fl:failedOf st=none
 pn:pendingOf st = #[]
theorem SB.sz {k0:SortKind} {a0:Array Keyed} {st:SortSt} (b:SB k0 a0 st):(arrOf st).size=a0.size:=b.pm.size_eq
theorem SB.put {k0:SortKind} {a0 xs:Array Keyed} {st:SortSt} (b:SB k0 a0 st) (p:xs.Perm (arrOf st)):SB k0 a0 (setArr st xs):=⟨p.trans b.pm,b.kd,b.fl,b.pn⟩
def LtOk (prog:Program) (w:World) (A:Around) (s:Shared) (k0:SortKind) (a0:Array Keyed) (rk:Value→Int):Prop :=
 ∀ (E:Value→Shared→Prop) (x y:Keyed) (Q:Bool→Shared→Prop),x ∈ a0.toList→y ∈ a0.toList→Q (decide (rk x.1 < rk y.1)) s→wpAny (model prog w) A (keyLt' k0 x.1 y.1) Q E s
section
variable {prog:Program} {w:World} {A:Around} {E:Value→Shared→Prop} {s:Shared} {k0:SortKind} {a0:Array Keyed} {rk:Value→Int}
theorem SB.got {st:SortSt} (b:SB k0 a0 st) {i:Nat} (hi:i < a0.size):∃ x,(arrOf st)[i]? = some x∧x ∈ a0.toList∧RK rk (arrOf st) i=rk x.1:=by
 have hi' : i < (arrOf st).size:=by rw [b.sz]; exact hi
 have z:=Array.getElem?_eq_getElem hi'
 refine ⟨_,z,(Array.perm_iff_toList_perm.mp b.pm).subset (Array.getElem_mem_toList hi'),?_⟩
 unfold RK
 rw [z]
theorem lt_at (hL:LtOk prog w A s k0 a0 rk) {st:SortSt} (b:SB k0 a0 st) {i j:Nat} (hi:i < a0.size) (hj:j < a0.size) {Q:Option Bool→SortSt→Prop}
  (h:Q (some (decide (RK rk (arrOf st) i < RK rk (arrOf st) j))) st):wpS (model prog w) A E s (ltAt' i j) Q st:=by
 obtain ⟨x,ex,mx,rx⟩:=b.got (rk:=rk) hi
 obtain ⟨y,ey,my,ry⟩:=b.got (rk:=rk) hj
 rw [rx,ry] at h
 rw [ltAt'_eq]
 refine wpS_bind (wpS_get ?_)
 dsimp only
 rw [elem'_eq,elem'_eq,ex,ey]
 refine wpS_bind (wpS_pure (wpS_bind (wpS_pure ?_)))
 rw [lt'_eq]
 refine wpS_bind (wpS_get (wpS_bind (wpS_lift (wpAny_attempt ?_))))
 rw [b.kd]
 exact hL _ x y _ mx my ⟨rfl,wpS_pure h⟩
theorem asc_ok (hL:LtOk prog w A s k0 a0 rk) {st:SortSt} (b:SB k0 a0 st) {f m:Nat} (hm:m ≤ a0.size) (f1:1 ≤ f) (fm:f ≤ m) {Q:AscSt→SortSt→Prop} (up:∀ i j,i ≤ j→j < f→RK rk (arrOf st) i ≤ RK rk (arrOf st) j)
  (h:∀ n,f ≤ n→n ≤ m→(∀ i j,i ≤ j→j < n→RK rk (arrOf st) i ≤ RK rk (arrOf st) j)→(n=m ∨ RK rk (arrOf st) n < RK rk (arrOf st) (n - 1))→Q (none,n) st):wpS (model prog w) A E s (ascLoop f m) Q st:=by
 unfold ascLoop
 refine wpS_forRange (fun n c t => t=st∧c=(none,n)∧∀ i j,i ≤ j→j < n→RK rk (arrOf st) i ≤ RK rk (arrOf st) j) ?_ ?_ ⟨rfl,rfl,up⟩
 ·rintro n c t fn nm ⟨rfl,rfl,u⟩
  refine wpS_bind (lt_at hL b (by omega) (by omega) ?_)
  dsimp only
  by_cases z:RK rk (arrOf t) n < RK rk (arrOf t) (n - 1)
  ·rw [decide_eq_true z,if_pos rfl]
   exact wpS_pure (h n fn (by omega) u (.inr z))
  ·rw [decide_eq_false z,if_neg (by simp)]
   refine wpS_pure ⟨rfl,rfl,fun i j ij jn => ?_⟩
   rcases Nat.lt_or_eq_of_le (Nat.le_of_lt_succ jn) with q | rfl
   ·exact u i j ij q
   ·rcases Nat.lt_or_eq_of_le ij with q | rfl
    ·have:=u i (j - 1) (by omega) (by omega)
     omega
    ·exact Int.le_refl _
 ·rintro c t ⟨rfl,rfl,u⟩
  rw [Nat.max_eq_right fm] at u ⊢
  exact h m fm (Nat.le_refl _) u (.inl rfl)
theorem tail_ok (hL:LtOk prog w A s k0 a0 rk) {st:SortSt} (b:SB k0 a0 st) {n m:Nat} (hm:m ≤ a0.size) (n1:1 ≤ n) (nm:n ≤ m) {Q:Option Nat→SortSt→Prop} (dn:∀ i j,i ≤ j→j < n→RK rk (arrOf st) j ≤ RK rk (arrOf st) i)
  (h:∀ r t,SB k0 a0 t→1 ≤ r→r ≤ m→(∀ i j,i ≤ j→j < r→RK rk (arrOf t) i ≤ RK rk (arrOf t) j)→Q (some r) t):wpS (model prog w) A E s (tail3 n m) Q st:=by
 unfold tail3
 refine wpS_bind (wpS_reverse ?_)
 have b2:=b.put (mirror_perm (arrOf st) 0 n ((n - 0) / 2))
 have hn:n ≤ (arrOf st).size:=by rw [b.sz]; omega
 refine wpS_bind (asc_ok hL b2 hm n1 nm (fun i j ij jn => ?_) fun r nr rm u _ => wpS_pure (h r _ b2 (by omega) rm u))
 have z1:=RK_mir (rk:=rk) (xs:=arrOf st) (a:=0) hn i
 have z2:=RK_mir (rk:=rk) (xs:=arrOf st) (a:=0) hn j
 rw [if_pos ⟨Nat.zero_le _,by omega⟩] at z1
 rw [if_pos ⟨Nat.zero_le _,jn⟩] at z2
 have z3:=dn (0 + n - 1 - j) (0 + n - 1 - i) (by omega) (by omega)
 rw [← z1,← z2] at z3
 exact z3
theorem mir_same {xs:Array Keyed} {a b:Nat} (hb:b ≤ xs.size) (e:∀ i,a ≤ i→i < b→RK rk xs i=RK rk xs (b - 1)) (k:Nat):RK rk (mirror xs a b ((b - a) / 2)) k=RK rk xs k:=by
 rw [RK_mir hb]
 split
 ·rename_i h
  rw [e k h.1 h.2]
  exact e _ (by omega) (by omega)
 ·rfl
theorem desc_ok (hL:LtOk prog w A s k0 a0 rk) {st:SortSt} (b:SB k0 a0 st) {f m:Nat} (hm:m ≤ a0.size) (f1:1 ≤ f) (fm:f ≤ m) {Q:DescSt→SortSt→Prop} (dn:∀ i j,i ≤ j→j < f→RK rk (arrOf st) j ≤ RK rk (arrOf st) i)
  (h:∀ n q t,SB k0 a0 t→f ≤ n→n ≤ m→(∀ i j,i ≤ j→j < n→RK rk (arrOf t) j ≤ RK rk (arrOf t) i)→q + 1 ≤ n→(∀ i,n - (q + 1) ≤ i→i < n→RK rk (arrOf t) i=RK rk (arrOf t) (n - 1))→Q (none,n,q) t):wpS (model prog w) A E s (descLoop f m) Q st:=by
 unfold descLoop
 refine wpS_forRange (fun n c t => ∃ q,c=(none,n,q)∧SB k0 a0 t∧(∀ i j,i ≤ j→j < n→RK rk (arrOf t) j ≤ RK rk (arrOf t) i)∧q + 1 ≤ n∧∀ i,n - (q + 1) ≤ i→i < n→RK rk (arrOf t) i=RK rk (arrOf t) (n - 1)) ?_ ?_ ⟨0,rfl,b,dn,f1,fun i h1 h2 => by rw [show i=f - 1 by omega]⟩
 ·rintro n c t fn nm ⟨q,rfl,bt,d,qn,e⟩
  dsimp only
  refine wpS_bind (lt_at hL bt (by omega) (by omega) ?_)
  dsimp only
  have ext:∀ xs:Array Keyed,(∀ k,RK rk xs k=RK rk (arrOf t) k)→RK rk (arrOf t) n ≤ RK rk (arrOf t) (n - 1)→∀ i j,i ≤ j→j < n + 1→RK rk xs j ≤ RK rk xs i:=fun xs hx le i j ij jn => by
   rw [hx,hx]
   rcases Nat.lt_or_eq_of_le (Nat.le_of_lt_succ jn) with z | rfl
   ·exact d i j ij z
   ·rcases Nat.lt_or_eq_of_le ij with z | rfl
    ·have:=d i (j - 1) (by omega) (by omega)
     omega
    ·exact Int.le_refl _
  by_cases z:RK rk (arrOf t) n < RK rk (arrOf t) (n - 1)
  ·rw [decide_eq_true z,if_pos rfl]
   by_cases q0:q > 0
   ·rw [if_pos q0]
    have hn:n ≤ (arrOf t).size:=by rw [bt.sz]; omega
    exact wpS_bind (wpS_reverse (wpS_pure ⟨0,rfl,bt.put (mirror_perm _ _ _ _),ext _ (mir_same hn e) (Int.le_of_lt z),by omega,fun i h1 h2 => by rw [show i=n + 1 - 1 by omega]⟩))
   ·rw [if_neg q0]
    exact wpS_pure ⟨0,rfl,bt,ext _ (fun _ => rfl) (Int.le_of_lt z),by omega,fun i h1 h2 => by rw [show i=n + 1 - 1 by omega]⟩
  ·rw [decide_eq_false z,if_neg (by simp)]
   refine wpS_bind (lt_at hL bt (by omega) (by omega) ?_)
   dsimp only
   by_cases y:RK rk (arrOf t) (n - 1) < RK rk (arrOf t) n
   ·rw [decide_eq_true y,if_pos rfl]
    exact wpS_pure (h n q t bt fn (by omega) d qn e)
   ·rw [decide_eq_false y,if_neg (by simp)]
    have same:RK rk (arrOf t) n=RK rk (arrOf t) (n - 1):=by omega
    refine wpS_pure ⟨q + 1,rfl,bt,ext _ (fun _ => rfl) (by omega),by omega,fun i h1 h2 => ?_⟩
    rw [Nat.add_sub_cancel]
    rcases Nat.lt_or_eq_of_le (Nat.le_of_lt_succ h2) with x | rfl
    ·rw [same]; exact e i (by omega) x
    ·rfl
 ·rintro c t ⟨q,rfl,bt,d,qn,e⟩
  rw [Nat.max_eq_right fm] at d qn e ⊢
  exact h m q t bt fm (Nat.le_refl _) d qn e
theorem part_ok (hL:LtOk prog w A s k0 a0 rk) {st:SortSt} (b:SB k0 a0 st) {n m:Nat} (hm:m ≤ a0.size) (nm:n + 1 ≤ m) {Q:Option Nat→SortSt→Prop} (dn:∀ i j,i ≤ j→j < n + 1→RK rk (arrOf st) j ≤ RK rk (arrOf st) i)
  (h:∀ r t,SB k0 a0 t→1 ≤ r→r ≤ m→(∀ i j,i ≤ j→j < r→RK rk (arrOf t) i ≤ RK rk (arrOf t) j)→Q (some r) t):wpS (model prog w) A E s (descPart n m) Q st:=by
 unfold descPart
 refine wpS_bind (wpS_lift (wpAny_rule ⟨rfl,wpS_bind (desc_ok hL b hm (by omega) nm dn fun r q t bt nr rm d qr e => ?_)⟩))
 dsimp only
 by_cases q0:q > 0
 ·rw [if_pos q0]
  have hr:r ≤ (arrOf t).size:=by rw [bt.sz]; omega
  refine wpS_bind (wpS_reverse (tail_ok hL (bt.put (mirror_perm _ _ _ _)) hm (by omega) rm (fun i j ij jr => ?_) h))
  have z1:=mir_same hr e i
  have z2:=mir_same hr e j
  have z3:=d i j ij jr
  rw [← z1,← z2] at z3
  exact z3
 ·rw [if_neg q0]
  exact tail_ok hL bt hm (by omega) rm d h
theorem run_ok (hL:LtOk prog w A s k0 a0 rk) {st:SortSt} (b:SB k0 a0 st) {m:Nat} (hm:m ≤ a0.size) (m1:1 ≤ m) {Q:Option Nat→SortSt→Prop}
  (h:∀ r t,SB k0 a0 t→1 ≤ r→r ≤ m→(∀ i j,i ≤ j→j < r→RK rk (arrOf t) i ≤ RK rk (arrOf t) j)→Q (some r) t):wpS (model prog w) A E s (countRun' 0 m) Q st:=by
 rw [countRun0_eq]
 refine wpS_bind (asc_ok hL b hm (Nat.le_refl _) m1 (fun i j ij j1 => by rw [show i=j by omega]; exact Int.le_refl _) fun n n1 nm u z => ?_)
 dsimp only
 by_cases e:n=m
 ·rw [if_pos (by simpa using e)]
  exact wpS_pure (h n st b n1 nm u)
 ·rw [if_neg (by simpa using e)]
  have lt:=z.resolve_left e
  by_cases n2:n > 1
  ·rw [if_pos n2]
   refine wpS_bind (lt_at hL b (by omega) (by omega) ?_)
   dsimp only
   by_cases y:RK rk (arrOf st) 0 < RK rk (arrOf st) (n - 1)
   ·rw [decide_eq_true y,if_pos rfl]
    exact wpS_pure (h n st b n1 nm u)
   ·rw [decide_eq_false y,if_neg (by simp)]
    have hn:n ≤ (arrOf st).size:=by rw [b.sz]; omega
    have al:∀ i,0 ≤ i→i < n→RK rk (arrOf st) i=RK rk (arrOf st) (n - 1):=fun i _ hi => by
     have q1:=u 0 i (Nat.zero_le _) hi
     have q2:=u i (n - 1) (by omega) (by omega)
     omega
    refine wpS_bind (wpS_reverse (part_ok hL (b.put (mirror_perm _ _ _ _)) hm (by omega) (fun i j ij jn => ?_) h))
    have z1:=mir_same hn al i
    have z2:=mir_same hn al j
    have z3:RK rk (arrOf st) j ≤ RK rk (arrOf st) i:=by
     rcases Nat.lt_or_eq_of_le (Nat.le_of_lt_succ jn) with q | rfl
     ·rw [al i (Nat.zero_le _) (by omega),al j (Nat.zero_le _) q]; exact Int.le_refl _
     ·rcases Nat.lt_or_eq_of_le ij with q | rfl
      ·rw [al i (Nat.zero_le _) q]; omega
      ·exact Int.le_refl _
    rw [← z1,← z2] at z3
    exact z3
  ·rw [if_neg n2]
   have e1:n=1:=by omega
   subst e1
   refine part_ok hL b hm (by omega) (fun i j ij j2 => ?_) h
   rcases Nat.lt_or_eq_of_le ij with q | rfl
   ·rw [show i=0 by omega,show j=1 by omega]; exact Int.le_of_lt lt
   ·exact Int.le_refl _
theorem ins_ok (hL:LtOk prog w A s k0 a0 rk) {st:SortSt} (b:SB k0 a0 st) {m r:Nat} (hm:m ≤ a0.size) (rm:r ≤ m) {Q:Bool→SortSt→Prop} (up:∀ i j,i ≤ j→j < r→RK rk (arrOf st) i ≤ RK rk (arrOf st) j)
  (h:∀ t,SB k0 a0 t→(∀ i j,i ≤ j→j < m→RK rk (arrOf t) i ≤ RK rk (arrOf t) j)→Q true t):wpS (model prog w) A E s (binarySort' 0 m r) Q st:=by
 rw [binarySort'_eq]
 simp only [Nat.zero_add]
 refine wpS_bind (wpS_mono (wpS_forRange (fun n c t => c=(none,())∧SB k0 a0 t∧∀ i j,i ≤ j→j < min n m→RK rk (arrOf t) i ≤ RK rk (arrOf t) j) (Q:=fun c t => c=(none,())∧SB k0 a0 t∧∀ i j,i ≤ j→j < m→RK rk (arrOf t) i ≤ RK rk (arrOf t) j) ?_ ?_ ⟨rfl,b,fun i j ij jl => ?_⟩) ?_)
 ·rintro n c t n1 nm ⟨rfl,bt,u⟩
  rw [Nat.min_eq_left (Nat.le_of_lt nm)] at u
  refine wpS_bind (wpS_mono (wpS_forRange (fun x c t2 => t2=t∧∃ l g,c=(none,l,g)∧l ≤ g∧g ≤ n∧g - l ≤ n - x∧(∀ i,i < l→RK rk (arrOf t) i ≤ RK rk (arrOf t) n)∧∀ i,g ≤ i→i < n→RK rk (arrOf t) n < RK rk (arrOf t) i)
   (Q:=fun c t2 => t2=t∧∃ l g,c=(none,l,g)∧l ≤ n∧(∀ i,i < l→RK rk (arrOf t) i ≤ RK rk (arrOf t) n)∧∀ i,l ≤ i→i < n→RK rk (arrOf t) n < RK rk (arrOf t) i) ?_ ?_ ⟨rfl,0,n,rfl,Nat.zero_le _,Nat.le_refl _,Nat.le_refl _,fun i hi => absurd hi (Nat.not_lt_zero _),fun i h1 h2 => by omega⟩) ?_)
  ·rintro x c t2 _ xn ⟨rfl,l,g,rfl,lg,gn,gl,lo,hi⟩
   dsimp only
   by_cases z:l ≥ g
   ·rw [if_pos z]
    have e:l=g:=by omega
    subst e
    exact wpS_pure ⟨rfl,l,l,rfl,gn,lo,hi⟩
   ·rw [if_neg z]
    refine wpS_bind (lt_at hL bt (by omega) (by omega) ?_)
    dsimp only
    by_cases y:RK rk (arrOf t2) n < RK rk (arrOf t2) ((l + g) / 2)
    ·rw [decide_eq_true y,if_pos rfl]
     refine wpS_pure ⟨rfl,l,(l + g) / 2,rfl,by omega,by omega,by omega,lo,fun i h1 h2 => ?_⟩
     have:=u _ i h1 h2
     omega
    ·rw [decide_eq_false y,if_neg (by simp)]
     refine wpS_pure ⟨rfl,(l + g) / 2 + 1,g,rfl,by omega,by omega,by omega,fun i h1 => ?_,hi⟩
     have:=u i ((l + g) / 2) (by omega) (by omega)
     omega
  ·rintro c t2 ⟨rfl,l,g,rfl,lg,gn,gl,lo,hi⟩
   have e:l=g:=by omega
   subst e
   exact ⟨rfl,l,l,rfl,gn,lo,hi⟩
  ·rintro c t2 ⟨rfl,l,g,rfl,ln,lo,hi⟩
   show wpS _ _ _ _ (moveDown' n l >>= fun _ => pure _) _ _
   rw [moveDown'_eq]
   refine wpS_bind (wpS_modify (wpS_pure ⟨rfl,bt.put (bubble_perm _ _ _),fun i j ij jn => ?_⟩))
   rw [Nat.min_eq_left (by omega)] at jn
   have hn:n < (arrOf t2).size:=by rw [bt.sz]; omega
   have z1:=RK_bub (rk:=rk) hn (Nat.sub_le n l) i
   have z2:=RK_bub (rk:=rk) hn (Nat.sub_le n l) j
   rw [show n - (n - l)=l by omega] at z1 z2
   show RK rk (bubble (arrOf t2) n (n - l)) i ≤ RK rk (bubble (arrOf t2) n (n - l)) j
   rw [z1,z2]
   by_cases c1:i=l
   ·rw [if_pos c1]
    by_cases c2:j=l
    ·rw [if_pos c2]; exact Int.le_refl _
    ·rw [if_neg c2,if_pos (by omega)]
     have:=hi (j - 1) (by omega) (by omega)
     omega
   ·rw [if_neg c1]
    by_cases c3:l < i∧i ≤ n
    ·rw [if_pos c3,if_neg (by omega),if_pos (by omega)]
     exact u _ _ (by omega) (by omega)
    ·rw [if_neg c3]
     by_cases c2:j=l
     ·rw [if_pos c2]; exact lo i (by omega)
     ·rw [if_neg c2]
      by_cases c4:l < j∧j ≤ n
      ·rw [if_pos c4]; exact u _ _ (by omega) (by omega)
      ·rw [if_neg c4]; exact u _ _ ij (by omega)
 ·rintro c t ⟨rfl,bt,u⟩
  refine ⟨rfl,bt,fun i j ij jm => u i j ij (by omega)⟩
 ·by_cases z:j < r
  ·exact up i j ij z
  ·rw [show i=j by omega]; exact Int.le_refl _
 ·rintro c t ⟨rfl,bt,u⟩
  exact wpS_pure (h t bt u)
theorem runs_ok (hL:LtOk prog w A s k0 a0 rk) {st:SortSt} (b:SB k0 a0 st) (h2:2 ≤ a0.size) (h64:a0.size < 64) {Q:Unit→SortSt→Prop}
  (h:∀ t,(arrOf t).Perm a0→failedOf t=none→(∀ i j,i ≤ j→j < a0.size→RK rk (arrOf t) i ≤ RK rk (arrOf t) j)→Q () t):wpS (model prog w) A E s sortRuns' Q st:=by
 rw [sortRuns'_eq]
 refine wpS_bind (wpS_get ?_)
 have mr:minRun' a0.size a0.size 0=a0.size:=by
  cases z:a0.size with
  | zero => omega
  | succ n => rw [minRun'_succ,if_pos (by omega),Nat.add_zero]
 dsimp only
 rw [b.sz,mr]
 let Fin' : SortSt→Prop:=fun t => (arrOf t).Perm a0∧failedOf t=none∧pendingOf t = #[(0,a0.size,0)]∧∀ i j,i ≤ j→j < a0.size→RK rk (arrOf t) i ≤ RK rk (arrOf t) j
 have fin:∀ t,SB k0 a0 t→(∀ i j,i ≤ j→j < a0.size→RK rk (arrOf t) i ≤ RK rk (arrOf t) j)→Fin' (setPending t ((pendingOf t).push (0,a0.size,0))):=fun t bt u =>
  ⟨bt.pm,bt.fl,(by show (pendingOf t).push _=_; rw [bt.pn]; rfl),u⟩
 refine wpS_bind (wpS_mono (wpS_forRange (fun n c t => (n=0∧c=(none,0)∧SB k0 a0 t) ∨ (0 < n∧c=(none,a0.size)∧Fin' t)) (Q:=fun c t => c=(none,a0.size)∧Fin' t) ?_ ?_ (.inl ⟨rfl,rfl,b⟩)) ?_)
 ·rintro n c t _ _ (⟨rfl,rfl,bt⟩ | ⟨n0,rfl,ft⟩)
  ·dsimp only
   rw [if_neg (by omega)]
   simp only [Nat.zero_add,Nat.min_self,Nat.sub_zero]
   refine wpS_bind (run_ok hL bt (Nat.le_refl _) (by omega) fun r t2 b2 r1 r2 u2 => ?_)
   dsimp only
   have last:∀ t3,SB k0 a0 t3→(∀ i j,i ≤ j→j < a0.size→RK rk (arrOf t3) i ≤ RK rk (arrOf t3) j)→(pendingOf t3).back? = none∧Fin' (setPending t3 ((pendingOf t3).push (0,a0.size,0))):=fun t3 b3 u3 => ⟨by rw [b3.pn]; rfl,fin t3 b3 u3⟩
   by_cases z:r < a0.size
   ·rw [if_pos z]
    refine wpS_bind (wpS_lift (wpAny_rule ⟨rfl,wpS_bind (ins_ok hL b2 (Nat.le_refl _) r2 u2 fun t3 b3 u3 => ?_)⟩))
    rw [if_neg (by simp)]
    refine wpS_bind (wpS_get ?_)
    rw [(last t3 b3 u3).1]
    dsimp only
    exact wpS_bind (wpS_modify (wpS_pure (.inr ⟨Nat.succ_pos _,rfl,(last t3 b3 u3).2⟩)))
   ·rw [if_neg z]
    have e:r=a0.size:=by omega
    subst e
    refine wpS_bind (wpS_get ?_)
    rw [(last t2 b2 u2).1]
    dsimp only
    exact wpS_bind (wpS_modify (wpS_pure (.inr ⟨Nat.succ_pos _,rfl,(last t2 b2 u2).2⟩)))
  ·dsimp only
   rw [if_pos (Nat.le_refl _)]
   exact wpS_pure ⟨rfl,ft⟩
 ·rintro c t (⟨z,_,_⟩ | ⟨_,e,ft⟩)
  ·omega
  ·exact ⟨e,ft⟩
 ·rintro c t ⟨rfl,ft⟩
  dsimp only
  refine wpS_bind (wpS_mono (wpS_forRange (fun _ c t2 => t2=t∧c=(none,())) (Q:=fun c t2 => t2=t∧c=(none,())) ?_ (fun _ _ z => z) ⟨rfl,rfl⟩) ?_)
  ·rintro n c t2 _ _ ⟨rfl,rfl⟩
   refine wpS_bind (wpS_get ?_)
   rw [if_pos (by rw [ft.2.2.1]; exact Nat.le_refl 1)]
   exact wpS_pure ⟨rfl,rfl⟩
  ·rintro c t2 ⟨rfl,rfl⟩
   exact wpS_pure (h _ ft.1 ft.2.1 ft.2.2.2)
end
end L2
namespace L2
open PySem PySem.Spec PyProof.Rows
def lexB:List Int→List Int→Bool
 | [],[] => false
 | [],_ :: _ => true
 | _ :: _,[] => false
 | a :: x,b :: y => if a=b then lexB x y else decide (a < b)
theorem lexB_irr:∀ x:List Int,lexB x x=false
 | [] => rfl
 | a :: x => by unfold lexB; rw [if_pos rfl]; exact lexB_irr x
theorem lexB_trans:∀ {x y z:List Int},lexB x y=true→lexB y z=true→lexB x z=true
 | [],[],_,h,_ => by cases h
 | [],_ :: _,[],_,h => by cases h
 | [],_ :: _,_ :: _,_,_ => rfl
 | _ :: _,[],_,h,_ => by cases h
 | _ :: _,_ :: _,[],_,h => by cases h
 | a :: x,b :: y,c :: z,h1,h2 => by
  unfold lexB at h1 h2 ⊢
  by_cases e1:a=b
  ·subst e1
   rw [if_pos rfl] at h1
   by_cases e2:a=c
   ·rw [if_pos e2] at h2 ⊢; exact lexB_trans h1 h2
   ·rw [if_neg e2] at h2 ⊢; exact h2
  ·rw [if_neg e1] at h1
   have l1:=of_decide_eq_true h1
   by_cases e2:b=c
   ·subst e2; rw [if_neg e1]; exact h1
   ·rw [if_neg e2] at h2
    have l2:=of_decide_eq_true h2
    rw [if_neg (by omega)]
    exact decide_eq_true (by omega)
theorem lexB_tot:∀ {x y:List Int},lexB x y=false→lexB y x=false→x=y
 | [],[],_,_ => rfl
 | [],_ :: _,h,_ => by cases h
 | _ :: _,[],_,h => by cases h
 | a :: x,b :: y,h1,h2 => by
  unfold lexB at h1 h2
  by_cases e:a=b
  ·subst e
   rw [if_pos rfl] at h1 h2
   rw [lexB_tot h1 h2]
  ·rw [if_neg e] at h1
   rw [if_neg (Ne.symm e)] at h2
   have l1:=of_decide_eq_false h1
   have l2:=of_decide_eq_false h2
   omega
theorem filter_fewer {α:Type} {p q:α→Bool} : ∀ {l:List α},(∀ z ∈ l,p z=true→q z=true)→(l.filter p).length ≤ (l.filter q).length
 | [],_ => Nat.le_refl _
 | a :: l,h => by
  have ih:=filter_fewer (l:=l) fun z hz => h z (List.mem_cons_of_mem _ hz)
  have ha:=h a List.mem_cons_self
  cases hp:p a with
  | true => rw [List.filter_cons_of_pos hp,List.filter_cons_of_pos (ha hp)]; simp only [List.length_cons]; omega
  | false =>
   rw [List.filter_cons_of_neg (by simp [hp])]
   cases hq:q a with
   | true => rw [List.filter_cons_of_pos hq]; simp only [List.length_cons]; omega
   | false => rw [List.filter_cons_of_neg (by simp [hq])]; exact ih
theorem filter_less {α:Type} {p q:α→Bool} : ∀ {l:List α} {x:α},(∀ z ∈ l,p z=true→q z=true)→x ∈ l→q x=true→p x=false→(l.filter p).length < (l.filter q).length
 | [],x,_,hx,_,_ => by cases hx
 | a :: l,x,h,hx,q1,p1 => by
  have hl:∀ z ∈ l,p z=true→q z=true:=fun z hz => h z (List.mem_cons_of_mem _ hz)
  rcases List.mem_cons.mp hx with rfl | hx
  ·rw [List.filter_cons_of_neg (by simp [p1]),List.filter_cons_of_pos q1]
   have:=filter_fewer hl
   simp only [List.length_cons]; omega
  ·have ih:=filter_less hl hx q1 p1
   have ha:=h a List.mem_cons_self
   cases hp:p a with
   | true => rw [List.filter_cons_of_pos hp,List.filter_cons_of_pos (ha hp)]; simp only [List.length_cons]; omega
   | false =>
    rw [List.filter_cons_of_neg (by simp [hp])]
    cases hq:q a with
    | true => rw [List.filter_cons_of_pos hq]; simp only [List.length_cons]; omega
    | false => rw [List.filter_cons_of_neg (by simp [hq])]; exact ih
def rnk (ks:List (List Int)) (u:List Int):Int:=((ks.filter fun z => lexB z u).length:Nat)
theorem rnk_lt {ks:List (List Int)} {x y:List Int} (hx:x ∈ ks) (h:lexB x y=true):rnk ks x < rnk ks y:=by
 have:=filter_less (p:=fun z => lexB z x) (q:=fun z => lexB z y) (fun z _ hz => lexB_trans hz h) hx h (lexB_irr x)
 unfold rnk
 omega
theorem rnk_ok {ks:List (List Int)} {x y:List Int} (hx:x ∈ ks) (hy:y ∈ ks):decide (rnk ks x < rnk ks y)=lexB x y:=by
 cases h:lexB x y with
 | true => exact decide_eq_true (rnk_lt hx h)
 | false =>
  refine decide_eq_false fun z => ?_
  cases g:lexB y x with
  | true => have:=rnk_lt hy g; omega
  | false => rw [lexB_tot h g] at z; omega
def vInt:Value→Int
 | .int n _ => n
 | _ => 0
theorem ints_map:∀ {vs:List Value} {u:List Int},IntsAre vs u→vs.map vInt=u
 | _,_,.nil => rfl
 | _,_,.cons n t h => by rw [List.map_cons,ints_map h]; rfl
def kfI (h:Heap) (v:Value):List Int:=match v with
 | .ref a => match h.get? a with
  | some o => match o.data with
   | .seq its _ => its.toList.map vInt
   | _ => []
  | none => []
 | _ => []
def TupI (h:Heap) (v:Value) (u:List Int):Prop:=∃ a o its n,v = .ref a∧h.get? a=some o∧o.cls = .type "tuple" ∧ o.data = .seq its n∧IntsAre its.toList u
theorem TupI.kf {h:Heap} {v:Value} {u:List Int} (t:TupI h v u):kfI h v=u:=by
 obtain ⟨a,o,its,n,rfl,e,c,d,i⟩:=t
 unfold kfI
 dsimp only
 rw [e]
 dsimp only
 rw [d]
 exact ints_map i
theorem TupI.keep' {h h' : Heap} {v:Value} {u:List Int} (t:TupI h v u) (k:∀ (b:Addr) (o:Obj),o.cls = .type "tuple" → h.get? b=some o→h'.get? b=some o):TupI h' v u:=by
 obtain ⟨a,o,its,n,rfl,e,c,r⟩:=t
 exact ⟨a,o,its,n,rfl,k a o c e,c,r⟩
section
variable {prog:Program} {w:World} {A:Around} {E:Value→Shared→Prop} {s:Shared}
theorem keyLt'_tups (b:Bool) (x y:Value):keyLt' (tuples' b) x y=(do
  let xs ← Builtin.List.listItems x
  let ys ← Builtin.List.listItems y
  for ((p,q),i) in (xs.toList.zip ys.toList).zipIdx do
   if !(← eqBool p q) then return ← oneLt' (b && i == 0) p q
  return decide (xs.size < ys.size)):=rfl
theorem one_int (b:Bool) {i j:Int} {t u:Tok} {Q:Bool→Shared→Prop} (h:Q (decide (i < j)) s):wpAny (model prog w) A (oneLt' b (.int i t) (.int j u)) Q E s:=by
 cases b with
 | true => exact oneLt_int h
 | false =>
  rw [oneLt'_eq,if_neg (by simp)]
  have q:wpAny (model prog w) A (richCompare .Lt (.int i t) (.int j u)) (fun v s' => wpAny (model prog w) A (truthOfDropped v) Q E s') E s:=PyProof.Rows.lt_int (wpAny_truthy_bool h)
  exact wpAny_bind q
abbrev cmpStep (b:Bool) (z:(Value × Value) × Nat) (r:Option Bool × Unit):Sem (ForInStep (Option Bool × Unit)):=do
 if !(← eqBool z.1.1 z.1.2) then
  let v ← oneLt' (b && z.2 == 0) z.1.1 z.1.2
  pure (ForInStep.done (some v,()))
 else pure (ForInStep.yield (none,()))
theorem cmp_loop (b:Bool):∀ {xs ys:List Value} {u v:List Int} (i:Nat) {Q:Option Bool × Unit→Shared→Prop},IntsAre xs u→IntsAre ys v→(∀ r,(r=(some (lexB u v),()) ∨ (r=(none,())∧lexB u v=decide (u.length < v.length)))→Q r s) →
  wpAny (model prog w) A (forIn ((xs.zip ys).zipIdx i) ((none,()):Option Bool × Unit) (cmpStep b)) Q E s
 | _,ys,_,v,i,Q,.nil,hy,h => by
  rw [List.zip_nil_left,List.zipIdx_nil,List.forIn_nil]
  refine wpAny_pure (h _ (.inr ⟨rfl,?_⟩))
  cases hy <;> rfl
 | _,_,_,_,i,Q,.cons a t hx,.nil,h => by
  rw [List.zip_nil_right,List.zipIdx_nil,List.forIn_nil]
  refine wpAny_pure (h _ (.inr ⟨rfl,?_⟩))
  rfl
 | _,_,_,_,i,Q,.cons (ns:=u) a t hx,.cons (ns:=v) c t' hy,h => by
  rw [List.zip_cons_cons,List.zipIdx_cons,List.forIn_cons]
  refine wpAny_bind (wpAny_bind ((intKind prog w).eqBool (a:=a) (b:=c) (intKind_is _ _ _ _) (intKind_is _ _ _ _) ?_))
  by_cases e:a=c
  ·rw [decide_eq_true e]
   refine wpAny_pure ?_
   refine cmp_loop b (i + 1) hx hy fun r hr => h r ?_
   have l1:lexB (a :: u) (c :: v)=lexB u v:=by
    conv => lhs; unfold lexB
    rw [if_pos e]
   rw [l1]
   rcases hr with z | ⟨z,y⟩
   ·exact .inl z
   ·refine .inr ⟨z,?_⟩
    rw [y]
    simp only [List.length_cons,Nat.add_lt_add_iff_right]
  ·rw [decide_eq_false e]
   refine wpAny_bind (one_int _ ?_)
   refine wpAny_pure (wpAny_pure (h _ (.inl ?_)))
   have l1:lexB (a :: u) (c :: v)=decide (a < c):=by
    conv => lhs; unfold lexB
    rw [if_neg e]
   rw [l1]
theorem lt_tups (b:Bool) {x y:Value} {u v:List Int} {Q:Bool→Shared→Prop} (hx:TupI s.heap x u) (hy:TupI s.heap y v) (h:Q (lexB u v) s):wpAny (model prog w) A (keyLt' (tuples' b) x y) Q E s:=by
 obtain ⟨a,o,its,n,rfl,e,c,d,i⟩:=hx
 obtain ⟨a',o',its',n',rfl,e',c',d',i'⟩:=hy
 rw [keyLt'_tups]
 refine wpAny_bind (listItems_at e d (wpAny_bind (listItems_at e' d' ?_)))
 refine wpAny_bind (cmp_loop b 0 i i' fun r hr => ?_)
 rcases hr with rfl | ⟨rfl,z⟩
 ·exact wpAny_pure h
 ·rw [z,← i.length,← i'.length,Array.length_toList,Array.length_toList] at h
  exact wpAny_pure h
end
end L2
namespace L2
open PySem PySem.Spec PyProof.Rows
section
variable {prog:Program} {w:World} {A:Around} {E:Value→Shared→Prop} {s:Shared}
theorem wp_mapM {α β:Type} {f:α→Sem β} (R:α→β→Prop):∀ {l:List α} {Q:List β→Shared→Prop},(∀ x ∈ l,∀ Q' : β→Shared→Prop,(∀ y,R x y→Q' y s)→wpAny (model prog w) A (f x) Q' E s)→(∀ ys,Paired R l ys→Q ys s)→wpAny (model prog w) A (l.mapM f) Q E s
 | [],Q,_,h => by rw [List.mapM_nil]; exact wpAny_pure (h [] .nil)
 | x :: l,Q,hf,h => by
  rw [List.mapM_cons]
  refine wpAny_bind (hf x List.mem_cons_self _ fun y hy => wpAny_bind (wp_mapM R (fun z hz => hf z (List.mem_cons_of_mem _ hz)) fun ys hys => wpAny_pure (h _ (.cons hy hys))))
theorem first'_eq (v:Value):firstOfTuple' v=(do
  if (← typeOf v) != .type "tuple" then return none
  return (← Builtin.List.listItems v)[0]?):=rfl
theorem first_tup {x:Value} {u:List Int} {Q:Option Value→Shared→Prop} (t:TupI s.heap x u) (hu:u ≠ []) (h:∀ y,(∃ a tk,y=some (Value.int a tk))→Q y s):wpAny (model prog w) A (firstOfTuple' x) Q E s:=by
 obtain ⟨a,o,its,n,rfl,e,c,d,i⟩:=t
 rw [first'_eq]
 refine wpAny_bind (wpAny_typeOf (T := "tuple") ⟨o,e,c⟩ ?_)
 rw [if_neg (by decide)]
 refine wpAny_bind (listItems_at e d (wpAny_pure (h _ ?_)))
 cases hi:its.toList with
 | nil => rw [hi] at i; cases i; exact absurd rfl hu
 | cons z zs =>
  rw [hi] at i
  cases i with
  | cons m t hr =>
   refine ⟨m,t,?_⟩
   rw [← Array.getElem?_toList,hi]
   rfl
theorem kind_firsts:∀ {vs:List Value} {ys:List (Option Value)},Paired (fun _ y => ∃ a tk,y=some (Value.int a tk)) vs ys→∃ zs:List Value,ys=zs.map some∧zs.length=vs.length∧∀ z ∈ zs,∃ a tk,z=Value.int a tk
 | _,_,.nil => ⟨[],rfl,rfl,fun z hz => by cases hz⟩
 | _,_,.cons ⟨a,tk,e⟩ t => by
  obtain ⟨zs,e1,e2,e3⟩:=kind_firsts t
  refine ⟨.int a tk :: zs,by rw [e,e1]; rfl,by simp [e2],fun z hz => ?_⟩
  rcases List.mem_cons.mp hz with rfl | hz
  ·exact ⟨a,tk,rfl⟩
  ·exact e3 z hz
theorem mapM_ints:∀ {zs:List Value},(∀ z ∈ zs,∃ a tk,z=Value.int a tk)→zs.mapM typeOf=(pure (zs.map fun _ => Value.type "int"):Sem (List Value))
 | [],_ => by rw [List.mapM_nil]; rfl
 | z :: zs,h => by
  obtain ⟨a,tk,rfl⟩:=h z List.mem_cons_self
  rw [List.mapM_cons,mapM_ints fun y hy => h y (List.mem_cons_of_mem _ hy)]
  rfl
theorem kind_tups {vs:List Value} (hv:∀ v ∈ vs,∃ u,TupI s.heap v u∧u ≠ []) (h1:vs ≠ []) {Q:SortKind→Shared→Prop} (h:Q (tuples' true) s):wpAny (model prog w) A (keyKind' vs.toArray) Q E s:=by
 rw [keyKind'_eq,List.mapM_toArray]
 refine wpAny_bind ?_
 have step:wpAny (model prog w) A (vs.mapM firstOfTuple') (fun ys s' => wpAny (model prog w) A (pure ys.toArray) (fun firsts s' => wpAny (model prog w) A (do
   if (firsts.all fun x => x.isSome)=true then
    rule "list.sort.keys-are-tuples"
    let __do_lift ← oneTypeOnly' (firsts.filterMap id)
    pure (tuples' (__do_lift.any fun x => x != Value.type "tuple"))
   else
    if (firsts[0]?.bind id).isSome=true then pure general'
    else do
     let __do_lift ← oneTypeOnly' vs.toArray
     pure (if __do_lift.isSome=true then oneType' else general')) Q E s') E s') E s:=by
  refine wp_mapM (fun _ y => ∃ a tk,y=some (Value.int a tk)) (fun x hx Q' hq => ?_) fun ys hys => ?_
  ·obtain ⟨u,t,hu⟩:=hv x hx
   exact first_tup t hu hq
  ·obtain ⟨zs,e1,e2,e3⟩:=kind_firsts hys
   subst e1
   refine wpAny_pure ?_
   rw [if_pos (by simp)]
   refine wpAny_bind (wpAny_rule ?_)
   have ef:(zs.map some).toArray.filterMap id=zs.toArray:=by
    rw [List.filterMap_toArray]
    congr 1
    induction zs with
    | nil => rfl
    | cons z zs ih => simp
   rw [ef,oneTypeOnly'_eq,List.mapM_toArray,mapM_ints e3]
   have z0:∃ z zs',zs=z :: zs':=by
    cases zs with
    | nil => rw [List.length_nil] at e2; exact absurd (List.eq_nil_of_length_eq_zero e2.symm) h1
    | cons z zs' => exact ⟨z,zs',rfl⟩
   obtain ⟨z,zs',rfl⟩:=z0
   simp only [map_pure,pure_bind]
   have g0:(List.map (fun _ => Value.type "int") (z :: zs')).toArray[0]? = some (Value.type "int"):=by simp
   have ga:((List.map (fun _ => Value.type "int") (z :: zs')).toArray.all fun x => x == Value.type "int")=true:=by
    rw [List.all_toArray,List.all_map,List.all_eq_true]
    intro _ _
    rfl
   rw [g0]
   dsimp only
   rw [ga,if_pos rfl]
   exact wpAny_bind (wpAny_pure (wpAny_pure h))
 exact wpAny_bind step
end
end L2
namespace L2
open PySem PySem.Spec PyProof.Rows
section
variable {prog:Program} {w:World} {A:Around} {E:Value→Shared→Prop} {s:Shared}
theorem sort_gen {a:Addr} {vs:List Value} {n:Nat} {k0:SortKind} {rk:Value→Int} {P:Fin→Shared→Prop} (hb:s.heap.get? a=some (seqObj "list" vs.toArray n)) (h64:vs.length < 64)
  (hk:2 ≤ vs.length→∀ h' : Heap,(∀ b o,b ≠ a→s.heap.get? b=some o→h'.get? b=some o)→∀ (E:Value→Shared→Prop) (Q:SortKind→Shared→Prop),Q k0 { s with heap:=h' }→wpAny (model prog w) A (keyKind' vs.toArray) Q E { s with heap:=h' })
  (hL:∀ h' : Heap,(∀ b o,b ≠ a→s.heap.get? b=some o→h'.get? b=some o)→LtOk prog w A { s with heap:=h' } k0 (pairsOf vs) rk)
  (h:∀ xs:Array Keyed,xs.Perm (pairsOf vs)→(∀ i j,i ≤ j→j < (pairsOf vs).size→RK rk xs i ≤ RK rk xs j)→P (.done (.ret .none)) { s with heap:=sortedHeap s.heap a vs (xs.map (·.2)) }) :
  wpAny (model prog w) A (Builtin.«list.sort» ⟨[.ref a],[]⟩) P E s:=by
 have la:a < s.heap.objs.size:=Heap.lt_size hb
 have sv:vs.toArray.size=vs.length:=List.size_toArray ..
 rw [list_sort_plain]
 refine wpAny_bind (listItems_at hb rfl (wpAny_bind (listUpdate_at hb rfl ?_)))
 have g1:=get?_update_seq hb (fun _ => (#[]:Array Value))
 have k1:∀ b o,b ≠ a→s.heap.get? b=some o→(s.heap.update a (Obj.mapSeq fun _ => #[])).get? b=some o:=fun b o nb z => by
  rw [Heap.get?_update_ne _ _ _ _ nb]; exact z
 refine wpAny_bind (seqEpoch_at g1 rfl (wpAny_bind (wpAny_newTuple (wpAny_bind (wpAny_newList (wpAny_holding ?_))))))
 show wpAny (model prog w) A _ P E { s with heap:=((s.heap.update a (Obj.mapSeq fun _ => #[])).push (seqObj "tuple" vs.toArray 0)).push (seqObj "list" #[] 0) }
 have g6:=Heap.get?_push_of_some (seqObj "list" #[] 0) (Heap.get?_push_of_some (seqObj "tuple" vs.toArray 0) g1)
 have k6:∀ b o,b ≠ a→s.heap.get? b=some o→(((s.heap.update a (Obj.mapSeq fun _ => #[])).push (seqObj "tuple" vs.toArray 0)).push (seqObj "list" #[] 0)).get? b=some o:=fun b o nb z => Heap.get?_push_of_some _ (Heap.get?_push_of_some _ (k1 b o nb z))
 have done:∀ (xs:Array Keyed) (t:SortSt),arrOf t=xs→failedOf t=none→xs.Perm (pairsOf vs)→(∀ i j,i ≤ j→j < (pairsOf vs).size→RK rk xs i ≤ RK rk xs j) →
   wpAny (model prog w) A (do
    let touched:=(← seqEpoch a) != (if (#[]:Array Value).size == vs.toArray.size then n else n + 1)
    Builtin.List.listUpdate (.ref a) fun _ => (arrOf t).map (·.2)
    if let some e:=failedOf t then rule "list.sort.comparison-raised"; throw e
    if touched then rule "list.sort.modified"; raiseError "ValueError" "list modified during sort"
    ret .none) P E { s with heap:=((s.heap.update a (Obj.mapSeq fun _ => #[])).push (seqObj "tuple" vs.toArray 0)).push (seqObj "list" #[] 0) }:=by
  rintro xs t rfl ft pm up
  refine wpAny_bind (seqEpoch_at g6 rfl (wpAny_bind (listUpdate_at g6 rfl ?_ (hsz2:=?_))))
  ·rw [ft]
   dsimp only
   rw [if_neg (by simp)]
   exact wpAny_pure (h _ pm up)
  ·show ((arrOf t).map (·.2)).size ≤ sizeLine + 1
   rw [Array.size_map,pm.size_eq,pairsOf_size]
   exact Nat.le_trans (show vs.length ≤ 1000 by omega) (by decide)
 by_cases h2:vs.toArray.size < 2
 ·rw [if_pos h2,if_pos h2]
  refine wpAny_bind (wpAny_pure ?_)
  dsimp only
  rw [StateT.run_pure]
  refine wpAny_bind (wpAny_pure (done _ (SortSt.mk' general' (vs.toArray.zip vs.toArray) #[] 7 none) rfl rfl (Array.Perm.refl _) fun i j ij jl => ?_))
  rw [pairsOf_size] at jl
  rw [show i=j by omega]
  exact Int.le_refl _
 ·rw [if_neg h2,if_neg h2]
  refine wpAny_bind (hk (by omega) _ k6 _ _ ?_)
  refine wpAny_bind (wpAny_mono (runs_ok (hL _ k6) (st:=SortSt.mk' k0 (vs.toArray.zip vs.toArray) #[] 7 none) (a0:=pairsOf vs) ⟨Array.Perm.refl _,rfl,rfl,rfl⟩ (by rw [pairsOf_size]; omega) (by rw [pairsOf_size]; exact h64) (Q:=fun _ t => (arrOf t).Perm (pairsOf vs)∧failedOf t=none∧∀ i j,i ≤ j→j < (pairsOf vs).size→RK rk (arrOf t) i ≤ RK rk (arrOf t) j) fun t p1 p2 p3 => ⟨p1,p2,p3⟩) ?_ fun _ _ z => z)
  rintro ⟨⟨⟩,t⟩ s' ⟨rfl,p1,p2,p3⟩
  exact done _ t rfl p2 p1 p3
end
end L2
namespace L2
open PySem PySem.Spec PyProof.Rows
abbrev Pb:=SetTable.Probe
def adv (m:Nat) (p:Pb):Pb:=if p.more > 0 then { p with j:=p.j + 1,more:=p.more - 1 } else { p with j:=(p.i * 5 + 1 + p.perturb / 32) % (m + 1),more:=SetTable.runEnd m ((p.i * 5 + 1 + p.perturb / 32) % (m + 1)) - (p.i * 5 + 1 + p.perturb / 32) % (m + 1),i:=(p.i * 5 + 1 + p.perturb / 32) % (m + 1),perturb:=p.perturb / 32 }
def itP (m:Nat) (p:Pb):Nat→Pb
 | 0 => p
 | k + 1 => adv m (itP m p k)
theorem itP_add (m:Nat) (p:Pb) (a b:Nat):itP m p (a + b)=itP m (itP m p a) b:=by
 induction b with
 | zero => rfl
 | succ b ih => show adv m (itP m p (a + b))=adv m _; rw [ih]
theorem adv_dummy (m:Nat) (p:Pb):(adv m p).dummy=p.dummy:=by unfold adv; split <;> rfl
theorem itP_dummy (m:Nat) (p:Pb):∀ k,(itP m p k).dummy=p.dummy
 | 0 => rfl
 | k + 1 => by show (adv m _).dummy=_; rw [adv_dummy,itP_dummy m p k]
def lp (m:Nat) (p:Pb):Pb:={ p with j:=(p.i * 5 + 1 + p.perturb / 32) % (m + 1),more:=SetTable.runEnd m ((p.i * 5 + 1 + p.perturb / 32) % (m + 1)) - (p.i * 5 + 1 + p.perturb / 32) % (m + 1),i:=(p.i * 5 + 1 + p.perturb / 32) % (m + 1),perturb:=p.perturb / 32 }
theorem run_pos (m:Nat):∀ (k:Nat) (p:Pb),k ≤ p.more→itP m p k = { p with j:=p.j + k,more:=p.more - k }
 | 0,p,_ => rfl
 | k + 1,p,h => by
  show adv m (itP m p k)=_
  rw [run_pos m k p (by omega)]
  unfold adv
  rw [if_pos (show p.more - k > 0 by omega)]
  show ({ p with j:=p.j + k + 1,more:=p.more - k - 1 } : Pb)=_
  rw [Nat.add_assoc,Nat.sub_sub]
theorem itP_lp (m:Nat) (p:Pb):itP m p (p.more + 1)=lp m p:=by
 show adv m (itP m p p.more)=_
 rw [run_pos m p.more p (Nat.le_refl _)]
 unfold adv
 rw [if_neg (show ¬ p.more - p.more > 0 by omega)]
 rfl
def lpN (m:Nat) (p:Pb):Nat→Pb
 | 0 => p
 | n + 1 => lp m (lpN m p n)
theorem lp_more (m:Nat) (p:Pb):(lp m p).more ≤ 9:=by
 show SetTable.runEnd m _ - _ ≤ 9
 unfold SetTable.runEnd
 split <;> omega
theorem lpN_more {m:Nat} {p:Pb} (h:p.more ≤ 9):∀ n,(lpN m p n).more ≤ 9
 | 0 => h
 | n + 1 => lp_more m _
theorem lpN_at {m:Nat} {p:Pb} (h:p.more ≤ 9):∀ n,∃ k,k ≤ 10 * n∧itP m p k=lpN m p n
 | 0 => ⟨0,Nat.le_refl _,rfl⟩
 | n + 1 => by
  obtain ⟨k,hk,e⟩:=lpN_at h n
  refine ⟨k + ((lpN m p n).more + 1),by have:=lpN_more (m:=m) h n; omega,?_⟩
  rw [itP_add,e,itP_lp]
  rfl
theorem lpN_perturb {m:Nat} {p:Pb} : ∀ n,(lpN m p n).perturb=p.perturb / 32 ^ n
 | 0 => by rw [Nat.pow_zero,Nat.div_one]; rfl
 | n + 1 => by
  show (lpN m p n).perturb / 32=_
  rw [lpN_perturb n,Nat.div_div_eq_div_mul,Nat.pow_succ]
def fLc (m i:Nat):Nat:=(i * 5 + 1) % (m + 1)
def fIt (m i:Nat):Nat→Nat
 | 0 => i
 | n + 1 => fLc m (fIt m i n)
theorem fIt_add (m i:Nat) (a b:Nat):fIt m i (a + b)=fIt m (fIt m i a) b:=by
 induction b with
 | zero => rfl
 | succ b ih => show fLc m (fIt m i (a + b))=fLc m _; rw [ih]
theorem lpN_late {m:Nat} {p:Pb} (h:p.perturb < 2 ^ 64):∀ n,(lpN m p (13 + n)).i=fIt m (lpN m p 13).i n∧(lpN m p (13 + n)).perturb=0
 | 0 => ⟨rfl,by rw [lpN_perturb]; exact Nat.div_eq_of_lt (Nat.lt_trans h (by decide))⟩
 | n + 1 => by
  obtain ⟨e1,e2⟩:=lpN_late h n
  constructor
  ·show ((lpN m p (13 + n)).i * 5 + 1 + (lpN m p (13 + n)).perturb / 32) % (m + 1)=fLc m (fIt m _ n)
   rw [e1,e2]; rfl
  ·show (lpN m p (13 + n)).perturb / 32=0
   rw [e2]
def OkM (m:Nat):Prop:=m=7 ∨ m=31 ∨ m=127 ∨ m=511
def orbGo (m:Nat):Nat→Nat→List Nat
 | 0,_ => []
 | k + 1,i => i :: orbGo m k (fLc m i)
theorem orbGo_get (m:Nat):∀ (k i n:Nat) (x:Nat),(orbGo m k i)[n]? = some x→n < k∧x=fIt m i n
 | 0,i,n,x,h => by cases h
 | k + 1,i,0,x,h => by cases h; exact ⟨Nat.succ_pos _,rfl⟩
 | k + 1,i,n + 1,x,h => by
  obtain ⟨a,b⟩:=orbGo_get m k (fLc m i) n x h
  refine ⟨by omega,?_⟩
  rw [b,Nat.add_comm n 1,fIt_add]
  rfl
theorem full_7:(List.range 8).all (fun e => (orbGo 7 8 0).contains e)=true∧fIt 7 0 8=0:=by decide
theorem full_31:(List.range 32).all (fun e => (orbGo 31 32 0).contains e)=true∧fIt 31 0 32=0:=by decide +kernel
theorem full_127:(List.range 128).all (fun e => (orbGo 127 128 0).contains e)=true∧fIt 127 0 128=0:=by decide +kernel
theorem full_511:(List.range 512).all (fun e => (orbGo 511 512 0).contains e)=true∧fIt 511 0 512=0:=by decide +kernel
theorem full_of {m:Nat} (h:OkM m):(∀ e,e ≤ m→∃ n,n ≤ m∧fIt m 0 n=e)∧fIt m 0 (m + 1)=0:=by
 have key:∀ m,(List.range (m + 1)).all (fun e => (orbGo m (m + 1) 0).contains e)=true→∀ e,e ≤ m→∃ n,n ≤ m∧fIt m 0 n=e:=fun m h e he => by
  have:=List.all_eq_true.mp h e (List.mem_range.mpr (by omega))
  obtain ⟨n,hn⟩:=List.mem_iff_getElem?.mp (List.contains_iff_mem.mp this)
  obtain ⟨a,b⟩:=orbGo_get m _ _ _ _ hn
  exact ⟨n,by omega,b.symm⟩
 rcases h with rfl | rfl | rfl | rfl
 ·exact ⟨key 7 full_7.1,full_7.2⟩
 ·exact ⟨key 31 full_31.1,full_31.2⟩
 ·exact ⟨key 127 full_127.1,full_127.2⟩
 ·exact ⟨key 511 full_511.1,full_511.2⟩
theorem full_any {m:Nat} (h:OkM m) {i e:Nat} (hi:i ≤ m) (he:e ≤ m):∃ n,n ≤ m∧fIt m i n=e:=by
 obtain ⟨f1,f2⟩:=full_of h
 obtain ⟨a,ha,ea⟩:=f1 i hi
 obtain ⟨b,hb,eb⟩:=f1 e he
 by_cases z:a ≤ b
 ·refine ⟨b - a,by omega,?_⟩
  rw [← ea,← fIt_add,show a + (b - a)=b by omega]; exact eb
 ·refine ⟨b + (m + 1) - a,by omega,?_⟩
  rw [← ea,← fIt_add,show a + (b + (m + 1) - a)=(m + 1) + b by omega,fIt_add,f2]; exact eb
theorem lpN_i {m:Nat} {p:Pb} (hi:p.i ≤ m):∀ n,(lpN m p n).i ≤ m
 | 0 => hi
 | n + 1 => by
  exact Nat.le_of_lt_succ (Nat.mod_lt ((lpN m p n).i * 5 + 1 + (lpN m p n).perturb / 32) (Nat.succ_pos m))
theorem meets {m:Nat} (h:OkM m) {p:Pb} (hp:p.perturb < 2 ^ 64) (hm:p.more ≤ 9) (hi:p.i ≤ m) {e:Nat} (he:e ≤ m):∃ n,n ≤ 13 + m∧13 ≤ n∧(lpN m p n).j=e∧(lpN m p n).i=e:=by
 obtain ⟨n,hn,en⟩:=full_any h (lpN_i (m:=m) hi 13) he
 have z:=(lpN_late (m:=m) hp n).1
 rw [en] at z
 refine ⟨13 + n,by omega,by omega,?_,z⟩
 rw [← z]
 rw [show 13 + n=(12 + n) + 1 by omega]
 rfl
theorem meets_it {m:Nat} (h:OkM m) {p:Pb} (hp:p.perturb < 2 ^ 64) (hm:p.more ≤ 9) (hi:p.i ≤ m) {e:Nat} (he:e ≤ m):∃ k,k < 10 * SetTable.turns m∧(itP m p k).j=e:=by
 obtain ⟨n,hn,_,ej,_⟩:=meets h hp hm hi he
 obtain ⟨k,hk,ek⟩:=lpN_at (m:=m) hm n
 refine ⟨k,by unfold SetTable.turns; omega,?_⟩
 rw [ek]; exact ej
end L2
namespace L2
open PySem PySem.Spec PyProof.Rows
def Occ (t:SetTable) (j:Nat):Prop:=∃ i:Nat,t.place[i]? = some j
theorem below_at {xs:Array Nat} (h:xs.toList.Pairwise (· < ·)) {i j:Nat} (hi:xs[i]? = some j):SetTable.below xs j=i:=by
 obtain ⟨b1,b2,b3⟩:=below_ok h j
 obtain ⟨hl,hg⟩:=Array.getElem?_eq_some_iff.mp hi
 have gd:∀ k,k < xs.size→xs.getD k 0=xs[k]!:=fun k hk => by simp [Array.getD,hk]
 have lt:∀ a b,a < b→(hb:b < xs.size)→∀ (ha:a < xs.size),xs[a] < xs[b]:=fun a b hab hb ha => by
  have:=List.pairwise_iff_getElem.mp h a b (by simpa using ha) (by simpa using hb) hab
  simpa using this
 rcases Nat.lt_trichotomy (SetTable.below xs j) i with z | z | z
 ·have hb:SetTable.below xs j < xs.size:=by omega
  have q:=b3 _ (Nat.le_refl _) hb
  rw [Array.getD_eq_getD_getElem?,Array.getElem?_eq_getElem hb] at q
  have q:j ≤ xs[SetTable.below xs j]:=q
  have:=lt _ _ z hl hb
  omega
 ·exact z
 ·have q:=b2 i z
  rw [Array.getD_eq_getD_getElem?,hi] at q
  have q:j < j:=q
  omega
theorem slot_live {t:SetTable} {led:Bool} (h:TB t led) {i j:Nat} (hi:t.place[i]? = some j):t.slot j = .live i:=by
 unfold SetTable.slot
 dsimp only
 rw [below_at h.up hi,hi]
 simp
theorem slot_empty {t:SetTable} {led:Bool} (h:TB t led) {j:Nat} (hj : ¬ Occ t j):t.slot j = .empty:=by
 unfold SetTable.slot
 dsimp only
 have ne : ¬ (t.place[SetTable.below t.place j]? == some j)=true:=fun z => hj ⟨_,by simpa using z⟩
 rw [if_neg ne]
 have e:SetTable.has t.dummies j=false:=by rw [h.dum]; rfl
 rw [e]
 rfl
theorem first_free {t:SetTable} {p:Pb} {n:Nat} (h:∃ k,k < n∧¬ Occ t (itP t.mask p k).j):∃ k,k < n∧¬ Occ t (itP t.mask p k).j∧∀ k',k' < k→Occ t (itP t.mask p k').j:=by
 obtain ⟨k,hk,hf⟩:=h
 induction k using Nat.strongRecOn with
 | _ k ih =>
  by_cases z:∃ k',k' < k∧¬ Occ t (itP t.mask p k').j
  ·obtain ⟨k',hk',hf'⟩:=z
   exact ih k' hk' (by omega) hf'
  ·exact ⟨k,hk,hf,fun k' hk' => Classical.byContradiction fun q => z ⟨k',hk',q⟩⟩
theorem probe_walk {t:SetTable} {led:Bool} (tb:TB t led) {f:Nat→Int} {h:Int} {p:Pb} (hd:p.dummy=none):∀ (fuel k:Nat),¬ Occ t (itP t.mask p k).j→(∀ k',k' < k→Occ t (itP t.mask p k').j)→∀ c,c ≤ k→k < c + fuel →
  (∃ n i,c ≤ n∧n < k∧t.place[i]? = some (itP t.mask p n).j∧f i=h∧(∀ n' i',c ≤ n'→n' < n→t.place[i']? = some (itP t.mask p n').j→f i' ≠ h)∧SetTable.probe.go t f h fuel (itP t.mask p c)=some (.candidate (itP t.mask p n).j i (itP t.mask p (n + 1)))) ∨
  ((∀ n i,c ≤ n→n < k→t.place[i]? = some (itP t.mask p n).j→f i ≠ h)∧SetTable.probe.go t f h fuel (itP t.mask p c)=some (.empty (itP t.mask p k).j none))
 | 0,k,_,_,c,ck,kf => by omega
 | fuel + 1,k,hf,ho,c,ck,kf => by
  by_cases e:c=k
  ·subst e
   refine .inr ⟨fun n i h1 h2 => by omega,?_⟩
   unfold SetTable.probe.go
   rw [slot_empty tb hf]
   dsimp only
   rw [itP_dummy,hd]
  ·obtain ⟨i,hi⟩:=ho c (by omega)
   have sl:=slot_live tb hi
   by_cases z:f i=h
   ·refine .inl ⟨c,i,Nat.le_refl _,by omega,hi,z,fun n' i' h1 h2 => by omega,?_⟩
    unfold SetTable.probe.go
    rw [sl]
    dsimp only
    rw [if_pos (by simpa using z)]
    rfl
   ·have step:SetTable.probe.go t f h (fuel + 1) (itP t.mask p c)=SetTable.probe.go t f h fuel (itP t.mask p (c + 1)):=by
     conv => lhs; unfold SetTable.probe.go
     rw [sl]
     dsimp only
     rw [if_neg (by simpa using z)]
     rfl
    rw [step]
    rcases probe_walk tb hd fuel k hf ho (c + 1) (by omega) (by omega) with ⟨n,i',h1,h2,h3,h4,h6,h5⟩ | ⟨h1,h2⟩
    ·refine .inl ⟨n,i',by omega,h2,h3,h4,fun n' i2 a b d => ?_,h5⟩
     rcases Nat.lt_or_eq_of_le a with q | q
     ·exact h6 n' i2 q b d
     ·subst q
      have:i=i2:=by rw [← below_at tb.up hi,← below_at tb.up d]
      rw [← this]; exact z
    ·refine .inr ⟨fun n i' a b d => ?_,h2⟩
     rcases Nat.lt_or_eq_of_le a with q | q
     ·exact h1 n i' q b d
     ·subst q
      have:i=i':=by rw [← below_at tb.up hi,← below_at tb.up d]
      rw [← this]; exact z
end L2
namespace L2
open PySem PySem.Spec PyProof.Rows
abbrev Own:=Array (Option Nat)
def startP (m:Nat) (h:Int):Pb:={ j:=SetTable.bits h % (m + 1),more:=SetTable.runEnd m (SetTable.bits h % (m + 1)) - SetTable.bits h % (m + 1),i:=SetTable.bits h % (m + 1),perturb:=SetTable.bits h,dummy:=none }
theorem bits_lt (h:Int):SetTable.bits h < 2 ^ 64:=by
 unfold SetTable.bits
 have a:=Int.emod_nonneg h (by decide:(2 ^ 64:Int) ≠ 0)
 have b:=Int.emod_lt_of_pos h (by decide:(0:Int) < 2 ^ 64)
 omega
theorem run_le (m i:Nat):SetTable.runEnd m i - i ≤ 9:=by unfold SetTable.runEnd; split <;> omega
theorem free_ok {m:Nat} {ow:Own} : ∀ (fuel:Nat) (p:Pb),p.j=p.i→p.more=SetTable.runEnd m p.i - p.i→∀ {j:Nat},SetTable.layClean.free m ow fuel p.i p.perturb=some j →
  ∃ k,(itP m p k).j=j∧ow.getD j (some 0)=none∧∀ k',k' < k→ow.getD (itP m p k').j (some 0) ≠ none
 | 0,p,_,_,j,h => by unfold SetTable.layClean.free at h; cases h
 | fuel + 1,p,hj,hm,j,h => by
  have le:p.i ≤ SetTable.runEnd m p.i:=by unfold SetTable.runEnd; split <;> omega
  have len:SetTable.runEnd m p.i + 1 - p.i=p.more + 1:=by omega
  unfold SetTable.layClean.free at h
  rw [len] at h
  cases z:(List.range (p.more + 1)).find? (fun k => (ow.getD (p.i + k) (some 0)).isNone) with
  | some k =>
   rw [z] at h
   dsimp only at h
   cases h
   obtain ⟨q1,as,bs,q2,q3⟩:=List.find?_eq_some_iff_append.mp z
   have kr:k ∈ List.range (p.more + 1):=by rw [q2]; simp
   have kl:=List.mem_range.mp kr
   refine ⟨k,by rw [run_pos m k p (by omega)]; show p.j + k=_; rw [hj],by simpa using q1,fun k' hk' => ?_⟩
   rw [run_pos m k' p (by omega)]
   show ow.getD (p.j + k') (some 0) ≠ none
   rw [hj]
   have mem:k' ∈ as:=by
    have i1:(List.range (p.more + 1))[k']? = some k':=by rw [List.getElem?_range (by omega)]
    have i2:(List.range (p.more + 1))[k]? = some k:=by rw [List.getElem?_range (by omega)]
    rw [q2] at i1 i2
    by_cases la:k' < as.length
    ·rw [List.getElem?_append_left la] at i1
     exact List.mem_of_getElem? i1
    ·exfalso
     have ea:as.length=k:=by
      have i3:(as ++ k :: bs)[as.length]? = some k:=by rw [List.getElem?_append_right (Nat.le_refl _),Nat.sub_self]; rfl
      rw [← q2] at i3
      by_cases l2:as.length < p.more + 1
      ·rw [List.getElem?_range l2] at i3; cases i3; rfl
      ·rw [List.getElem?_eq_none (by rw [List.length_range]; omega)] at i3; cases i3
     omega
   have q4:=q3 k' mem
   intro q5
   rw [q5] at q4
   cases q4
  | none =>
   rw [z] at h
   dsimp only at h
   have al:=List.find?_eq_none.mp z
   have rc:=free_ok fuel (lp m p) rfl rfl (j:=j) h
   obtain ⟨k,e1,e2,e3⟩:=rc
   refine ⟨p.more + 1 + k,by rw [itP_add,itP_lp]; exact e1,e2,fun k' hk' => ?_⟩
   by_cases l:k' < p.more + 1
   ·rw [run_pos m k' p (by omega)]
    show ow.getD (p.j + k') (some 0) ≠ none
    rw [hj]
    have:=al k' (List.mem_range.mpr l)
    simpa using this
   ·have e:k' = p.more + 1 + (k' - (p.more + 1)):=by omega
    rw [e,itP_add,itP_lp]
    exact e3 _ (by omega)
theorem free_some {m:Nat} {ow:Own} : ∀ (fuel:Nat) (p:Pb),p.j=p.i→p.more=SetTable.runEnd m p.i - p.i→(∃ n,n < fuel∧ow.getD (lpN m p n).j (some 0)=none)→∃ j,SetTable.layClean.free m ow fuel p.i p.perturb=some j
 | 0,p,_,_,⟨n,h,_⟩ => by omega
 | fuel + 1,p,hj,hm,⟨n,hn,he⟩ => by
  unfold SetTable.layClean.free
  cases z:(List.range (SetTable.runEnd m p.i + 1 - p.i)).find? (fun k => (ow.getD (p.i + k) (some 0)).isNone) with
  | some k => exact ⟨p.i + k,rfl⟩
  | none =>
   dsimp only
   have le:p.i ≤ SetTable.runEnd m p.i:=by unfold SetTable.runEnd; split <;> omega
   cases n with
   | zero =>
    exfalso
    have:=List.find?_eq_none.mp z 0 (List.mem_range.mpr (by omega))
    have he:ow.getD p.j (some 0)=none:=he
    rw [hj] at he
    rw [Nat.add_zero,he] at this
    exact this rfl
   | succ n =>
    refine free_some fuel (lp m p) rfl rfl ⟨n,by omega,?_⟩
    have e:∀ n,lpN m (lp m p) n=lpN m p (n + 1):=fun n => by
     induction n with
     | zero => rfl
     | succ n ih => show lp m (lpN m (lp m p) n)=lp m (lpN m p (n + 1)); rw [ih]
    rw [e]; exact he
structure LC (m:Nat) (ow:Own) (hs:List Int):Prop where
 size:ow.size=m + 1
 at' : ∀ (k:Nat) (h:Int),hs[k]? = some h→∃ j:Nat,ow[j]? = some (some k)∧∃ n,(itP m (startP m h) n).j=j∧∀ n',n' < n→ow.getD (itP m (startP m h) n').j (some 0) ≠ none
 few:∀ (j k:Nat),ow[j]? = some (some k)→k < hs.length
 one:∀ (j j' k:Nat),ow[j]? = some (some k)→ow[j']? = some (some k)→j=j'
theorem nodup_leN:∀ {l m:List Nat},l.Nodup→(∀ x ∈ l,x ∈ m)→l.length ≤ m.length
 | [],m,_,_ => Nat.zero_le _
 | a :: l,m,h,hm => by
  rw [List.nodup_cons] at h
  have ha:=hm a List.mem_cons_self
  have q:=nodup_leN (m:=m.erase a) h.2 fun x hx => (List.mem_erase_of_ne (fun z:x=a => h.1 (by rw [← z]; exact hx))).mpr (hm x (List.mem_cons_of_mem _ hx))
  rw [List.length_erase_of_mem ha] at q
  have:=List.length_pos_of_mem ha
  simp only [List.length_cons]
  omega
theorem LC.room {m:Nat} {ow:Own} {hs:List Int} (c:LC m ow hs) (hl:hs.length ≤ m):∃ e,e ≤ m∧ow.getD e (some 0)=none:=by
 refine Classical.byContradiction fun z => ?_
 have al:∀ e,e ≤ m→∃ k,ow[e]? = some (some k):=fun e he => by
  have hlt:e < ow.size:=by rw [c.size]; omega
  cases q:ow[e] with
  | none => exact absurd ⟨e,he,by rw [Array.getD_eq_getD_getElem?,Array.getElem?_eq_getElem hlt,q]; rfl⟩ z
  | some k => exact ⟨k,by rw [Array.getElem?_eq_getElem hlt,q]⟩
 let g:Nat→Nat:=fun e => (ow.getD e none).getD 0
 have gk:∀ e,e ≤ m→ow[e]? = some (some (g e)):=fun e he => by
  obtain ⟨k,hk⟩:=al e he
  have:g e=k:=by show (ow.getD e none).getD 0=k; rw [Array.getD_eq_getD_getElem?,hk]; rfl
  rw [this]; exact hk
 have nd:((List.range (m + 1)).map g).Nodup:=by
  rw [List.nodup_iff_pairwise_ne,List.pairwise_map]
  refine List.nodup_iff_pairwise_ne.mp List.nodup_range |>.imp_of_mem ?_
  intro a b ha hb ne e
  have ha:=List.mem_range.mp ha
  have hb:=List.mem_range.mp hb
  have h1:=gk a (by omega)
  have h2:=gk b (by omega)
  rw [e] at h1
  exact ne (c.one _ _ _ h1 h2)
 have:=nodup_leN (m:=List.range hs.length) nd fun x hx => by
  obtain ⟨e,he,rfl⟩:=List.mem_map.mp hx
  exact List.mem_range.mpr (c.few _ _ (gk e (by have:=List.mem_range.mp he; omega)))
 rw [List.length_map,List.length_range,List.length_range] at this
 omega
theorem LC.step {m:Nat} (hm:OkM m) {ow:Own} {hs:List Int} (c:LC m ow hs) (hl:hs.length ≤ m) (h:Int):∃ j,SetTable.layClean.free m ow (SetTable.turns m) (SetTable.bits h % (m + 1)) (SetTable.bits h)=some j∧LC m (ow.setIfInBounds j (some hs.length)) (hs ++ [h]):=by
 obtain ⟨e,he,hf⟩:=c.room hl
 have ib:SetTable.bits h % (m + 1) ≤ m:=Nat.le_of_lt_succ (Nat.mod_lt _ (Nat.succ_pos m))
 obtain ⟨n,n1,_,n2,_⟩:=meets hm (p:=startP m h) (bits_lt h) (run_le m _) ib he
 obtain ⟨j,hj⟩:=free_some (m:=m) (ow:=ow) (SetTable.turns m) (startP m h) rfl rfl ⟨n,by unfold SetTable.turns; omega,by rw [n2]; exact hf⟩
 have hj' : SetTable.layClean.free m ow (SetTable.turns m) (SetTable.bits h % (m + 1)) (SetTable.bits h)=some j:=hj
 refine ⟨j,hj',?_⟩
 obtain ⟨k,k1,k2,k3⟩:=free_ok (SetTable.turns m) (startP m h) rfl rfl hj
 have jl:j < ow.size:=by
  refine Classical.byContradiction fun z => ?_
  rw [Array.getD_eq_getD_getElem?,Array.getElem?_eq_none (by omega)] at k2
  cases k2
 have jn:ow[j]? = some none:=by
  rw [Array.getD_eq_getD_getElem?,Array.getElem?_eq_getElem jl] at k2
  rw [Array.getElem?_eq_getElem jl]
  exact congrArg some k2
 have gs:∀ x,(ow.setIfInBounds j (some hs.length))[x]? = if j=x then some (some hs.length) else ow[x]?:=fun x => by
  rw [Array.getElem?_setIfInBounds]
  by_cases q:j=x
  ·subst q; simp [jl]
  ·simp [q]
 have occ:∀ x,ow.getD x (some 0) ≠ none→(ow.setIfInBounds j (some hs.length)).getD x (some 0) ≠ none:=fun x hx => by
  rw [Array.getD_eq_getD_getElem?,gs]
  split
  ·intro q; cases q
  ·rw [← Array.getD_eq_getD_getElem?]; exact hx
 refine ⟨by rw [Array.size_setIfInBounds]; exact c.size,fun x y hx => ?_,fun x y hx => ?_,fun x x' y hx hx' => ?_⟩
 ·by_cases z:x < hs.length
  ·rw [List.getElem?_append_left z] at hx
   obtain ⟨i,i1,nn,i2,i3⟩:=c.at' x y hx
   refine ⟨i,?_,nn,i2,fun n' hn' => occ _ (i3 n' hn')⟩
   rw [gs,if_neg (fun q => by rw [← q,jn] at i1; cases i1)]
   exact i1
  ·have e:x=hs.length:=by
    have:=(List.getElem?_eq_some_iff.mp hx).1
    rw [List.length_append] at this
    simp at this
    omega
   subst e
   rw [List.getElem?_append_right (Nat.le_refl _),Nat.sub_self] at hx
   cases hx
   refine ⟨j,by rw [gs,if_pos rfl],k,k1,fun n' hn' => occ _ (k3 n' hn')⟩
 ·rw [gs] at hx
  rw [List.length_append]
  split at hx
  ·cases hx; simp
  ·have:=c.few x y hx
   simp
   omega
 ·rw [gs] at hx hx'
  split at hx
  ·rename_i q
   cases hx
   split at hx'
   ·rename_i q'; rw [← q,← q']
   ·exact absurd (c.few _ _ hx') (Nat.lt_irrefl _)
  ·split at hx'
   ·cases hx'; exact absurd (c.few _ _ hx) (Nat.lt_irrefl _)
   ·exact c.one _ _ _ hx hx'
theorem layClean_ok {m:Nat} (hm:OkM m) {hs:Array Int} (hl:hs.size ≤ m + 1):∃ ow,SetTable.layClean m hs=some ow∧LC m ow hs.toList:=by
 have key:∀ (l done:List Int) (ow:Own),done.length + l.length ≤ m + 1→LC m ow done→∃ ow',l.foldl (fun (acc:Option (Own × Nat)) h => do
   let (owner,k) ← acc
   let j ← SetTable.layClean.free m owner (SetTable.turns m) (SetTable.bits h % (m + 1)) (SetTable.bits h)
   pure (owner.setIfInBounds j (some k),k + 1)) (some (ow,done.length))=some (ow',(done ++ l).length)∧LC m ow' (done ++ l):=by
  intro l
  induction l with
  | nil => intro done ow _ c; exact ⟨ow,by rw [List.append_nil]; rfl,by rw [List.append_nil]; exact c⟩
  | cons h l ih =>
   intro done ow hle c
   simp only [List.length_cons] at hle
   obtain ⟨j,hj,c2⟩:=c.step hm (by omega) h
   obtain ⟨ow',e,c3⟩:=ih (done ++ [h]) (ow.setIfInBounds j (some done.length)) (by rw [List.length_append]; simp; omega) c2
   refine ⟨ow',?_,by rw [List.append_assoc] at c3; exact c3⟩
   rw [List.foldl_cons]
   rw [List.append_assoc] at e
   rw [← List.singleton_append,← e]
   congr 1
   show (do
    let j ← SetTable.layClean.free m ow (SetTable.turns m) (SetTable.bits h % (m + 1)) (SetTable.bits h)
    pure (ow.setIfInBounds j (some done.length),done.length + 1))=_
   rw [hj,List.length_append]
   rfl
 have c0:LC m (Array.replicate (m + 1) none) []:=by
  have no:∀ (j k:Nat),(Array.replicate (m + 1) (none:Option Nat))[j]? ≠ some (some k):=fun j k z => by
   rw [Array.getElem?_replicate] at z
   split at z <;> cases z
  exact ⟨by simp,fun k h hk => (by cases hk),fun j k h => absurd h (no j k),fun j j' k h => absurd h (no j k)⟩
 obtain ⟨ow,e,c⟩:=key hs.toList [] _ (by simpa using hl) c0
 refine ⟨ow,?_,by simpa using c⟩
 unfold SetTable.layClean
 rw [← Array.foldl_toList]
 have e':=e
 simp only [List.nil_append,List.length_nil] at e'
 rw [e']
 rfl
end L2
namespace L2
open PySem PySem.Spec PyProof.Rows
theorem adv_j {m:Nat} {p:Pb} (h:p.j + p.more ≤ m):(adv m p).j + (adv m p).more ≤ m:=by
 unfold adv
 split
 ·show p.j + 1 + (p.more - 1) ≤ m; omega
 ·have q:(p.i * 5 + 1 + p.perturb / 32) % (m + 1) ≤ m:=Nat.le_of_lt_succ (Nat.mod_lt _ (Nat.succ_pos m))
  show _ % (m + 1) + (SetTable.runEnd m _ - _) ≤ m
  unfold SetTable.runEnd
  split <;> omega
theorem itP_j {m:Nat} {p:Pb} (h:p.j + p.more ≤ m):∀ k,(itP m p k).j + (itP m p k).more ≤ m
 | 0 => h
 | k + 1 => adv_j (itP_j h k)
theorem start_j (m:Nat) (h:Int):(startP m h).j + (startP m h).more ≤ m:=by
 have q:SetTable.bits h % (m + 1) ≤ m:=Nat.le_of_lt_succ (Nat.mod_lt _ (Nat.succ_pos m))
 show _ % (m + 1) + (SetTable.runEnd m _ - _) ≤ m
 unfold SetTable.runEnd
 split <;> omega
theorem start_le (m:Nat) (h:Int) (k:Nat):(itP m (startP m h) k).j ≤ m:=by have:=itP_j (start_j m h) k; omega
structure TabOk (t:SetTable) (led:Bool) (hs:List Int):Prop where
 tb:TB t led
 m:(t.mask=7∧hs.length ≤ 4) ∨ (t.mask=31∧hs.length ≤ 18) ∨ (t.mask=127∧hs.length ≤ 76) ∨ (t.mask=511∧hs.length ≤ 306)
 sz:t.place.size=hs.length
 le:∀ (i j:Nat),t.place[i]? = some j→j ≤ t.mask
 rch:∀ (i:Nat) (h:Int),hs[i]? = some h→∃ j:Nat,t.place[i]? = some j∧∃ n,(itP t.mask (startP t.mask h) n).j=j∧∀ n',n' < n→Occ t (itP t.mask (startP t.mask h) n').j
theorem TabOk.okm {t:SetTable} {led:Bool} {hs:List Int} (k:TabOk t led hs):OkM t.mask:=by
 rcases k.m with h | h | h | h
 ·exact .inl h.1
 ·exact .inr (.inl h.1)
 ·exact .inr (.inr (.inl h.1))
 ·exact .inr (.inr (.inr h.1))
theorem TabOk.few {t:SetTable} {led:Bool} {hs:List Int} (k:TabOk t led hs):hs.length + 1 ≤ t.mask:=by rcases k.m with h | h | h | h <;> omega
theorem TabOk.fits {t:SetTable} {led:Bool} {hs:List Int} (k:TabOk t led hs):t.fits hs.length=true:=by
 unfold SetTable.fits SetTable.fill
 rw [k.sz,k.tb.dum]
 have:=k.few
 simp
 omega
theorem TabOk.room {t:SetTable} {led:Bool} {hs:List Int} (k:TabOk t led hs):∃ e,e ≤ t.mask∧¬ Occ t e:=by
 refine Classical.byContradiction fun z => ?_
 have al:∀ e,e ≤ t.mask→e ∈ t.place.toList:=fun e he => by
  refine Classical.byContradiction fun q => z ⟨e,he,fun ⟨i,hi⟩ => q ?_⟩
  rw [← Array.getElem?_toList] at hi
  exact List.mem_of_getElem? hi
 have:=nodup_leN (l:=List.range (t.mask + 1)) (m:=t.place.toList) List.nodup_range fun x hx => al x (by have:=List.mem_range.mp hx; omega)
 rw [List.length_range,Array.length_toList,k.sz] at this
 have:=k.few
 omega
theorem live_mem {m:Nat} {ow:Own} (hsz:ow.size=m + 1) {j k:Nat} : (j,k) ∈ ((List.range (m + 1)).filterMap fun j => (ow.getD j none).map (j,·)) ↔ ow[j]? = some (some k):=by
 rw [List.mem_filterMap]
 constructor
 ·rintro ⟨x,hx,e⟩
  cases q:ow.getD x none with
  | none => rw [q] at e; cases e
  | some y =>
   rw [q] at e
   cases e
   have:=List.mem_range.mp hx
   rw [Array.getD_eq_getD_getElem?,Array.getElem?_eq_getElem (by omega)] at q
   rw [Array.getElem?_eq_getElem (by omega)]
   exact congrArg some q
 ·intro h
  have hl:=(Array.getElem?_eq_some_iff.mp h).1
  refine ⟨j,List.mem_range.mpr (by omega),?_⟩
  rw [Array.getD_eq_getD_getElem?,h]
  rfl
theorem relaid_ok {t:SetTable} {led:Bool} (tb:TB t led) {hs:Array Int} {want:Nat} (hm:OkM (SetTable.sizeAbove want - 1)) (hl:hs.size ≤ SetTable.sizeAbove want - 1)
  (hb:((SetTable.sizeAbove want - 1)=7∧hs.size ≤ 4) ∨ ((SetTable.sizeAbove want - 1)=31∧hs.size ≤ 18) ∨ ((SetTable.sizeAbove want - 1)=127∧hs.size ≤ 76) ∨ ((SetTable.sizeAbove want - 1)=511∧hs.size ≤ 306)) :
  ∃ t' order,t.relaid hs want=some (t',order)∧order.toList.Perm (List.range hs.size)∧∀ hs' : List Int,hs'.length=hs.size→(∀ (i k:Nat),order[i]? = some k→hs'[i]? = hs[k]?)→TabOk t' led hs':=by
 generalize hmm:SetTable.sizeAbove want - 1=m at *
 obtain ⟨ow,e,c⟩:=layClean_ok hm (hs:=hs) (by omega)
 have cl:hs.toList.length=hs.size:=Array.length_toList
 let live:=(List.range (m + 1)).filterMap fun j => (ow.getD j none).map (j,·)
 have hr:t.relaid hs want=some ({ mask:=m,place:=(live.map (·.1)).toArray,dummies:=#[],finger:=t.finger,led:=t.led,moves:=t.movedTo m,plain:=t.plain },(live.map (·.2)).toArray):=by
  unfold SetTable.relaid SetTable.laid
  rw [hmm,e]
  rfl
 have pw:(live.map (·.1)).Pairwise (· < ·):=by
  rw [filter_fst (fun j => ow.getD j none)]
  exact List.pairwise_lt_range.sublist List.filter_sublist
 have pw2:live.Pairwise (fun a b => a.1 < b.1):=List.pairwise_map.mp pw
 have nd:(live.map (·.2)).Nodup:=by
  rw [List.nodup_iff_pairwise_ne,List.pairwise_map]
  refine pw2.imp_of_mem ?_
  rintro ⟨a,a'⟩ ⟨b,b'⟩ ha hb lt z
  have z:a' = b':=z
  subst z
  have:=c.one a b a' ((live_mem c.size).mp ha) ((live_mem c.size).mp hb)
  have lt:a < b:=lt
  omega
 have mem:∀ k,k ∈ live.map (·.2) ↔ k < hs.size:=fun k => by
  rw [List.mem_map]
  constructor
  ·rintro ⟨⟨j,k'⟩,hx,rfl⟩
   have:=c.few j k' ((live_mem c.size).mp hx)
   omega
  ·intro hk
   obtain ⟨j,hj,_⟩:=c.at' k hs.toList[k] (List.getElem?_eq_getElem (by omega))
   exact ⟨(j,k),(live_mem c.size).mpr hj,rfl⟩
 refine ⟨_,_,hr,?_,fun hs' hl' hh => ?_⟩
 ·show (live.map (·.2)).Perm _
  refine (List.perm_ext_iff_of_nodup nd List.nodup_range).mpr fun k => ?_
  rw [mem,List.mem_range]
 ·have ll:live.length=hs.size:=by
   have:=((List.perm_ext_iff_of_nodup nd (List.nodup_range (n:=hs.size))).mpr fun k => by rw [mem,List.mem_range]).length_eq
   rw [List.length_map,List.length_range] at this
   exact this
  have pl:∀ (i j:Nat),(live.map (·.1)).toArray[i]? = some j ↔ ∃ k,live[i]? = some (j,k):=fun i j => by
   rw [List.getElem?_toArray,List.getElem?_map]
   constructor
   ·intro z
    cases q:live[i]? with
    | none => rw [q] at z; cases z
    | some x => rw [q] at z; cases z; exact ⟨x.2,rfl⟩
   ·rintro ⟨k,q⟩; rw [q]; rfl
  have oc:∀ x,x ≤ m→ow.getD x (some 0) ≠ none→Occ { mask:=m,place:=(live.map (·.1)).toArray,dummies:=#[],finger:=t.finger,led:=t.led,moves:=t.movedTo m,plain:=t.plain } x:=fun x hx hn => by
   have xl:x < ow.size:=by rw [c.size]; omega
   cases q:ow[x] with
   | none => exact absurd (by rw [Array.getD_eq_getD_getElem?,Array.getElem?_eq_getElem xl,q]; rfl) hn
   | some k =>
    have:(x,k) ∈ live:=(live_mem c.size).mpr (by rw [Array.getElem?_eq_getElem xl,q])
    obtain ⟨i,hi⟩:=List.mem_iff_getElem?.mp this
    exact ⟨i,(pl i x).mpr ⟨k,hi⟩⟩
  refine ⟨⟨tb.led,rfl,by rw [List.toList_toArray]; exact pw⟩,by rw [hl']; exact hb,by rw [List.size_toArray,List.length_map,ll,hl'],fun i j hij => ?_,fun i h hih => ?_⟩
  ·obtain ⟨k,hk⟩:=(pl i j).mp hij
   have:=(live_mem c.size).mp (List.mem_of_getElem? hk)
   have:=(Array.getElem?_eq_some_iff.mp this).1
   show j ≤ m
   have:=c.size
   omega
  ·have il:i < live.length:=by have:=(List.getElem?_eq_some_iff.mp hih).1; omega
   have hk:live[i]? = some live[i]:=List.getElem?_eq_getElem il
   have ho:(live.map (·.2)).toArray[i]? = some live[i].2:=by rw [List.getElem?_toArray,List.getElem?_map,hk]; rfl
   have e2:=hh i _ ho
   rw [hih] at e2
   obtain ⟨j,hj,n,n1,n2⟩:=c.at' live[i].2 h (by rw [Array.getElem?_toList]; exact e2.symm)
   have mj:=(live_mem c.size).mp (List.mem_of_getElem? hk)
   have ej:=c.one _ _ _ hj mj
   refine ⟨live[i].1,(pl i _).mpr ⟨_,hk⟩,n,(show (itP m (startP m h) n).j=_ from n1.trans ej),fun n' hn' => oc _ (start_le m h n') (n2 n' hn')⟩
end L2
namespace L2
open PySem PySem.Spec PyProof.Rows
theorem items_ints {prog:Program} {w:World} : ∀ {vs:List Value} {u:List Int},IntsAre vs u→ItemsAre (intKind prog w) u vs
 | _,_,.nil => .nil
 | _,_,.cons n t h => .cons (intKind_is _ _ _ _) (items_ints h)
theorem TupI.key {prog:Program} {w:World} {h:Heap} {a:Addr} {u:List Int} (t:TupI h (.ref a) u):IsTupleKey (intKind prog w) h u a:=by
 obtain ⟨b,o,its,n,e,e1,c,d,i⟩:=t
 cases e
 exact ⟨o,its,n,e1,c,d,items_ints i⟩
theorem ints_all:∀ {vs:List Value} {u:List Int},IntsAre vs u→∀ v ∈ vs,∃ n t,v=Value.int n t
 | _,_,.nil,v,hv => by cases hv
 | _,_,.cons n t h,v,hv => by
  rcases List.mem_cons.mp hv with rfl | hv
  ·exact ⟨n,t,rfl⟩
  ·exact ints_all h v hv
section
variable {prog:Program} {w:World} {A:Around} {E:Value→Shared→Prop} {s:Shared}
theorem byValue_tup {x:Value} {u:List Int} {Q:Bool→Shared→Prop} (t:TupI s.heap x u) (h:Q true s):wpAny (model prog w) A (hashByValue 8 x) Q E s:=by
 obtain ⟨a,o,its,n,rfl,e,c,d,i⟩:=t
 have hT:s.TypeIs (.ref a) "tuple" := ⟨o,e,c⟩
 unfold hashByValue
 refine wpAny_bind (wpAny_specialOf hT PySem.F.slot_tuple_hash.lookup ?_)
 show wpAny _ _ (seqItems? (.ref a) >>= _) _ _ s
 refine wpAny_bind (wpAny_seqItems e d ?_)
 refine wpAny_bind ?_
 show wpAny _ _ (forIn its _ _) _ _ s
 rw [← Array.forIn_toList]
 refine wpAny_forIn_list _ (fun l r t => r.1=none∧t=s∧∀ v ∈ l,∃ n t,v=Value.int n t) _ ?_ ?_ _ _ ⟨rfl,rfl,ints_all i⟩
 ·rintro v l r t ⟨hr,rfl,al⟩
  obtain ⟨m,k,rfl⟩:=al v List.mem_cons_self
  refine wpAny_bind (wpAny_pure ?_)
  rw [if_neg (by simp)]
  exact wpAny_pure ⟨rfl,rfl,fun y hy => al y (List.mem_cons_of_mem _ hy)⟩
 ·rintro ⟨r1,r2⟩ t ⟨hr,rfl,_⟩
  cases (show r1=none from hr)
  exact wpAny_pure h
theorem noClass_tup {x:Value} {u:List Int} {Q:Bool→Shared→Prop} (t:TupI s.heap x u) (h:Q false s):wpAny (model prog w) A (ofAClassStatement 8 x) Q E s:=by
 obtain ⟨a,o,its,n,rfl,e,c,d,i⟩:=t
 have hT:s.TypeIs (.ref a) "tuple" := ⟨o,e,c⟩
 unfold ofAClassStatement
 refine wpAny_bind (wpAny_typeOf hT ?_)
 dsimp only
 rw [if_pos (by decide)]
 refine wpAny_bind (wpAny_pure ?_)
 rw [if_neg (by simp)]
 refine wpAny_bind (wpAny_seqItems e d ?_)
 dsimp only
 refine wpAny_bind ?_
 rw [← Array.forIn_toList]
 refine wpAny_forIn_list _ (fun l r t => r.1=none∧t=s∧∀ v ∈ l,∃ n t,v=Value.int n t) _ ?_ ?_ _ _ ⟨rfl,rfl,ints_all i⟩
 ·rintro v l r t ⟨hr,rfl,al⟩
  obtain ⟨m,k,rfl⟩:=al v List.mem_cons_self
  refine wpAny_bind (wpAny_pure ?_)
  rw [if_neg (by simp)]
  exact wpAny_pure ⟨rfl,rfl,fun y hy => al y (List.mem_cons_of_mem _ hy)⟩
 ·rintro ⟨r1,r2⟩ t ⟨hr,rfl,_⟩
  cases (show r1=none from hr)
  exact wpAny_pure h
theorem notSeen {x:Value} {u:List Int} {ys:List Value} {Q:Bool→Shared→Prop} (hx:TupI s.heap x u) (ty:∀ y ∈ ys,∃ v,TupI s.heap y v) (h:Q false s):wpAny (model prog w) A (searchCouldBeSeen x ys) Q E s:=by
 unfold searchCouldBeSeen
 refine wpAny_bind ?_
 refine wpAny_forIn_list _ (fun l r t => r.1=none∧t=s∧∀ y ∈ l,∃ v,TupI s.heap y v) _ ?_ ?_ _ _ ⟨rfl,rfl,ty⟩
 ·rintro y l r t ⟨hr,rfl,al⟩
  obtain ⟨v,hy⟩:=al y List.mem_cons_self
  have al2:∀ z ∈ l,∃ v,TupI t.heap z v:=fun z hz => al z (List.mem_cons_of_mem _ hz)
  obtain ⟨a,_,_,_,rfl,_⟩:=id hx
  obtain ⟨b,_,_,_,rfl,_⟩:=id hy
  dsimp only
  split
  ·exact wpAny_pure ⟨rfl,rfl,al2⟩
  ·refine wpAny_bind (wpAny_eqIsQuiet_tuple (hx.key (prog:=prog) (w:=w)) ?_)
   rw [if_neg (by simp)]
   refine wpAny_bind (wpAny_eqIsQuiet_tuple (hy.key (prog:=prog) (w:=w)) ?_)
   rw [if_neg (by simp)]
   refine wpAny_bind (noClass_tup hx ?_)
   rw [if_neg (by simp)]
   refine wpAny_bind (noClass_tup hy ?_)
   rw [if_neg (by simp)]
   exact wpAny_pure ⟨rfl,rfl,al2⟩
 ·rintro ⟨r1,r2⟩ t ⟨hr,rfl,_⟩
  cases (show r1=none from hr)
  exact wpAny_pure h
end
end L2
namespace L2
open PySem PySem.Spec PyProof.Rows
def hsh (prog:Program) (w:World) (u:List Int):Int:=tupleKeyHash (intKind prog w) u
def EA (prog:Program) (w:World) (V0:Value→Prop) (hp:Heap) (es:List (Int × Value)) (ks:List (List Int)):Prop:=es.length=ks.length∧∀ (i:Nat) (e:Int × Value) (k:List Int),es[i]? = some e→ks[i]? = some k→TupI hp e.2 k∧e.1=hsh prog w k∧V0 e.2
section
variable {prog:Program} {w:World} {A:Around} {E:Value→Shared→Prop} {s:Shared}
theorem search_t {V0:Value→Prop} {a:Addr} {o:Obj} {es:Array (Int × Value)} {ep:Nat} {t:SetTable} {led:Bool} {ks:List (List Int)} {u:List Int} {x:Value} {Q:SetFound→Shared→Prop} (ho:s.heap.get? a=some o) (hd:o.data = .set es ep t)
  (K:TabOk t led (es.toList.map (·.1))) (ea:EA prog w V0 s.heap es.toList ks) (hx:TupI s.heap x u) (hu:A.units < cLine) {N:Nat} (hf : ¬ Occ t (itP t.mask (startP t.mask (hsh prog w u)) N).j) (hoc:∀ n,n < N→Occ t (itP t.mask (startP t.mask (hsh prog w u)) n).j) (hN:N < 10 * SetTable.turns t.mask)
  (h1:u ∈ ks→Q (.there none) s) (h2:u ∉ ks→Q (.free (itP t.mask (startP t.mask (hsh prog w u)) N).j false) s) :
  ∀ (fuel c:Nat) (stand:Option Pb),stand.getD (t.probeStart (hsh prog w u))=itP t.mask (startP t.mask (hsh prog w u)) c→c ≤ N→N < c + fuel→(∀ (n i:Nat) (k:List Int),n < c→t.place[i]? = some (itP t.mask (startP t.mask (hsh prog w u)) n).j→ks[i]? = some k→k ≠ u) →
   wpAny (model prog w) A (setSearchFrom a x (hsh prog w u) true fuel stand) Q E s:=by
 have fit:t.fits es.size=true:=by
  have:=K.fits
  rw [List.length_map,Array.length_toList] at this
  exact this
 have gave : ¬ t.gaveWay=true:=by
  unfold SetTable.gaveWay
  rcases K.okm with h | h | h | h <;> rw [h] <;> decide
 have kl:ks.length=es.size:=by rw [← ea.1,Array.length_toList]
 intro fuel
 induction fuel with
 | zero => intro c stand _ _ _; omega
 | succ fuel ih =>
  intro c stand hst cN Nf acc
  unfold setSearchFrom
  refine wpAny_bind (wpAny_setState_of ho hd fit ?_)
  dsimp only
  rw [if_neg gave]
  rcases probe_walk K.tb (f:=fun i => (es[i]?.map (·.1)).getD 0) (h:=hsh prog w u) (p:=startP t.mask (hsh prog w u)) rfl (10 * SetTable.turns t.mask) N hf hoc c cN (by omega) with ⟨n,i,cn,nN,hpl,hfi,hbt,hgo⟩ | ⟨hno,hgo⟩
  ·have hpr:t.probe (fun i => (es[i]?.map (·.1)).getD 0) (hsh prog w u) (stand.getD (t.probeStart (hsh prog w u)))=some (.candidate (itP t.mask (startP t.mask (hsh prog w u)) n).j i (itP t.mask (startP t.mask (hsh prog w u)) (n + 1))):=by rw [hst]; exact hgo
   erw [hpr]
   dsimp only
   have il:i < es.size:=by
    have:=(Array.getElem?_eq_some_iff.mp hpl).1
    rw [K.sz,List.length_map,Array.length_toList] at this
    exact this
   obtain ⟨h',y,hei⟩:∃ h' y,es[i]? = some (h',y):=⟨es[i].1,es[i].2,Array.getElem?_eq_getElem il⟩
   obtain ⟨k,hk⟩:∃ k,ks[i]? = some k:=⟨ks[i],List.getElem?_eq_getElem (by omega)⟩
   obtain ⟨ty,hh,_⟩:=ea.2 i _ k (by rw [Array.getElem?_toList]; exact hei) hk
   have seen:∀ {R:Bool→Shared→Prop},R false s→wpAny (model prog w) A (searchCouldBeSeen x ((es.filter (·.1 == hsh prog w u)).toList.map (·.2))) R E s:=fun {R} hR => by
    refine notSeen hx (fun y hy => ?_) hR
    obtain ⟨e,he,rfl⟩:=List.mem_map.mp hy
    rw [Array.toList_filter] at he
    obtain ⟨m,hm⟩:=List.mem_iff_getElem?.mp (List.mem_filter.mp he).1
    have ml:=(List.getElem?_eq_some_iff.mp hm).1
    have ml2:m < ks.length:=by rw [← ea.1]; exact ml
    exact ⟨ks[m],(ea.2 m e _ hm (List.getElem?_eq_getElem ml2)).1⟩
   have sm:t.sameMemory t.moves t.mask=some true:=by unfold SetTable.sameMemory; simp
   obtain ⟨b,_,_,_,eb,_⟩:=id ty
   have eb:y = .ref b:=eb
   subst eb
   obtain ⟨c',_,_,_,ec,_⟩:=id hx
   subst ec
   by_cases hl:t.led=true
   ·rw [if_neg (by simp [hl])]
    rw [hei]
    dsimp only
    refine wpAny_bind (wpAny_holding (wpAny_eqBool_tuple hu (ty.key (prog:=prog) (w:=w)) (hx.key (prog:=prog) (w:=w)) ?_))
    refine wpAny_bind (wpAny_setState_of ho hd fit ?_)
    dsimp only
    by_cases e:k=u
    ·rw [decide_eq_true e,if_pos (by rfl)]
     exact wpAny_pure (h1 (e ▸ List.mem_of_getElem? hk))
    ·rw [decide_eq_false e,if_neg (by simp),sm]
     dsimp only
     rw [if_pos rfl,slot_live K.tb hpl]
     dsimp only
     rw [hei]
     dsimp only
     refine wpAny_bind (wpAny_isSame_ref_self ?_)
     rw [if_pos rfl]
     refine wpAny_bind (wpAny_pure ?_)
     dsimp only
     rw [if_neg (by simp)]
     refine ih (n + 1) (some _) rfl (by omega) (by omega) fun n' i' k' h3 h4 h5 => ?_
     by_cases z:n' < c
     ·exact acc n' i' k' z h4 h5
     ·rcases Nat.lt_or_eq_of_le (Nat.le_of_lt_succ h3) with q | q
      ·intro ek
       refine hbt n' i' (by omega) q h4 ?_
       have l5:=(List.getElem?_eq_some_iff.mp h5).1
       have l6:es.toList[i']? = some es.toList[i']:=List.getElem?_eq_getElem (by rw [ea.1]; exact l5)
       have l7:=(ea.2 i' _ k' l6 h5).2.1
       show (es[i']?.map (·.1)).getD 0=hsh prog w u
       rw [← Array.getElem?_toList,l6,← ek,← l7]
       rfl
      ·subst q
       have:i=i':=by rw [← below_at K.tb.up hpl,← below_at K.tb.up h4]
       rw [← this,hk] at h5
       cases h5
       exact e
   ·rw [if_pos (by simp [hl])]
    refine wpAny_bind (seen ?_)
    rw [if_neg (by simp)]
    rw [hei]
    dsimp only
    refine wpAny_bind (wpAny_holding (wpAny_eqBool_tuple hu (ty.key (prog:=prog) (w:=w)) (hx.key (prog:=prog) (w:=w)) ?_))
    refine wpAny_bind (wpAny_setState_of ho hd fit ?_)
    dsimp only
    by_cases e:k=u
    ·rw [decide_eq_true e,if_pos (by rfl)]
     exact wpAny_pure (h1 (e ▸ List.mem_of_getElem? hk))
    ·rw [decide_eq_false e,if_neg (by simp),sm]
     dsimp only
     rw [if_pos rfl,slot_live K.tb hpl]
     dsimp only
     rw [hei]
     dsimp only
     refine wpAny_bind (wpAny_isSame_ref_self ?_)
     rw [if_pos rfl]
     refine wpAny_bind (wpAny_pure ?_)
     dsimp only
     rw [if_neg (by simp)]
     refine ih (n + 1) (some _) rfl (by omega) (by omega) fun n' i' k' h3 h4 h5 => ?_
     by_cases z:n' < c
     ·exact acc n' i' k' z h4 h5
     ·rcases Nat.lt_or_eq_of_le (Nat.le_of_lt_succ h3) with q | q
      ·intro ek
       refine hbt n' i' (by omega) q h4 ?_
       have l5:=(List.getElem?_eq_some_iff.mp h5).1
       have l6:es.toList[i']? = some es.toList[i']:=List.getElem?_eq_getElem (by rw [ea.1]; exact l5)
       have l7:=(ea.2 i' _ k' l6 h5).2.1
       show (es[i']?.map (·.1)).getD 0=hsh prog w u
       rw [← Array.getElem?_toList,l6,← ek,← l7]
       rfl
      ·subst q
       have:i=i':=by rw [← below_at K.tb.up hpl,← below_at K.tb.up h4]
       rw [← this,hk] at h5
       cases h5
       exact e
  ·have hpr:t.probe (fun i => (es[i]?.map (·.1)).getD 0) (hsh prog w u) (stand.getD (t.probeStart (hsh prog w u)))=some (.empty (itP t.mask (startP t.mask (hsh prog w u)) N).j none):=by rw [hst]; exact hgo
   erw [hpr]
   dsimp only
   refine wpAny_pure (h2 fun hin => ?_)
   obtain ⟨i,hi⟩:=List.mem_iff_getElem?.mp hin
   have il:=(List.getElem?_eq_some_iff.mp hi).1
   have hei:es.toList[i]? = some es.toList[i]:=List.getElem?_eq_getElem (by rw [ea.1]; exact il)
   obtain ⟨ty,hh,_⟩:=ea.2 i _ u hei hi
   obtain ⟨j,hj,n,n1,n2⟩:=K.rch i (hsh prog w u) (by rw [List.getElem?_map,hei,← hh]; rfl)
   have nN:n < N:=by
    rcases Nat.lt_trichotomy n N with z | z | z
    ·exact z
    ·subst z; exact absurd ⟨i,by rw [n1]; exact hj⟩ hf
    ·exact absurd (n2 N z) hf
   by_cases z:n < c
   ·exact acc n i u z (by rw [n1]; exact hj) hi rfl
   ·refine hno n i (by omega) nN (by rw [n1]; exact hj) ?_
    show (es[i]?.map (·.1)).getD 0=hsh prog w u
    rw [← Array.getElem?_toList,hei,← hh]
    rfl
end
end L2
namespace L2
open PySem PySem.Spec PyProof.Rows
def insL {α:Type} (l:List α) (p:Nat) (x:α):List α:=l.take p ++ x :: l.drop p
theorem insL_len {α:Type} {l:List α} {p:Nat} {x:α} (hp:p ≤ l.length):(insL l p x).length=l.length + 1:=by
 unfold insL; rw [List.length_append,List.length_take,List.length_cons,List.length_drop]; omega
theorem insL_get {α:Type} {l:List α} {p:Nat} {x:α} (hp:p ≤ l.length) (i:Nat):(insL l p x)[i]? = if i < p then l[i]? else if i=p then some x else l[i - 1]?:=by
 unfold insL
 have tl:(l.take p).length=p:=by rw [List.length_take]; omega
 by_cases h:i < p
 ·rw [if_pos h,List.getElem?_append_left (by omega),List.getElem?_take,if_pos h]
 ·rw [if_neg h,List.getElem?_append_right (by omega),tl]
  by_cases e:i=p
  ·rw [if_pos e,e,Nat.sub_self]; rfl
  ·rw [if_neg e]
   obtain ⟨d,hd⟩:∃ d,i - p=d + 1:=⟨i - p - 1,by omega⟩
   rw [hd,List.getElem?_cons_succ,List.getElem?_drop]
   congr 1
   omega
theorem insL_perm {α:Type} (l:List α) (p:Nat) (x:α):(insL l p x).Perm (l ++ [x]):=by
 unfold insL
 refine (List.perm_middle).trans ?_
 rw [List.take_append_drop]
 exact (List.perm_append_singleton x l).symm
theorem insL_map {α β:Type} (f:α→β) (l:List α) (p:Nat) (x:α):(insL l p x).map f=insL (l.map f) p (f x):=by
 unfold insL
 rw [List.map_append,List.map_cons,List.map_take,List.map_drop]
theorem put_ok {t:SetTable} {led:Bool} {hs:List Int} (K:TabOk t led hs) {h:Int} {N:Nat} (hf : ¬ Occ t (itP t.mask (startP t.mask h) N).j) (hoc:∀ n,n < N→Occ t (itP t.mask (startP t.mask h) n).j) :
  TB (t.put (itP t.mask (startP t.mask h) N).j).1 led∧SetTable.below t.place (itP t.mask (startP t.mask h) N).j ≤ hs.length∧(t.put (itP t.mask (startP t.mask h) N).j).1.place.size=hs.length + 1 ∧
  (((t.mask=7∧hs.length + 1 ≤ 4) ∨ (t.mask=31∧hs.length + 1 ≤ 18) ∨ (t.mask=127∧hs.length + 1 ≤ 76) ∨ (t.mask=511∧hs.length + 1 ≤ 306))→TabOk (t.put (itP t.mask (startP t.mask h) N).j).1 led (insL hs (SetTable.below t.place (itP t.mask (startP t.mask h) N).j) h)):=by
 generalize hj:(itP t.mask (startP t.mask h) N).j=j at *
 obtain ⟨b1,_,_⟩:=below_ok K.tb.up j
 have jm:j ≤ t.mask:=by rw [← hj]; exact start_le _ _ _
 have tb:=put_tb K.tb (slot_empty K.tb hf)
 have pl:(t.put j).1.place.toList=insL t.place.toList (SetTable.below t.place j) j:=SetTable.toList_insertAt _ _ _
 have ple:SetTable.below t.place j ≤ t.place.toList.length:=by rw [Array.length_toList]; exact b1
 have hp:SetTable.below t.place j ≤ hs.length:=by rw [← K.sz]; exact b1
 have sz:(t.put j).1.place.size=hs.length + 1:=by rw [← Array.length_toList,pl,insL_len ple,Array.length_toList,K.sz]
 refine ⟨tb,hp,sz,fun hm => ?_⟩
 have gp:∀ i:Nat,(t.put j).1.place[i]? = if i < SetTable.below t.place j then t.place[i]? else if i=SetTable.below t.place j then some j else t.place[i - 1]?:=fun i => by
  rw [← Array.getElem?_toList,pl,insL_get ple,Array.getElem?_toList,Array.getElem?_toList]
 have oc:∀ x,Occ t x→Occ (t.put j).1 x:=fun x ⟨i,hi⟩ => by
  by_cases z:i < SetTable.below t.place j
  ·exact ⟨i,by rw [gp,if_pos z]; exact hi⟩
  ·exact ⟨i + 1,by rw [gp,if_neg (by omega),if_neg (by omega),Nat.add_sub_cancel]; exact hi⟩
 refine ⟨tb,by rw [insL_len hp]; exact hm,by rw [sz,insL_len hp],fun i x hx => ?_,fun i y hy => ?_⟩
 ·show x ≤ t.mask
  rw [gp] at hx
  split at hx
  ·exact K.le _ _ hx
  ·split at hx
   ·cases hx; exact jm
   ·exact K.le _ _ hx
 ·show ∃ x:Nat,(t.put j).1.place[i]? = some x∧∃ n,(itP t.mask (startP t.mask y) n).j=x∧∀ n',n' < n→Occ (t.put j).1 (itP t.mask (startP t.mask y) n').j
  rw [insL_get hp] at hy
  rw [gp]
  split at hy
  ·rename_i z
   rw [if_pos z]
   obtain ⟨x,e,n,n1,n2⟩:=K.rch i y hy
   exact ⟨x,e,n,n1,fun n' hn' => oc _ (n2 n' hn')⟩
  ·rename_i z
   rw [if_neg z]
   split at hy
   ·rename_i z2
    rw [if_pos z2]
    cases hy
    exact ⟨j,rfl,N,hj,fun n' hn' => oc _ (hoc n' hn')⟩
   ·rename_i z2
    rw [if_neg z2]
    obtain ⟨x,e,n,n1,n2⟩:=K.rch (i - 1) y hy
    exact ⟨x,e,n,n1,fun n' hn' => oc _ (n2 n' hn')⟩
def pick {α:Type} (l:List α) (ord:List Nat):List α:=ord.filterMap fun i => l[i]?
theorem pick_get {α:Type} {l:List α} : ∀ {ord:List Nat},(∀ k ∈ ord,k < l.length)→∀ i:Nat,(pick l ord)[i]? = (ord[i]?).bind fun k => l[k]?
 | [],_,i => rfl
 | k :: ord,h,i => by
  have hk:=h k List.mem_cons_self
  have e:pick l (k :: ord)=l[k] :: pick l ord:=by unfold pick; rw [List.filterMap_cons_some (b:=l[k]) (List.getElem?_eq_getElem hk)]
  rw [e]
  cases i with
  | zero => show some l[k]=l[k]?; rw [List.getElem?_eq_getElem hk]
  | succ i => exact pick_get (fun x hx => h x (List.mem_cons_of_mem _ hx)) i
theorem pickL_perm {α:Type} {l:List α} {ord:List Nat} (h:ord.Perm (List.range l.length)):(pick l ord).Perm l:=by
 have e:(List.range l.length).filterMap (fun i => l[i]?)=l:=List.filterMap_getElem?_range_length l
 have:=h.filterMap (fun i => l[i]?)
 rw [e] at this
 exact this
def SetT (prog:Program) (w:World) (V0:Value→Prop) (hp:Heap) (a:Addr) (us:List (List Int)):Prop :=
 ∃ o es ep t ks,hp.get? a=some o∧o.ExactSet∧o.data = .set es ep t∧EA prog w V0 hp es.toList ks∧ks.Perm us∧TabOk t (!w.params.followText "set-order") (es.toList.map (·.1))
theorem EA.keep {prog:Program} {w:World} {V0:Value→Prop} {h h' : Heap} {es:List (Int × Value)} {ks:List (List Int)} (x:EA prog w V0 h es ks) (k:∀ (b:Addr) (o:Obj),o.cls = .type "tuple" → h.get? b=some o→h'.get? b=some o):EA prog w V0 h' es ks :=
 ⟨x.1,fun i e u h1 h2 => ⟨(x.2 i e u h1 h2).1.keep' k,(x.2 i e u h1 h2).2⟩⟩
section
variable {prog:Program} {w:World} {A:Around} {E:Value→Shared→Prop} {s:Shared}
theorem sb_tup {a:Addr} {o:Obj} {h h' : Heap} (ho:h.get? a=some o) (hx:o.ExactSet) (sb:Heap.SameBut a h h') (b:Addr) (ob:Obj) (hc:ob.cls = .type "tuple") (hb:h.get? b=some ob):h'.get? b=some ob:=by
 refine sb.extBut b ob (fun z => ?_) hb
 rw [z,ho] at hb
 cases hb
 rw [hx.1] at hc
 exact absurd hc (by decide)
theorem setAdd_t {V0:Value→Prop} {a:Addr} {us:List (List Int)} {x:Value} {u:List Int} {Q:Bool→Shared→Prop} (hS:SetT prog w V0 s.heap a us) (hx:TupI s.heap x u) (hV:V0 x) (hu:A.units < cLine) (few:us.length + 1 ≤ 301)
  (h:∀ h' : Heap,Heap.SameBut a s.heap h'→SetT prog w V0 h' a (if u ∈ us then us else us ++ [u])→Q (!decide (u ∈ us)) { s with heap:=h' }):wpAny (model prog w) A (setAddHashed a x (hsh prog w u)) Q E s:=by
 obtain ⟨o,es,ep,t,ks,ho,hex,hd,ea,pm,K⟩:=hS
 have kl:es.size=us.length:=by rw [← Array.length_toList,ea.1,pm.length_eq]
 have fit:t.fits es.size=true:=by
  have:=K.fits
  rw [List.length_map,Array.length_toList] at this
  exact this
 have hlen:(es.toList.map (·.1)).length=es.size:=by rw [List.length_map,Array.length_toList]
 obtain ⟨e,em,ef⟩:=K.room
 obtain ⟨N0,N1,N2⟩:=meets_it K.okm (p:=startP t.mask (hsh prog w u)) (bits_lt _) (run_le _ _) (by show SetTable.bits _ % (t.mask + 1) ≤ t.mask; exact Nat.le_of_lt_succ (Nat.mod_lt _ (Nat.succ_pos _))) em
 obtain ⟨N,hN,hf,hoc⟩:=first_free (t:=t) (p:=startP t.mask (hsh prog w u)) ⟨N0,N1,by rw [N2]; exact ef⟩
 have N6:N < 100000:=by
  have:SetTable.turns t.mask ≤ 526:=by unfold SetTable.turns; rcases K.okm with z | z | z | z <;> omega
  omega
 obtain ⟨c,oc,itc,nc,rfl,hoc',hcc,hdc,hic⟩:=id hx
 have sc : ¬ byScan (.ref c) es=true:=by unfold byScan Value.scannable; simp
 unfold setAddHashed
 refine wpAny_holding ?_
 unfold setAddHashedIn
 refine wpAny_bind (wpAny_setState_of ho hd fit ?_)
 dsimp only
 rw [if_neg sc]
 refine wpAny_bind ?_
 unfold setSearch
 refine search_t ho hd K ea hx hu hf hoc hN (fun hin => ?_) (fun hno => ?_) 100000 0 none rfl (Nat.zero_le _) (by omega) (fun n i k hn => absurd hn (Nat.not_lt_zero _))
 ·dsimp only
  have hin' : u ∈ us:=pm.mem_iff.mp hin
  have z:=h s.heap (Heap.SameBut.refl ..) (by rw [if_pos hin']; exact ⟨o,es,ep,t,ks,ho,hex,hd,ea,pm,K⟩)
  rw [decide_eq_true hin'] at z
  exact wpAny_pure z
 ·dsimp only
  have hno' : u ∉ us:=fun q => hno (pm.mem_iff.mpr q)
  obtain ⟨tb1,ple,psz,pok⟩:=put_ok K hf hoc
  refine wpAny_bind (wpAny_setState_of ho hd fit ?_)
  dsimp only
  have hbl:(t.put (itP t.mask (startP t.mask (hsh prog w u)) N).j).2=SetTable.below t.place (itP t.mask (startP t.mask (hsh prog w u)) N).j:=rfl
  have hmk:(t.put (itP t.mask (startP t.mask (hsh prog w u)) N).j).1.mask=t.mask:=rfl
  rw [hbl]
  generalize (t.put (itP t.mask (startP t.mask (hsh prog w u)) N).j).1=t1 at *
  generalize SetTable.below t.place (itP t.mask (startP t.mask (hsh prog w u)) N).j=p at *
  rw [hlen] at ple psz pok
  have ple2:p ≤ es.toList.length:=by rw [Array.length_toList]; exact ple
  have plk:p ≤ ks.length:=by rw [← ea.1]; exact ple2
  have es1l:(SetTable.insertAt es p (hsh prog w u,Value.ref c)).toList=insL es.toList p (hsh prog w u,Value.ref c):=SetTable.toList_insertAt _ _ _
  have es1s:(SetTable.insertAt es p (hsh prog w u,Value.ref c)).size=es.size + 1:=by rw [← Array.length_toList,es1l,insL_len ple2,Array.length_toList]
  have pm1:(insL ks p u).Perm (us ++ [u]):=(insL_perm ks p u).trans (pm.append_right _)
  have last:∀ (h' : Heap) (es2:Array (Int × Value)) (t2:SetTable) (ks2:List (List Int)) (ep2:Nat),Heap.SameBut a s.heap h'→h'.get? a=some { o with data:=.set es2 ep2 t2 }→EA prog w V0 h' es2.toList ks2→ks2.Perm (us ++ [u])→TabOk t2 (!w.params.followText "set-order") (es2.toList.map (·.1))→Q true { s with heap:=h' }:=fun h' es2 t2 ks2 ep2 sb g ea2 p2 K2 => by
   have z:=h h' sb (by rw [if_neg hno']; exact ⟨_,es2,ep2,t2,ks2,g,hex,rfl,ea2,p2,K2⟩)
   rw [decide_eq_false hno'] at z
   exact z
  have fin:wpAny (model prog w) A (do
    storeSet a (SetTable.insertAt es p (hsh prog w u,Value.ref c)) t1
    if (!false && t1.tooFull)=true then do
      setRelay a (SetTable.grown (es.size + 1))
      pure true
     else pure true) Q E s:=by
   have small:es.size + 1 ≤ sizeLine:=Nat.le_trans (show es.size + 1 ≤ 1000 by omega) (by decide)
   refine wpAny_bind (wpAny_storeSet_of ho hd ?_ (by rw [es1s]; exact small))
   have o1:=stored_at ho hd (SetTable.insertAt es p (hsh prog w u,Value.ref c)) t1
   have b1:=Heap.SameBut.update s.heap a (Obj.putSet (SetTable.insertAt es p (hsh prog w u,Value.ref c)) t1)
   have kp1:=sb_tup ho hex b1
   generalize s.heap.update a (Obj.putSet (SetTable.insertAt es p (hsh prog w u,Value.ref c)) t1)=h1 at o1 b1 kp1 ⊢
   have ea1:EA prog w V0 h1 (SetTable.insertAt es p (hsh prog w u,Value.ref c)).toList (insL ks p u):=by
    rw [es1l]
    refine ⟨by rw [insL_len ple2,insL_len plk,ea.1],fun i e k h3 h4 => ?_⟩
    rw [insL_get ple2] at h3
    rw [insL_get plk] at h4
    split at h3
    ·rename_i z; rw [if_pos z] at h4
     exact ⟨(ea.2 i e k h3 h4).1.keep' kp1,(ea.2 i e k h3 h4).2⟩
    ·rename_i z; rw [if_neg z] at h4
     split at h3
     ·rename_i z2; rw [if_pos z2] at h4
      cases h3; cases h4
      exact ⟨hx.keep' kp1,rfl,hV⟩
     ·rename_i z2; rw [if_neg z2] at h4
      exact ⟨(ea.2 _ e k h3 h4).1.keep' kp1,(ea.2 _ e k h3 h4).2⟩
   have hs1:(SetTable.insertAt es p (hsh prog w u,Value.ref c)).toList.map (·.1)=insL (es.toList.map (·.1)) p (hsh prog w u):=by rw [es1l,insL_map]
   have tfl:t1.tooFull=decide ((es.size + 1) * 5 ≥ t.mask * 3):=by
    unfold SetTable.tooFull SetTable.fill
    rw [psz,tb1.dum,hmk]
    rfl
   have mb:=K.m
   rw [hlen] at mb
   by_cases tf:(es.size + 1) * 5 ≥ t.mask * 3
   ·rw [tfl,decide_eq_true tf,if_pos (by rfl)]
    have two:(t.mask=7∧es.size=4) ∨ (t.mask=31∧es.size=18) ∨ (t.mask=127∧es.size=76):=by omega
    have okw:OkM (SetTable.sizeAbove (SetTable.grown (es.size + 1)) - 1)∧SetTable.sizeAbove (SetTable.grown (es.size + 1)) ≤ 512∧es.size + 1 ≤ SetTable.sizeAbove (SetTable.grown (es.size + 1)) - 1∧((SetTable.sizeAbove (SetTable.grown (es.size + 1)) - 1=7∧es.size + 1 ≤ 4) ∨ (SetTable.sizeAbove (SetTable.grown (es.size + 1)) - 1=31∧es.size + 1 ≤ 18) ∨ (SetTable.sizeAbove (SetTable.grown (es.size + 1)) - 1=127∧es.size + 1 ≤ 76) ∨ (SetTable.sizeAbove (SetTable.grown (es.size + 1)) - 1=511∧es.size + 1 ≤ 306)):=by
     rcases two with ⟨_,z⟩ | ⟨_,z⟩ | ⟨_,z⟩
     ·rw [z]
      have e1:SetTable.sizeAbove (SetTable.grown (4 + 1))=32:=by decide
      rw [e1]
      exact ⟨.inr (.inl rfl),by decide,by decide,.inr (.inl ⟨rfl,by decide⟩)⟩
     ·rw [z]
      have e1:SetTable.sizeAbove (SetTable.grown (18 + 1))=128:=by decide
      rw [e1]
      exact ⟨.inr (.inr (.inl rfl)),by decide,by decide,.inr (.inr (.inl ⟨rfl,by decide⟩))⟩
     ·rw [z]
      have e1:SetTable.sizeAbove (SetTable.grown (76 + 1))=512:=by decide
      rw [e1]
      exact ⟨.inr (.inr (.inr rfl)),by decide,by decide,.inr (.inr (.inr ⟨rfl,by decide⟩))⟩
    generalize SetTable.grown (es.size + 1)=W at okw ⊢
    have hs1s:((SetTable.insertAt es p (hsh prog w u,Value.ref c)).map (·.1)).size=es.size + 1:=by rw [Array.size_map,es1s]
    obtain ⟨t2,ord,hr,op,K2⟩:=relaid_ok tb1 (hs:=(SetTable.insertAt es p (hsh prog w u,Value.ref c)).map (·.1)) (want:=W) okw.1 (by rw [hs1s]; exact okw.2.2.1) (by rw [hs1s]; exact okw.2.2.2)
    rw [hs1s] at op
    generalize hes:SetTable.insertAt es p (hsh prog w u,Value.ref c)=es1 at *
    have l1:es1.toList.length=es.size + 1:=by rw [Array.length_toList,es1s]
    have kl1:(insL ks p u).length=es.size + 1:=by rw [← ea1.1,l1]
    have inr:∀ k ∈ ord.toList,k < es.size + 1:=fun k hk => List.mem_range.mp (op.mem_iff.mp hk)
    have e2l:(ord.filterMap (es1[·]?)).toList=pick es1.toList ord.toList:=by
     rw [Array.toList_filterMap]
     unfold pick
     congr 1
     funext i
     rw [Array.getElem?_toList]
    have p2:(pick es1.toList ord.toList).Perm es1.toList:=pickL_perm (by rw [l1]; exact op)
    have e2s:(ord.filterMap (es1[·]?)).size=es1.size:=by rw [← Array.length_toList,e2l,p2.length_eq,Array.length_toList]
    have fit1:t1.fits es1.size=true:=by
     unfold SetTable.fits SetTable.fill
     rw [psz,tb1.dum,hmk,es1s]
     simp
     omega
    refine wpAny_bind ?_
    unfold setRelay
    refine wpAny_bind (wpAny_setState_of (s:={ s with heap:=h1 }) o1 rfl fit1 ?_)
    dsimp only
    rw [if_neg (Nat.not_lt.mpr (Nat.le_trans okw.2.1 (by decide)))]
    rw [hr]
    refine wpAny_bind ?_
    change wpAny _ _ (if ((ord.filterMap (es1[·]?)).size != es1.size)=true then _ else pure (ord.filterMap (es1[·]?),t2)) _ _ _
    rw [if_neg (by rw [e2s]; simp)]
    refine wpAny_pure (wpAny_storeSet_of (s:={ s with heap:=h1 }) o1 rfl (wpAny_pure ?_) (by rw [e2s,es1s]; exact small))
    refine last _ _ t2 (pick (insL ks p u) ord.toList) _ (b1.trans (Heap.SameBut.update h1 a _)) (stored_at o1 rfl _ _) ?_ ((pickL_perm (by rw [kl1]; exact op)).trans pm1) ?_
    ·rw [e2l]
     have g1:=pick_get (l:=es1.toList) (ord:=ord.toList) (fun k hk => by rw [l1]; exact inr k hk)
     have g2:=pick_get (l:=insL ks p u) (ord:=ord.toList) (fun k hk => by rw [kl1]; exact inr k hk)
     refine ⟨by rw [p2.length_eq,(pickL_perm (l:=insL ks p u) (by rw [kl1]; exact op)).length_eq,ea1.1],fun i e k h3 h4 => ?_⟩
     rw [g1] at h3
     rw [g2] at h4
     cases zz:ord.toList[i]? with
     | none => rw [zz] at h3; cases h3
     | some m =>
      rw [zz] at h3 h4
      have q:=ea1.2 m e k h3 h4
      exact ⟨q.1.keep' (sb_tup o1 hex (Heap.SameBut.update h1 a _)),q.2⟩
    ·refine K2 _ (by rw [List.length_map,e2l,p2.length_eq,l1,hs1s]) fun i k hk => ?_
     have g1:=pick_get (l:=es1.toList) (ord:=ord.toList) (fun k hk => by rw [l1]; exact inr k hk) i
     have hk' : ord.toList[i]? = some k:=by rw [Array.getElem?_toList]; exact hk
     rw [hk'] at g1
     rw [List.getElem?_map,e2l,g1,Array.getElem?_map]
     show Option.map _ es1.toList[k]? = _
     rw [Array.getElem?_toList]
   ·rw [tfl,decide_eq_false tf,if_neg (by simp)]
    refine wpAny_pure (last h1 _ t1 (insL ks p u) _ b1 o1 ea1 pm1 ?_)
    rw [hs1]
    exact pok (by omega)
  split
  ·refine wpAny_bind (byValue_tup hx ?_)
   simp only [if_true]
   exact fin
  ·refine wpAny_bind (wpAny_pure ?_)
   simp only [if_true]
   exact fin
end
end L2
set_option maxHeartbeats 4000000
namespace L2
open PySem PySem.Spec PyProof.Rows
def ddT (us:List (List Int)):List (List Int):=us.foldl (fun acc k => if k ∈ acc then acc else acc ++ [k]) []
theorem ddT_snoc (us:List (List Int)) (k:List Int):ddT (us ++ [k])=if k ∈ ddT us then ddT us else ddT us ++ [k]:=by unfold ddT; rw [List.foldl_append]; rfl
theorem ddT_mem (us:List (List Int)) (k:List Int):k ∈ ddT us ↔ k ∈ us:=by
 have:∀ (us acc:List (List Int)),k ∈ us.foldl (fun acc k => if k ∈ acc then acc else acc ++ [k]) acc ↔ k ∈ acc ∨ k ∈ us:=by
  intro us
  induction us with
  | nil => intro acc; simp
  | cons j us ih =>
   intro acc
   rw [List.foldl_cons,ih]
   split
   ·rename_i h
    constructor
    ·rintro (z | z)
     ·exact .inl z
     ·exact .inr (List.mem_cons_of_mem _ z)
    ·rintro (z | z)
     ·exact .inl z
     ·rcases List.mem_cons.mp z with rfl | z
      ·exact .inl h
      ·exact .inr z
   ·simp [or_assoc]
 have:=this us []
 unfold ddT
 simpa using this
theorem ddT_nodup (us:List (List Int)):(ddT us).Nodup:=by
 have:∀ (us acc:List (List Int)),acc.Nodup→(us.foldl (fun acc k => if k ∈ acc then acc else acc ++ [k]) acc).Nodup:=by
  intro us
  induction us with
  | nil => intro acc h; exact h
  | cons j us ih =>
   intro acc h
   refine ih _ ?_
   show (if j ∈ acc then acc else acc ++ [j]).Nodup
   split
   ·exact h
   ·rename_i hj
    rw [List.nodup_append]
    exact ⟨h,by simp,fun a ha b hb z => hj (by rw [← List.mem_singleton.mp hb,← z]; exact ha)⟩
 exact this us [] List.nodup_nil
theorem ddT_len (us:List (List Int)):(ddT us).length ≤ us.length:=by
 have:∀ (us acc:List (List Int)),(us.foldl (fun acc k => if k ∈ acc then acc else acc ++ [k]) acc).length ≤ acc.length + us.length:=by
  intro us
  induction us with
  | nil => intro acc; exact Nat.le_refl _
  | cons k us ih =>
   intro acc
   have h:=ih (if k ∈ acc then acc else acc ++ [k])
   have h2:(if k ∈ acc then acc else acc ++ [k]).length ≤ acc.length + 1:=by split <;> simp
   rw [List.foldl_cons,List.length_cons]
   omega
 have:=this us []
 unfold ddT
 simpa using this
theorem SetT.keep {prog:Program} {w:World} {V0:Value→Prop} {h h' : Heap} {a:Addr} {us:List (List Int)} (x:SetT prog w V0 h a us) (k:∀ b o,(b=a ∨ o.cls = .type "tuple")→h.get? b=some o→h'.get? b=some o):SetT prog w V0 h' a us:=by
 obtain ⟨o,es,ep,t,ks,ho,hx,hd,ea,r⟩:=x
 exact ⟨o,es,ep,t,ks,k a o (.inl rfl) ho,hx,hd,ea.keep fun b ob c e => k b ob (.inr c) e,r⟩
theorem SetT.other {prog:Program} {w:World} {V0:Value→Prop} {h h' : Heap} {a:Addr} {us:List (List Int)} {v:Value} {u:List Int} (x:SetT prog w V0 h a us) (t:TupI h v u) (sb:Heap.SameBut a h h'):TupI h' v u:=by
 obtain ⟨o,es,ep,tb,ks,ho,hx,_⟩:=x
 exact t.keep' (sb_tup ho hx sb)
section
variable {prog:Program} {w:World} {A:Around} {R:Result→Shared→Prop} {J:Addr} {fp wr:List Addr} {G:Array GenState→Array GenState→Prop} {n:Nat} {P:Nat→Value→Prop} {St:Nat→Shared→Prop}
theorem update_t {V0:Value→Prop} (Wk:WalksS prog w A.in1 J fp wr G n P St) (S:Addr) (hS:S ∉ fp) (hu:A.in1.units < cLine) (us:List (List Int)) (hns:us.length=n) (hb:n + 1 ≤ 301) (hV:∀ i v,P i v→V0 v) (hwt:∀ (s:Shared) (i:Nat),St i s→∀ b ∈ wr,∀ o,s.heap.get? b=some o→o.cls ≠ .type "tuple") :
  ∀ (c i:Nat) (s:Shared),n - i=c→i ≤ n→St i s→SetT prog w V0 s.heap S (ddT (us.take i))→(∀ i v,P i v→TupI s.heap v (us.getD i []))→(∀ s',Moved (S :: wr) G s s'→SetT prog w V0 s'.heap S (ddT us)→R (.ok (.ret .none)) s') →
   codeAny (model prog w) A (.builtin "set.update.loop" ⟨[.ref S,.ref J],[]⟩) R s:=by
 have nw:S ∉ wr:=fun h => hS (Wk.sub _ h)
 have sub:∀ b ∈ wr,b ∈ S :: wr:=fun b hb => List.mem_cons_of_mem _ hb
 intro c
 induction c with
 | zero =>
  intro i s hc hi st hj hv hR
  have e:i=n:=by omega
  subst e
  refine codeAny_builtin PyProof.Rows.F.entry_set_update_loop ?_
  rw [Around.under_plainId PyProof.Rows.F.plain_set_update_loop _]
  show wpAny _ A.in1 (pyNext (.ref J) >>= _) _ _ s
  refine wpAny_bind (Wk.done s _ _ st fun s' hm => ?_)
  show wpAny _ A.in1 (ret Value.none) _ _ s'
  rw [← hns,List.take_length] at hj
  exact wpAny_pure (hR s' (hm.mono sub) (hj.keep fun b o hb ho => hm.heap b _ (fun z => by
   rcases hb with rfl | q
   ·exact nw z
   ·exact hwt s _ st b z o ho q) ho))
 | succ c ih =>
  intro i s hc hi st hj hv hR
  have lt:i < n:=by omega
  refine codeAny_builtin PyProof.Rows.F.entry_set_update_loop ?_
  rw [Around.under_plainId PyProof.Rows.F.plain_set_update_loop _]
  show wpAny _ A.in1 (pyNext (.ref J) >>= _) _ _ s
  refine wpAny_bind (Wk.item i s _ _ lt st fun v s' hP st' hm => ?_)
  have kp:∀ b o,(b=S ∨ o.cls = .type "tuple")→s.heap.get? b=some o→s'.heap.get? b=some o:=fun b o hb ho => hm.heap b _ (fun z => by
   rcases hb with rfl | q
   ·exact nw z
   ·exact hwt s _ st b z o ho q) ho
  have hj' : SetT prog w V0 s'.heap S (ddT (us.take i)):=hj.keep kp
  have hv' : ∀ i v,P i v→TupI s'.heap v (us.getD i []):=fun i v q => (hv i v q).keep' fun b o c e => kp b o (.inr c) e
  have hlen:(ddT (us.take i)).length ≤ i:=Nat.le_trans (ddT_len _) (by rw [List.length_take]; omega)
  have gi:us[i]? = some (us.getD i []):=by rw [List.getD_eq_getElem?_getD,List.getElem?_eq_getElem (by omega)]; rfl
  have tv:=hv' i v hP
  obtain ⟨va,_,_,_,rfl,_⟩:=id tv
  show wpAny _ A.in1 (holding [Value.ref va] (setAdd S (.ref va)) >>= _) _ _ s'
  refine wpAny_bind (wpAny_holding ?_)
  unfold setAdd
  refine wpAny_holding (wpAny_bind (wpAny_pyHash_tuple (knd:=intKind prog w) hu tv.key ?_))
  refine setAdd_t (s:={ s' with toks:=s'.toks + ((us.getD i []).length + 1) }) hj' tv (hV i _ hP) hu (by omega) fun h2 sb j2 => ?_
  have j3:SetT prog w V0 h2 S (ddT (us.take (i + 1))):=by
   rw [take_succ' gi,ddT_snoc]
   exact j2
  refine wpAny_pure ⟨plainId_quiet PyProof.Rows.F.plain_set_update_loop _,ih (i + 1) _ (by omega) lt (Wk.frame _ s' _ _ st' (Nat.le_add_right _ _) fun b hb o e => ?_) j3 (fun i v q => hj'.other (hv' i v q) sb) fun s3 hm3 hj3 => ?_⟩
  ·rw [sb.2 b (fun z:b=S => hS (by rw [← z]; exact hb))]; exact e
  ·refine hR s3 (Moved.trans Wk.gtrans ((hm.mono sub).then_heap (Nat.le_add_right _ _) fun b o hb e => ?_) hm3) hj3
   rw [sb.2 b (fun z:b=S => hb (by rw [z]; exact List.mem_cons_self))]; exact e
end
theorem fresh_t {prog:Program} {w:World} {V0:Value→Prop} {h:Heap} {a:Addr} (ho:h.get? a=some { cls:=.type "set",dict:=none,data:=.set #[] 0 (.fresh 0 0 (!w.params.followText "set-order")) }):SetT prog w V0 h a [] :=
 ⟨_,#[],0,_,[],ho,⟨rfl,rfl,rfl⟩,rfl,⟨rfl,fun i e k h1 => (by cases h1)⟩,.refl _,⟨⟨rfl,rfl,List.Pairwise.nil⟩,.inl ⟨rfl,Nat.zero_le _⟩,rfl,fun i j h1 => (by cases h1),fun i x h1 => (by cases h1)⟩⟩
section
variable {prog:Program} {w:World} {A:Around} {E:Value→Shared→Prop} {s:Shared}
set_option maxHeartbeats 8000000 in
theorem set_of_listT {V0:Value→Prop} {l:Addr} {its:Array Value} {us:List (List Int)} {Q:Value→Shared→Prop} (hh:A.handled=none) (hl:s.heap.IsList l its) (hu:A.units + 8 < cLine) (hln:us.length=its.size) (hi:∀ (i:Nat) (v:Value),its[i]? = some v→TupI s.heap v (us.getD i [])) (hb:its.size + 1 ≤ 301) (hV:∀ v ∈ its.toList,V0 v)
  (h:∀ (h' : Heap) (tk:Nat),SetT prog w V0 h' s.heap.objs.size (ddT us)→(∀ b o,b < s.heap.objs.size→s.heap.get? b=some o→h'.get? b=some o)→Q (.ref s.heap.objs.size) { s with heap:=h',toks:=tk }) :
  wpAny (model prog w) A (call (.type "set") [.ref l]) Q E s:=by
 obtain ⟨c,tl,hmro⟩:=PySem.F.called_set.mro
 have hmade:=PySem.F.called_set.made
 have hsub:=PySem.F.called_set.sub
 refine wpAny_call (codeAny_of_tree ?_)
 show wpAny _ _ (callAny (.type "set") _) _ _ _
 refine wpAny_pure ⟨Code.quiet_builtin _ (by decide +kernel),codeAny_builtin PySem.F.entry_type_call ?_⟩
 rw [Around.under_plain (weight_type_call_type "set" [.ref l] []) rfl]
 have x1:=PySem.F.called_set.notType
 have x2:=PySem.F.called_set.canCreate
 have x3:=PySem.F.typeCall_set_1 (.ref l)
 repeat (any_goals (first | assumption | wp_step))
 refine codeAny_mono (set_new_j (.ref l) (E:=E) (Q1:=fun ob s1 => ob = .ref s.heap.objs.size∧s1 = { s with heap:=s.heap.push { cls:=.type "set",dict:=none,data:=.set #[] 0 (.fresh 0 0 (!w.params.followText "set-order")) } }) ⟨rfl,rfl⟩) fun r s1 hr => ?_
 cases r with
 | error e => exact hr
 | ok fl =>
  cases fl with
  | ret ob =>
   obtain ⟨rfl,rfl⟩:=hr
   generalize hled:(!w.params.followText "set-order")=led
   have hS:(s.heap.push { cls:=.type "set",dict:=none,data:=.set #[] 0 (.fresh 0 0 led) }).get? s.heap.objs.size=some { cls:=.type "set",dict:=none,data:=.set #[] 0 (.fresh 0 0 led) }:=Heap.get?_push_size _ rfl
   have hT:Shared.TypeIs { s with heap:=s.heap.push { cls:=.type "set",dict:=none,data:=.set #[] 0 (.fresh 0 0 led) } } (.ref s.heap.objs.size) "set" := ⟨_,hS,rfl⟩
   have y1:=PySem.F.called_set.init.lookup
   have y2:=PySem.F.called_set.init.bind (.ref s.heap.objs.size)
   repeat (any_goals (first | assumption | wp_step))
   refine codeAny_mono (codeAny_call_builtin (R:=wants (fun r s2 => r = .none∧∃ h' tk,s2 = { s with heap:=h',toks:=tk }∧SetT prog w V0 h' s.heap.objs.size (ddT us)∧(∀ b o,b < s.heap.objs.size→s.heap.get? b=some o→h'.get? b=some o)) E)
    PySem.F.called_set.init.plain PySem.F.entry_set_init (check_set_init_1 hT ?_)) fun r2 s2 hr2 => ?_
   ·obtain ⟨ol,hol,hcl,nl,hdl⟩:=hl
    obtain ⟨ocls,odict,odata,oslots⟩:=ol
    simp only at hcl hdl
    subst hcl; subst hdl
    have hol' : (s.heap.push { cls:=.type "set",dict:=none,data:=.set #[] 0 (.fresh 0 0 led) }).get? l=some { cls:=.type "list",dict:=odict,data:=.seq its nl,slots:=oslots }:=Heap.get?_push_of_some _ hol
    have v1:=PySem.F.sub_list_set
    have v2:=PySem.F.sub_list_frozenset
    have v3:(Value.type "list" == Value.type "dict")=false:=by decide
    have hl1:(s.heap.push { cls:=.type "set",dict:=none,data:=.set #[] 0 (.fresh 0 0 led) }).IsList l its:=⟨_,hol',rfl,nl,rfl⟩
    unfold Builtin.«set.__init__» noKeywords Builtin.Frozenset.updateFrom
    generalize hPI:pyIter=PI
    wp_walk
    subst hPI
    refine wpAny_pyIter_list (l:=l) hl1 ?_
    refine wpAny_bind (m:=runValue _) (wpAny_runValue ?_)
    have ll:l < s.heap.objs.size:=Heap.lt_size hol
    have h3:A.in1.in1.in1.handled=none:=by simp [hh]
    have n1:l ≠ (s.heap.push { cls:=.type "set",dict:=none,data:=.set #[] 0 (.fresh 0 0 led) }).objs.size:=by rw [Heap.size_push]; exact Nat.ne_of_lt (Nat.lt_succ_of_lt ll)
    have n2:s.heap.objs.size ∉ [(s.heap.push { cls:=.type "set",dict:=none,data:=.set #[] 0 (.fresh 0 0 led) }).objs.size,l]:=by
     rw [Heap.size_push]
     simp only [List.mem_cons,List.mem_singleton,List.not_mem_nil,or_false,not_or]
     exact ⟨Nat.ne_of_lt (Nat.lt_succ_self _),Nat.ne_of_gt ll⟩
    have kpp:∀ b o,s.heap.get? b=some o→((s.heap.push { cls:=.type "set",dict:=none,data:=.set #[] 0 (.fresh 0 0 led) }).push { cls:=.type "list_iterator",data:=.fields #[.ref l,.int 0 0] }).get? b=some o:=fun b o e => Heap.get?_push_of_some _ (Heap.get?_push_of_some _ e)
    refine update_t ((Walks.list h3 _ l n1 its).toS) s.heap.objs.size n2 (by simp; omega) us hln hb (fun i v hv => hV v (by rw [← Array.getElem?_toList] at hv; exact List.mem_of_getElem? hv)) ?_ (its.size - 0) 0 _ (by omega) (Nat.zero_le _) ⟨⟨_,Heap.get?_push_size _ rfl,rfl,rfl⟩,(hl1.push _)⟩ ?_ (fun i v hv => (hi i v hv).keep' fun b o _ e => kpp b o e) ?_
    ·rintro s' i ⟨⟨oi,ei,ci,_⟩,_⟩ b hb' o ho hc
     rw [List.mem_singleton.mp hb',ei] at ho
     cases ho
     rw [ci] at hc
     exact absurd hc (by decide)
    ·exact fresh_t (by rw [hled]; exact Heap.get?_push_of_some _ hS)
    ·intro s' hm hj
     obtain ⟨h',g',d',tk',os'⟩:=s'
     have eg:g' = s.gens:=hm.gens
     have ed:d' = s.drawn:=hm.drawn
     have eo:os' = s.os:=hm.os
     subst eg; subst ed; subst eo
     show wpAny _ _ _ _ _ _
     refine wpAny_pure ?_
     show wpAny _ _ (ret Value.none) _ _ _
     refine wpAny_pure ⟨rfl,h',tk',rfl,hj,fun b o hb e => ?_⟩
     have b1:b ≠ s.heap.objs.size:=Nat.ne_of_lt hb
     have b2:b ≠ (s.heap.push { cls:=.type "set",dict:=none,data:=.set #[] 0 (.fresh 0 0 led) }).objs.size:=by rw [Heap.size_push]; exact Nat.ne_of_lt (Nat.lt_succ_of_lt hb)
     exact hm.heap b o (by simp only [List.mem_cons,List.mem_singleton,List.not_mem_nil,or_false,not_or]; exact ⟨b1,b2⟩) (Heap.get?_push_of_some _ (Heap.get?_push_of_some _ e))
   ·cases r2 with
    | error e => exact hr2
    | ok f2 =>
     cases f2 with
     | ret r =>
      obtain ⟨rfl,h',tk,rfl,hj,hk⟩:=hr2
      repeat (any_goals (first | assumption | wp_step))
      exact h _ _ hj hk
     | _ => exact hr2.elim
  | _ => exact hr.elim
end
end L2
set_option maxHeartbeats 1000000
namespace TimG
open PySem PySem.Spec PyProof.Rows
class KO where
 rk:Value→Int
 ik:Keyed→Prop
 kd:SortKind
variable [KO]
def numK (p:Keyed):Int:=KO.rk p.1
def Ik (p:Keyed):Prop:=KO.ik p
class KL (prog:Program) (w:World) (A:Around) (s:Shared):Prop where
 lt:∀ {E:Value→Shared→Prop} {x y:Keyed} {st:SortSt} {Q:Option Bool→SortSt→Prop},kindOf st=KO.kd→Ik x→Ik y→Q (some (decide (numK x < numK y))) st→wpS (model prog w) A E s (lt' x y) Q st
def K (a:Array Keyed) (i:Nat):Int:=L2.RK KO.rk a i
end TimG
namespace TimG
open PySem PySem.Spec PyProof.Rows
variable [KO]
def Srt (l:List Keyed):Prop:=l.Pairwise fun x y => numK x ≤ numK y
def Fin' (L R:List Keyed):Prop:=R.Perm L∧Srt R
end TimG
set_option maxHeartbeats 4000000
namespace TimG
open PySem PySem.Spec PyProof.Rows
variable [KO]
end TimG
namespace TimG
open PySem PySem.Spec PyProof.Rows
variable [KO]
end TimG
namespace TimG
open PySem PySem.Spec PyProof.Rows
variable [KO]
end TimG
namespace TimG
open PySem PySem.Spec PyProof.Rows
variable [KO]
end TimG
namespace TimG
open PySem PySem.Spec PyProof.Rows
variable [KO]
end TimG
namespace TimG
open PySem PySem.Spec PyProof.Rows
variable [KO]
def bare (P:Array (Nat × Nat × Nat)):List (Nat × Nat):=P.toList.map fun x => (x.1,x.2.1)
end TimG
namespace TimG
open PySem PySem.Spec PyProof.Rows
variable [KO]
end TimG
namespace TimG
open PySem PySem.Spec PyProof.Rows
variable [KO]
end TimG
namespace TimG
open PySem PySem.Spec PyProof.Rows
variable [KO]
end TimG
namespace TimG
open PySem PySem.Spec PyProof.Rows
variable [KO]
end TimG
namespace TimG
open PySem PySem.Spec PyProof.Rows
variable [KO]
end TimG
set_option maxHeartbeats 1000000
set_option maxHeartbeats 4000000
namespace L2
open PySem PySem.Spec PyProof.Rows
theorem tup_keep {h h' : Heap} {a:Addr} {o:Obj} (ho:h.get? a=some o) (hc:o.cls = .type "list") (k:∀ b ob,b ≠ a→h.get? b=some ob→h'.get? b=some ob) (b:Addr) (ob:Obj) (c:ob.cls = .type "tuple") (e:h.get? b=some ob):h'.get? b=some ob:=by
 refine k b ob (fun z => ?_) e
 rw [z,ho] at e
 cases e
 rw [hc] at c
 exact absurd c (by decide)
end L2
set_option maxHeartbeats 1000000
namespace L2
open PySem PySem.Spec PyProof.Rows
def TuL (H:Hp) (xs:List V) (us:List (List Int)):Prop:=xs.length=us.length∧∀ (i:Nat) (x:V) (u:List Int),xs[i]? = some x→us[i]? = some u→∃ a:Addr,x = .ref a∧H a=some (.tup (u.map V.int))
theorem TuL.nil (H:Hp):TuL H [] []:=⟨rfl,fun i x u h => by cases h⟩
theorem TuL.up {H H' : Hp} {xs:List V} {us:List (List Int)} (h:TuL H xs us) (t:Tups H H'):TuL H' xs us:=⟨h.1,fun i x u h1 h2 => by
 obtain ⟨a,b,c⟩:=h.2 i x u h1 h2
 exact ⟨a,b,t _ _ c⟩⟩
theorem TuL.snoc {H:Hp} {xs:List V} {us:List (List Int)} {a:Addr} {u:List Int} (h:TuL H xs us) (ha:H a=some (.tup (u.map V.int))):TuL H (xs ++ [.ref a]) (us ++ [u]):=by
 refine ⟨by rw [List.length_append,List.length_append,h.1]; rfl,fun i y r h1 h2 => ?_⟩
 by_cases z:i < xs.length
 ·rw [List.getElem?_append_left z] at h1
  rw [List.getElem?_append_left (h.1 ▸ z)] at h2
  exact h.2 i y r h1 h2
 ·rw [List.getElem?_append_right (by omega)] at h1
  rw [List.getElem?_append_right (by have:=h.1; omega),← h.1] at h2
  cases w:i - xs.length with
  | zero => rw [w] at h1 h2; cases h1; cases h2; exact ⟨a,rfl,ha⟩
  | succ m => rw [w] at h1; cases h1
def dTs (us:List (List Int)):PyData:=.list (us.map dT)
theorem TuL.di {K:PySem.W.Frag} {H:Hp} {a:Addr} {xs:List V} {us:List (List Int)} (h:TuL H xs us) (ha:SqL K H a xs):DI K H (.ref a) (dTs us):=by
 refine .lst ha (by rw [List.length_map]; exact h.1) fun i x d h1 h2 => ?_
 rw [List.getElem?_map] at h2
 cases z:us[i]? with
 | none => rw [z] at h2; cases h2
 | some u =>
  rw [z] at h2
  cases h2
  obtain ⟨b,rfl,hb⟩:=h.2 i x u h1 z
  refine .tup (SqT.of hb) (by rw [List.length_map,List.length_map]) fun j y e h3 h4 => ?_
  rw [List.getElem?_map] at h3 h4
  cases zz:u[j]? with
  | none => rw [zz] at h3; cases h3
  | some m => rw [zz] at h3 h4; cases h3; cases h4; exact .int m
theorem lay_dTs:∀ us:List (List Int),(dTs us).canLay0=true:=by
 have:∀ us:List (List Int),PyData.canLayAll0 (us.map dT)=true:=by
  intro us
  induction us with
  | nil => rfl
  | cons u us ih => show ((dT u).canLay0 && PyData.canLayAll0 (us.map dT))=true; rw [lay_dT,ih]; rfl
 exact this
theorem dep_dTs (us:List (List Int)):(dTs us).depth ≤ 60:=by
 have:∀ us:List (List Int),PyData.depthAll (us.map dT) ≤ 1:=by
  intro us
  induction us with
  | nil => exact Nat.zero_le _
  | cons u us ih => show max (dT u).depth _ ≤ 1; rw [dep_dT]; omega
 show PyData.depthAll _ + 1 ≤ 60
 have:=this us
 omega
theorem eqv_dTs (us vs:List (List Int)):PyData.eqv (dTs us) (dTs vs)=decide (us=vs):=by
 have:∀ us vs:List (List Int),PyData.eqvAll (us.map dT) (vs.map dT)=decide (us=vs):=by
  intro us
  induction us with
  | nil => intro vs; cases vs <;> rfl
  | cons u us ih =>
   intro vs
   cases vs with
   | nil => rfl
   | cons v vs =>
    show (PyData.eqv (dT u) (dT v) && PyData.eqvAll (us.map dT) (vs.map dT))=_
    rw [ih,eqv_dT]
    by_cases h:u=v
    ·subst h; by_cases h2:us=vs <;> simp [h2]
    ·simp [h]
 exact this us vs
def vOf:Value→V
 | .ref a => .ref a
 | _ => .non
section
variable {X:Cx} {pins:List (Addr × Obj)} {σ:St} {H:Hp} {s:Shared}
theorem tup_of (I:Inv X pins σ H s) {a:Addr} {u:List Int} (h:H a=some (.tup (u.map V.int))):TupI s.heap (.ref a) u:=by
 obtain ⟨its,r,⟨o,e,c,n,hd⟩,_⟩:=I.tuple (SqT.of (K:=X.K) h)
 exact ⟨a,o,_,n,rfl,e,c,hd,by simpa using intsAre_of r⟩
theorem call_tuple_ofKK {K:PySem.W.Frag} (hK:X.K=K:=by rfl):CallR X (.type "tuple") (fun xs H Q => ∃ p ys,xs=[.ref p]∧((SqL K H p ys∧∀ l,H l=none→Q (.ref l) (upd H l (.tup ys))) ∨ (SqT K H p ys∧Q (.ref p) H))):=by subst hK; exact call_tuple_of
end
end L2
namespace L2
open PySem PySem.Spec PyProof.Rows
theorem ints_items {P:Program} {w:World} : ∀ {vs:List Value} {u:List Int},IntsAre vs u→ItemsAre (intKind P w) u vs
 | _,_,.nil => .nil
 | _,_,.cons n t h => .cons (intKind_is _ _ _ _) (ints_items h)
theorem lexB_lt:∀ (u v:List Int),HT.lexLt u v=lexB u v
 | [],[] => rfl
 | [],_ :: _ => rfl
 | _ :: _,[] => rfl
 | a :: u,b :: v => by rw [HT.lexLt_cons,lexB_lt u v]; rfl
end L2
namespace L2
open PySem PySem.Spec PyProof.Rows
def cont (h:Heap) (b:Addr):Option HO:=match h.get? b with
 | some o => match o.data with
  | .seq its _ => match its.toList with
   | [.ref ka,.int m _] => some (.tup [.ref ka,.int m])
   | _ => none
  | _ => none
 | none => none
end L2
namespace L2
open PySem PySem.Spec PyProof.Rows
section
variable {X:Cx}
theorem call_range2:CallR X (.type "range") (fun xs H Q => ∃ i j:Int,xs=[.int i,.int j]∧∀ p,H p=none→Q (.ref p) (upd H p (.rng i j))):=by
 intro pins s σ H xs us Q I r h
 obtain ⟨i,j,rfl,q⟩:=h
 obtain ⟨u1,u2,rfl,⟨t1,rfl⟩,⟨t2,rfl⟩⟩:=vals2 r
 refine call_range_2 ?_
 exact ⟨.ref _,upd H s.heap.objs.size (.rng i j),I.laid (fun b u e => Heap.get?_push_of_some _ e) (Nat.le_refl _) ⟨_,_,_,Heap.get?_push_size _ rfl⟩,rfl,q _ (I.hok.fresh (Nat.le_refl _))⟩
def upto (lo:Int) (n:Nat):List Int:=(List.range n).map fun (i:Nat) => lo + (i:Int)
theorem call_list_rng2 (hc:X.calm=true):CallR X (.type "list") (fun xs H Q => ∃ (p:Addr) (i j:Int),xs=[.ref p]∧H p=some (.rng i j)∧-1000 ≤ i∧i ≤ j∧j ≤ 1000∧∀ l,H l=none→Q (.ref l) (upd H l (.lst ((upto i (j - i).toNat).map V.int)))):=by
 intro pins s σ H xs us Q I r h
 obtain ⟨p,lo,j,rfl,hp,h0,h1,h2,q⟩:=h
 obtain ⟨u,rfl,rx⟩:=vals1 r
 cases rx
 obtain ⟨t,u,v,e⟩:=I.hok p _ hp
 refine call_list_range (n:=(j - lo).toNat) (I.ok.hd hc) e (small_one (by omega) (by omega) (by omega) (by omega)) (by rw [rangeSize_one]; split <;> omega) (by omega) fun h' tk acc' c' hk hS hacc => ?_
 have hln:((upto lo (j - lo).toNat).map V.int).length=acc'.toList.length:=by unfold upto; simp [hacc.1]
 refine ⟨.ref _,_,I.laid (o:=.lst ((upto lo (j - lo).toNat).map V.int)) hk (Nat.le_refl _) ⟨?_,acc'.toList,c',Vals.of_get hln fun i x w' e1 e2 => ?_,by simpa using hS⟩,rfl,q _ (I.hok.fresh (Nat.le_refl _))⟩
 ·unfold upto
  rw [List.length_map,List.length_map,List.length_range]
  exact Nat.le_trans (show (j - lo).toNat ≤ 2000 by omega) (by decide)
 ·have hi:i < (j - lo).toNat:=by
   have:=(List.getElem?_eq_some_iff.mp e1).1
   unfold upto at this
   rw [List.length_map,List.length_map,List.length_range] at this
   exact this
  unfold upto at e1
  rw [List.getElem?_map,List.getElem?_map,List.getElem?_range hi] at e1
  cases e1
  obtain ⟨tk',z⟩:=hacc.2 i w' (by simpa using e2)
  rw [z]
  exact ⟨tk',by simp⟩
theorem pi_tupK {K:PySem.W.Frag} {tg l:Expr} {tl:TE} (hl:PE X l tl) (hK:X.K=K:=by rfl):PI X tg l (iTup K tl):=by subst hK; exact pi_tup hl
end
end L2
namespace L2
open PySem PySem.Spec PyProof.Rows
def absI (i:Int):Int:=if i < 0 then -i else i
def pool (n:Nat):List Int:=upto 1 n ++ upto 1 n
structure ShOk (S:List (List Int)):Prop where
 even:∃ m:Nat,S.length=2 * m∧1 ≤ m∧m ≤ 6
 three:∀ t ∈ S,t.length=3
 ties:(S.flatten.map absI).Perm (pool (S.length / 2 * 3))
theorem mem_upto {lo:Int} {n:Nat} {i:Int} : i ∈ upto lo n ↔ lo ≤ i∧i < lo + (n:Int):=by
 unfold upto
 rw [List.mem_map]
 constructor
 ·rintro ⟨k,hk,rfl⟩
  have:=List.mem_range.mp hk
  omega
 ·rintro ⟨h1,h2⟩
  exact ⟨(i - lo).toNat,List.mem_range.mpr (by omega),by omega⟩
theorem upto_len (lo:Int) (n:Nat):(upto lo n).length=n:=by unfold upto; rw [List.length_map,List.length_range]
theorem chunks (os:List Int):∀ n:Nat,((List.range n).map fun k => (os.drop (3 * k)).take 3).flatten=os.take (3 * n)
 | 0 => by simp
 | n + 1 => by
  rw [List.range_succ,List.map_append,List.flatten_append,chunks os n]
  simp only [List.map_cons,List.map_nil,List.flatten_cons,List.flatten_nil,List.append_nil]
  rw [show 3 * (n + 1)=3 * n + 3 by omega,List.take_add]
theorem rep2 (xs:List V):(List.replicate (2:Int).toNat xs).flatten=xs ++ xs:=by
 show xs ++ (xs ++ [])=xs ++ xs
 rw [List.append_nil]
def dI (ns:List Int):PyData:=.list (ns.map .int)
theorem di_lst {K:PySem.W.Frag} {H:Hp} {a:Addr} {ns:List Int} (h:SqL K H a (ns.map V.int)):DI K H (.ref a) (dI ns):=by
 refine .lst h (by rw [List.length_map,List.length_map]) fun i x d h1 h2 => ?_
 rw [List.getElem?_map] at h1 h2
 cases z:ns[i]? with
 | none => rw [z] at h1; cases h1
 | some m => rw [z] at h1 h2; cases h1; cases h2; exact .int m
theorem eqv_dI (ns ms:List Int):PyData.eqv (dI ns) (dI ms)=decide (ns=ms):=eqvAll_ints ns ms
theorem lay_dI (ns:List Int):(dI ns).canLay0=true:=lay_ints ns
theorem dep_dI (ns:List Int):(dI ns).depth ≤ 60:=by show PyData.depthAll _ + 1 ≤ 60; rw [dep_ints]; decide
theorem erase_permK {α:Type} : ∀ {l:List α} {k:Nat} {y:α},l[k]? = some y→l.Perm (y :: l.eraseIdx k)
 | [],k,y,h => by cases h
 | a :: l,0,y,h => by cases h; exact List.Perm.refl _
 | a :: l,k + 1,y,h => by
  have ih:=erase_permK (l:=l) (k:=k) (y:=y) (by simpa using h)
  exact (List.Perm.cons a ih).trans (List.Perm.swap y a _)
theorem map_erase {α β:Type} (f:α→β):∀ (l:List α) (k:Nat),(l.map f).eraseIdx k=(l.eraseIdx k).map f
 | [],_ => rfl
 | _ :: _,0 => rfl
 | a :: l,k + 1 => by
  show f a :: (l.map f).eraseIdx k=f a :: (l.eraseIdx k).map f
  rw [map_erase f l k]
theorem pool_len (n:Nat):(pool n).length=2 * n:=by unfold pool; rw [List.length_append,upto_len]; omega
theorem mem_pool {n:Nat} {i:Int} (h:i ∈ pool n):1 ≤ i∧i ≤ (n:Int):=by
 unfold pool at h
 rcases List.mem_append.mp h with h | h <;> (have:=mem_upto.mp h; omega)
end L2
namespace L2
open PySem PySem.Spec PyProof.Rows
def wholeD:PyData→Bool
 | .int _ => true
 | _ => false
theorem whole_ib (d:PyData):wholeD d=(isInt d && !isBool d):=by cases d <;> rfl
def isLst:PyData→Bool
 | .list _ => true
 | _ => false
theorem kit_lst {K:PySem.W.Frag} (d:PyData):PySem.W.kitOne K (.type (tyName d)) (.type "list")=some (isLst d):=by cases d <;> rfl
theorem tup_parts {H:Hp} {x:V} {d:PyData} (t:Th H x d) (h:isTup d=true):∃ p ds xs,x = .ref p∧d = .tuple ds∧H p=some (.tup xs)∧ThL H xs ds:=by
 cases t with
 | tup a b c => exact ⟨_,_,_,rfl,rfl,a,b,c⟩
 | _ => cases h
theorem lst_parts {H:Hp} {x:V} {d:PyData} (t:Th H x d) (h:isLst d=true):∃ p ds xs,x = .ref p∧d = .list ds∧H p=some (.lst xs)∧ThL H xs ds:=by
 cases t with
 | lst a b c => exact ⟨_,_,_,rfl,rfl,a,b,c⟩
 | _ => cases h
theorem thl_at {H:Hp} {xs:List V} {ds:List PyData} (k:ThL H xs ds) {i:Nat} {x:V} (e:xs[i]? = some x):∃ d,ds[i]? = some d∧Th H x d:=by
 have hi:i < ds.length:=by rw [← k.1]; exact (List.getElem?_eq_some_iff.mp e).1
 exact ⟨ds[i],List.getElem?_eq_getElem hi,k.2 i x _ e (List.getElem?_eq_getElem hi)⟩
theorem three3 {α:Type} {xs:List α} (h:xs.length=3):∃ a b c,xs=[a,b,c]:=by
 match xs,h with
 | [a,b,c],_ => exact ⟨a,b,c,rfl⟩
def isTri:PyData→Bool
 | .tuple ds => decide (ds.length=3) && ds.all wholeD
 | _ => false
def intD:PyData→Int
 | .int i => i
 | _ => 0
def sidesD:PyData→List Int
 | .tuple ds => ds.map intD
 | _ => []
def tiesD (ts:List PyData):List Int:=(ts.map fun t => (sidesD t).map absI).flatten
def isS:PyData→Bool
 | .list ts => (decide (2 ≤ ts.length∧ts.length ≤ 12∧ts.length % 2=0) && ts.all isTri) && (upto 1 (ts.length / 2 * 3)).all fun t => decide ((tiesD ts).countP (fun z => decide (z=t))=2)
 | _ => false
theorem isS_not {d:PyData} (h:isLst d=false):isS d=false:=by cases d <;> first | rfl | cases h
theorem isTri_not {d:PyData} (h:isTup d=false):isTri d=false:=by cases d <;> first | rfl | cases h
theorem isTri_ints {d:PyData} (h:isTri d=true):∃ a b c:Int,d = .tuple [.int a,.int b,.int c]:=by
 cases d with
 | tuple ds =>
  have h' : (decide (ds.length=3) && ds.all wholeD)=true:=h
  rw [Bool.and_eq_true] at h'
  obtain ⟨h1,h2⟩:=h'
  obtain ⟨a,b,c,rfl⟩:=three3 (of_decide_eq_true h1)
  have w:=List.all_eq_true.mp h2
  have wa:=w a (by simp)
  have wb:=w b (by simp)
  have wc:=w c (by simp)
  cases a <;> first | cases wa | skip
  cases b <;> first | cases wb | skip
  cases c <;> first | cases wc | skip
  exact ⟨_,_,_,rfl⟩
 | _ => cases h
theorem tiesD_snoc (ts:List PyData) (t:PyData):tiesD (ts ++ [t])=tiesD ts ++ (sidesD t).map absI:=by
 unfold tiesD
 rw [List.map_append,List.flatten_append]
 simp
theorem ties_len:∀ {ts:List PyData},ts.all isTri=true→(tiesD ts).length=3 * ts.length
 | [],_ => rfl
 | t :: ts,h => by
  rw [List.all_cons,Bool.and_eq_true] at h
  obtain ⟨a,b,c,rfl⟩:=isTri_ints h.1
  have ih:=ties_len h.2
  unfold tiesD at ih ⊢
  rw [List.map_cons,List.flatten_cons,List.length_append,ih]
  simp only [sidesD,List.map_cons,List.map_nil,List.length_cons,List.length_nil]
  omega
theorem upto_succ (lo:Int) (n:Nat):upto lo (n + 1)=upto lo n ++ [lo + (n:Int)]:=by unfold upto; rw [List.range_succ,List.map_append]; rfl
theorem count_upto (t:Int):∀ n:Nat,(upto 1 n).countP (fun z => decide (z=t))=if 1 ≤ t∧t ≤ (n:Int) then 1 else 0
 | 0 => by rw [if_neg (by omega)]; rfl
 | n + 1 => by
  rw [upto_succ,List.countP_append,count_upto t n]
  by_cases h:(1:Int) + (n:Int)=t
  ·rw [if_neg (by omega),if_pos (by omega)]
   simp [h]
  ·have e:List.countP (fun z => decide (z=t)) [(1:Int) + (n:Int)]=0:=by simp [h]
   rw [e]
   by_cases q:1 ≤ t∧t ≤ (n:Int)
   ·rw [if_pos q,if_pos (by omega)]
   ·rw [if_neg q,if_neg (by omega)]
theorem count_pool (t:Int) (n:Nat):(pool n).countP (fun z => decide (z=t))=if 1 ≤ t∧t ≤ (n:Int) then 2 else 0:=by
 unfold pool
 rw [List.countP_append,count_upto]
 split <;> rfl
theorem filt_len (A:List Int):∀ n:Nat,(∀ t ∈ upto 1 n,A.countP (fun z => decide (z=t))=2)→(A.countP fun z => decide (1 ≤ z∧z ≤ (n:Int)))=2 * n
 | 0,_ => by
  rw [List.countP_eq_zero.mpr]
  intro z _
  simp
  omega
 | n + 1,h => by
  have ih:=filt_len A n fun t ht => h t (by rw [upto_succ]; exact List.mem_append_left _ ht)
  have hl:=h (1 + (n:Int)) (by rw [upto_succ]; exact List.mem_append_right _ (by simp))
  have key:∀ B:List Int,(B.countP fun z => decide (1 ≤ z∧z ≤ ((n + 1:Nat):Int)))=(B.countP fun z => decide (1 ≤ z∧z ≤ (n:Int))) + B.countP (fun z => decide (z=1 + (n:Int))):=by
   intro B
   induction B with
   | nil => rfl
   | cons b B ihB =>
    rw [List.countP_cons,List.countP_cons,List.countP_cons,ihB]
    by_cases q1:1 ≤ b∧b ≤ (n:Int)
    ·have q2:1 ≤ b∧b ≤ ((n + 1:Nat):Int):=by omega
     have q3 : ¬ b=1 + (n:Int):=by omega
     simp only [q1,q2,q3,decide_true,decide_false,if_true,and_self]
     simp
     omega
    ·by_cases q3:b=1 + (n:Int)
     ·have q2:1 ≤ b∧b ≤ ((n + 1:Nat):Int):=by omega
      rw [decide_eq_true q2,decide_eq_false q1,decide_eq_true q3]
      simp
      omega
     ·have q2 : ¬ (1 ≤ b∧b ≤ ((n + 1:Nat):Int)):=by omega
      rw [decide_eq_false q2,decide_eq_false q1,decide_eq_false q3]
      simp
  rw [key,ih,hl]
  omega
theorem perm_pool {A:List Int} {n:Nat} (hl:A.length=2 * n):A.Perm (pool n) ↔ ∀ t ∈ upto 1 n,A.countP (fun z => decide (z=t))=2:=by
 constructor
 ·intro p t ht
  have:=mem_upto.mp ht
  rw [p.countP_eq,count_pool,if_pos (by omega)]
 ·intro h
  have fl:=filt_len A n h
  rw [← hl] at fl
  have all:=List.countP_eq_length.mp fl
  rw [List.perm_iff_count]
  intro a
  have c1:∀ l:List Int,List.count a l=l.countP fun z => decide (z=a):=fun l => by
   unfold List.count
   congr 1
  rw [c1,c1,count_pool]
  by_cases q:1 ≤ a∧a ≤ (n:Int)
  ·rw [if_pos q]
   exact h a (mem_upto.mpr (by omega))
  ·rw [if_neg q]
   refine List.countP_eq_zero.mpr fun z hz => ?_
   have:=of_decide_eq_true (all z hz)
   intro e
   rw [of_decide_eq_true e] at this
   exact q this
theorem isS_eq (ts:List PyData):isS (.list ts)=((decide (2 ≤ ts.length∧ts.length ≤ 12∧ts.length % 2=0) && ts.all isTri) && (upto 1 (ts.length / 2 * 3)).all fun t => decide ((tiesD ts).countP (fun z => decide (z=t))=2)):=rfl
theorem isS_len {ts:List PyData} (h : ¬ (2 ≤ ts.length∧ts.length ≤ 12∧ts.length % 2=0)):isS (.list ts)=false:=by
 rw [isS_eq,decide_eq_false h]; rfl
theorem isS_tri {ts:List PyData} (h:ts.all isTri=false):isS (.list ts)=false:=by
 rw [isS_eq,h,Bool.and_false]; rfl
theorem isS_full {ts:List PyData} (h:2 ≤ ts.length∧ts.length ≤ 12∧ts.length % 2=0) (h2:ts.all isTri=true):isS (.list ts)=(upto 1 (ts.length / 2 * 3)).all fun t => decide ((tiesD ts).countP (fun z => decide (z=t))=2):=by
 rw [isS_eq,decide_eq_true h,h2]; rfl
theorem isS_perm {ts:List PyData} (h:2 ≤ ts.length∧ts.length ≤ 12∧ts.length % 2=0) (h2:ts.all isTri=true):isS (.list ts)=true ↔ (tiesD ts).Perm (pool (ts.length / 2 * 3)):=by
 rw [isS_full h h2,perm_pool (by rw [ties_len h2]; omega),List.all_eq_true]
 constructor
 ·exact fun q t ht => of_decide_eq_true (q t ht)
 ·exact fun q t ht => decide_eq_true (q t ht)
theorem tri_dT {t:List Int} (h:t.length=3):isTri (dT t)=true:=by
 show (decide ((t.map PyData.int).length=3) && (t.map PyData.int).all wholeD)=true
 rw [List.length_map,decide_eq_true h,Bool.true_and,List.all_eq_true]
 intro x hx
 obtain ⟨i,_,rfl⟩:=List.mem_map.mp hx
 rfl
theorem ties_dT:∀ S:List (List Int),tiesD (S.map dT)=S.flatten.map absI
 | [] => rfl
 | t :: S => by
  have ih:=ties_dT S
  unfold tiesD at ih ⊢
  rw [List.map_cons,List.map_cons,List.flatten_cons,List.flatten_cons,List.map_append,ih]
  congr 1
  show ((t.map PyData.int).map intD).map absI=t.map absI
  rw [List.map_map,List.map_map]
  rfl
theorem isS_sheet {S:List (List Int)} (h:ShOk S):isS (dTs S)=true:=by
 obtain ⟨m,hm,m1,m6⟩:=h.even
 have l:(S.map dT).length=S.length:=List.length_map ..
 refine (isS_perm (ts:=S.map dT) (by rw [l]; omega) ?_).mpr ?_
 ·rw [List.all_eq_true]
  intro x hx
  obtain ⟨t,ht,rfl⟩:=List.mem_map.mp hx
  exact tri_dT (h.three t ht)
 ·rw [ties_dT,l]
  exact h.ties
theorem TuL.th {H:Hp} {xs:List V} {us:List (List Int)} (h:TuL H xs us):ThL H xs (us.map dT):=by
 refine ⟨by rw [List.length_map]; exact h.1,fun i x d h1 h2 => ?_⟩
 rw [List.getElem?_map] at h2
 cases z:us[i]? with
 | none => rw [z] at h2; cases h2
 | some u =>
  rw [z] at h2
  cases h2
  obtain ⟨a,rfl,ha⟩:=h.2 i x u h1 z
  exact (ThL.ints u).tup ha
end L2
namespace L2
open PySem PySem.Spec PyProof.Rows
theorem ShOk.side {S:List (List Int)} (h:ShOk S) {t:List Int} (ht:t ∈ S) {i:Int} (hi:i ∈ t):1 ≤ absI i∧absI i ≤ ((S.length / 2 * 3:Nat):Int):=by
 have:absI i ∈ pool (S.length / 2 * 3):=h.ties.subset (List.mem_map_of_mem (List.mem_flatten.mpr ⟨t,ht,hi⟩))
 exact mem_pool this
theorem ShOk.len {S:List (List Int)} (h:ShOk S):2 ≤ S.length∧S.length ≤ 12∧S.length % 2=0:=by
 obtain ⟨m,a,b,c⟩:=h.even
 omega
theorem abs_le {i n:Int} (h:absI i ≤ n) : -n ≤ i∧i ≤ n:=by unfold absI at h; split at h <;> omega
theorem ShOk.small {S:List (List Int)} (h:ShOk S) {t:List Int} (ht:t ∈ S) {i:Int} (hi:i ∈ t) : -18 ≤ i∧i ≤ 18:=by
 have a:=h.side ht hi
 have b:=h.len
 have:=abs_le a.2
 omega
end L2
namespace L2
open PySem PySem.Spec PyProof.Rows
inductive Itm (H:Hp):Bool→V→List Int→Prop where
 | int (i:Int):Itm H false (.int i) [i]
 | tup {a:Addr} {u:List Int} : H a=some (.tup (u.map V.int))→Itm H true (.ref a) u
def ItL (H:Hp) (tp:Bool) (xs:List V) (us:List (List Int)):Prop:=xs.length=us.length∧∀ (i:Nat) (x:V) (u:List Int),xs[i]? = some x→us[i]? = some u→Itm H tp x u
theorem Itm.up {H H' : Hp} {tp:Bool} {x:V} {u:List Int} (h:Itm H tp x u) (t:Tups H H'):Itm H' tp x u:=by
 cases h with
 | int i => exact .int i
 | tup e => exact .tup (t _ _ e)
theorem ItL.up {H H' : Hp} {tp:Bool} {xs:List V} {us:List (List Int)} (h:ItL H tp xs us) (t:Tups H H'):ItL H' tp xs us:=⟨h.1,fun i x u h1 h2 => (h.2 i x u h1 h2).up t⟩
theorem ItL.head {H:Hp} {tp:Bool} {x:V} {u:List Int} {xs:List V} {us:List (List Int)} (h:ItL H tp (x :: xs) (u :: us)):Itm H tp x u:=h.2 0 x u rfl rfl
theorem ItL.tail {H:Hp} {tp:Bool} {x:V} {u:List Int} {xs:List V} {us:List (List Int)} (h:ItL H tp (x :: xs) (u :: us)):ItL H tp xs us :=
 ⟨by simpa using h.1,fun i y v h1 h2 => h.2 (i + 1) y v (by simpa using h1) (by simpa using h2)⟩
theorem ItL.append {H:Hp} {tp:Bool} {xs ys:List V} {us vs:List (List Int)} (h:ItL H tp xs us) (k:ItL H tp ys vs):ItL H tp (xs ++ ys) (us ++ vs):=by
 refine ⟨by simp [h.1,k.1],fun i x u h1 h2 => ?_⟩
 by_cases c:i < xs.length
 ·rw [List.getElem?_append_left c] at h1
  rw [List.getElem?_append_left (h.1 ▸ c)] at h2
  exact h.2 i x u h1 h2
 ·rw [List.getElem?_append_right (by omega)] at h1
  rw [List.getElem?_append_right (by rw [← h.1]; omega),← h.1] at h2
  exact k.2 _ x u h1 h2
theorem TuL.it {H:Hp} {xs:List V} {us:List (List Int)} (h:TuL H xs us):ItL H true xs us:=⟨h.1,fun i x u h1 h2 => by
 obtain ⟨a,rfl,e⟩:=h.2 i x u h1 h2
 exact .tup e⟩
theorem ItL.tu {H:Hp} {xs:List V} {us:List (List Int)} (h:ItL H true xs us):TuL H xs us:=⟨h.1,fun i x u h1 h2 => by
 cases h.2 i x u h1 h2 with
 | tup e => exact ⟨_,rfl,e⟩⟩
inductive ItV (h:Heap):Bool→Value→List Int→Prop where
 | int (i:Int) (t:Tok):ItV h false (.int i t) [i]
 | tup {v:Value} {u:List Int} : TupI h v u→ItV h true v u
def cdV (tp:Bool) (h:Heap) (v:Value):List Int:=if tp then kfI h v else [vInt v]
theorem ItV.cd {h:Heap} {tp:Bool} {v:Value} {u:List Int} (x:ItV h tp v u):cdV tp h v=u:=by
 cases x with
 | int i t => rfl
 | tup t => exact t.kf
theorem ItV.keep {h h' : Heap} {tp:Bool} {v:Value} {u:List Int} (x:ItV h tp v u) (k:∀ (b:Addr) (o:Obj),o.cls = .type "tuple" → h.get? b=some o→h'.get? b=some o):ItV h' tp v u:=by
 cases x with
 | int i t => exact .int i t
 | tup t => exact .tup (t.keep' k)
theorem it_of {X:Cx} {pins:List (Addr × Obj)} {σ:L2.St} {H:Hp} {s:Shared} (I:Inv X pins σ H s) {tp:Bool} {x:V} {u:List Int} (h:Itm H tp x u) {v:Value} (r:RelV x v):ItV s.heap tp v u:=by
 cases h with
 | int i => obtain ⟨t,rfl⟩:=r; exact .int i t
 | tup e => cases r; exact .tup (tup_of I e)
theorem its_of {X:Cx} {pins:List (Addr × Obj)} {σ:L2.St} {H:Hp} {s:Shared} (I:Inv X pins σ H s) {tp:Bool} : ∀ {xs:List V} {vs:List Value} {us:List (List Int)},Vals xs vs→ItL H tp xs us→vs.length=us.length∧∀ (i:Nat) (v:Value) (u:List Int),vs[i]? = some v→us[i]? = some u→ItV s.heap tp v u
 | _,_,us,.nil,h => by
  have:=h.1
  refine ⟨by simpa using this,fun i v u e => by cases e⟩
 | _,_,[],.cons r t,h => by have:=h.1; simp at this
 | _,_,u :: us,.cons r t,h => by
  obtain ⟨l,k⟩:=its_of I t h.tail
  refine ⟨by simp [l],fun i v w e1 e2 => ?_⟩
  cases i with
  | zero => cases e1; cases e2; exact it_of I h.head r
  | succ i => exact k i v w (by simpa using e1) (by simpa using e2)
theorem lexB_one (i j:Int):lexB [i] [j]=decide (i < j):=by
 by_cases h:i=j
 ·subst h
  rw [lexB_irr]
  exact (decide_eq_false (by omega)).symm
 ·show (if i=j then lexB [] [] else decide (i < j))=_
  rw [if_neg h]
section
variable {prog:Program} {w:World} {A:Around} {E:Value→Shared→Prop} {s:Shared}
theorem ItV.eq {tp:Bool} {x y:Value} {u v:List Int} (hu:A.units < cLine) (hx:ItV s.heap tp x u) (hy:ItV s.heap tp y v):SeqAt.EqAt A s x y (decide (u=v)):=by
 cases hx with
 | int i t =>
  cases hy with
  | int j t' =>
   have:=SeqAt.EqAt.int_int (A:=A) (s:=s) i t j t'
   have e:(i == j)=decide ([i]=[j]):=by
    by_cases z:i=j <;> simp [z]
   rw [e] at this
   exact this
 | tup tx =>
  cases hy with
  | tup ty =>
   obtain ⟨p,op,ip,np,rfl,g1,g2,g3,g4⟩:=tx
   obtain ⟨q,oq,iq,nq,rfl,k1,k2,k3,k4⟩:=ty
   intro prog w E Q hQ
   exact wpAny_eqBool_tuple (knd:=intKind prog w) hu ⟨op,ip,np,g1,g2,g3,ints_items g4⟩ ⟨oq,iq,nq,k1,k2,k3,ints_items k4⟩ hQ
theorem ItV.lt {tp:Bool} {x y:Value} {u v:List Int} {Q:Value→Shared→Prop} (hu:A.units < cLine) (hx:ItV s.heap tp x u) (hy:ItV s.heap tp y v) (h:Q (.bool (lexB u v)) s):wpAny (model prog w) A (richCompare .Lt x y) Q E s:=by
 cases hx with
 | int i t =>
  cases hy with
  | int j t' =>
   rw [lexB_one] at h
   exact HT.rcLt_int A s i t j t' prog w E Q h
 | tup tx =>
  cases hy with
  | tup ty =>
   obtain ⟨p,op,ip,np,rfl,g1,g2,g3,g4⟩:=tx
   obtain ⟨q,oq,iq,nq,rfl,k1,k2,k3,k4⟩:=ty
   refine HT.lt_tupInts (items:=ip) (items2:=iq) ⟨op,g1,g2,np,g3⟩ ⟨oq,k1,k2,nq,k3⟩ g4 k4 hu ?_
   rw [lexB_lt]
   exact h
end
def lexLL:List (List Int)→List (List Int)→Bool
 | [],[] => false
 | [],_ :: _ => true
 | _ :: _,[] => false
 | a :: u,b :: v => if a=b then lexLL u v else lexB a b
theorem lexLL_irr:∀ u:List (List Int),lexLL u u=false
 | [] => rfl
 | a :: u => by show (if a=a then lexLL u u else _)=false; rw [if_pos rfl]; exact lexLL_irr u
theorem lexLL_cons (a b:List Int) (u v:List (List Int)):lexLL (a :: u) (b :: v)=if a=b then lexLL u v else lexB a b:=rfl
theorem lexLL_trans:∀ {x y z:List (List Int)},lexLL x y=true→lexLL y z=true→lexLL x z=true
 | [],[],_,h,_ => by cases h
 | [],_ :: _,[],_,h => by cases h
 | [],_ :: _,_ :: _,_,_ => rfl
 | _ :: _,[],_,h,_ => by cases h
 | _ :: _,_ :: _,[],_,h => by cases h
 | a :: x,b :: y,c :: z,h1,h2 => by
  rw [lexLL_cons] at h1 h2 ⊢
  by_cases e1:a=b
  ·subst e1
   rw [if_pos rfl] at h1
   by_cases e2:a=c
   ·rw [if_pos e2] at h2 ⊢
    exact lexLL_trans h1 h2
   ·rw [if_neg e2] at h2 ⊢
    exact h2
  ·rw [if_neg e1] at h1
   by_cases e2:b=c
   ·subst e2
    rw [if_neg e1]
    exact h1
   ·rw [if_neg e2] at h2
    have h3:=lexB_trans h1 h2
    have e3:a ≠ c:=fun z => by rw [z,lexB_irr] at h3; cases h3
    rw [if_neg e3]
    exact h3
theorem lexLL_tot:∀ {x y:List (List Int)},lexLL x y=false→lexLL y x=false→x=y
 | [],[],_,_ => rfl
 | [],_ :: _,h,_ => by cases h
 | _ :: _,[],_,h => by cases h
 | a :: x,b :: y,h1,h2 => by
  rw [lexLL_cons] at h1 h2
  by_cases e:a=b
  ·subst e
   rw [if_pos rfl] at h1 h2
   rw [lexLL_tot h1 h2]
  ·rw [if_neg e] at h1
   rw [if_neg (Ne.symm e)] at h2
   exact absurd (lexB_tot h1 h2) e
def rnkG {α:Type} (lt:α→α→Bool) (ks:List α) (u:α):Int:=((ks.filter fun z => lt z u).length:Nat)
theorem rnkG_ok {α:Type} {lt:α→α→Bool} (irr:∀ x,lt x x=false) (tr:∀ {x y z},lt x y=true→lt y z=true→lt x z=true) (tot:∀ {x y},lt x y=false→lt y x=false→x=y) {ks:List α} {x y:α} (hx:x ∈ ks) (hy:y ∈ ks):decide (rnkG lt ks x < rnkG lt ks y)=lt x y:=by
 have less:∀ {a b:α},a ∈ ks→lt a b=true→rnkG lt ks a < rnkG lt ks b:=fun {a b} ha h => by
  have:=filter_less (p:=fun z => lt z a) (q:=fun z => lt z b) (l:=ks) (x:=a) (fun z _ q => tr q h) ha h (irr a)
  show (((ks.filter fun z => lt z a).length:Nat):Int) < ((ks.filter fun z => lt z b).length:Nat)
  omega
 cases h:lt x y with
 | true => exact decide_eq_true (less hx h)
 | false =>
  refine decide_eq_false fun q => ?_
  cases h2:lt y x with
  | true => have:=less hy h2; omega
  | false => rw [tot h h2] at q; omega
section
variable {prog:Program} {w:World} {A:Around} {E:Value→Shared→Prop} {s:Shared}
def LsV (h:Heap) (tp:Bool) (v:Value) (us:List (List Int)):Prop:=∃ (a:Addr) (its:Array Value),v = .ref a∧h.IsList a its∧its.size=us.length∧∀ (i:Nat) (x:Value) (u:List Int),its[i]? = some x→us[i]? = some u→ItV h tp x u
theorem LsV.at {h:Heap} {tp:Bool} {its:Array Value} {us:List (List Int)} (l:its.size=us.length) (k:∀ (i:Nat) (x:Value) (u:List Int),its[i]? = some x→us[i]? = some u→ItV h tp x u) {i:Nat} (hi:i < us.length):∃ x,its[i]? = some x∧ItV h tp x us[i] :=
 ⟨its[i]'(by omega),Array.getElem?_eq_getElem (by omega),k i _ _ (Array.getElem?_eq_getElem (by omega)) (List.getElem?_eq_getElem hi)⟩
section
open PySem.SeqAt
open PySem.AutoSeq1 (wpAny_loadPart')
open PySem.MeetsSeq PySem.MeetsSeq2 PySem.MeetsSeq3
theorem llt_loop (tp:Bool) (l b:Addr) (items items2:Array Value) (n n2:Nat) (dd dd2:Option Addr) (sl sl2:Array (Option Value)) (us vs:List (List Int)) (z1:items.size=us.length) (z2:items2.size=vs.length) (k:Nat) :
  ∀ i:Nat,us.length - i=k→i ≤ us.length→i ≤ vs.length→Meets (Builtin.«list.__eq__.loop» ⟨[.ref l,.ref b,rawInt i,rawInt 0],[]⟩)
   (fun A R s => A.units + 4 < cLine∧s.heap.get? l=some { cls:=.type "list",dict:=dd,data:=.seq items n,slots:=sl }∧s.heap.get? b=some { cls:=.type "list",dict:=dd2,data:=.seq items2 n2,slots:=sl2 } ∧
    (∀ (i:Nat) (x:Value) (u:List Int),items[i]? = some x→us[i]? = some u→ItV s.heap tp x u)∧(∀ (i:Nat) (x:Value) (u:List Int),items2[i]? = some x→vs[i]? = some u→ItV s.heap tp x u) ∧
    R (.ok (.ret (.bool (lexLL (us.drop i) (vs.drop i))))) s):=by
 induction k with
 | zero =>
  intro i hk iu iv prog w A R st hh
  obtain ⟨hp,g,d,tk,os⟩:=st
  obtain ⟨hun,hl,hb,ka,kb,hR⟩:=hh
  wp_walk using wpAny_loadPart' hl,wpAny_loadPart' hb
  have a1:items[((i:Nat):Int).toNat]? = none:=by simp; omega
  have e1:us.drop i=[]:=List.drop_eq_nil_iff.mpr (by omega)
  rw [e1] at hR
  rw [a1]
  wp_walk using wpAny_loadPart' hl,wpAny_loadPart' hb
  show R (.ok (.ret (.bool (decide (items.size < items2.size))))) _
  have e2:lexLL [] (vs.drop i)=decide (items.size < items2.size):=by
   cases q:vs.drop i with
   | nil =>
    have:=List.drop_eq_nil_iff.mp q
    exact (decide_eq_false (by omega)).symm
   | cons c r =>
    have : ¬ vs.length ≤ i:=fun z => by rw [List.drop_eq_nil_iff.mpr z] at q; cases q
    exact (decide_eq_true (by omega)).symm
  rw [e2] at hR
  exact hR
 | succ k ih =>
  intro i hk iu iv prog w A R st hh
  obtain ⟨hp,g,d,tk,os⟩:=st
  obtain ⟨hun,hl,hb,ka,kb,hR⟩:=hh
  wp_walk using wpAny_loadPart' hl,wpAny_loadPart' hb
  have il:i < us.length:=by omega
  have a1:items[((i:Nat):Int).toNat]? = some (items[i]'(by omega)):=by simp [show i < items.size by omega]
  have eu:us.drop i=us[i] :: us.drop (i + 1):=List.drop_eq_getElem_cons il
  by_cases jl:i < vs.length
  ·have a2:items2[((i:Nat):Int).toNat]? = some (items2[i]'(by omega)):=by simp [show i < items2.size by omega]
   have ev:vs.drop i=vs[i] :: vs.drop (i + 1):=List.drop_eq_getElem_cons jl
   rw [eu,ev,lexLL_cons] at hR
   rw [a1,a2]
   have p1:=ka i _ _ (Array.getElem?_eq_getElem (by omega)) (List.getElem?_eq_getElem il)
   have p2:=kb i _ _ (Array.getElem?_eq_getElem (by omega)) (List.getElem?_eq_getElem jl)
   have hu1:A.in1.units < cLine:=by show A.units + 1 < cLine; omega
   refine wpAny_bind (ItV.eq (s:=⟨hp,g,d,tk,os⟩) hu1 p1 p2 prog w _ _ ?_)
   by_cases q:us[i]=vs[i]
   ·rw [decide_eq_true q]
    rw [if_pos q] at hR
    wp_walk
    rw [show ((i:Int) + 1)=((i + 1:Nat):Int) by push_cast; rfl]
    refine ⟨plainId_quiet plain_eq_loop _,codeAny_builtin entry_eq_loop ?_⟩
    rw [Around.under_plainId plain_eq_loop _]
    exact ih (i + 1) (by omega) (by omega) (by omega) prog w A R _ ⟨hun,hl,hb,ka,kb,hR⟩
   ·rw [decide_eq_false q]
    rw [if_neg q] at hR
    wp_walk using wpAny_loadPart' hl,wpAny_loadPart' hb
    rw [a1,a2]
    have fin:=fun (E' : Value→Shared→Prop) (Q' : Value→Shared→Prop) (z:Q' (.bool (lexB us[i] vs[i])) ⟨hp,g,d,tk,os⟩) => ItV.lt (prog:=prog) (w:=w) (E:=E') (s:=⟨hp,g,d,tk,os⟩) (A:=A.in1) hu1 p1 p2 z
    wp_walk using fin
    exact hR
  ·have a2:items2[((i:Nat):Int).toNat]? = none:=by simp; omega
   have ev:vs.drop i=[]:=List.drop_eq_nil_iff.mpr (by omega)
   rw [eu,ev] at hR
   rw [a1,a2]
   wp_walk using wpAny_loadPart' hl,wpAny_loadPart' hb
   show R (.ok (.ret (.bool (decide (items.size < items2.size))))) _
   rw [decide_eq_false (by omega)]
   exact hR
end
end
end L2
namespace L2
open PySem PySem.Spec PyProof.Rows
section
variable {prog:Program} {w:World} {A:Around} {E:Value→Shared→Prop} {s:Shared}
section
open PySem.SeqAt
open PySem.AutoSeq1 (wpAny_loadPart')
open PySem.MeetsSeq PySem.MeetsSeq2 PySem.MeetsSeq3
theorem list_ltL (tp:Bool) (l b:Addr) (items items2:Array Value) (n n2:Nat) (dd dd2:Option Addr) (sl sl2:Array (Option Value)) (us vs:List (List Int)) (z1:items.size=us.length) (z2:items2.size=vs.length) :
  Meets (Builtin.«list.__lt__» ⟨[.ref l,.ref b],[]⟩)
   (fun A R s => A.units + 4 < cLine∧s.heap.get? l=some { cls:=.type "list",dict:=dd,data:=.seq items n,slots:=sl }∧s.heap.get? b=some { cls:=.type "list",dict:=dd2,data:=.seq items2 n2,slots:=sl2 } ∧
    (∀ (i:Nat) (x:Value) (u:List Int),items[i]? = some x→us[i]? = some u→ItV s.heap tp x u)∧(∀ (i:Nat) (x:Value) (u:List Int),items2[i]? = some x→vs[i]? = some u→ItV s.heap tp x u) ∧
    R (.ok (.ret (.bool (lexLL us vs)))) s):=by
 intro prog w A R st hh
 obtain ⟨hp,g,d,tk,os⟩:=st
 obtain ⟨hun,hl,hb,ka,kb,hR⟩:=hh
 have f3:=AutoSeq1.sub_list_list
 wp_walk using wpAny_loadPart' hl,wpAny_loadPart' hb
 refine ⟨plainId_quiet plain_eq_loop _,codeAny_builtin entry_eq_loop ?_⟩
 rw [Around.under_plainId plain_eq_loop _]
 exact llt_loop tp l b items items2 n n2 dd dd2 sl sl2 us vs z1 z2 _ 0 rfl (Nat.zero_le _) (Nat.zero_le _) prog w A R _ ⟨hun,hl,hb,ka,kb,by simpa using hR⟩
end
theorem lt_lists {tp:Bool} {x y:Value} {us vs:List (List Int)} {Q:Bool→Shared→Prop} (hu:A.units + 8 < cLine) (hx:LsV s.heap tp x us) (hy:LsV s.heap tp y vs) (h:Q (lexLL us vs) s):wpAny (model prog w) A (keyLt' oneType' x y) Q E s:=by
 obtain ⟨a,its,rfl,⟨⟨c1,d1,t1,l1⟩,o1,k1,n1,e1⟩,z1,p1⟩:=hx
 obtain ⟨b,jts,rfl,⟨⟨c2,d2,t2,l2⟩,o2,k2,n2,e2⟩,z2,p2⟩:=hy
 simp only at k1 e1 k2 e2
 subst k1 e1 k2 e2
 rw [keyLt'_oneType,oneLt'_eq]
 simp only [if_true]
 refine wpAny_bind (wpAny_cRoomFor (by omega) ?_)
 refine wpAny_bind (wpAny_callSpecialIfBound?_slot (T := "list") ⟨_,o1,rfl⟩ PySem.F.slot_list_lt (call_meets PySem.F.slot_list_lt ⟨_,o1,rfl⟩ PySem.F.entry_list_lt (PySem.F.args_list_lt_2 _ _) (list_ltL tp a b its jts n1 n2 d1 d2 l1 l2 us vs z1 z2) ⟨?_,o1,o2,p1,p2,?_⟩))
 ·omega
 ·exact wpAny_truthy_bool h
end
end L2
namespace L2
open PySem PySem.Spec PyProof.Rows
def Ext (h h' : Heap):Prop:=∀ b o,h.get? b=some o→h'.get? b=some o
section
variable {prog:Program} {w:World} {A:Around} {E:Value→Shared→Prop} {s:Shared}
theorem sorted_any {α:Type} {l:Addr} {vs:List Value} {k0:SortKind} {cv:Value→α} {lt:α→α→Bool} {Q:Value→Shared→Prop} (irr:∀ x,lt x x=false) (tr:∀ {x y z},lt x y=true→lt y z=true→lt x z=true) (tot:∀ {x y},lt x y=false→lt y x=false→x=y)
  (hl:s.heap.IsList l vs.toArray) (h64:vs.length < 64)
  (hk:2 ≤ vs.length→∀ h',Ext s.heap h'→∀ (E:Value→Shared→Prop) (Q:SortKind→Shared→Prop),Q k0 { s with heap:=h' }→wpAny (model prog w) A.in1.in1 (keyKind' vs.toArray) Q E { s with heap:=h' })
  (hL:∀ h',Ext s.heap h'→∀ (E:Value→Shared→Prop) (x y:Value) (Q:Bool→Shared→Prop),x ∈ vs→y ∈ vs→Q (lt (cv x) (cv y)) { s with heap:=h' }→wpAny (model prog w) A.in1.in1 (keyLt' k0 x y) Q E { s with heap:=h' })
  (h:∀ out:Array Value,out.toList.Perm vs→(out.toList.map cv).Pairwise (fun x y => lt y x=false)→Q (.ref (s.heap.objs.size + 1)) { s with heap:=sortedAll s.heap vs out }):wpAny (model prog w) A (call (.builtin "sorted") [.ref l]) Q E s:=by
 refine Calls.call_function_entry kind_sorted plain_sorted entry_sorted (args_sorted1 _) ?_
 unfold Builtin.«sorted»
 refine wpAny_bind (m:=checkCount "sorted" 1 1 _) (wpAny_pure (wpAny_bind (collect_list hl (wpAny_bind (wpAny_newList ?_)) (Nat.le_of_lt (small1000 (by omega))))))
 have hsz:((s.heap.push (seqObj "list" #[] 0)).update s.heap.objs.size (Obj.mapSeq (· ++ vs.toArray))).objs.size=s.heap.objs.size + 1:=by rw [Heap.size_update,size_push']
 have hoL:(((s.heap.push (seqObj "list" #[] 0)).update s.heap.objs.size (Obj.mapSeq (· ++ vs.toArray))).push (seqObj "list" vs.toArray 0)).get? (s.heap.objs.size + 1)=some (seqObj "list" vs.toArray 0):=by
  rw [← hsz]
  exact Heap.get?_push_size _ rfl
 have k1:Ext s.heap (((s.heap.push (seqObj "list" #[] 0)).update s.heap.objs.size (Obj.mapSeq (· ++ vs.toArray))).push (seqObj "list" vs.toArray 0)):=fun b o e => by
  have:=Heap.lt_size e
  refine Heap.get?_push_of_some _ ?_
  rw [Heap.get?_update_ne _ _ _ _ (Nat.ne_of_lt this)]
  exact Heap.get?_push_of_some _ e
 show wpAny _ _ _ _ _ { s with heap:=((s.heap.push (seqObj "list" #[] 0)).update s.heap.objs.size (Obj.mapSeq (· ++ vs.toArray))).push (seqObj "list" vs.toArray 0) }
 rw [hsz]
 have ext:∀ h',(∀ b o,b ≠ s.heap.objs.size + 1→(((s.heap.push (seqObj "list" #[] 0)).update s.heap.objs.size (Obj.mapSeq (· ++ vs.toArray))).push (seqObj "list" vs.toArray 0)).get? b=some o→h'.get? b=some o)→Ext s.heap h':=fun h' k b o e => by
  have:=Heap.lt_size e
  exact k b o (Nat.ne_of_lt (Nat.lt_succ_of_lt this)) (k1 b o e)
 have mz:∀ p,p ∈ (pairsOf vs).toList→p.1=p.2∧p.1 ∈ vs:=fun p q => by rw [pairsOf_toList] at q; exact mem_zip_self q
 refine wpAny_bind (wpAny_holding (wpAny_call_entry slot_list_sort ⟨_,hoL,rfl⟩ entry_list_sort (sort_gen (k0:=k0) (rk:=fun v => rnkG lt (vs.map cv) (cv v)) hoL h64 (fun h2 h' k E' Q' q => hk h2 h' (ext h' k) E' Q' q) (fun h' k E' x y Q' hx hy q => hL h' (ext h' k) E' x.1 y.1 Q' (mz x hx).2 (mz y hy).2 ?_) fun xs pm up => ⟨_,rfl,?_⟩) (args_list_sort _)))
 ·rw [rnkG_ok irr tr tot (List.mem_map.mpr ⟨_,(mz x hx).2,rfl⟩) (List.mem_map.mpr ⟨_,(mz y hy).2,rfl⟩)] at q
  exact q
 ·have pl:xs.toList.Perm (vs.zip vs):=by rw [← pairsOf_toList]; exact Array.perm_iff_toList_perm.mp pm
  have ps:(xs.map (·.2)).toList.Perm vs:=by
   rw [Array.toList_map]
   have:=pl.map (·.2)
   rw [List.map_snd_zip (Nat.le_refl _)] at this
   exact this
  suffices sr:((xs.map (·.2)).toList.map cv).Pairwise (fun x y => lt y x=false) by
   have fin:=h (xs.map (·.2)) ps sr
   unfold sortedAll at fin
   exact wpAny_pure ⟨_,rfl,fin⟩
  rw [List.pairwise_iff_getElem]
  intro i j hi hj ij
  have lx:(xs.map (·.2)).toList.length=xs.size:=by rw [Array.length_toList,Array.size_map]
  rw [List.length_map,lx] at hi hj
  have hz:xs.size=(pairsOf vs).size:=pm.size_eq
  have q:=up i j (Nat.le_of_lt ij) (by omega)
  have mi:xs[i] ∈ (pairsOf vs).toList:=(Array.perm_iff_toList_perm.mp pm).subset (Array.getElem_mem_toList hi)
  have mj:xs[j] ∈ (pairsOf vs).toList:=(Array.perm_iff_toList_perm.mp pm).subset (Array.getElem_mem_toList hj)
  unfold RK at q
  rw [Array.getElem?_eq_getElem hi,Array.getElem?_eq_getElem hj] at q
  dsimp only at q
  have e:=rnkG_ok irr tr tot (ks:=vs.map cv) (x:=cv xs[j].1) (y:=cv xs[i].1) (List.mem_map.mpr ⟨_,(mz _ mj).2,rfl⟩) (List.mem_map.mpr ⟨_,(mz _ mi).2,rfl⟩)
  rw [decide_eq_false (by omega)] at e
  simp only [List.getElem_map,Array.getElem_toList,Array.getElem_map]
  rw [← (mz _ mi).1,← (mz _ mj).1]
  exact e.symm
theorem LsV.keep {h h' : Heap} {tp:Bool} {v:Value} {us:List (List Int)} (x:LsV h tp v us) (k:Ext h h'):LsV h' tp v us:=by
 obtain ⟨a,its,rfl,⟨o,e,c,n,d⟩,z,p⟩:=x
 exact ⟨a,its,rfl,⟨o,k _ _ e,c,n,d⟩,z,fun i y u h1 h2 => (p i y u h1 h2).keep fun b o _ q => k b o q⟩
def cvL (tp:Bool) (h:Heap) (v:Value):List (List Int):=match v with
 | .ref a => match h.get? a with
  | some o => match o.data with
   | .seq its _ => its.toList.map (cdV tp h)
   | _ => []
  | none => []
 | _ => []
theorem LsV.cv {h:Heap} {tp:Bool} {v:Value} {us:List (List Int)} (x:LsV h tp v us):cvL tp h v=us:=by
 obtain ⟨a,its,rfl,⟨o,e,c,n,d⟩,z,p⟩:=x
 unfold cvL
 dsimp only
 rw [e]
 dsimp only
 rw [d]
 dsimp only
 apply List.ext_getElem?
 intro i
 rw [List.getElem?_map,Array.getElem?_toList]
 by_cases il:i < us.length
 ·obtain ⟨y,e1,e2⟩:=LsV.at z p il
  rw [e1,List.getElem?_eq_getElem il]
  show some (cdV tp h y)=some us[i]
  rw [e2.cd]
 ·rw [Array.getElem?_eq_none (by omega),List.getElem?_eq_none (by omega)]
  rfl
theorem mapM_typeL {s:Shared} : ∀ {vs:List Value} {Q:List Value→Shared→Prop},(∀ v ∈ vs,∃ a o,v = .ref a∧s.heap.get? a=some o∧o.cls = .type "list")→Q (vs.map fun _ => .type "list") s→wpAny (model prog w) A (vs.mapM typeOf) Q E s
 | [],Q,_,h => by rw [List.mapM_nil]; exact wpAny_pure h
 | v :: vs,Q,hv,h => by
  rw [List.mapM_cons]
  obtain ⟨a,o,rfl,e,c⟩:=hv v List.mem_cons_self
  exact wpAny_bind (wpAny_typeOf (T := "list") ⟨o,e,c⟩ (wpAny_bind (mapM_typeL (fun z hz => hv z (List.mem_cons_of_mem _ hz)) (wpAny_pure h))))
theorem mapM_nones {s:Shared} : ∀ {vs:List Value} {Q:List (Option Value)→Shared→Prop},(∀ v ∈ vs,∃ a o,v = .ref a∧s.heap.get? a=some o∧o.cls = .type "list")→Q (vs.map fun _ => none) s→wpAny (model prog w) A (vs.mapM firstOfTuple') Q E s
 | [],Q,_,h => by rw [List.mapM_nil]; exact wpAny_pure h
 | v :: vs,Q,hv,h => by
  rw [List.mapM_cons]
  obtain ⟨a,o,rfl,e,c⟩:=hv v List.mem_cons_self
  rw [first'_eq]
  refine wpAny_bind (wpAny_bind (wpAny_typeOf (T := "list") ⟨o,e,c⟩ ?_))
  rw [if_pos (by decide)]
  exact wpAny_pure (wpAny_bind (mapM_nones (fun z hz => hv z (List.mem_cons_of_mem _ hz)) (wpAny_pure h)))
theorem kind_lists {vs:List Value} (hv:∀ v ∈ vs,∃ a o,v = .ref a∧s.heap.get? a=some o∧o.cls = .type "list") (h1:2 ≤ vs.length) {Q:SortKind→Shared→Prop} (h:Q oneType' s):wpAny (model prog w) A (keyKind' vs.toArray) Q E s:=by
 obtain ⟨v0,vr,rfl⟩:∃ v0 vr,vs=v0 :: vr:=by
  cases vs with
  | nil => simp at h1
  | cons a r => exact ⟨a,r,rfl⟩
 rw [keyKind'_eq,List.mapM_toArray,oneTypeOnly'_eq,List.mapM_toArray]
 refine wpAny_bind ?_
 simp only [map_eq_pure_bind]
 refine wpAny_bind (mapM_nones hv (wpAny_pure ?_))
 rw [if_neg (by simp),if_neg (by simp)]
 refine wpAny_bind (wpAny_bind (wpAny_bind (mapM_typeL hv (wpAny_pure ?_))))
 have e0:(List.map (fun _ => Value.type "list") (v0 :: vr)).toArray[0]? = some (Value.type "list"):=by simp
 rw [e0]
 dsimp only
 have ea:((List.map (fun _ => Value.type "list") (v0 :: vr)).toArray.all fun x => x == Value.type "list")=true:=by
  simp only [List.all_toArray,List.all_map,List.all_eq_true]
  intro _ _
  rfl
 rw [if_pos ea]
 exact wpAny_pure (wpAny_pure h)
end
def LsL (H:Hp) (tp:Bool) (ys:List V) (uss:List (List (List Int))):Prop:=ys.length=uss.length∧∀ (i:Nat) (y:V) (us:List (List Int)),ys[i]? = some y→uss[i]? = some us→∃ (a:Addr) (xs:List V),y = .ref a∧H a=some (.lst xs)∧ItL H tp xs us
theorem LsL.up {H H' : Hp} {tp:Bool} {ys:List V} {uss:List (List (List Int))} (h:LsL H tp ys uss) (s:Same H H'):LsL H' tp ys uss:=⟨h.1,fun i y us h1 h2 => by
 obtain ⟨a,xs,rfl,e,k⟩:=h.2 i y us h1 h2
 exact ⟨a,xs,rfl,s _ _ e,k.up s.tups⟩⟩
theorem LsL.nil (H:Hp) (tp:Bool):LsL H tp [] []:=⟨rfl,fun i x u h => by cases h⟩
theorem LsL.snoc {H:Hp} {tp:Bool} {ys xs:List V} {uss:List (List (List Int))} {us:List (List Int)} {a:Addr} (h:LsL H tp ys uss) (ha:H a=some (.lst xs)) (k:ItL H tp xs us):LsL H tp (ys ++ [.ref a]) (uss ++ [us]):=by
 refine ⟨by simp [h.1],fun i y vs h1 h2 => ?_⟩
 by_cases il:i < ys.length
 ·rw [List.getElem?_append_left il] at h1
  rw [List.getElem?_append_left (h.1 ▸ il)] at h2
  exact h.2 i y vs h1 h2
 ·rw [List.getElem?_append_right (by omega)] at h1
  rw [List.getElem?_append_right (by rw [← h.1]; omega),← h.1] at h2
  cases e:i - ys.length with
  | zero =>
   rw [e] at h1 h2
   cases h1
   cases h2
   exact ⟨a,xs,rfl,ha,k⟩
  | succ j => rw [e] at h1; cases h1
section
variable {X:Cx} {pins:List (Addr × Obj)} {σ:L2.St} {H:Hp} {s:Shared}
theorem ls_of (I:Inv X pins σ H s) {tp:Bool} {a:Addr} {xs:List V} {us:List (List Int)} (e:H a=some (.lst xs)) (k:ItL H tp xs us):LsV s.heap tp (.ref a) us:=by
 obtain ⟨its,rv,pl,hz⟩:=I.list (SqL.of (K:=X.K) e)
 obtain ⟨l,p⟩:=its_of I rv k
 exact ⟨a,its.toArray,rfl,pl.isList,by rw [List.size_toArray]; exact l,fun i x u h1 h2 => p i x u (by simpa using h1) h2⟩
theorem vals_refs:∀ {l:List Value},(∀ v ∈ l,∃ a,v=Value.ref a)→Vals (l.map vOf) l
 | [],_ => .nil
 | v :: l,h => by
  obtain ⟨a,rfl⟩:=h v List.mem_cons_self
  exact .cons rfl (vals_refs fun z hz => h z (List.mem_cons_of_mem _ hz))
theorem perm_at {α:Type} {l m:List α} (p:l.Perm m) {i:Nat} {x:α} (e:l[i]? = some x):∃ j:Nat,m[j]? = some x:=List.mem_iff_getElem?.mp (p.subset (List.mem_of_getElem? e))
theorem call_sortedLL (tp:Bool) {k:Nat} (hr:Room k X.A):CallR X (.builtin "sorted") (fun xs H Q => ∃ (p:Addr) (ys:List V) (uss:List (List (List Int))),xs=[.ref p]∧SqL X.K H p ys∧LsL H tp ys uss∧uss.length < 64 ∧
  ∀ (l:Addr) (zs:List V) (ws:List (List (List Int))),H l=none→LsL H tp zs ws→ws.Perm uss→ws.Pairwise (fun x y => lexLL y x=false)→Q (.ref l) (upd H l (.lst zs))):=by
 intro pins s σ H xs us Q I r h
 obtain ⟨p,ys,uss,rfl,hp,hL,h64,q⟩:=h
 obtain ⟨u,rfl,rx⟩:=vals1 r
 cases rx
 obtain ⟨its,rv,pl,hz⟩:=I.list hp
 have hlen:its.length=uss.length:=by rw [← rv.length]; exact hL.1
 have row:∀ (i:Nat) (v:Value),its[i]? = some v→∃ (a:Addr) (xs:List V) (us:List (List Int)),v = .ref a∧ys[i]? = some (.ref a)∧uss[i]? = some us∧H a=some (.lst xs)∧ItL H tp xs us∧LsV s.heap tp v us:=fun i v e => by
  have il:i < its.length:=(List.getElem?_eq_some_iff.mp e).1
  have e1:ys[i]? = some (ys[i]'(by rw [hL.1]; omega)):=List.getElem?_eq_getElem _
  have e2:uss[i]? = some (uss[i]'(by omega)):=List.getElem?_eq_getElem _
  obtain ⟨a,xs,ea,ha,k⟩:=hL.2 i _ _ e1 e2
  obtain ⟨v',ev',rr⟩:=rv.get e1
  rw [e] at ev'
  cases ev'
  rw [ea] at rr e1
  cases rr
  exact ⟨a,xs,_,rfl,e1,e2,ha,k,ls_of I ha k⟩
 have mem:∀ v ∈ its,∃ us,LsV s.heap tp v us∧∃ a o,v = .ref a∧s.heap.get? a=some o∧o.cls = .type "list" := fun v hv => by
  obtain ⟨i,hi⟩:=List.mem_iff_getElem?.mp hv
  obtain ⟨a,xs,us,rfl,_,_,_,_,L⟩:=row i v hi
  have L':=L
  obtain ⟨a',jts,ea,⟨o,eo,c,_⟩,_⟩:=L'
  cases ea
  exact ⟨us,L,a,o,rfl,eo,c⟩
 have hu:=hr.un
 refine sorted_any (k0:=oneType') (cv:=cvL tp s.heap) (lt:=lexLL) lexLL_irr lexLL_trans lexLL_tot pl.isList (by omega) (fun h2 h' k E' Q' q' => ?_) (fun h' k E' x y Q' hx hy q' => ?_) fun out pm sr => ?_
 ·refine kind_lists (s:={ s with heap:=h' }) (fun v hv => ?_) h2 q'
  obtain ⟨_,_,a,o,ev,eo,c⟩:=mem v hv
  exact ⟨a,o,ev,k _ _ eo,c⟩
 ·obtain ⟨us,L,_⟩:=mem x hx
  obtain ⟨vs,L',_⟩:=mem y hy
  rw [L.cv,L'.cv] at q'
  exact lt_lists (s:={ s with heap:=h' }) (by show X.A.units + 1 + 1 + 8 < cLine; omega) (L.keep k) (L'.keep k) q'
 ·obtain ⟨e,he⟩:=sortedAll_at s.heap its out
  have ol:out.toList.length=its.length:=pm.length_eq
  have refs:∀ v ∈ out.toList,∃ a,v=Value.ref a:=fun v hv => by
   obtain ⟨_,_,a,_,ev,_⟩:=mem v (pm.subset hv)
   exact ⟨a,ev⟩
  have cvs:its.map (cvL tp s.heap)=uss:=by
   apply List.ext_getElem?
   intro i
   rw [List.getElem?_map]
   cases z:its[i]? with
   | none => rw [List.getElem?_eq_none (by have:=List.getElem?_eq_none_iff.mp z; omega)]; rfl
   | some v =>
    obtain ⟨a,xs,us,_,_,e2,_,_,L⟩:=row i v z
    rw [e2]
    show some (cvL tp s.heap v)=some us
    rw [L.cv]
  refine ⟨.ref _,upd H (s.heap.objs.size + 1) (.lst (out.toList.map vOf)),I.laid (t':=s.toks) (fun b ob z => sortedAll_old z) (Nat.le_succ _) ⟨?_,out.toList,e,vals_refs refs,?_⟩,rfl,q _ (out.toList.map vOf) (out.toList.map (cvL tp s.heap)) (I.hok.fresh (Nat.le_succ _)) ⟨by rw [List.length_map,List.length_map],fun i y us h1 h2 => ?_⟩ ?_ sr⟩
  ·rw [List.length_map,ol]
   exact Nat.le_of_lt (small1000 (by omega))
  ·rw [he]
  ·rw [List.getElem?_map] at h1 h2
   cases z:out.toList[i]? with
   | none => rw [z] at h1; cases h1
   | some v =>
    rw [z] at h1 h2
    obtain ⟨j,hj⟩:=perm_at pm z
    obtain ⟨a,xs,us',rfl,_,_,ha,k,L⟩:=row j v hj
    cases h1
    cases h2
    refine ⟨a,xs,rfl,ha,?_⟩
    rw [L.cv]
    exact k
  ·rw [← cvs]
   exact pm.map _
def rInC (K:PySem.W.Frag) (tp:Bool):R2:=fun x y H Q => ∃ p xs u us,y = .ref p∧SqL K H p xs∧Itm H tp x u∧ItL H tp xs us∧Q (.bl (decide (u ∈ us))) H
theorem op_inC (tp:Bool) {k:Nat} (hr:Room k X.A):OpR X (compareOp .In) (rInC X.K tp):=by
 intro pins s σ H x y v v' Q I rx ry h
 obtain ⟨p,xs,u,us,rfl,hp,hx,hL,q⟩:=h
 cases ry
 obtain ⟨its,rv,pl,hz⟩:=I.list hp
 have hv:=it_of I hx rx
 obtain ⟨l,at'⟩:=its_of I rv hL
 have hu:=hr.un
 refine SeqAt.in_listAt (fun z => decide (cdV tp s.heap z=u)) pl.isList (fun z hz => ?_) ⟨.bl _,H,I,rfl,?_⟩
 ·obtain ⟨i,hi⟩:=List.mem_iff_getElem?.mp (by simpa using hz)
  have il:=(List.getElem?_eq_some_iff.mp hi).1
  have hz':=at' i z _ hi (List.getElem?_eq_getElem (by omega))
  rw [hz'.cd]
  exact ItV.eq (by show X.A.units + 1 < cLine; omega) hz' hv
 ·have cvs:its.map (cdV tp s.heap)=us:=by
   apply List.ext_getElem?
   intro i
   rw [List.getElem?_map]
   cases z:its[i]? with
   | none => rw [List.getElem?_eq_none (by have:=List.getElem?_eq_none_iff.mp z; omega)]; rfl
   | some w' =>
    have il:=(List.getElem?_eq_some_iff.mp z).1
    have e2:=List.getElem?_eq_getElem (show i < us.length by omega)
    rw [e2]
    show some (cdV tp s.heap w')=some _
    rw [(at' i w' _ z e2).cd]
  have e:(its.toArray.any fun z => decide (cdV tp s.heap z=u))=decide (u ∈ us):=by
   rw [← cvs,List.any_toArray]
   rw [Bool.eq_iff_iff,List.any_eq_true,decide_eq_true_iff,List.mem_map]
   exact ⟨fun ⟨a,b,c⟩ => ⟨a,b,of_decide_eq_true c⟩,fun ⟨a,b,c⟩ => ⟨a,b,decide_eq_true c⟩⟩
  rw [e]
  exact q
end
end L2
namespace L2
open PySem PySem.Spec PyProof.Rows
section
variable {X:Cx}
theorem pss_dead {st:List Stmt} : PSs X st (fun _ _ _ => False):=fun _ _ _ _ _ _ h => h.elim
theorem op_inCK {K:PySem.W.Frag} (tp:Bool) {k:Nat} (hr:Room k X.A) (hK:X.K=K:=by rfl):OpR X (compareOp .In) (rInC K tp):=by subst hK; exact op_inC tp hr
end
end L2
namespace L2
open PySem PySem.Spec PyProof.Rows
theorem Same.nw {p:Addr} {H H' : Hp} {o:HO} (a:Same H H') (h:H' p=none):Same H (upd H' p o):=fun c u e => by
 have:=a c u e
 rw [upd_ne (ne_of_none this h)]; exact this
theorem Same.ow {p:Addr} {H H' : Hp} {o:HO} (a:Same H H') (h:H p=none):Same H (upd H' p o):=fun c u e => by
 rw [upd_ne (ne_of_none e h)]; exact a c u e
end L2
namespace L2
open PySem PySem.Spec PyProof.Rows
theorem TuL.take {H:Hp} {xs:List V} {us:List (List Int)} (h:TuL H xs us) {i:Nat} {x:V} (e:xs[i]? = some x):∃ u a,us[i]? = some u∧x = .ref a∧H a=some (.tup (u.map V.int)):=by
 have il:i < us.length:=by rw [← h.1]; exact (List.getElem?_eq_some_iff.mp e).1
 obtain ⟨a,ea,ha⟩:=h.2 i x _ e (List.getElem?_eq_getElem il)
 exact ⟨us[i],a,List.getElem?_eq_getElem il,ea,ha⟩
end L2
namespace L2
open PySem PySem.Spec PyProof.Rows
def crs (r:List Int) (s:Int):Int:=r.getD (absI s - 1).toNat 0
structure EvRow (S:List (List Int)) (r:List Int):Prop where
 len:r.length=S.length / 2 * 3
 nn:∀ x ∈ r,0 ≤ x
 tri:∀ a b c:Int,[a,b,c] ∈ S→(crs r a + crs r b + crs r c) % 2=0∧crs r a ≤ crs r b + crs r c∧crs r b ≤ crs r a + crs r c∧crs r c ≤ crs r a + crs r b
theorem crs_at {S:List (List Int)} {r:List Int} (oS:ShOk S) (l:r.length=S.length / 2 * 3) {t:List Int} (ht:t ∈ S) {s:Int} (hs:s ∈ t):r[(absI s - 1).toNat]? = some (crs r s):=by
 have:=oS.side ht hs
 have il:(absI s - 1).toNat < r.length:=by omega
 unfold crs
 rw [List.getD_eq_getElem?_getD,List.getElem?_eq_getElem il]
 rfl
end L2
namespace L2
open PySem PySem.Spec PyProof.Rows
def nc (m:Nat):List Int:=[(m:Int)]
end L2
namespace L2
open PySem PySem.Spec PyProof.Rows
theorem ixN_nat {n j:Nat} (h:j < n):ixN n (j:Int)=some j:=by
 unfold ixN
 rw [if_pos (by omega)]
 first
  | (rw [if_pos (by omega)]; simp)
  | (simp; omega)
end L2
namespace L2
open PySem PySem.Spec PyProof.Rows
def spTiesZ (K:PySem.W.Frag):Sp:=fun vs H Q _ => ∃ (a:Addr) (xs:List V),vs=[.ref a]∧SqL K H a xs∧Q (.int ((xs.length / 2 * 3:Nat):Int)) H
end L2
namespace L2
open PySem PySem.Spec PyProof.Rows
section
variable {X:Cx}
theorem int_items:∀ {ns:List Int} {its:List Value},Vals (ns.map V.int) its→∃ ps:List (Int × Tok),its=ps.map (fun p => Value.int p.1 p.2)∧ps.map (·.1)=ns
 | [],its,r => by cases r; exact ⟨[],rfl,rfl⟩
 | n :: ns,its,r => by
  cases r with
  | cons a b =>
   obtain ⟨t,rfl⟩:=a
   obtain ⟨ps,rfl,e⟩:=int_items b
   exact ⟨(n,t) :: ps,rfl,by rw [List.map_cons,e]⟩
theorem call_maxL (hc:X.calm=true):CallR X (.builtin "max") (fun xs H Q => ∃ (p:Addr) (ns:List Int),xs=[.ref p]∧SqL X.K H p (ns.map V.int)∧ns ≠ []∧∀ m ∈ ns,(∀ n ∈ ns,n ≤ m)→Q (.int m) H):=by
 intro pins s σ H xs us Q I r h
 obtain ⟨p,ns,rfl,hq,ne,q⟩:=h
 obtain ⟨u,rfl,rx⟩:=vals1 r
 cases rx
 obtain ⟨its,rv,pl,hz⟩:=I.list hq
 obtain ⟨ps,rfl,e⟩:=int_items rv
 have hl:=pl.isList
 have ei:(ps.map (fun p => Value.int p.1 p.2)).toArray=intItems ps.toArray:=by simp [intItems]
 rw [ei] at hl
 have pn:0 < ps.length:=by
  cases ps with
  | nil => exact absurd e.symm ne
  | cons a b => simp
 have at1:∀ j,j < ps.length→ns[j]? = some (numAt ps.toArray j):=fun j hj => by
  rw [← e,List.getElem?_map,List.getElem?_eq_getElem hj]
  simp [numAt,hj]
 refine max_intList (I.ok.hd hc) hl (by simpa using pn) fun v h' tk hv hk => ?_
 obtain ⟨t,rfl⟩:=intItems_at hv
 obtain ⟨b1,b2⟩:=argBest_gt (numAt ps.toArray) (ps.toArray.size - 1)
 generalize argBest (fun i' j' => decide (numAt ps.toArray i' > numAt ps.toArray j')) (ps.toArray.size - 1)=k at b1 b2 ⊢
 rw [List.size_toArray] at b1 b2
 refine ⟨.int _,H,I.kept hk,⟨t,rfl⟩,q _ (List.mem_of_getElem? (at1 k (by omega))) fun n hn => ?_⟩
 obtain ⟨j,hj⟩:=List.mem_iff_getElem?.mp hn
 have jl:j < ps.length:=by
  have:=(List.getElem?_eq_some_iff.mp hj).1
  rw [← e,List.length_map] at this
  exact this
 rw [at1 j jl] at hj
 cases hj
 exact b2 j (by omega)
end
def addR (r q:List Int):List Int:=(List.range r.length).map fun k => r.getD k 0 + q.getD k 0
theorem addR_at {r q:List Int} {k:Nat} (hk:k < r.length):(addR r q)[k]? = some (r.getD k 0 + q.getD k 0):=by
 unfold addR
 rw [List.getElem?_map,List.getElem?_range hk]
 rfl
theorem addR_len (r q:List Int):(addR r q).length=r.length:=by unfold addR; rw [List.length_map,List.length_range]
theorem crs_add {r q:List Int} (h:r.length=q.length) (s:Int):crs (addR r q) s=crs r s + crs q s:=by
 unfold crs
 by_cases hk:(absI s - 1).toNat < r.length
 ·rw [List.getD_eq_getElem?_getD,addR_at hk]
  rfl
 ·have n1:(addR r q)[(absI s - 1).toNat]? = none:=by rw [List.getElem?_eq_none_iff,addR_len]; omega
  have n2:r[(absI s - 1).toNat]? = none:=by rw [List.getElem?_eq_none_iff]; omega
  have n3:q[(absI s - 1).toNat]? = none:=by rw [List.getElem?_eq_none_iff]; omega
  rw [List.getD_eq_getElem?_getD,List.getD_eq_getElem?_getD,List.getD_eq_getElem?_getD,n1,n2,n3]
  rfl
theorem EvRow.add {S:List (List Int)} {r q:List Int} (h:EvRow S r) (k:EvRow S q):EvRow S (addR r q):=by
 have e:r.length=q.length:=by rw [h.len,k.len]
 refine ⟨by rw [addR_len,h.len],fun x hx => ?_,fun a b c hm => ?_⟩
 ·obtain ⟨j,hj⟩:=List.mem_iff_getElem?.mp hx
  have jl:j < r.length:=by have:=(List.getElem?_eq_some_iff.mp hj).1; rwa [addR_len] at this
  rw [addR_at jl] at hj
  cases hj
  have g1:r.getD j 0 ∈ r:=by rw [List.getD_eq_getElem?_getD,List.getElem?_eq_getElem jl]; exact List.getElem_mem jl
  have g2:q.getD j 0 ∈ q:=by rw [List.getD_eq_getElem?_getD,List.getElem?_eq_getElem (e ▸ jl)]; exact List.getElem_mem _
  have:=h.nn _ g1
  have:=k.nn _ g2
  omega
 ·rw [crs_add e,crs_add e,crs_add e]
  obtain ⟨p1,p2,p3,p4⟩:=h.tri a b c hm
  obtain ⟨q1,q2,q3,q4⟩:=k.tri a b c hm
  omega
def ringE (g:List (List Int)) (e:List Int):Int:=if e ∈ g then 1 else 0
def ringR (n:Nat) (g:List (List Int)):List Int:=(List.range n).map fun (t:Nat) => ringE g [1 + (t:Int),0] + ringE g [1 + (t:Int),1]
theorem ringR_len (n:Nat) (g:List (List Int)):(ringR n g).length=n:=by unfold ringR; rw [List.length_map,List.length_range]
theorem ringR_at {n t:Nat} {g:List (List Int)} (h:t < n):(ringR n g)[t]? = some (ringE g [1 + (t:Int),0] + ringE g [1 + (t:Int),1]):=by
 unfold ringR
 rw [List.getElem?_map,List.getElem?_range h]
 rfl
end L2
namespace L2
open PySem PySem.Spec PyProof.Rows
def isDg (c:Nat):Bool:=decide (c ∈ ("0123456789" : Str).cps.toList)
def bareS (w:Str):Str:=if Txt.startswith w "-" = true then subS w 1 w.length else w
def digsB (b:Str):Bool:=decide (1 ≤ b.length∧b.length ≤ 60) && b.cps.toList.all isDg
def isNum (w:Str):Bool:=digsB (bareS w) && ((bareS w).cps.toList.head? != some 48 || decide (w = "0"))
def numI (w:Str):Int:=(PySem.intText? w).getD 0
theorem dg_of {c:Nat} (h:isDg c=true):48 ≤ c∧c ≤ 57:=by
 have h:=of_decide_eq_true h
 have e:("0123456789" : Str).cps.toList=[48,49,50,51,52,53,54,55,56,57]:=by decide +kernel
 rw [e] at h
 simp only [List.mem_cons,List.not_mem_nil,or_false] at h
 omega
theorem str_ext {a b:Str} (h:a.cps.toList=b.cps.toList):a=b:=by
 obtain ⟨⟨a⟩⟩:=a
 obtain ⟨⟨b⟩⟩:=b
 simp at h
 rw [h]
theorem len_list (w:Str):w.length=w.cps.toList.length:=by simp [Str.length]
theorem starts_minus (w:Str):Txt.startswith w "-" = decide (w.cps.toList.head? = some 45):=by
 have e1:("-" : Str).length=1:=by decide +kernel
 have e2:("-" : Str).cps = #[45]:=by decide +kernel
 unfold Txt.startswith Builtin.Str.subAt
 rw [e1,e2]
 obtain ⟨⟨l⟩⟩:=w
 cases l with
 | nil => rfl
 | cons c l =>
  have:decide (0 + 1 ≤ Str.length ⟨⟨c :: l⟩⟩)=true:=decide_eq_true (by simp [Str.length])
  rw [this]
  simp
  exact Bool.beq_eq_decide_eq _ _
theorem bare_pos {w:Str} (h:Txt.startswith w "-" = true):1 ≤ w.length∧∃ cs,w.cps.toList=45 :: cs∧(subS w 1 w.length).cps.toList=cs:=by
 rw [starts_minus] at h
 have h:=of_decide_eq_true h
 cases e:w.cps.toList with
 | nil => rw [e] at h; cases h
 | cons c cs =>
  rw [e] at h
  cases h
  refine ⟨by rw [len_list,e]; simp,cs,rfl,?_⟩
  unfold subS
  rw [List.toList_toArray,e,len_list,e]
  simp
theorem num_val {w:Str} (h:isNum w=true) (hl:w.length ≤ 6000):PySem.intText? w=some (numI w)∧w.length ≤ 61:=by
 unfold isNum digsB at h
 rw [Bool.and_eq_true,Bool.and_eq_true] at h
 obtain ⟨⟨h1,h2⟩,_⟩:=h
 have h1:=of_decide_eq_true h1
 have ad:PySem.NumText.AllDigits (bareS w).cps.toList:=fun d hd => dg_of (List.all_eq_true.mp h2 d hd)
 have ne:(bareS w).cps.toList ≠ []:=fun z => by rw [len_list,z] at h1; exact absurd h1.1 (by decide)
 have wl:w.length ≤ 61:=by
  by_cases hs:Txt.startswith w "-" = true
  ·obtain ⟨hp,cs,e1,e2⟩:=bare_pos hs
   have eb:bareS w=subS w 1 w.length:=by unfold bareS; rw [if_pos hs]
   rw [eb,len_list,e2] at h1
   rw [len_list,e1,List.length_cons]
   omega
  ·have eb:bareS w=w:=by unfold bareS; rw [if_neg hs]
   rw [eb] at h1
   omega
 have key:∃ n,PySem.intText? w=some n:=by
  by_cases hs:Txt.startswith w "-" = true
  ·obtain ⟨hp,cs,e1,e2⟩:=bare_pos hs
   have eb:bareS w=subS w 1 w.length:=by unfold bareS; rw [if_pos hs]
   rw [eb,e2] at ad ne
   exact ⟨_,PySem.intText_neg e1 ad ne (by omega)⟩
  ·have eb:bareS w=w:=by unfold bareS; rw [if_neg hs]
   rw [eb] at ad ne
   exact ⟨_,PySem.intText_digits ad ne (by omega)⟩
 obtain ⟨n,hn⟩:=key
 exact ⟨by unfold numI; rw [hn]; rfl,wl⟩
def tDigs (K:PySem.W.Frag):TT:=(tOr (tNot (tTest (tChain (rI0 fun i j => V.bl (decide (i ≤ j))) (rI0 fun i j => V.bl (decide (i ≤ j))) (tC (V.int 1)) (tCB (fun xs H Q => ∃ z,xs=[V.str z]∧z.length ≤ sizeLine∧Q (V.int (z.length:Int)) H) (tCons (tVar 1) tNil)) (tC (V.int 60))))) (tNot (tB (tCB (fun xs H_1 Q => ∃ p bs,xs=[V.ref p]∧SqL K H_1 p (List.map V.bl bs)∧Q (V.bl (bs.all id)) H_1) (tCons (tCompG 1 (iStr (tVar 1)) (gName 0) tYes (tOp (fun x y H Q => ∃ i j,x=V.str i∧y=V.str j∧Q (V.bl (!(Builtin.Str.occurrences j i 0 j.length 1).isEmpty)) H) (tVar 0) (tC (V.str ("0123456789"))))) tNil)))))
theorem digs_reads {K:PySem.W.Frag} {H:Hp} {Q:Bool→Hp→Prop} {b:Str} {σ:L2.St} (e1:σ[1]? = some (some (.str b))) (bl:b.length ≤ 6000) (k:∀ H',Same H H'→Q (!digsB b) H'):tDigs K σ H Q:=by
 have bs:b.length ≤ sizeLine:=Nat.le_trans bl (by decide)
 have cs:b.cps.size=b.length:=rfl
 refine ⟨_,e1,b,rfl,bs,1,(b.length:Int),rfl,rfl,?_⟩
 refine ⟨_,rfl,?_⟩
 have rest:∀ (h1:1 ≤ b.length∧b.length ≤ 60),tNot (tB (tCB (fun xs H_1 Q => ∃ p bs,xs=[V.ref p]∧SqL K H_1 p (List.map V.bl bs)∧Q (V.bl (bs.all id)) H_1) (tCons (tCompG 1 (iStr (tVar 1)) (gName 0) tYes (tOp (fun x y H Q => ∃ i j,x=V.str i∧y=V.str j∧Q (V.bl (!(Builtin.Str.occurrences j i 0 j.length 1).isEmpty)) H) (tVar 0) (tC (V.str "0123456789")))) tNil))) σ H Q:=fun h1 => by
  refine ⟨_,e1,b,rfl,compX (x:=b) (fun n ys H' => ys=((b.cps.toList.take n).map isDg).map V.bl∧H=H') ⟨rfl,rfl⟩ (by omega) (fun n ys H' h => by rw [h.1,List.length_map,List.length_map,List.length_take]; exact Nat.min_le_left _ _) ?_ ?_⟩
  ·rintro n c ys H' pre hpl hc ⟨rfl,rfl⟩
   have hc' : b.cps.toList[n]? = some c:=by rw [Array.getElem?_toList]; exact hc
   rcases pre with _ | ⟨q0,_ | ⟨q1,pre⟩⟩
   ·cases hpl
   ·refine ⟨⟨[some _],rfl,rfl⟩,?_⟩
    unfold tYes
    dsimp only
    rw [if_pos (rfl:true=true)]
    refine ⟨_,rfl,_,_,rfl,rfl,?_,rfl⟩
    rw [StrLaws.found_one,take_succ' hc',List.map_append,List.map_append]
    rfl
   ·cases hpl
  ·rintro ys H' ⟨rfl,rfl⟩ D hD
   have e:b.cps.toList.take b.cps.size=b.cps.toList:=List.take_of_length_le (by simp)
   rw [e]
   refine ⟨D,_,rfl,SqL.of upd_same,_,rfl,?_⟩
   have:=k _ (Same.nw (o:=.lst ((b.cps.toList.map isDg).map V.bl)) (Same.refl H) hD)
   unfold digsB at this
   rw [decide_eq_true h1,Bool.true_and] at this
   show Q (!((b.cps.toList.map isDg).all id)) _
   rw [show ((b.cps.toList.map isDg).all id)=b.cps.toList.all isDg by rw [List.all_map]; rfl]
   exact this
 by_cases c1:1 ≤ b.length
 ·rw [decide_eq_true (show (1:Int) ≤ (b.length:Int) by omega)]
  refine iteT ⟨(b.length:Int),60,rfl,rfl,_,rfl,?_⟩
  by_cases c2:b.length ≤ 60
  ·rw [decide_eq_true (show (b.length:Int) ≤ 60 by omega)]
   exact iteF (rest ⟨c1,c2⟩)
  ·rw [decide_eq_false (show ¬ (b.length:Int) ≤ 60 by omega)]
   have:=k H (Same.refl H)
   unfold digsB at this
   rw [decide_eq_false (fun z => c2 z.2)] at this
   exact iteT this
 ·rw [decide_eq_false (show ¬ (1:Int) ≤ (b.length:Int) by omega)]
  have:=k H (Same.refl H)
  unfold digsB at this
  rw [decide_eq_false (fun z => c1 z.1)] at this
  exact iteF ⟨_,rfl,iteT this⟩
def spIsNum:Sp:=fun vs H Q _ => ∃ w:Str,vs=[.str w]∧w.length ≤ 6000∧∀ H',Same H H'→Q (.bl (isNum w)) H'
def tIsNum (K:PySem.W.Frag):TS:=tSeq (tAsg (tIf (tB (tBM K "str" (fun x vs H Q => ∃ z y,x=V.str z∧vs=[V.str y]∧Q (V.bl (Txt.startswith z y)) H) (tVar 0) (tCons (tC (V.str ("-"))) tNil))) (tSl rSlS (tVar 0) (tPart (tC (V.int 1))) tNoPart) (tVar 0)) (gName 1)) (tSeq (tIfS (tDigs K) (tRet (tC (V.bl false))) tNext) (tRet (tOrV (tOp rNe (tOp rIxS (tVar 1) (tC (V.int 0))) (tC (V.str ("0")))) (tOp rEq (tVar 0) (tC (V.str ("0")))))))
theorem zero_cps:("0" : Str)=⟨#[48]⟩:=by decide +kernel
theorem first_is {b:Str} {c:Nat} (h:b.cps.toList.head? = some c):atI b.cps.toList 0=some c:=atI_nat (j:=0) (by rw [← List.head?_eq_getElem?]; exact h)
theorem one_ne {c:Nat} : decide (V.str ⟨#[c]⟩=V.str "0")=decide (c=48):=by
 rw [zero_cps]
 by_cases h:c=48
 ·subst h; rw [decide_eq_true rfl,decide_eq_true rfl]
 ·rw [decide_eq_false h,decide_eq_false (fun z => h (by injection z with z; injection z with z; simpa using z))]
theorem head_of {b:Str} (h:digsB b=true):∃ c,b.cps.toList.head? = some c:=by
 unfold digsB at h
 rw [Bool.and_eq_true] at h
 have h1:=of_decide_eq_true h.1
 cases e:b.cps.toList with
 | nil => rw [len_list,e] at h1; exact absurd h1.1 (by decide)
 | cons c cs => exact ⟨c,rfl⟩
theorem bare_len (w:Str):(bareS w).length ≤ w.length:=by
 unfold bareS
 split
 ·unfold subS
  rw [len_list,List.toList_toArray,List.length_take,List.length_drop,← len_list]
  omega
 ·exact Nat.le_refl _
theorem isnum_reads {K:PySem.W.Frag} {H:Hp} {Q:VK} {Z:L2.St→Hp→Prop} {w:Str} (wl:w.length ≤ 6000) (k:∀ H',Same H H'→Q (.bl (isNum w)) H'):tIsNum K { nx:=Z,rt:=Q } [some (.str w),none] H:=by
 have ws:w.length ≤ sizeLine:=Nat.le_trans wl (by decide)
 have rest:tSeq (tIfS (tDigs K) (tRet (tC (V.bl false))) tNext) (tRet (tOrV (tOp rNe (tOp rIxS (tVar 1) (tC (V.int 0))) (tC (V.str "0"))) (tOp rEq (tVar 0) (tC (V.str "0"))))) { nx:=Z,rt:=Q } [some (.str w),some (.str (bareS w))] H:=by
  refine digs_reads (K:=K) (b:=bareS w) rfl (Nat.le_trans (bare_len w) wl) fun H1 s1 => ?_
  have:=k H1 s1
  unfold isNum at this
  cases hd:digsB (bareS w) with
  | false => rw [hd] at this; exact iteT this
  | true =>
   rw [hd,Bool.true_and] at this
   obtain ⟨c,hc⟩:=head_of hd
   refine iteF ?_
   refine ⟨_,rfl,bareS w,0,c,rfl,rfl,Nat.le_trans (bare_len w) ws,first_is hc,rfl,_,rfl,?_⟩
   rw [one_ne]
   rw [hc] at this
   by_cases c0:c=48
   ·subst c0
    rw [decide_eq_true rfl]
    refine iteF ⟨_,rfl,rfl,?_⟩
    rw [show (some 48 != some (48:Nat))=false from rfl,Bool.false_or] at this
    rw [show decide (V.str w=V.str "0")=decide (w = "0") by by_cases z:w = "0" <;> simp [z]]
    exact this
   ·rw [decide_eq_false c0]
    rw [show (some c != some 48)=true by simpa using c0,Bool.true_or] at this
    exact iteT this
 refine ⟨_,rfl,rfl,w, "-",rfl,rfl,_,rfl,?_⟩
 by_cases hs:Txt.startswith w "-" = true
 ·rw [hs]
  obtain ⟨hp,_⟩:=bare_pos hs
  refine iteT ⟨_,rfl,1,rfl,w,1,w.length,rfl,.inr ⟨1,rfl,by omega⟩,.inl ⟨rfl,rfl⟩,hp,ws,?_⟩
  have eb:bareS w=subS w 1 w.length:=by unfold bareS; rw [if_pos hs]
  rw [eb] at rest
  exact rest
 ·rw [Bool.eq_false_iff.mpr hs]
  have eb:bareS w=w:=by unfold bareS; rw [if_neg hs]
  rw [eb] at rest
  exact iteF ⟨_,rfl,rest⟩
end L2
namespace L2
open PySem PySem.Spec PyProof.Rows
theorem smallW {n:Nat} (h:n ≤ 100000):n < sizeLine:=Nat.lt_of_le_of_lt h (by decide)
theorem compLW {K:PySem.W.Frag} {k:Nat} {a:Addr} {xs:List V} {g:TG} {tt:TT} {te:TE} {Q:VK} {σ:St} {H:Hp} (Pv:Nat→List V→Hp→Prop) (h0:Pv 0 [] H) (hb:xs.length ≤ 100000) (hz:∀ i ys H,Pv i ys H→ys.length ≤ i) (hl:∀ i ys H,i ≤ xs.length→Pv i ys H→SqL K H a xs)
  (hs:∀ i x ys H (pre:St),pre.length=k→xs[i]? = some x→Pv i ys H→g x (pre ++ σ) H fun σ' H2 => (∃ pre' : St,σ' = pre' ++ σ∧pre'.length=k)∧tt σ' H2 fun ok H3 => if ok=true then te σ' H3 fun y H4 => Pv (i + 1) (ys ++ [y]) H4 else Pv (i + 1) ys H3) (hd:∀ ys H,Pv xs.length ys H→∀ D,H D=none→Q (.ref D) (upd H D (.lst ys))):CGo k (Itl K a) g tt te Q σ H:=by
 refine ⟨fun i m ys H => m=xs.length - i∧i ≤ xs.length∧Pv i ys H,⟨xs.length,by simp,Nat.zero_le _,h0⟩,?_⟩
 rintro i m ys H ⟨rfl,hi,p⟩
 have q:=hl i ys H hi p
 by_cases hlt:i < xs.length
 ·refine .inr ⟨⟨xs,xs[i],q,by simp [hlt]⟩,Nat.lt_of_le_of_lt (hz i ys H p) (smallW (by omega)),Pv (i + 1),fun zs H' p' => ⟨xs.length - (i + 1),by omega,rfl,hlt,p'⟩,fun x H' pre hp y => ?_⟩
  obtain ⟨e,y⟩:=y
  subst e
  exact hs i x ys _ pre hp (y xs q) p
 ·have e:i=xs.length:=by omega
  subst e
  exact .inl ⟨⟨xs,q,Nat.le_refl _⟩,hd ys H p⟩
end L2
namespace L2
open PySem PySem.Spec PyProof.Rows
structure XCls (K:PySem.W.Frag) (C:Addr):Prop where
 ga:PySem.W.findIn K (.ref C) "__getattribute__" = some (some (.builtin "BaseException.__getattribute__"))
 na:PySem.W.findIn K (.ref C) "__getattr__" = some none
 cl:PySem.W.findIn K (.ref C) "__class__" = some (some (.builtin "object.__class__"))
 be:PySem.W.subIn K (.ref C) (.type "BaseException")=some true
 ob:PySem.W.subIn K (.ref C) (.type "object")=some true
 ty:PySem.W.typeIn K (.ref C)=some (.type "type")
 co:(PySem.W.clsIn K C).isSome=true
 rf:PySem.W.subIn K (.ref C) (.ref C)=some true
end L2
namespace L2
open PySem PySem.Spec PyProof.Rows
def CXE (P:Program) (w:World):CXT:=fun outer H s E e s' => ∃ (a C:Addr) (a0:Value) (B:Heap) (H' : Hp),e = .ref a∧s'.os=s.os∧AllBare s'.gens∧Un (frs outer) [] H H' s.heap s'.heap∧HOk P w H' s'.heap ∧
 Heap.FlyingW B outer a (.ref C) a0 s'.heap∧(∀ b o,s.heap.get? b=some o→b ∉ frs outer→∃ o',B.get? b=some o')∧(∀ b o,H' b=some o→∃ o',B.get? b=some o')∧E (.ref C) none H'
theorem ObjOk.there {P:Program} {w:World} {H:Hp} {h:Heap} {a:Addr} {o:HO} (x:ObjOk P w H h a o):∃ ob,h.get? a=some ob:=by
 cases o with
 | lst xs => obtain ⟨_,_,_,_,e⟩:=x; exact ⟨_,e⟩
 | tup xs => obtain ⟨_,_,_,o,e,_⟩:=x; exact ⟨_,e⟩
 | dK kvs => obtain ⟨_,_,_,_,o,_,_,e,_⟩:=x; exact ⟨_,e⟩
 | dT kvs => obtain ⟨_,_,_,_,o,_,_,e,_⟩:=x; exact ⟨_,e⟩
 | set S n => obtain ⟨o,_,_,_,e,_⟩:=x; exact ⟨_,e⟩
 | ins C dx fs => obtain ⟨_,_,_,e,_⟩:=x; exact ⟨_,e⟩
 | own y => exact x
 | xd fs => obtain ⟨_,⟨_,_,_,e,_⟩,_⟩:=x; exact ⟨_,e⟩
 | rng lo hi => obtain ⟨_,_,_,e⟩:=x; exact ⟨_,e⟩
 | frz ob u => exact ⟨_,x.1⟩
 | tbl ps => exact ⟨_,x⟩
 | met f y => exact ⟨_,x⟩
 | ext φ => exact x.2.1
section
variable {X:Cx} {pins:List (Addr × Obj)} {σ:St} {H1 H' : Hp} {s1:Shared} {h1 h' B:Heap}
theorem leave_un (I:Inv X pins σ H1 s1) (hex:X.ex=[]) (u:Un (frs X.stack) [] H1 H' s1.heap h1) (hok:HOk X.prog X.w H' h1) (b1:B.StaysIn h1) (b2:B.StaysIn h') (sm:h1.UpToSlots h')
  (c1:∀ b o,s1.heap.get? b=some o→b ∉ frs X.stack→∃ o',B.get? b=some o') (c2:∀ b o,H' b=some o→∃ o',B.get? b=some o') :
  Un X.fs [] X.H₀ H' X.s₀.heap h'∧HOk X.prog X.w H' h'∧∀ b o,X.s₀.heap.get? b=some o→b ∉ X.fs→∃ o',B.get? b=some o':=by
 have nex:∀ b:Addr,b ∉ X.ex:=fun b z => by rw [hex] at z; cases z
 have c0:∀ b o,X.s₀.heap.get? b=some o→b ∉ X.fs→∃ o',B.get? b=some o':=fun b o e hb => by
  obtain ⟨o1,e1⟩:=I.base.there b o e (nex b)
  refine c1 b o1 e1 fun z => ?_
  rcases List.mem_cons.mp (I.stkSub b z) with q | q
  ·exact absurd (Nat.lt_of_lt_of_le (Heap.lt_size e) I.ok.above) (by rw [q]; exact Nat.lt_irrefl _)
  ·exact hb q
 have J:=(I.call (g':=s1.gens) (t':=s1.toks) (d':=s1.drawn) (ch:=[]) u hok I.bare (fun b z => nomatch z)).base
 rw [hex] at J
 have same:∀ b o,h1.get? b=some o→(∃ o',B.get? b=some o')→h'.get? b=some o:=fun b o e ⟨o',q⟩ => by
  have:=b1 b o' q
  rw [e] at this
  cases this
  exact b2 b _ q
 have frm:∀ b ∈ X.fs,∀ o,h1.get? b=some o→∃ sl,h'.get? b=some { o with slots:=sl }:=fun b hb o e => by
  obtain ⟨_,o0,e0,hd⟩:=I.ok.funs.mem hb
  obtain ⟨sl,e1⟩:=J.slot b o0 e0 (I.ok.frf b hb) hb (by simp)
  have e1:h1.get? b=some _:=e1
  rw [e] at e1
  cases e1
  exact sm b _ e hd
 refine ⟨⟨fun b o e n hb _ => ?_,fun b o e n hb _ => ?_,J.free,fun b o e _ => ?_,J.tups,J.frzs,J.tbls⟩,fun b u' e => ?_,c0⟩
 ·exact same b o (J.keep b o e n hb (by simp)) (c0 b o e hb)
 ·obtain ⟨sl,e1⟩:=J.slot b o e n hb (by simp)
  obtain ⟨sl',e2⟩:=frm b hb _ e1
  exact ⟨sl',e2⟩
 ·obtain ⟨o1,e1⟩:=J.there b o e (by simp)
  by_cases hb:b ∈ X.fs
  ·obtain ⟨sl,e2⟩:=frm b hb _ e1
   exact ⟨_,e2⟩
  ·exact ⟨o1,same b o1 e1 (c0 b o e hb)⟩
 ·refine (hok b u' e).stay (fun c v hc r => same c v r ?_) (fun _ q => q) fun _ _ q => q
  rcases hc with rfl | hc
  ·exact c2 _ _ e
  ·exact c2 _ _ hc
end
section
variable {P:Program} {w:World} {K:PySem.W.Frag} {mg:Str→Option Value} {base:Heap} {N:List Str} {qual:Str} {scope:Scope} {f:Addr} {cd:Value} {A:Around} {outer:List Env} {s:Shared} {H:Hp} {E:XK}
def PassesX (X:Cx) (Ex:Value→St→Hp→Prop):Prop:=∀ (pins:List (Addr × Obj)) (σ:St) (H:Hp) (s:Shared) (e:Value) (s' : Shared),Inv X pins σ H s→CXE X.prog X.w X.stack H s (fun c _ H' => Ex c σ H') e s'→X.xe e s'
theorem passE:PassesX (cxOf (CXE P w) P w K mg base N qual scope f cd A outer s H E) (fun c _ H' => E c none H'):=by
 rintro pins σ H1 s1 e s' I ⟨a,C,a0,B,H',rfl,ho,hb,un,hok,fl,c1,c2,q⟩
 refine wpAny_leaves_onW (I.ok.frames) rfl fl fun h' fl' sm => ?_
 obtain ⟨u2,hok2,c0⟩:=leave_un I rfl un hok fl.1 fl'.1 sm c1 c2
 exact ⟨a,C,a0,B,H',rfl,ho.trans I.os,hb,u2,hok2,fl',c0,c2,q⟩
def tRaise (E:XK) (C:Addr):TS:=fun _ _ H => E (.ref C) none H
theorem own_of {K:PySem.W.Frag} {h:Heap} {C:Addr} {bmB:List Value} {newId:String} (X:K.In h) (q:PySem.W.excIn K C bmB newId=true) :
  ∃ bm N nm q bs hdct sn sub ab col dd k0 k1 k2 k3 k5 mN,h.get? C=some (excClassObj nm q C N bs bm hdct sn sub ab col dd k0 k1 k2 k3 k5 newId)∧h.Ns N mN∧mN "__init__" = none∧OwnTail h bmB bm:=by
 unfold PySem.W.excIn at q
 split at q
 ·rename_i dd cd sl ho
  split at q
  ·rename_i C' bm k0 k1 k2 k3 n k5 hm hs
   simp only [Bool.and_eq_true,beq_iff_eq,Bool.not_eq_true'] at q
   obtain ⟨⟨⟨⟨⟨rfl,rfl⟩,hdel⟩,ht⟩,hok⟩,hni⟩:=q
   obtain ⟨nm,bs,mro,ns,qn,hd,sn,sub,ab,col,del⟩:=cd
   dsimp only at hm hdel hok hni
   subst hm hdel
   have hsl:sl = #[k0,k1,k2,k3,some (.builtin n),k5]:=by
    obtain ⟨l⟩:=sl
    simp only at hs
    rw [hs]
   subst hsl
   exact ⟨bm,ns,nm,qn,bs,hd,sn,sub,ab,col,dd,k0,k1,k2,k3,k5,_,X _ _ ho,.of_isNs (PySem.W.isNs_of_in X hok),PySem.W.nsMap_none_of_in X hok hni,PySem.W.tail_of_in X ht⟩
  ·cases q
 ·cases q
abbrev bmV:List Value:=[.type "ValueError",.type "Exception",.type "BaseException",.type "object"]
theorem funs_hide {base h:Heap} {as:List Addr} {l:List Env} (hl:h.FunFrames base l) (hin:∀ b ∈ frs l,b ∈ as):h.FunFrames (PySem.W.hideAll h as) l:=by
 refine PySem.W.funFrames_hide hl fun env he a hf => hin a ?_
 exact List.mem_filterMap.mpr ⟨env,he,hf⟩
theorem ps_raise {C:Addr} {x:Str} {np cpos pos:PySem.Pos} {e₀:Expr} {v:V} (hc:PySem.W.excIn K C bmV "ValueError.__new__" = true) (hd:A.handled=none) (hm:mg x=some (.ref C)) (he₀:PE (cxOf (CXE P w) P w K mg base N qual scope f cd A outer s H E) e₀ (tC v))
  (hg:Gl (cxOf (CXE P w) P w K mg base N qual scope f cd A outer s H E) x)
  (he:starEach [e₀] (cxOf (CXE P w) P w K mg base N qual scope f cd A outer s H E).env=(false,eval e₀ (cxOf (CXE P w) P w K mg base N qual scope f cd A outer s H E).env) :: starEach [] (cxOf (CXE P w) P w K mg base N qual scope f cd A outer s H E).env:=by rfl) (hdb:(x == ("__debug__" : Str))=false:=by decide) :
  PS (cxOf (CXE P w) P w K mg base N qual scope f cd A outer s H E) (.Raise (some (.Call (.Name x np) [e₀] [] cpos)) none pos) (tRaise E C):=by
 intro pins s1 σ H1 D I h
 obtain ⟨tl,NN,nm,q,bs,hdct,sn,sub,ab,col,dd,k0,k1,k2,k3,k5,mN,hC,hN,hni,T⟩:=own_of I.ok.mod.kin hc
 refine wpAny_Raise_call_subU (C:=C) (nm:=nm) (q:=q) (N:=NN) (bs:=bs) (bm:=tl) (hdct:=hdct) (sn:=sn) (sub:=sub) (ab:=ab) (col:=col) (dd:=dd) (k0:=k0) (k1:=k1) (k2:=k2) (k3:=k3) (k5:=k5)
  PySem.F.excBase_ValueError (by decide) PySem.F.excBase_ValueError (mN:=mN) (T.hasType PySem.F.excBase_ValueError.hasBase) hd (by rw [he]; rfl) hni (ld_glob I hg hm ⟨rfl,?_⟩ hdb)
 have hp:PA (cxOf (CXE P w) P w K mg base N qual scope f cd A outer s H E) [e₀] (tCons (tC v) tNil):=pa_cons he₀ pa_nil he
 have hs:=hp cpos pins s1 σ H1 (fun vs H' => vs.length=1∧E (.ref C) none H') I ⟨rfl,h⟩
 rw [he] at hs ⊢
 refine Calls.evalArgs_plain (wpAny_mono hs (fun us s2 h2 => ?_) fun _ _ y => y)
 obtain ⟨vs,H2,I2,rv,l1,q2⟩:=h2
 have lu:us.length=1:=by rw [← rv.length]; exact l1
 refine ⟨rfl,by rw [lu]; decide,I2.bk _ _ hC,hN.keeps I2.bk,T.keeps I2.bk,fun h3 e mk => ?_⟩
 have hin:∀ b ∈ frs (cxOf (CXE P w) P w K mg base N qual scope f cd A outer s H E).stack,b ∈ frs (cxOf (CXE P w) P w K mg base N qual scope f cd A outer s H E).stack:=fun b z => z
 refine wpAny_leaves_madeW (h:=s2.heap) (base:=PySem.W.hideAll s2.heap (frs (cxOf (CXE P w) P w K mg base N qual scope f cd A outer s H E).stack)) I2.ok.frames rfl (fun b o z => PySem.W.of_hideAll _ z) (funs_hide I2.stack hin) mk fun h' t fl _ _ sm => ?_
 have c1:∀ b o,s2.heap.get? b=some o→b ∉ frs (cxOf (CXE P w) P w K mg base N qual scope f cd A outer s H E).stack→∃ o',(PySem.W.hideAll s2.heap (frs (cxOf (CXE P w) P w K mg base N qual scope f cd A outer s H E).stack)).get? b=some o':=fun b o z n => ⟨o,PySem.W.hideAll_get _ z n⟩
 have c2:∀ b o,H2 b=some o→∃ o',(PySem.W.hideAll s2.heap (frs (cxOf (CXE P w) P w K mg base N qual scope f cd A outer s H E).stack)).get? b=some o':=fun b o z => by
  obtain ⟨o',e'⟩:=ObjOk.there (I2.hok b o z)
  exact c1 b o' e' fun n => by rw [I2.stkFree b n] at z; cases z
 obtain ⟨u2,hok2,c0⟩:=leave_un I2 rfl (Un.kept mk.keeps) (I2.hok.kept mk.keeps) (fun b o z => mk.keeps b o (PySem.W.of_hideAll _ z)) fl.1 sm c1 c2
 exact ⟨e,C,_,_,H2,rfl,I2.os,I2.bare,u2,hok2,fl,c0,c2,q2⟩
end
end L2
namespace L2
open PySem PySem.Spec PyProof.Rows
structure KnX (P:Program) (w:World) (K:PySem.W.Frag) (mg:Str→Option Value) (base:Heap) (x:Str) (k:Nat) (ps:List Str) (sp:Sp):Prop where
 ex:∃ (f:Addr) (fd:FuncData),FnOk P w K mg base (CXE P w) k f fd ps sp∧mg x=some (.ref f)∧PySem.W.keepIn K (.ref f)=true∧Binds K fd ps []
def tCallX (sp:Sp) (Ex:Value→St→Hp→Prop) (t:TA):TE:=fun σ H Q => t σ H fun vs H1 => sp vs H1 Q (fun c _ H' => Ex c σ H')
theorem pe_callX {X:Cx} {x:Str} {k j:Nat} {ps:List Str} {sp:Sp} {e:Expr} {es:List Expr} {t:TA} {p pos:PySem.Pos} {Ex:Value→St→Hp→Prop} (G:KnX X.prog X.w X.K X.mg X.base x k ps sp) (px:PassesX X Ex) (hr:Room j X.A) (hg:Gl X x) (ha:PA X (e :: es) t) (hle:k ≤ j:=by decide)
  (hdb:(x == ("__debug__" : Str))=false:=by decide)
  (he:starEach (e :: es) X.env=(false,eval e X.env) :: starEach es X.env:=by rfl) (hpl:(backTo pos (starEach es X.env)).any (·.1)=false:=by rfl):PE X (.Call (.Name x p) (e :: es) [] pos) (tCallX sp Ex t):=by
 obtain ⟨f,fd,F,hm,hk,hb⟩:=G.ex
 intro pins s σ H Q I h
 refine wpAny_Call_Name_kw (ld_glob I hg hm ?_ hdb)
 refine PySem.W.callWith_K (h₀:=X.base) I.ok.mod.kin hk (thn (ha pos pins s σ H _ I h) fun us s1 ⟨vs,H1,I1,r,q⟩ => ⟨I1.kIn,?_⟩) he hpl
 have hl:us.length=ps.length:=by rw [← r.length]; exact F.len _ _ _ _ q
 have hb1:=hb s1 us I1.kIn (by rw [List.append_nil]; exact hl)
 rw [List.append_nil] at hb1
 refine wpAny_call (codeAny_mono (F.run X.A X.stack s1 H1 ⟨us,[]⟩ us vs Q (fun c _ H' => Ex c σ H') (hr.mono hle) I1.env0 hb1 r q) fun r s' hq => ?_)
 cases r with
 | error e => exact px pins σ H1 s1 e s' I1 hq
 | ok fl =>
  cases fl with
  | ret u => exact I1.after hq
  | next => exact False.elim hq
  | brk => exact False.elim hq
  | cont => exact False.elim hq
theorem Fun.okX {P:Program} {w:World} {K:PySem.W.Frag} {mg:Str→Option Value} {base:Heap} {x qual:Str} {st:Stmt} {f:Addr} {fd:FuncData} {N ps:List Str} {k:Nat} {sp:Sp} (F:Fun K x qual st f fd) (S:FnScope N ps (defScope st)) (len:∀ vs H Q E,sp vs H Q E→vs.length=ps.length)
  (hbody:∀ (cdv:Value) (A:Around) (outer:List Env) (s:Shared) (H:Hp) (vs:List V) (Q:VK) (E:XK),A.handled=none→Room k (A.deeper (envOfC qual (defScope st) s.heap.objs.size f cdv))→sp vs H Q E →
   ∃ t,PSs (cxOf (CXE P w) P w K mg base N qual (defScope st) f cdv A outer s H E) (defBody st) t∧t { nx:=fun _ H' => Q .non H',rt:=Q } (start N vs) H):FnOk P w K mg base (CXE P w) (k + 1) f fd ps sp:=by
 obtain ⟨oc,od,kV,doc,pm,an,cdv,ct,osl,rfl,lk,hcd⟩:=F.ex
 exact fn_of lk hcd S len fun A outer s H vs Q E hr hsp => hbody cdv A outer s H vs Q E hr.hd hr hsp
theorem PS.nox {X:Cx} {st:Stmt} {t:TS} (h:PS X.nox st t):PS X st t:=fun pins s σ H D I hw =>
 wpAny_mono (h pins s σ H D (I.wish _) hw) (fun _ _ q => q.unwish) fun _ _ z => False.elim z
end L2
namespace L2
open PySem PySem.Spec PyProof.Rows
theorem passN {X:Cx} : PassesX X (fun _ _ _ => False):=by
 rintro pins σ H1 s1 e s' I ⟨a,C,a0,B,H',rfl,ho,hb,un,hok,fl,c1,c2,q⟩
 exact q.elim
end L2
namespace L2
open PySem PySem.Spec PyProof.Rows
section
variable {M:Model} {A:Around} {E:Value→Shared→Prop} {s:Shared}
theorem pass_on {base:Heap} {l:List Env} {e:Addr} {cls a0:Value} {cenv:Env} {what:String} {Q:Value→Shared→Prop} {v0:Value} (f1:base.StaysIn s.heap) (f3:s.heap.FunFrames base l) (f4:s.heap.TracedAtW base e cls a0 v0)
  (h:∀ h' v,base.StaysIn h'→h'.FunFrames base l→h'.TracedAtW base e cls a0 v→s.heap.UpToSlots h'→E (.ref e) { s with heap:=h' }):wpAny M A (PySem.passOn what (.ref e) cenv:Sem Value) Q E s:=by
 obtain ⟨oe,vs,T,oT,ts,he,hcls,hd,h1,hnT,hTe,hT,hdT,h3⟩:=f4
 unfold PySem.passOn
 refine wpAny_bind (wpAny_field he hd h1 ?_)
 rw [if_neg (show ¬ ((Value.ref T == Value.none)=true) from by simp)]
 unfold setFlight
 refine wpAny_bind (wpAny_bind (wpAny_field he hd h1 ?_))
 rw [if_pos (show (Value.ref T != Value.none)=true from by simp)]
 refine wpAny_setField hT hdT (Array.getElem?_eq_some_iff.mp h3).1 (wpAny_throw ?_)
 generalize (cenv.frame.elim Value.none fun f => rawInt f)=v
 have other:∀ b,b ≠ T→(s.heap.update T (Obj.mapFields (·.setIfInBounds 3 v))).get? b=s.heap.get? b:=fun b hb => Heap.get?_update_other _ _ (Ne.symm hb)
 have noRecord:∀ b o,s.heap.get? b=some o→(∀ vs,o.data ≠ .fields vs)→b ≠ T:=fun b o hb hnf q => by
  rw [q,hT] at hb; injection hb with hb; subst hb; exact hnf ts hdT
 have ns:∀ b o,base.get? b=some o→b ≠ T:=fun b o hb q => by rw [q,hnT] at hb; cases hb
 refine h _ v (fun b o hbo => (other b (ns b o hbo)).trans (f1 b o hbo)) (f3.of_keeps fun b o hb hnf => ⟨o,(other b (noRecord b o hb hnf)).trans hb,rfl⟩) ?_ fun b o hb hnf => ⟨o.slots,(other b (noRecord b o hb hnf)).trans hb⟩
 refine ⟨oe,vs,T,_,_,(other e (Ne.symm hTe)).trans he,hcls,hd,h1,hnT,hTe,Heap.get?_update_self _ hT (Obj.isFreed_of_fields (Obj.data_mapFields hdT _)),Obj.data_mapFields hdT _,?_⟩
 rw [Array.getElem?_setIfInBounds_self_of_lt (Array.getElem?_eq_some_iff.mp h3).1]
theorem leave_any {base:Heap} {env:Env} {outer:List Env} {L e:Addr} {cls a0 fl:Value} {Q:Unit→Shared→Prop} (hfr:A.frames=some (env :: outer)) (hf:env.frame=some L) (f1:base.StaysIn s.heap) (f2:base.get? e=none) (f3:s.heap.FunFrames base (env :: outer)) (f4:s.heap.TracedAtW base e cls a0 fl)
  (hQ:∀ h',Heap.FlyingW base outer e cls a0 h'→s.heap.UpToSlots h'→Q () { s with heap:=h' }):wpAny M A (leaving env (.ref e)) Q E s:=by
 obtain ⟨oe,vs,T,oT,ts,he,⟨hcls,h0⟩,hd,h1,hnT,hTe,hT,hdT,h3⟩:=f4
 subst hcls
 have other:∀ b,b ≠ T→(s.heap.update T (Obj.mapFields (·.setIfInBounds 3 Value.none))).get? b=s.heap.get? b:=fun b hb => Heap.get?_update_other _ _ (Ne.symm hb)
 have noRecord:∀ b o,s.heap.get? b=some o→(∀ vs,o.data ≠ .fields vs)→b ≠ T:=fun b o hb hnf q => by
  rw [q,hT] at hb; injection hb with hb; subst hb; exact hnf ts hdT
 have ns:∀ b o,base.get? b=some o→b ≠ T:=fun b o hb q => by rw [q,hnT] at hb; cases hb
 unfold leaving noteFrame
 simp only [hf]
 refine wpAny_bind (wpAny_bind (wpAny_field he hd h1 ?_))
 rw [if_pos (show (Value.ref T != Value.none)=true from by simp)]
 refine wpAny_bind (wpAny_field hT hdT h3 ?_)
 by_cases hv:(fl == rawInt L)=true
 ·rw [if_pos hv]
  refine wpAny_pure ?_
  unfold setFlight
  refine wpAny_bind (wpAny_field he hd h1 ?_)
  rw [if_pos (show (Value.ref T != Value.none)=true from by simp)]
  refine wpAny_setField hT hdT (Array.getElem?_eq_some_iff.mp h3).1 (hQ _ ⟨fun b o hbo => (other b (ns b o hbo)).trans (f1 b o hbo),f2,?_,?_⟩ fun b o hb hnf => ⟨o.slots,(other b (noRecord b o hb hnf)).trans hb⟩)
  ·obtain ⟨_,_,k⟩:=f3.of_keeps (h':=s.heap.update T (Obj.mapFields (·.setIfInBounds 3 Value.none))) fun b o hb hnf => ⟨o,(other b (noRecord b o hb hnf)).trans hb,rfl⟩
   exact k
  ·refine ⟨oe,vs,T,_,_,(other e (Ne.symm hTe)).trans he,⟨rfl,h0⟩,hd,h1,hnT,hTe,Heap.get?_update_self _ hT (Obj.isFreed_of_fields (Obj.data_mapFields hdT _)),Obj.data_mapFields hdT _,?_⟩
   rw [Array.getElem?_setIfInBounds_self_of_lt (Array.getElem?_eq_some_iff.mp h3).1]
   rfl
 ·rw [if_neg hv]
  refine wpAny_bind (wpAny_setField hT hdT (Array.getElem?_eq_some_iff.mp h3).1 ?_)
  refine wpAny_newEntryW hfr (f3.of_keeps fun b o hb hnf => ⟨o,(other b (noRecord b o hb hnf)).trans hb,rfl⟩) hf ((other e (Ne.symm hTe)).trans he)
   (fun b o hbo => (other b (ns b o hbo)).trans (f1 b o hbo)) f2 hd (Array.getElem?_eq_some_iff.mp h1).1 h0
   fun h' ⟨x1,x2,x3,x4⟩ => hQ h' ⟨x1,f2,x2.2.2,x3⟩ fun b o hb hnf => x4 b o ((other b (noRecord b o hb hnf)).trans hb) hnf
end
end L2
namespace L2
open PySem PySem.Spec PyProof.Rows
def compErr (X:Cx) (C:Addr):Value→Shared→Prop:=fun e s' => ∃ m,s'.heap.Ns C m∧∀ h',Heap.SameBut C s'.heap h'→∀ cenv:Env,cenv.locals=C→wpAny (model X.prog X.w) X.A (PySem.passOn "comprehension.variables-let-go" e cenv:Sem Value) (fun _ _ => False) X.xe { s' with heap:=h' }
def cxCX (X:Cx) (xs Nb:List Str) (scope:Scope) (cl:List (Str × Addr)) (C:Addr) (s₂:Shared) (H₂:Hp) (fp:List Addr):Cx:={ cxC X xs Nb scope cl C s₂ H₂ fp with xe:=notedBy (model X.prog X.w) X.A (compEnvC scope cl C X.env) (compErr X C) }
section
variable {X:Cx}
def InBX (X:Cx) (xs Nb:List Str) (scope:Scope) (φ:Cx→Prop):Prop:=∀ (cl:List (Str × Addr)) (C:Addr) (s₂:Shared) (H₂:Hp) (fp:List Addr),(∃ (pins:List (Addr × Obj)) (σ:St),Inv X pins σ H₂ s₂∧s₂.heap.objs.size ≤ C∧(∀ b ∈ fp,FpOk X pins H₂ b))→φ (cxCX X xs Nb scope cl C s₂ H₂ fp)
theorem comp_coreX {elt iter tg:Expr} {xs Nb:List Str} {ifs:List Expr} {scope:Scope} {pos:PySem.Pos} {wi:TI} {g:TG} {tt:TT} {te:TE}
  (hc:X.calm=true) (hi:PI X tg iter wi) (hlen:Nb.length=X.N.length) (hNb:∀ p ∈ Nb.zip X.N,p.1=p.2 ∨ scope.names.lookup p.1=none) (hxN:∀ y ∈ Nb,scope.names.lookup y ≠ some .local)
  (hg:InBX X xs Nb scope fun Y => PG Y tg g) (ht:InBX X xs Nb scope fun Y => PIf Y ifs tt) (he:InBX X xs Nb scope fun Y => PE Y elt te)
  (hcell:∀ y ∈ scope.names,y.2 ≠ .cell) (hkind:scope.kind = .function) (hnames:∀ y ∈ scope.names,y.2 = .local→scope.names.lookup y.1=some .local)
  (hfree:∀ y ∈ scope.names,y.2 = .free→X.env.kindOf y.1=some .cell)
  (hs:∀ x,foldedSetIterable iter X.env x=pure x) {pos2:PySem.Pos} {use:Option (Value→Sem Unit)} {QQ:Value→Shared→Prop} {pins:List (Addr × Obj)} {s:Shared} {σ:St} {H:Hp} {Q:VK} (I:Inv X pins σ H s) (h:tCompG xs.length wi g tt te σ H Q)
  (post:∀ (s2 s4:Shared) (H2 H4:Hp) (C D:Addr) (m4:Str→Option Value),Inv X pins σ H2 s2→s2.heap.objs.size ≤ C→s4.heap.Ns C m4→H4 C=none→(∀ h',Heap.SameBut C s4.heap h'→Inv X pins σ H4 { s4 with heap:=h' })→Q (.ref D) H4→compPost (model X.prog X.w) X.A X.xe use QQ (.ref D) C (.ok .next) s4) :
  wpAny (model X.prog X.w) X.A (comprehension (.ListComp elt [⟨tg,iter,ifs,0⟩] scope pos) scope X.env pos2 (newList []) false (eval iter X.env) use) QQ X.xe s:=by
 obtain ⟨cl,hcl,cl1,cl2⟩:=clos_ok (scope:=scope) (env:=X.env) (fun y hy hf => I.ok.has y.1 (.inl (hfree y hy hf)))
 refine wpAny_comprehension_free rfl hs hcl hkind hnames (thn (hi pins s σ H _ I h) fun v s1 h1 => thn h1 fun itv s2 h2 => ?_)
 obtain ⟨it,fp,tn,J,H2,e,I2,T,st2,f2,W,⟨m0,w0⟩,turn⟩:=h2
 subst e
 refine wpAny_newObj_type (wpAny_newFunctionEnv hcell (by intro y hy; simp at hy) (fun h₁ hns₁ hsb₁ => ?_) hkind)
 dsimp only at hns₁ hsb₁ ⊢
 generalize hHp:s2.heap.push { cls:=.type "list",dict:=none,data:=.seq ([]:List Value).toArray } = Hp2 at hns₁ hsb₁ ⊢
 have hC:Hp2.objs.size=s2.heap.objs.size + 1:=by rw [← hHp,Heap.size_push]
 have hDC:s2.heap.objs.size ≠ Hp2.objs.size:=by rw [hC]; exact Nat.ne_of_lt (Nat.lt_succ_self _)
 have below:∀ b,b < s2.heap.objs.size→b ≠ Hp2.objs.size∧b ≠ s2.heap.objs.size:=fun b hb => ⟨by rw [hC]; exact Nat.ne_of_lt (Nat.lt_succ_of_lt hb),Nat.ne_of_lt hb⟩
 have old:∀ b o,s2.heap.get? b=some o→h₁.get? b=some o:=fun b o e => hsb₁.extBut b o (below b (Heap.lt_size e)).1 (Heap.get?_push_of_some _ (hHp ▸ Heap.get?_push_of_some _ e))
 have hacc:h₁.PlainList s2.heap.objs.size #[]:=⟨_,hsb₁.extBut _ _ hDC (Heap.get?_push_of_some _ (hHp ▸ Heap.get?_push_size _ rfl))⟩
 generalize hY:cxCX X xs Nb scope cl Hp2.objs.size s2 H2 fp=Y
 have Yprog:Y.prog=X.prog:=by rw [← hY]; rfl
 have fpLt:∀ b ∈ fp,b < s2.heap.objs.size:=fun b hb => by
  obtain ⟨o,e,_⟩:=T.obj _ _ st2 b hb
  exact Heap.lt_size e
 have cellLt:∀ y c,cl.lookup y=some c→c < s2.heap.objs.size:=fun y c hc => by
  obtain ⟨v,q⟩:=I2.cell y c (cl1 y c hc)
  exact q.lt
 have frSub:∀ b ∈ frs X.stack,b < s2.heap.objs.size:=fun b hb => by
  rcases List.mem_cons.mp (I2.stkSub b hb) with z | z
  ·rw [z]; exact I2.lt
  ·by_cases hlt:b < s2.heap.objs.size
   ·exact hlt
   ·exact absurd z (I2.nofs (Nat.le_of_not_lt hlt))
 have ok:(cxCX X xs Nb scope cl Hp2.objs.size s2 H2 fp).Ok:=by
  refine ⟨I2.ok.mod,hkind,I2.ok.glob,I2.ok.blt,(by show s2.heap.objs.size ≤ Hp2.objs.size; omega),fun y z c h1 h2 => I2.ok.inj y z c (cl1 y c h1) (cl1 z c h2),fun y hy => ?_,fun y c hf _ => absurd hf (by intro z; cases z),I2.ok.hd,I2.ok.frames,.inl rfl,fun b hb => ⟨?_,fun y c h1 h2 => ?_⟩,I2.bs,Nat.le_trans I2.ok.bsz I2.sz,fun b o e hb => ?_,fun b hb hm => ?_,I2.stack,I2.stkFree⟩
  ·have hy:(scope.names.map fun (n,k) => if (k == NameKind.free && X.env.scope.kind == .function && X.env.kindOf n == some .cell) then (n,NameKind.cell) else (n,k)).lookup y=some .cell ∨ (scope.names.map fun (n,k) => if (k == NameKind.free && X.env.scope.kind == .function && X.env.kindOf n == some .cell) then (n,NameKind.cell) else (n,k)).lookup y=some .free:=hy
   have q:scope.names.lookup y=some .free:=by
    rcases hy with z | z
    ·exact (relabel_kind hcell z (.inl rfl)).1
    ·exact (relabel_kind hcell z (.inr rfl)).1
   exact Option.isSome_iff_exists.mp (cl2 y (PySem.mem_of_lookup q))
  ·exact (below b (fpLt b hb)).1
  ·exact (f2 b hb).2.2.2.2.1 y c (cl1 y c h1) h2
  ·rcases (f2 b hb).2.2.2.1 with z | z
   ·exact I2.ok.noex b o e z
   ·exact absurd (Nat.lt_of_lt_of_le (Heap.lt_size e) (Nat.le_trans I2.ok.bsz z)) (Nat.lt_irrefl _)
  ·rcases List.mem_cons.mp (I2.stkSub b hm) with z | z
   ·exact (f2 b hb).2.1 z
   ·exact (f2 b hb).2.2.1 z
 have fpY:∀ {H' : Hp} {pl:List (Addr × Obj)},(∀ b ∈ fp,H' b=none)→(∀ p ∈ pl,p.1=s2.heap.objs.size)→∀ b ∈ fp,FpOk Y pl H' b:=fun {H' pl} hn hp b hb => by
  rw [← hY]
  refine ⟨hn b hb,(below b (fpLt b hb)).1,fun hm => ?_,.inl hb,fun y c h1 h2 => (f2 b hb).2.2.2.2.1 y c (cl1 y c h1) h2,fun p hm z => ?_⟩
  ·rcases List.mem_cons.mp (I2.stkSub b hm) with z | z
   ·exact (f2 b hb).2.1 z
   ·exact (f2 b hb).2.2.1 z
  ·have hm:p ∈ pl:=hm
   rw [hp p hm] at z
   exact (below b (fpLt b hb)).2 z.symm
 have HD:H2 s2.heap.objs.size=none:=I2.hok.fresh (Nat.le_refl _)
 have HC:H2 Hp2.objs.size=none:=I2.hok.fresh (by omega)
 obtain ⟨m2,hns2,hloc2⟩:=I2.loc
 have IY:∀ tk,Inv (cxCX X xs Nb scope cl Hp2.objs.size s2 H2 fp) [] (List.replicate xs.length none ++ σ) H2 { s2 with heap:=h₁,toks:=tk }:=fun tk => by
  refine ⟨ok,rfl,I2.bare,Un.kept old,⟨_,hns₁,fun i y v h1 h2 h3 => ?_⟩,fun y c h1 => ?_,HC,fun y c h1 => I2.freeC y c (cl1 y c h1),fun p hp => absurd (show p ∈ ([]:List (Addr × Obj)) from hp) (by simp),I2.hok.kept old,(by show (List.replicate xs.length (none:Option V) ++ σ).length=(xs ++ Nb).length; rw [List.length_append,List.length_append,List.length_replicate,hlen,I2.len])⟩
  ·have h1:(xs ++ Nb)[i]? = some y:=h1
   by_cases hik:i < xs.length
   ·rw [List.getElem?_append_left (by rw [List.length_replicate]; exact hik),List.getElem?_replicate,if_pos hik] at h2
    cases h2
   ·rw [List.getElem?_append_right (by omega)] at h1
    rw [List.getElem?_append_right (by rw [List.length_replicate]; omega),List.length_replicate] at h2
    generalize i - xs.length=i at h1 h2
    have h3:Vis (relabel scope X.env) y:=h3
    have key:∀ k,(k=NameKind.cell ∨ k=NameKind.free)→(relabel scope X.env).names.lookup y=some k→∃ u,RelV v u∧Look (compEnvC scope cl Hp2.objs.size X.env) h₁ (fun x => ([]:List (Str × Value)).reverse.lookup x) y u:=fun k hk hl => by
     obtain ⟨q1,_⟩:=relabel_kind hcell hl hk
     have q2:=hfree (y,.free) (PySem.mem_of_lookup q1) rfl
     have h1' : X.N[i]? = some y:=by
      have hi' : i < X.N.length:=by rw [← hlen]; exact (List.getElem?_eq_some_iff.mp h1).1
      have hz:(Nb.zip X.N)[i]? = some (y,X.N[i]):=by rw [List.getElem?_zip_eq_some]; exact ⟨h1,List.getElem?_eq_getElem hi'⟩
      rcases hNb _ (List.mem_of_getElem? hz) with z | z
      ·have z:y=X.N[i]:=z
       rw [z]; exact List.getElem?_eq_getElem hi'
      ·have z:scope.names.lookup y=none:=z
       rw [q1] at z; cases z
     obtain ⟨u,r,l⟩:=hloc2 i y v h1' h2 (.inr (.inl q2))
     refine ⟨u,r,.inr ⟨?_,?_⟩⟩
     ·rcases hk with rfl | rfl
      ·exact .inl hl
      ·exact .inr hl
     ·rcases l with ⟨k1,_⟩ | ⟨_,c,e1,z⟩
      ·rw [q2] at k1; cases k1
      ·obtain ⟨c',e2⟩:=Option.isSome_iff_exists.mp (cl2 y (PySem.mem_of_lookup q1))
       have e3:=cl1 y c' e2
       rw [e1] at e3
       cases e3
       obtain ⟨o,ho,hd⟩:=z
       exact ⟨c,e2,o,old c o ho,hd⟩
    rcases h3 with h3 | h3 | h3
    ·
     exfalso
     exact hxN y (List.mem_of_getElem? h1) (relabel_local h3)
    ·exact key _ (.inl rfl) h3
    ·exact key _ (.inr rfl) h3
  ·obtain ⟨v,o,ho,hd⟩:=I2.cell y c (cl1 y c h1)
   exact ⟨v,o,old c o ho,hd⟩
 have noErr:∀ {α:Type} {m:Sem α} {G:α→Shared→Prop} {E' : Value→Shared→Prop} {s' : Shared},wpAny (model X.prog X.w) X.A m G (fun _ _ => False) s'→wpAny (model X.prog X.w) X.A m G E' s':=fun h => wpAny_mono h (fun _ _ q => q) fun _ _ q => q.elim
 have loop:∀ (tk:Nat) (R:Result→Shared→Prop),R=compPost (model X.prog X.w) X.A X.xe use QQ (.ref s2.heap.objs.size) Hp2.objs.size →
   codeAny (model X.prog X.w) X.A (.compLoop (.ListComp elt [⟨tg,iter,ifs,0⟩] scope pos) 0 (.ref it) (.ref s2.heap.objs.size) (compEnvC scope cl Hp2.objs.size X.env)) R { s2 with heap:=h₁,toks:=tk }:=by
  rintro tk R rfl
  refine loop_turns rfl (fun n s' => ∃ i σv H' ys its,σv.length=xs.length∧Inv Y [] (σv ++ σ) H' s'∧tn i s'.heap∧(∀ b ∈ fp,H' b=none)∧Vals ys its∧ys.length ≤ sizeLine∧s'.heap.PlainList s2.heap.objs.size its.toArray∧H' s2.heap.objs.size=none∧W i n ys H') ?_ m0
   ⟨0,List.replicate xs.length none,H2,[],[],List.length_replicate,hY ▸ IY tk,T.keep _ _ _ st2 fun b _ o e => old b o e,fun b hb => (f2 b hb).1,.nil,Nat.zero_le _,hacc,HD,w0⟩
  rintro n s3 ⟨i,σv,H3,ys,its,lv,I3,st3,fr3,rv,hz,⟨nn,pl3⟩,HD3,w3⟩
  have I3p:Inv Y [(s2.heap.objs.size,{ cls:=.type "list",data:=.seq its.toArray nn })] (σv ++ σ) H3 s3:=I3.pins_of fun p hp => by
   rw [List.mem_singleton] at hp
   subst hp
   refine ⟨pl3,HD3,?_,fun hm => ?_,fun v z => by cases z⟩
   ·rw [← hY]; exact hDC
   ·rw [← hY] at hm
    exact absurd (frSub _ hm) (Nat.lt_irrefl _)
  have pinD:∀ p ∈ [((s2.heap.objs.size:Addr),({ cls:=.type "list",data:=.seq its.toArray nn } : Obj))],p.1=s2.heap.objs.size:=fun p hp => by
   rw [List.mem_singleton] at hp
   rw [hp]
  subst hY
  rcases turn i n ys H3 w3 with ⟨stop,qn⟩ | ⟨go,hlt,NN,hNN,step⟩
  ·refine noErr (thn (T.done (cxCX X xs Nb scope cl Hp2.objs.size s2 H2 fp) rfl rfl rfl hc i _ s3 _ H3 (fun _ _ => False) I3p (fpY fr3 pinD) st3 stop) fun r s4 ⟨hr,I4⟩ => ?_)
   subst hr
   obtain ⟨m4,hns4,_⟩:=I4.loc
   refine post s2 s4 H2 (upd H3 s2.heap.objs.size (.lst ys)) Hp2.objs.size s2.heap.objs.size m4 I2 (by omega) hns4 (by rw [upd_ne (Ne.symm hDC)]; exact I4.free) (fun h' sb => ?_) (qn _ HD3)
   have pl4:=(I4.pin _ (List.mem_append_right _ List.mem_cons_self)).1
   have up:∀ b o,b ≠ Hp2.objs.size→s4.heap.get? b=some o→h'.get? b=some o:=fun b o hb e => sb.extBut b o hb e
   have base:=I4.base
   have HC4:H3 Hp2.objs.size=none:=I4.free
   have neC:∀ b o,s2.heap.get? b=some o→b ≠ Hp2.objs.size:=fun b o e => (below b (Heap.lt_size e)).1
   have neD:∀ b o,s2.heap.get? b=some o→b ≠ s2.heap.objs.size:=fun b o e => (below b (Heap.lt_size e)).2
   have hokN:HOk X.prog X.w (upd H3 s2.heap.objs.size (.lst ys)) h':=fun b u e => by
    by_cases hb:b=s2.heap.objs.size
    ·subst hb
     rw [upd_same] at e
     cases e
     exact ⟨hz,its,nn,rv,up _ _ hDC pl4⟩
    ·rw [upd_ne hb] at e
     refine (I4.hok b u e).stay (fun c v hc q => up c v ?_ q) (fun c q => by rw [upd_ne (ne_of_none q HD3)]; exact q) fun c xs q => by rw [upd_ne (ne_of_none q HD3)]; exact q
     rcases hc with z | z
     ·rw [z]; exact ne_of_none e HC4
     ·exact ne_of_none z HC4
   refine I2.call' (s':={ s4 with heap:=h' }) (ch:=fp) I4.os ⟨fun b o e n hb hx' => up b o (neC b o e) (base.keep b o e n hb hx'),fun b o e n hb hx' => ?_,fun b o e n hx' => ?_,fun b o e hx' => ?_,fun b xs e => ?_,fun b o u e => ?_,fun b ps e => ?_⟩ hokN I4.bare (fun b hb => ?_)
   ·obtain ⟨sl,q⟩:=base.slot b o e n hb hx'
    exact ⟨sl,up b _ (neC b o e) q⟩
   ·rw [upd_ne (neD b o e)]
    exact base.free b o e n hx'
   ·obtain ⟨o',q⟩:=base.there b o e hx'
    exact ⟨o',up b o' (neC b o e) q⟩
   ·have q:=base.tups b xs e
    rw [upd_ne (ne_of_none q HD3)]; exact q
   ·have q:=base.frzs b o u e
    rw [upd_ne (ne_of_none q HD3)]; exact q
   ·obtain ⟨more,q⟩:=base.tbls b ps e
    exact ⟨more,by rw [upd_ne (ne_of_none q HD3)]; exact q⟩
   ·obtain ⟨_,g1,_,g3,g4,g5⟩:=f2 b hb
    exact ⟨g3,g1,g4,g5⟩
  ·refine noErr (thn (T.item (cxCX X xs Nb scope cl Hp2.objs.size s2 H2 fp) rfl rfl rfl hc i _ s3 _ H3 (fun _ _ => False) I3p (fpY fr3 pinD) st3 go) fun r s4 ⟨u,hr,h4⟩ => ?_)
   subst hr
   refine noErr (thn h4 fun _ s5 ⟨v,H5,I5,r5,y5,st5,fr5⟩ => ?_)
   have I5':=I5.pinned (fpY fr5 pinD) (T.obj _ _ st5)
   have stp:=step v H5 σv lv y5
   refine (thn (hg cl Hp2.objs.size s2 H2 fp ⟨_,_,I2,by omega,f2⟩ _ s5 _ H5 v u _ I5' r5 stp) fun _ s6 ⟨σ6,H6,I6,⟨pre',e6,l6⟩,stp⟩ => ?_)
   subst e6
   have again:∀ {s7 s8:Shared} {H7:Hp} {zs:List V} {ws:List Value} {m' : Nat},Inv (cxCX X xs Nb scope cl Hp2.objs.size s2 H2 fp) ([((s2.heap.objs.size:Addr),({ cls:=.type "list",data:=.seq its.toArray nn } : Obj))] ++ pinsAt fp s5.heap) (pre' ++ σ) H7 s7 →
     (∃ h',s8 = { s7 with heap:=h' }∧(∀ b o,b ≠ s2.heap.objs.size→s7.heap.get? b=some o→h'.get? b=some o)∧h'.PlainList s2.heap.objs.size ws.toArray)→Vals zs ws→zs.length ≤ sizeLine→m' < n→W (i + 1) m' zs H7 →
     ∃ m,m < n∧∃ i σv H' ys its,σv.length=xs.length∧Inv (cxCX X xs Nb scope cl Hp2.objs.size s2 H2 fp) [] (σv ++ σ) H' s8∧tn i s8.heap∧(∀ b ∈ fp,H' b=none)∧Vals ys its∧ys.length ≤ sizeLine∧s8.heap.PlainList s2.heap.objs.size its.toArray∧H' s2.heap.objs.size=none∧W i m ys H':=by
    rintro s7 s8 H7 zs ws m' I7 ⟨h',rfl,up,plw⟩ rz hzz hm w7
    have HD7:H7 s2.heap.objs.size=none:=(I7.pin _ (List.mem_append_right _ (List.mem_append_left _ List.mem_cons_self))).2.1
    have fr7:∀ b ∈ fp,H7 b=none:=fun b hb => by
     obtain ⟨o,e,d⟩:=T.obj _ _ st5 b hb
     exact (I7.pin (b,o) (List.mem_append_right _ (List.mem_append_right _ (mem_pinsAt hb e)))).2.1
    have I7' : Inv (cxCX X xs Nb scope cl Hp2.objs.size s2 H2 fp) [] (pre' ++ σ) H7 s7:=I7.pins_of fun p hp => absurd hp (by simp)
    refine ⟨m',hm,i + 1,pre',H7,zs,ws,l6,?_,?_,fr7,rz,hzz,plw,HD7,w7⟩
    ·have:=I7'.turned (it:=s2.heap.objs.size) (h':=h') (t':=s7.toks) up HD7 hDC (.inr (Nat.le_refl _)) (fun y c h1 h2 => absurd (cellLt y c h1) (by rw [h2]; exact Nat.lt_irrefl _)) (fun p hp => absurd (show p ∈ ([]:List (Addr × Obj)) from hp) (by simp))
     exact this
    ·refine T.keep _ _ _ st5 fun b hb o e => up b o (below b (fpLt b hb)).2 ?_
     exact (I7.pin (b,o) (List.mem_append_right _ (List.mem_append_right _ (mem_pinsAt hb e)))).1
   refine (thn (ht cl Hp2.objs.size s2 H2 fp ⟨_,_,I2,by omega,f2⟩ _ s6 _ H6 _ I6 stp) fun okb s7 ⟨H7,I7,q7⟩ => ?_)
   have pl7:=(I7.pin _ (List.mem_append_right _ (List.mem_append_left _ List.mem_cons_self))).1
   cases okb with
   | false =>
    rw [if_neg Bool.false_ne_true] at q7 ⊢
    obtain ⟨m',hm,w7⟩:=hNN _ _ q7
    exact again I7 ⟨s7.heap,rfl,fun _ _ _ e => e,nn,pl7⟩ rv hz hm w7
   | true =>
    rw [if_pos rfl] at q7 ⊢
    refine (thn (he cl Hp2.objs.size s2 H2 fp ⟨_,_,I2,by omega,f2⟩ _ s7 _ H7 _ I7 q7) fun w' s8 ⟨y,H8,I8,r8,q8⟩ => ?_)
    obtain ⟨m',hm,w8⟩:=hNN _ _ q8
    have pl8:=(I8.pin _ (List.mem_append_right _ (List.mem_append_left _ List.mem_cons_self))).1
    refine wpAny_list_append_plain (hsz:=by have:=rv.length; simp only [List.size_toArray]; omega) ⟨nn,pl8⟩ fun h9 pl9 sb9 => ?_
    refine again I8 ⟨h9,rfl,fun b o hb e => sb9.extBut b o hb e,?_⟩ (rv.append (.cons r8 .nil)) (by rw [List.length_append,List.length_singleton]; omega) hm w8
    have e9:its.toArray.push w' = (its ++ [w']).toArray:=by simp
    rw [← e9]
    exact pl9
 refine codeAny_compStart_list (loop _ _ rfl) (noErr (T.self _ 0 _ _ _ (T.keep _ _ _ st2 fun b _ o e => old b o e) (loop _ _ rfl)))
theorem pe_compGX {elt iter tg:Expr} {xs Nb:List Str} {ifs:List Expr} {scope:Scope} {pos:PySem.Pos} {wi:TI} {g:TG} {tt:TT} {te:TE}
  (hc:X.calm=true) (hi:PI X tg iter wi) (hlen:Nb.length=X.N.length) (hNb:∀ p ∈ Nb.zip X.N,p.1=p.2 ∨ scope.names.lookup p.1=none) (hxN:∀ y ∈ Nb,scope.names.lookup y ≠ some .local)
  (hg:InBX X xs Nb scope fun Y => PG Y tg g) (ht:InBX X xs Nb scope fun Y => PIf Y ifs tt) (he:InBX X xs Nb scope fun Y => PE Y elt te)
  (hcell:∀ y ∈ scope.names,y.2 ≠ .cell) (hkind:scope.kind = .function) (hnames:∀ y ∈ scope.names,y.2 = .local→scope.names.lookup y.1=some .local)
  (hfree:∀ y ∈ scope.names,y.2 = .free→X.env.kindOf y.1=some .cell)
  (hs:∀ x,foldedSetIterable iter X.env x=pure x:=by intro _; rfl) :
  PE X (.ListComp elt [⟨tg,iter,ifs,0⟩] scope pos) (tCompG xs.length wi g tt te):=by
 intro pins s σ H Q I h
 rw [eval_ListComp]
 exact comp_coreX (use:=none) (QQ:=EP X pins σ Q) hc hi hlen hNb hxN hg ht he hcell hkind hnames hfree hs I h fun s2 s4 H2 H4 C D m4 _ _ hn _ IX q => ⟨m4,hn,fun h' sb => ⟨.ref D,H4,IX h' sb,rfl,q⟩⟩
end
end L2
namespace L2
open PySem PySem.Spec PyProof.Rows
section
variable {X:Cx} {pins:List (Addr × Obj)} {σ:St} {H2 H' : Hp} {s2:Shared} {fp:List Addr} {C:Addr} {h1 h' B:Heap}
theorem leave_unC (I:Inv X pins σ H2 s2) (hex:X.ex=[]) (hC:s2.heap.objs.size ≤ C) (hch:∀ b ∈ fp,FpOk X pins H2 b) (u:Un (frs X.stack) fp H2 H' s2.heap h1) (hok:HOk X.prog X.w H' h1) (b1:B.StaysIn h1) (b2:B.StaysIn h')
  (sm:∀ b o,b ≠ C→h1.get? b=some o→(∀ vs,o.data ≠ .fields vs)→∃ sl,h'.get? b=some { o with slots:=sl })
  (c1:∀ b o,s2.heap.get? b=some o→b ∉ fp→b ∉ frs X.stack→∃ o',B.get? b=some o') (c2:∀ b o,H' b=some o→∃ o',B.get? b=some o') :
  Un X.fs [] X.H₀ H' X.s₀.heap h'∧HOk X.prog X.w H' h'∧∀ b o,X.s₀.heap.get? b=some o→b ∉ X.fs→∃ o',B.get? b=some o':=by
 have nex:∀ b:Addr,b ∉ X.ex:=fun b z => by rw [hex] at z; cases z
 have nfp:∀ b o,X.s₀.heap.get? b=some o→b ∉ fp:=fun b o e z => by
  rcases (hch b z).2.2.2.1 with q | q
  ·exact nex b q
  ·exact absurd (Heap.lt_size e) (Nat.not_lt.mpr q)
 have c0:∀ b o,X.s₀.heap.get? b=some o→b ∉ X.fs→∃ o',B.get? b=some o':=fun b o e hb => by
  obtain ⟨o1,e1⟩:=I.base.there b o e (nex b)
  refine c1 b o1 e1 (nfp b o e) fun z => ?_
  rcases List.mem_cons.mp (I.stkSub b z) with q | q
  ·exact absurd (Nat.lt_of_lt_of_le (Heap.lt_size e) I.ok.above) (by rw [q]; exact Nat.lt_irrefl _)
  ·exact hb q
 have J:=(I.call (g':=s2.gens) (t':=s2.toks) (d':=s2.drawn) (ch:=fp) u hok I.bare (fun b z => by obtain ⟨_,g1,_,g3,g4,g5⟩:=hch b z; exact ⟨g3,g1,g4,g5⟩)).base
 rw [hex] at J
 have same:∀ b o,h1.get? b=some o→(∃ o',B.get? b=some o')→h'.get? b=some o:=fun b o e ⟨o',q⟩ => by
  have:=b1 b o' q
  rw [e] at this
  cases this
  exact b2 b _ q
 have frm:∀ b ∈ X.fs,∀ o,h1.get? b=some o→∃ sl,h'.get? b=some { o with slots:=sl }:=fun b hb o e => by
  obtain ⟨_,o0,e0,hd⟩:=I.ok.funs.mem hb
  obtain ⟨sl,e1⟩:=J.slot b o0 e0 (I.ok.frf b hb) hb (by simp)
  have e1:h1.get? b=some _:=e1
  rw [e] at e1
  cases e1
  exact sm b _ (fun z => I.nofs hC (z ▸ hb)) e hd
 refine ⟨⟨fun b o e n hb _ => ?_,fun b o e n hb _ => ?_,J.free,fun b o e _ => ?_,J.tups,J.frzs,J.tbls⟩,fun b u' e => ?_,c0⟩
 ·exact same b o (J.keep b o e n hb (by simp)) (c0 b o e hb)
 ·obtain ⟨sl,e1⟩:=J.slot b o e n hb (by simp)
  obtain ⟨sl',e2⟩:=frm b hb _ e1
  exact ⟨sl',e2⟩
 ·obtain ⟨o1,e1⟩:=J.there b o e (by simp)
  by_cases hb:b ∈ X.fs
  ·obtain ⟨sl,e2⟩:=frm b hb _ e1
   exact ⟨_,e2⟩
  ·exact ⟨o1,same b o1 e1 (c0 b o e hb)⟩
 ·refine (hok b u' e).stay (fun c v hc r => same c v r ?_) (fun _ q => q) fun _ _ q => q
  rcases hc with rfl | hc
  ·exact c2 _ _ e
  ·exact c2 _ _ hc
end
section
variable {P:Program} {w:World} {K:PySem.W.Frag} {mg:Str→Option Value} {base:Heap} {N:List Str} {qual:Str} {scope:Scope} {f:Addr} {cd:Value} {A:Around} {outer:List Env} {s:Shared} {H:Hp} {E:XK}
set_option maxHeartbeats 4000000 in
theorem passEC {xs Nb:List Str} {sc:Scope} {cl:List (Str × Addr)} {C:Addr} {s₂:Shared} {H₂:Hp} {fp:List Addr}
  (hin:∃ (pins:List (Addr × Obj)) (σ:St),Inv (cxOf (CXE P w) P w K mg base N qual scope f cd A outer s H E) pins σ H₂ s₂∧s₂.heap.objs.size ≤ C∧(∀ b ∈ fp,FpOk (cxOf (CXE P w) P w K mg base N qual scope f cd A outer s H E) pins H₂ b)) :
  PassesX (cxCX (cxOf (CXE P w) P w K mg base N qual scope f cd A outer s H E) xs Nb sc cl C s₂ H₂ fp) (fun c _ H' => E c none H'):=by
 obtain ⟨pins2,σ2,I2,hC,hfp⟩:=hin
 rintro pins σ H1 s1 e s' I ⟨a,Cc,a0,B,H',rfl,ho,hb,un,hok,fl,c1,c2,q⟩
 generalize hX:cxOf (CXE P w) P w K mg base N qual scope f cd A outer s H E=X at *
 have hstk:X.stack=X.env :: outer:=by rw [← hX]; rfl
 have hfr:X.A.frames=some (X.env :: outer):=by rw [← hstk]; exact I2.ok.frames
 have hfrm:∃ L,X.env.frame=some L:=by rw [← hX]; exact ⟨_,rfl⟩
 obtain ⟨L,hL⟩:=hfrm
 have fl:Heap.FlyingW B (X.env :: outer) a (.ref Cc) a0 s'.heap:=hstk ▸ fl
 obtain ⟨m1,hns1,_⟩:=I.loc
 have HC1:H1 C=none:=I.free
 obtain ⟨oC,es,ep,hoC,hdC,hn'⟩:=id hns1
 have Cfs:C ∉ frs X.stack:=fun z => by
  rcases List.mem_cons.mp (I2.stkSub C z) with q' | q'
  ·exact absurd (Nat.lt_of_lt_of_le I2.lt hC) (by rw [q']; exact Nat.lt_irrefl _)
  ·exact I2.nofs hC q'
 have un' : Un (frs X.stack) [] H1 H' s1.heap s'.heap:=un
 have hC' : s'.heap.get? C=some oC:=un'.keep C oC hoC HC1 Cfs (by simp)
 have HC' : H' C=none:=un'.free C oC hoC HC1 (by simp)
 have hnC:s'.heap.Ns C m1:=⟨oC,es,ep,hC',hdC,hn'⟩
 have bse:Un (frs X.stack) fp H₂ H1 s₂.heap s1.heap:=I.base
 have uAll:Un (frs X.stack) fp H₂ H' s₂.heap s'.heap:=bse.trans (un'.mono (fun _ z => z) fun _ z => by cases z)
 show wpAny (model X.prog X.w) X.A (noteFrame (.ref a) X.env) _ _ s'
 refine wpAny_looks_onW hfr hL fl fun hA held upA => ?_
 obtain ⟨k1,k2,k3,k4⟩:=held
 refine ⟨m1,upA.ns hnC,fun hB sb cenv _ => ?_⟩
 have stB:(PySem.W.hideAll B [C]).StaysIn hB:=fun b o e => by
  have hne:b ≠ C:=fun z => by rw [z,PySem.W.hideAll_none [C] (by simp)] at e; cases e
  exact sb.extBut b o hne (k1 b o (PySem.W.of_hideAll _ e))
 have ae:(PySem.W.hideAll B [C]).get? a=none:=by
  cases z:(PySem.W.hideAll B [C]).get? a with
  | none => rfl
  | some o => have:=PySem.W.of_hideAll _ z; rw [k2] at this; cases this
 have aC:a ≠ C:=fun z => by
  obtain ⟨_,_,_,oe,vs,_,_,_,he,_,hd,_⟩:=fl
  rw [z,hC'] at he
  cases he
  rw [hdC] at hd
  cases hd
 have ffB:∀ {l:List Env} {h0:Heap},h0.FunFrames B l→(∀ b ∈ frs l,b ≠ C)→(∀ b o,b ≠ C→h0.get? b=some o→hB.get? b=some o)→hB.FunFrames (PySem.W.hideAll B [C]) l:=fun {l} => by
  induction l with
  | nil => intro _ _ _ _; trivial
  | cons env rest ih =>
   rintro h0 ⟨q1,⟨Lx,ox,q2,q3,q4,q5⟩,q6⟩ hn hk
   refine ⟨q1,⟨Lx,ox,q2,?_,hk Lx ox (hn Lx (by unfold frs; rw [List.filterMap_cons,q2]; exact List.mem_cons_self)) q4,q5⟩,ih q6 (fun b hb => hn b (by unfold frs at hb ⊢; rw [List.filterMap_cons,q2]; exact List.mem_cons_of_mem _ hb)) hk⟩
   cases z:(PySem.W.hideAll B [C]).get? Lx with
   | none => rfl
   | some o => have:=PySem.W.of_hideAll _ z; rw [q3] at this; cases this
 have kB:∀ b o,b ≠ C→hA.get? b=some o→hB.get? b=some o:=fun b o n e => sb.extBut b o n e
 have frB:=ffB k3 (fun b hb z => Cfs (by rw [hstk,← z]; exact hb)) kB
 have trB:hB.TracedAtW (PySem.W.hideAll B [C]) a (.ref Cc) a0 (rawInt L):=by
  obtain ⟨oe,vs,T,oT,ts,he,hcls,hd,h1,hnT,hTe,hT,hdT,h3⟩:=k4
  have tC:T ≠ C:=fun z => by
   obtain ⟨sl,z2⟩:=upA C oC hC' (fun vs q => by rw [hdC] at q; cases q)
   rw [z,z2] at hT
   cases hT
   have hdT:oC.data = .fields ts:=hdT
   rw [hdC] at hdT
   cases hdT
  refine ⟨oe,vs,T,oT,ts,kB a oe aC he,hcls,hd,h1,?_,hTe,kB T oT tC hT,hdT,h3⟩
  cases z:(PySem.W.hideAll B [C]).get? T with
  | none => rfl
  | some o => have:=PySem.W.of_hideAll _ z; rw [hnT] at this; cases this
 refine pass_on (s:={ s' with heap:=hB }) stB frB trB fun hD v d1 d2 d3 upD => ?_
 subst hX
 refine leave_any (s:={ s' with heap:=hD }) hfr hL d1 ae d2 d3 fun hE flE upE => ?_
 have st' : (PySem.W.hideAll B [C]).StaysIn s'.heap:=fun b o e => fl.1 b o (PySem.W.of_hideAll _ e)
 have sm:∀ b o,b ≠ C→s'.heap.get? b=some o→(∀ vs,o.data ≠ .fields vs)→∃ sl,hE.get? b=some { o with slots:=sl }:=fun b o n e hd => by
  obtain ⟨sl1,e1⟩:=upA b o e hd
  obtain ⟨sl2,e2⟩:=upD b _ (kB b _ n e1) hd
  obtain ⟨sl3,e3⟩:=upE b _ e2 hd
  exact ⟨sl3,e3⟩
 obtain ⟨u2,hok2,c0⟩:=leave_unC I2 rfl hC hfp uAll hok st' flE.1 sm (fun b o e n1 n2 => by
   obtain ⟨o1,e1⟩:=bse.there b o e n1
   obtain ⟨o2,e2⟩:=c1 b o1 e1 n2
   exact ⟨o2,PySem.W.hideAll_get _ e2 (by simp; exact Nat.ne_of_lt (Nat.lt_of_lt_of_le (Heap.lt_size e) hC))⟩) (fun b o e => by
   obtain ⟨o2,e2⟩:=c2 b o e
   exact ⟨o2,PySem.W.hideAll_get _ e2 (by simp; exact fun z => by rw [z,HC'] at e; cases e)⟩)
 exact ⟨a,Cc,a0,PySem.W.hideAll B [C],H',rfl,ho.trans I.os |>.trans I2.os,hb,u2,hok2,flE,c0,fun b o e => by
   obtain ⟨o2,e2⟩:=c2 b o e
   exact ⟨o2,PySem.W.hideAll_get _ e2 (by simp; exact fun z => by rw [z,HC'] at e; cases e)⟩,q⟩
end
end L2
namespace L2
open PySem PySem.Spec PyProof.Rows
theorem getD_of {r:List Int} {k:Nat} (h:k < r.length):r[k]? = some (r.getD k 0):=by rw [List.getD_eq_getElem?_getD,List.getElem?_eq_getElem h]; rfl
theorem int_at {r:List Int} {k:Nat} (h:k < r.length):atI (r.map V.int) (k:Int)=some (V.int (r.getD k 0)):=atI_nat (by rw [List.getElem?_map,getD_of h]; rfl)
def spFromZ:Sp:=fun vs H Q _ => ∃ i l:Int,vs=[.int i,.int l]∧Q (.bl (decide (l ≤ i))) H
def spCrossZ:Sp:=fun vs H Q _ => ∃ (q c:Addr) (t r:List Int),vs=[.ref q,.ref c]∧H q=some (.tup (t.map V.int))∧H c=some (.lst (r.map V.int))∧t.length ≤ 10∧(∀ s ∈ t,1 ≤ absI s∧r[(absI s - 1).toNat]? = some (crs r s))∧∀ l,H l=none→Q (.ref l) (upd H l (.lst ((t.map (crs r)).map V.int)))
end L2
namespace L2
open PySem PySem.Spec PyProof.Rows
def Lx (a b:List Int × Int):Prop:=∃ i p j r:Nat,a.1=[(i:Int),(p:Int)]∧b.1=[(j:Int),(r:Int)]∧(i < j ∨ (i=j∧p < r))
end L2
namespace L2
open PySem PySem.Spec PyProof.Rows
def wordsS (p:Str):List Str:=Txt.split p " "
def rowOk (p:Str):Bool:=(wordsS p).all isNum
def rowI (p:Str):List Int:=(wordsS p).map numI
def partsS (t:Str):List Str:=Txt.split t " / "
def txtOk (t:Str):Bool:=(partsS t).all rowOk
def triI (t:Str):List (List Int):=(partsS t).map rowI
theorem kit_str {K:PySem.W.Frag} : PySem.W.kitOne K (.type "str") (.type "str")=some true:=by with_unfolding_all rfl
def spPartsX (cT:Addr):Sp:=fun vs H Q E => ∃ t y:Str,vs=[.str t,.str y]∧(y.length == 0)=false∧t.length ≤ 4900∧∀ (l:Addr) (H' : Hp),Same H H'→H l=none→H' l=some (.lst ((Txt.split t y).map V.str))→Q (.ref l) H'
section
variable {K:PySem.W.Frag} {H:Hp} {Q:VK} {Z:L2.St→Hp→Prop} {E:XK} {cT cS cE:Addr}
def tPartsX (K:PySem.W.Frag) (E:XK) (cT:Addr):TS:=tSeq (tIfS (tNot (tB (tCB (fun xs H Q => ∃ x t b,xs=[x,V.ty "str"]∧TyOf K H x t∧W.kitOne K t (Value.type "str")=some b∧Q (V.bl b) H) (tCons (tVar 0) (tCons (tC (V.ty "str")) tNil))))) (tRaise E cT) tNext) (tRet (tBM K "str" (fun x vs H Q => ∃ z y,x=V.str z∧vs=[V.str y]∧(y.length == 0)=false∧z.length ≤ 100000∧∀ (l:Addr),H l=none→Q (V.ref l) (upd H l (HO.lst (List.map V.str (Txt.split z y))))) (tVar 0) (tCons (tVar 1) tNil)))
theorem parts_reads {t y:Str} (hy:(y.length == 0)=false) (tl:t.length ≤ 4900) (k:∀ (l:Addr) (H' : Hp),Same H H'→H l=none→H' l=some (.lst ((Txt.split t y).map V.str))→Q (.ref l) H'):tPartsX K E cT { nx:=Z,rt:=Q } [some (.str t),some (.str y)] H:=by
 refine ⟨_,rfl,.str t,_,_,rfl,.str _,kit_str,_,rfl,iteF ?_⟩
 exact ⟨_,rfl,rfl,_,rfl,t,y,rfl,rfl,hy,by omega,fun l hl => k l _ (Same.nw (Same.refl H) hl) hl upd_same⟩
theorem blank_ne:((" " : Str).length == 0)=false:=by decide +kernel
theorem slash_ne:((" / " : Str).length == 0)=false:=by decide +kernel
theorem words_len {m:Nat} (p:Str) (h:p.length ≤ m):(wordsS p).length ≤ m + 2∧∀ w ∈ wordsS p,w.length ≤ m:=by
 refine ⟨by have:=split_len p " "; unfold wordsS; omega,fun w hw => ?_⟩
 have:w.length ≤ p.length:=part_short hw
 omega
theorem parts_len {m:Nat} (t:Str) (h:t.length ≤ m):(partsS t).length ≤ m + 2∧∀ w ∈ partsS t,w.length ≤ m:=by
 refine ⟨by have:=split_len t " / "; unfold partsS; omega,fun w hw => ?_⟩
 have:w.length ≤ t.length:=part_short hw
 omega
def spNumX (cT:Addr):Sp:=fun vs H Q E => ∃ t:Str,vs=[.str t]∧t.length ≤ 4900∧(rowOk t=false→∀ H',Same H H'→E (.ref cT) none H')∧(rowOk t=true→∀ (l:Addr) (H' : Hp),Same H H'→H l=none→H' l=some (.lst ((rowI t).map V.int))→Q (.ref l) H')
def tNumX (K:PySem.W.Frag) (E:XK) (cT:Addr):TS:=tSeq (tAsg (tCallX (spPartsX cT) (fun c x H' => E c none H') (tCons (tVar 0) (tCons (tC (V.str (" "))) tNil))) (gName 1)) (tSeq (tIfS (tNot (tB (tCB (fun xs H_1 Q => ∃ p bs,xs=[V.ref p]∧SqL K H_1 p (List.map V.bl bs)∧Q (V.bl (bs.all id)) H_1) (tCons (tCompG 1 (iList K (tVar 1)) (gName 0) tYes (tCall spIsNum [] E0 (tCons (tVar 0) tNil))) tNil)))) (tRaise E cT) tNext) (tRet (tCompG 1 (iList K (tVar 1)) (gName 0) tYes (tCB (fun xs H Q => ∃ z n,xs=[V.str z]∧intText? z=some n∧z.length ≤ 640∧Q (V.int n) H) (tCons (tVar 0) tNil)))))
set_option maxHeartbeats 4000000 in
theorem numbers_reads {t:Str} (tl:t.length ≤ 4900) (k1:rowOk t=false→∀ H',Same H H'→E (.ref cT) none H') (k2:rowOk t=true→∀ (l:Addr) (H' : Hp),Same H H'→H l=none→H' l=some (.lst ((rowI t).map V.int))→Q (.ref l) H'):tNumX K E cT { nx:=Z,rt:=Q } [some (.str t),none] H:=by
 obtain ⟨wl,ww⟩:=words_len t tl
 refine ⟨_,rfl,t, " ",rfl,blank_ne,tl,fun p H1 s1 pf hp => ?_⟩
 have hp:H1 p=some (.lst ((wordsS t).map V.str)):=hp
 refine ⟨_,rfl,p,rfl,⟨_,SqL.of hp⟩,compLW (K:=K) (a:=p) (xs:=(wordsS t).map V.str) (fun n ys H' => Same H1 H'∧ys=(((wordsS t).take n).map isNum).map V.bl) ⟨Same.refl _,rfl⟩ (by rw [List.length_map]; omega) (fun n ys H' h => by rw [h.2,List.length_map,List.length_map,List.length_take]; exact Nat.min_le_left _ _) (fun n ys H' _ h => SqL.of (h.1 _ _ hp)) ?_ ?_⟩
 ·rintro n z ys H2 pre hpl hz ⟨s2,rfl⟩
  rw [List.getElem?_map] at hz
  cases ez:(wordsS t)[n]? with
  | none => rw [ez] at hz; cases hz
  | some w =>
   rw [ez] at hz
   cases hz
   have lw:=ww w (List.mem_of_getElem? ez)
   rcases pre with _ | ⟨q0,_ | ⟨q1,pre⟩⟩
   ·cases hpl
   ·refine ⟨⟨[some _],rfl,rfl⟩,?_⟩
    unfold tYes
    dsimp only
    rw [if_pos (rfl:true=true)]
    refine ⟨_,rfl,w,rfl,by omega,fun H3 s3 => ⟨s2.trans s3,?_⟩⟩
    rw [take_succ' ez,List.map_append,List.map_append]
    rfl
   ·cases hpl
 ·rintro ys H2 ⟨s2,rfl⟩ D hD
  rw [List.length_map,List.take_length]
  have s3:=Same.nw (o:=.lst (((wordsS t).map isNum).map V.bl)) (Same.refl H2) hD
  refine ⟨D,_,rfl,SqL.of upd_same,_,rfl,?_⟩
  have s13:=s1.trans (s2.trans s3)
  have hp3:=s3 _ _ (s2 _ _ hp)
  change if (!((wordsS t).map isNum).all id)=true then _ else _
  rw [show (((wordsS t).map isNum).all id)=rowOk t by unfold rowOk; rw [List.all_map]; rfl]
  generalize upd H2 D (.lst (((wordsS t).map isNum).map V.bl))=H3 at s13 hp3 ⊢
  cases hk:rowOk t with
  | false => exact iteT (k1 hk H3 s13)
  | true =>
   refine iteF ?_
   refine ⟨_,rfl,p,rfl,⟨_,SqL.of hp3⟩,compLW (K:=K) (a:=p) (xs:=(wordsS t).map V.str) (fun n ys H' => H3=H'∧ys=(((wordsS t).take n).map numI).map V.int) ⟨rfl,rfl⟩ (by rw [List.length_map]; omega) (fun n ys H' h => by rw [h.2,List.length_map,List.length_map,List.length_take]; exact Nat.min_le_left _ _) (fun n ys H' _ h => by rw [← h.1]; exact SqL.of hp3) ?_ ?_⟩
   ·rintro n z ys H4 pre hpl hz ⟨rfl,rfl⟩
    rw [List.getElem?_map] at hz
    cases ez:(wordsS t)[n]? with
    | none => rw [ez] at hz; cases hz
    | some w =>
     rw [ez] at hz
     cases hz
     have lw:=ww w (List.mem_of_getElem? ez)
     obtain ⟨v1,v2⟩:=num_val (w:=w) (List.all_eq_true.mp hk w (List.mem_of_getElem? ez)) (by omega)
     rcases pre with _ | ⟨q0,_ | ⟨q1,pre⟩⟩
     ·cases hpl
     ·refine ⟨⟨[some _],rfl,rfl⟩,?_⟩
      unfold tYes
      dsimp only
      rw [if_pos (rfl:true=true)]
      refine ⟨_,rfl,w,numI w,rfl,v1,by omega,rfl,?_⟩
      rw [take_succ' ez,List.map_append,List.map_append]
      rfl
     ·cases hpl
   ·rintro ys H4 ⟨rfl,rfl⟩ D2 hD2
    rw [List.length_map,List.take_length]
    exact k2 hk D2 _ (s13.trans (Same.nw (Same.refl H3) hD2)) (s13.free hD2) upd_same
def spTriX (cT:Addr):Sp:=fun vs H Q E => ∃ t:Str,vs=[.str t]∧t.length ≤ 4900∧(txtOk t=false→∀ H',Same H H'→E (.ref cT) none H')∧(txtOk t=true→∀ (l:Addr) (ys:List V) (H' : Hp),Same H H'→H l=none→H' l=some (.lst ys)→TuL H' ys (triI t)→Q (.ref l) H')
def tTriX (K:PySem.W.Frag) (E:XK) (cT:Addr):TS:=tRet (tCompG 1 (iList K (tCallX (spPartsX cT) (fun c x H' => E c none H') (tCons (tVar 0) (tCons (tC (V.str (" / "))) tNil)))) (gName 0) tYes (tCB (fun xs H Q => ∃ p ys,xs=[V.ref p]∧((SqL K H p ys∧∀ (l:Addr),H l=none→Q (V.ref l) (upd H l (HO.tup ys))) ∨ SqT K H p ys∧Q (V.ref p) H)) (tCons (tCallX (spNumX cT) (fun c x H' => E c none H') (tCons (tVar 0) tNil)) tNil)))
theorem triangles_reads {t:Str} (tl:t.length ≤ 4900) (k1:txtOk t=false→∀ H',Same H H'→E (.ref cT) none H') (k2:txtOk t=true→∀ (l:Addr) (ys:List V) (H' : Hp),Same H H'→H l=none→H' l=some (.lst ys)→TuL H' ys (triI t)→Q (.ref l) H'):tTriX K E cT { nx:=Z,rt:=Q } [some (.str t)] H:=by
 obtain ⟨wl,ww⟩:=parts_len t tl
 refine ⟨_,rfl,t, " / ",rfl,slash_ne,tl,fun p H1 s1 pf hp => ?_⟩
 have hp:H1 p=some (.lst ((partsS t).map V.str)):=hp
 refine ⟨p,rfl,⟨_,SqL.of hp⟩,compLW (K:=K) (a:=p) (xs:=(partsS t).map V.str) (fun n ys H' => Same H1 H'∧((partsS t).take n).all rowOk=true∧TuL H' ys (((partsS t).take n).map rowI)) ⟨Same.refl _,rfl,TuL.nil _⟩ (by rw [List.length_map]; omega) (fun n ys H' h => by rw [h.2.2.1,List.length_map,List.length_take]; exact Nat.min_le_left _ _) (fun n ys H' _ h => SqL.of (h.1 _ _ hp)) ?_ ?_⟩
 ·rintro n z ys H2 pre hpl hz ⟨s2,ok2,t2⟩
  rw [List.getElem?_map] at hz
  cases ez:(partsS t)[n]? with
  | none => rw [ez] at hz; cases hz
  | some w =>
   rw [ez] at hz
   cases hz
   have lw:=ww w (List.mem_of_getElem? ez)
   rcases pre with _ | ⟨q0,_ | ⟨q1,pre⟩⟩
   ·cases hpl
   ·refine ⟨⟨[some _],rfl,rfl⟩,?_⟩
    unfold tYes
    dsimp only
    rw [if_pos (rfl:true=true)]
    refine ⟨_,rfl,w,rfl,lw,fun bad H3 s3 => k1 ?_ H3 (s1.trans (s2.trans s3)),fun ok l H3 s3 lf hl => ?_⟩
    ·unfold txtOk
     cases za:(partsS t).all rowOk with
     | false => rfl
     | true => rw [List.all_eq_true.mp za w (List.mem_of_getElem? ez)] at bad; cases bad
    ·refine ⟨l,_,rfl,.inl ⟨SqL.of hl,fun q hq => ?_⟩⟩
     have s4:=Same.nw (o:=.tup ((rowI w).map V.int)) (Same.refl H3) hq
     refine ⟨s2.trans (s3.trans s4),?_,?_⟩
     ·rw [take_succ' ez,List.all_append,ok2]
      simpa using ok
     ·rw [take_succ' ez,List.map_append]
      exact TuL.snoc (t2.up (s3.trans s4).tups) upd_same
   ·cases hpl
 ·rintro ys H2 ⟨s2,ok2,t2⟩ D hD
  rw [List.length_map,List.take_length] at ok2 t2
  have s3:=Same.nw (o:=.lst ys) (Same.refl H2) hD
  exact k2 ok2 D ys _ (s1.trans (s2.trans s3)) ((s1.trans s2).free hD) upd_same (t2.up s3.tups)
def spIsSZ:Sp:=fun vs H Q _ => ∃ x d,vs=[x]∧Th H x d∧∀ H',Same H H'→Q (.bl (isS d)) H'
theorem th_tri {H:Hp} {l:Addr} {ys:List V} {S:List (List Int)} (hl:H l=some (.lst ys)) (t:TuL H ys S):Th H (.ref l) (dTs S):=.lst hl t.th.1 t.th.2
def spSheetOf (cS:Addr):Sp:=fun vs H Q E => ∃ (l:Addr) (ys:List V) (U:List (List Int)),vs=[.ref l]∧H l=some (.lst ys)∧TuL H ys U∧(isS (dTs U)=false→∀ H',Same H H'→E (.ref cS) none H')∧(isS (dTs U)=true→∀ H',Same H H'→Q (.ref l) H')
def tSheetOf (K:PySem.W.Frag) (E:XK) (cS:Addr):TS:=tSeq (tIfS (tNot (tB (tCall spIsSZ [] E0 (tCons (tVar 0) tNil)))) (tRaise E cS) tNext) (tRet (tVar 0))
theorem sheetof_reads {l:Addr} {ys:List V} {U:List (List Int)} (hl:H l=some (.lst ys)) (tU:TuL H ys U) (k1:isS (dTs U)=false→∀ H',Same H H'→E (.ref cS) none H') (k2:isS (dTs U)=true→∀ H',Same H H'→Q (.ref l) H'):tSheetOf K E cS { nx:=Z,rt:=Q } [some (.ref l)] H:=by
 refine ⟨_,rfl,.ref l,dTs U,rfl,th_tri hl tU,fun H1 s1 => ⟨_,rfl,?_⟩⟩
 cases hk:isS (dTs U) with
 | false => exact iteT (k1 hk H1 s1)
 | true => exact iteF ⟨_,rfl,k2 hk H1 s1⟩
def spReadX (cT cS:Addr):Sp:=fun vs H Q E => ∃ t:Str,vs=[.str t]∧t.length ≤ 4900∧(txtOk t=false→∀ H',Same H H'→E (.ref cT) none H')∧(txtOk t=true→isS (dTs (triI t))=false→∀ H',Same H H'→E (.ref cS) none H')∧(txtOk t=true→isS (dTs (triI t))=true→∀ (l:Addr) (ys:List V) (H' : Hp),Same H H'→H l=none→H' l=some (.lst ys)→TuL H' ys (triI t)→Q (.ref l) H')
def tReadX (K:PySem.W.Frag) (E:XK) (cT cS:Addr):TS:=tRet (tCallX (spSheetOf cS) (fun c x H' => E c none H') (tCons (tCallX (spTriX cT) (fun c x H' => E c none H') (tCons (tVar 0) tNil)) tNil))
theorem read_reads {t:Str} (tl:t.length ≤ 4900) (k1:txtOk t=false→∀ H',Same H H'→E (.ref cT) none H') (k2:txtOk t=true→isS (dTs (triI t))=false→∀ H',Same H H'→E (.ref cS) none H') (k3:txtOk t=true→isS (dTs (triI t))=true→∀ (l:Addr) (ys:List V) (H' : Hp),Same H H'→H l=none→H' l=some (.lst ys)→TuL H' ys (triI t)→Q (.ref l) H'):tReadX K E cT cS { nx:=Z,rt:=Q } [some (.str t)] H:=by
 refine ⟨_,rfl,t,rfl,tl,k1,fun ok l ys H1 s1 lf hl tl => ?_⟩
 exact ⟨l,ys,triI t,rfl,hl,tl,fun h H2 s2 => k2 ok h H2 (s1.trans s2),fun h H2 s2 => k3 ok h l ys H2 (s1.trans s2) lf (s2 _ _ hl) (tl.up s2.tups)⟩
end
end L2
namespace L2
open PySem PySem.Spec PyProof.Rows
section
variable {X:Cx}
def rNotInD (K:PySem.W.Frag):R2:=fun x y H Q => ∃ (dx:PyData) (ds:List PyData),DI K H y (.list ds)∧DI K H x dx∧PyData.canLayAll0 ds=true∧dx.canLay0=true∧PyData.depthAll ds ≤ 40∧Q (.bl (!(ds.any fun d => PyData.eqv d dx))) H
theorem op_notInD {K:PySem.W.Frag} {k:Nat} (hr:Room k X.A) (hK:X.K=K:=by rfl):OpR X (compareOp .NotIn) (rNotInD K):=by
 subst hK
 intro pins s σ H x y v v' Q I rx ry h
 obtain ⟨dx,ds,hy,hx,cy,cx,hd,q⟩:=h
 obtain ⟨as,ra⟩:=hx.reads I rx
 obtain ⟨bs,rb⟩:=hy.reads I ry
 have hu:=hr.units
 exact SeqAt.notIn_list_reads rb ra cy cx (by have:=Nat.min_le_left (PyData.depthAll ds) dx.depth; omega) ⟨.bl _,H,I,rfl,q⟩
end
end L2
namespace L2
open PySem PySem.Spec PyProof.Rows
def numT (i:Int):Str:=toString i
def rowT (ns:List Int):Str:=Str.join " " (ns.map numT)
theorem numT_len {i:Int} (h0:0 ≤ i) (h1:i ≤ 10 ^ 60):(numT i).length ≤ 80:=int_short (i:=i) (by omega) (by omega)
theorem numT_log {i:Int} (h0:0 ≤ i) (h1:i ≤ 10 ^ 60):i.natAbs.log2 < 1920:=by
 by_cases z:i=0
 ·subst z; decide
 ·refine Nat.lt_trans ((Nat.log2_lt (k:=300) (by omega)).mpr ?_) (by decide)
  have:(10:Int) ^ 60 < 2 ^ 300:=by decide +kernel
  omega
theorem join_len (sep:Str) (n:Nat):∀ {ss:List Str},(∀ x ∈ ss,x.length ≤ n)→(Str.join sep ss).length ≤ ss.length * (n + sep.length)
 | [],_ => Nat.zero_le _
 | [x],h => by
  show x.length ≤ _
  have:=h x (by simp)
  simp
  omega
 | x :: y :: r,h => by
  rw [show Str.join sep (x :: y :: r)=x ++ sep ++ Str.join sep (y :: r) from rfl,strLen_append,strLen_append]
  have h1:=h x (by simp)
  have h2:=join_len sep n (ss:=y :: r) (fun z hz => h z (by simp at hz ⊢; right; exact hz))
  have e:(x :: y :: r).length * (n + sep.length)=(y :: r).length * (n + sep.length) + (n + sep.length):=by rw [List.length_cons,Nat.succ_mul]
  omega
theorem sum_len (n:Nat):∀ {ss:List Str},(∀ x ∈ ss,x.length ≤ n)→(ss.map (·.length)).sum ≤ ss.length * n
 | [],_ => Nat.zero_le _
 | x :: r,h => by
  rw [List.map_cons,List.sum_cons,List.length_cons,Nat.succ_mul]
  have h1:=h x (by simp)
  have h2:=sum_len n (ss:=r) (fun z hz => h z (by simp [hz]))
  omega
def Sixty (ns:List Int):Prop:=∀ i ∈ ns,0 ≤ i∧i ≤ 10 ^ 60
theorem Sixty.nums {ns:List Int} (h:Sixty ns):∀ x ∈ ns.map numT,x.length ≤ 80:=fun x hx => by
 obtain ⟨i,hi,rfl⟩:=List.mem_map.mp hx
 exact numT_len (h i hi).1 (h i hi).2
theorem rowT_len {ns:List Int} (h:Sixty ns) (hl:ns.length ≤ 18):(rowT ns).length ≤ 1458:=by
 have:=join_len " " 80 h.nums
 rw [List.length_map] at this
 have e:(" " : Str).length=1:=by decide +kernel
 rw [e] at this
 exact Nat.le_trans this (by omega)
end L2
namespace L2
open PySem PySem.Spec PyProof.Rows
section
variable {K:PySem.W.Frag} {H:Hp} {Q:VK} {Z:L2.St→Hp→Prop}
def PurseZ (H:Hp) (d:Addr):Prop:=∃ a b:Int,H d=some (.lst [.int a,.int b])∧0 ≤ b∧b < 2147483648
def ButZ (d:Addr) (H H' : Hp):Prop:=∀ c o,H c=some o→c ≠ d→H' c=some o
theorem ButZ.refl (d:Addr) (H:Hp):ButZ d H H:=fun _ _ e _ => e
theorem ButZ.trans {d:Addr} {H H1 H2:Hp} (a:ButZ d H H1) (b:ButZ d H1 H2):ButZ d H H2:=fun c o e n => b c o (a c o e n) n
theorem ButZ.new {d p:Addr} {H H' : Hp} {o:HO} (a:ButZ d H H') (h:H' p=none):ButZ d H (L2.upd H' p o):=fun c u e n => by
 have:=a c u e n
 rw [upd_ne (ne_of_none this h)]; exact this
theorem ButZ.own {d p:Addr} {H H' : Hp} {o:HO} (B:ButZ d H H') (h:H p=none):ButZ d H (L2.upd H' p o):=fun c u e n => by
 rw [upd_ne (ne_of_none e h)]; exact B c u e n
theorem ButZ.same {d:Addr} {H H1 H2:Hp} (B:ButZ d H H1) (s:Same H1 H2):ButZ d H H2:=fun c o e n => s c o (B c o e n)
theorem PurseZ.new {d p:Addr} {H:Hp} {o:HO} (a:PurseZ H d) (h:H p=none):PurseZ (L2.upd H p o) d:=by
 obtain ⟨x,y,e,r⟩:=a
 exact ⟨x,y,by rw [upd_ne (ne_of_none e h)]; exact e,r⟩
theorem PurseZ.at {d p:Addr} {H:Hp} {o:HO} (a:PurseZ H d) (h:p ≠ d):PurseZ (L2.upd H p o) d:=by
 obtain ⟨x,y,e,r⟩:=a
 exact ⟨x,y,by rw [upd_ne (Ne.symm h)]; exact e,r⟩
theorem PurseZ.up {d:Addr} {H H' : Hp} (a:PurseZ H d) (s:Same H H'):PurseZ H' d:=by
 obtain ⟨x,y,e,r⟩:=a
 exact ⟨x,y,s _ _ e,r⟩
theorem PurseZ.ne {d p:Addr} {H:Hp} (a:PurseZ H d) (h:H p=none):p ≠ d:=by
 obtain ⟨x,y,e,_⟩:=a
 rintro rfl
 rw [e] at h; cases h
theorem ButZ.fr {d p:Addr} {H H' : Hp} (b:ButZ d H H') (P:PurseZ H' d) (h:H' p=none):H p=none:=by
 cases z:H p with
 | none => rfl
 | some o => rw [b p o z (P.ne h)] at h; cases h
def spTakeZ:Sp:=fun vs H Q _ => ∃ (d:Addr) (m:Int),vs=[.ref d,.int m]∧PurseZ H d∧0 < m∧m < 10 ^ 100∧∀ (r:Int) (H' : Hp),0 ≤ r→r < m→PurseZ H' d→ButZ d H H'→Q (.int r) H'
def strI (i:Int):Str:=(toString i)
theorem str18 {i:Int} (h1 : -18 ≤ i) (h2:i ≤ 18):i.natAbs.log2 < 1920∧(strI i).length ≤ 3:=by
 have key:∀ n:Fin 37,((n.val:Int) - 18).natAbs.log2 < 1920∧(strI ((n.val:Int) - 18)).length ≤ 3:=by decide +kernel
 have:=key ⟨(i + 18).toNat,by omega⟩
 rw [show (((⟨(i + 18).toNat,by omega⟩:Fin 37).val:Nat):Int) - 18=i by show ((i + 18).toNat:Int) - 18=i; omega] at this
 exact this
def tLShX (K:PySem.W.Frag):TS:=tSeq (tAsg (tOp (rI0 fun i j => V.int (i + j)) (tC (V.int 1)) (tOp (rIxL K) (tLst (tCons (tCall spTakeZ [] E0 (tCons (tVar 0) (tCons (tC (V.int 4)) tNil))) (tCons (tCall spTakeZ [] E0 (tCons (tVar 0) (tCons (tC (V.int 6)) tNil))) tNil))) (tCB (fun xs H Q => (∃ i,xs=[V.int i]∧Q (V.int i) H) ∨ ∃ k,xs=[V.bl k]∧Q (V.int (if k=true then 1 else 0)) H) (tCons (tOp rEq (tCall spTakeZ [] E0 (tCons (tVar 0) (tCons (tC (V.int 8)) tNil))) (tC (V.int 3))) tNil)))) (gName 1)) (tSeq (tAsg (tCB (fun xs H Q => ∃ p i j,xs=[V.ref p]∧H p=some (HO.rng i j)∧-1000 ≤ i∧i ≤ j∧j ≤ 1000∧∀ (l:Addr),H l=none→Q (V.ref l) (upd H l (HO.lst (List.map V.int (upto i (j - i).toNat))))) (tCons (tCB (fun xs H Q => ∃ j,xs=[V.int j]∧-(2 ^ 62) ≤ j∧j < 2 ^ 62∧∀ (p:Addr),H p=none→Q (V.ref p) (upd H p (HO.rng 0 j))) (tCons (tOp (rI CMul fun i j => V.int (i * j)) (tC (V.int 6)) (tVar 1)) tNil)) tNil)) (gName 2)) (tSeq (tAsg (tCompG 1 (iList K (tVar 2)) (gName 0) tYes (tC (V.int 0))) (gName 3)) (tSeq (tFor (iRng2 (tCons (tC (V.int 1)) (tCons (tOp (rI0 fun i j => V.int (i + j)) (tOp (rI CMul fun i j => V.int (i * j)) (tC (V.int 3)) (tVar 1)) (tC (V.int 1))) tNil))) (gName 4) (tFor (iRng1 (tCons (tC (V.int 2)) tNil)) (gName 5) (tSeq (tAsg (tBM K "list" rPopAt (tVar 2) (tCons (tCall spTakeZ [] E0 (tCons (tVar 0) (tCons (tCB (fun xs H Q => ∃ p ys,xs=[V.ref p]∧(SqL K H p ys ∨ SqT K H p ys)∧Q (V.int ys.length) H) (tCons (tVar 2) tNil)) tNil))) tNil)) (gName 6)) (tAsg (tOp (rI CMul fun i j => V.int (i * j)) (tVar 4) (tOp (rI0 fun i j => V.int (i - j)) (tC (V.int 1)) (tOp (rI CMul fun i j => V.int (i * j)) (tC (V.int 2)) (tCall spTakeZ [] E0 (tCons (tVar 0) (tCons (tC (V.int 2)) tNil)))))) (gSub (tVar 3) (tVar 6) rSetL))))) (tRet (tCompG 1 (iRng1 (tCons (tOp (rI CMul fun i j => V.int (i * j)) (tC (V.int 2)) (tVar 1)) tNil)) (gName 0) tYes (tCB (fun xs H Q => ∃ p ys,xs=[V.ref p]∧((SqL K H p ys∧∀ (l:Addr),H l=none→Q (V.ref l) (upd H l (HO.tup ys))) ∨ SqT K H p ys∧Q (V.ref p) H)) (tCons (tSl (rSlL K) (tVar 4) (tPart (tOp (rI CMul fun i j => V.int (i * j)) (tC (V.int 3)) (tVar 0))) (tPart (tOp (rI0 fun i j => V.int (i + j)) (tOp (rI CMul fun i j => V.int (i * j)) (tC (V.int 3)) (tVar 0)) (tC (V.int 3))))) tNil)))))))
theorem at_ex {α:Type} (xs:List α) {i:Int} (h0:0 ≤ i) (h1:i < (xs.length:Nat)):∃ (n:Nat) (c:α),i=(n:Int)∧xs[n]? = some c∧atI xs i=some c:=by
 have hn:i.toNat < xs.length:=by omega
 refine ⟨i.toNat,xs[i.toNat],by omega,List.getElem?_eq_getElem hn,?_⟩
 have:=atI_nat (List.getElem?_eq_getElem hn)
 rw [show ((i.toNat:Nat):Int)=i by omega] at this
 exact this
end
end L2
namespace L2
open PySem PySem.Spec PyProof.Rows
def endI (s:Int) (b:Bool):List Int:=[absI s,if decide (0 < s)=b then 1 else 0]
def mineH (p q:List Int) (hs:List (List (List Int))):List (List (List Int)):=hs.filter fun h => decide (p ∈ h) || decide (q ∈ h)
def restH (p q:List Int) (hs:List (List (List Int))):List (List (List Int)):=hs.filter fun h => !decide (h ∈ mineH p q hs)
theorem mem_mineH {p q:List Int} {hs:List (List (List Int))} {h:List (List Int)} : h ∈ mineH p q hs ↔ h ∈ hs∧(p ∈ h ∨ q ∈ h):=by
 unfold mineH
 rw [List.mem_filter,Bool.or_eq_true,decide_eq_true_eq,decide_eq_true_eq]
theorem mem_restH {p q:List Int} {hs:List (List (List Int))} {h:List (List Int)} : h ∈ restH p q hs ↔ h ∈ hs∧h ∉ mineH p q hs:=by
 unfold restH
 rw [List.mem_filter,Bool.not_eq_true',decide_eq_false_iff_not]
theorem two_filt {α:Type} {f g:List α→Bool} : ∀ {hs:List (List α)},(∀ h ∈ hs,f h=true→g h=true→False)→((hs.filter f).map List.length).sum + ((hs.filter g).map List.length).sum ≤ (hs.map List.length).sum
 | [],_ => Nat.le_refl _
 | h :: hs,k => by
  have ih:=two_filt (f:=f) (g:=g) (hs:=hs) fun x hx => k x (List.mem_cons_of_mem _ hx)
  have kh:=k h List.mem_cons_self
  rw [List.filter_cons,List.filter_cons]
  cases ef:f h <;> cases eg:g h
  ·simp only [if_neg Bool.false_ne_true,List.map_cons,List.sum_cons]; omega
  ·simp only [if_neg Bool.false_ne_true,if_pos rfl,List.map_cons,List.sum_cons]; simp; omega
  ·simp only [if_neg Bool.false_ne_true,if_pos rfl,List.map_cons,List.sum_cons]; simp; omega
  ·exact (kh ef eg).elim
structure HpI (ps:List (List Int × List Int)) (hs:List (List (List Int))):Prop where
 n:hs.length ≤ ps.length
 tot:(hs.map List.length).sum ≤ 2 * ps.length
 two:∀ h ∈ hs,∀ u ∈ h,u.length=2
 has:∀ x ∈ ps,∃ h ∈ hs,x.1 ∈ h
 ifs:∀ x ∈ ps,∀ h ∈ hs,x.1 ∈ h ↔ x.2 ∈ h
theorem HpI.nil:HpI [] []:=⟨Nat.le_refl _,Nat.le_refl _,fun h hh => (by cases hh),fun h hh => (by cases hh),fun h hh => (by cases hh)⟩
theorem flat_len {α:Type} (l:List (List α)):l.flatten.length=(l.map List.length).sum:=List.length_flatten
theorem HpI.mine {ps:List (List Int × List Int)} {hs:List (List (List Int))} (I:HpI ps hs) (p q:List Int):(mineH p q hs).flatten.length ≤ 2 * ps.length:=by
 rw [flat_len]
 have:=two_filt (f:=fun h => !decide (h ∈ mineH p q hs)) (g:=fun h => decide (p ∈ h) || decide (q ∈ h)) (hs:=hs) fun h hh e1 e2 => by
  rw [Bool.not_eq_true',decide_eq_false_iff_not] at e1
  rw [Bool.or_eq_true,decide_eq_true_eq,decide_eq_true_eq] at e2
  exact e1 (mem_mineH.mpr ⟨hh,e2⟩)
 have:=I.tot
 unfold mineH
 unfold mineH at *
 omega
theorem HpI.step {ps:List (List Int × List Int)} {hs:List (List (List Int))} {p q:List Int} {w:List (List Int)} (I:HpI ps hs) (hp:p.length=2) (hq:q.length=2) (hw:w.Perm (ddT ([p,q] ++ (mineH p q hs).flatten))):HpI (ps ++ [(p,q)]) (restH p q hs ++ [w]):=by
 have mw:∀ u,u ∈ w ↔ u=p ∨ u=q ∨ ∃ h ∈ mineH p q hs,u ∈ h:=fun u => by
  rw [hw.mem_iff,ddT_mem,List.mem_append,List.mem_flatten]
  simp only [List.mem_cons,List.not_mem_nil,or_false]
  constructor
  ·rintro ((e | e) | ⟨h,a,b⟩)
   ·exact .inl e
   ·exact .inr (.inl e)
   ·exact .inr (.inr ⟨h,a,b⟩)
  ·rintro (e | e | ⟨h,a,b⟩)
   ·exact .inl (.inl e)
   ·exact .inl (.inr e)
   ·exact .inr ⟨h,a,b⟩
 refine ⟨?_,?_,fun h hh u hu => ?_,fun x hx => ?_,fun x hx h hh => ?_⟩
 ·rw [List.length_append,List.length_append]
  have:(restH p q hs).length ≤ hs.length:=List.length_filter_le _ _
  have:=I.n
  simp only [List.length_singleton]
  omega
 ·have wl:w.length ≤ 2 + (mineH p q hs).flatten.length:=by
   rw [hw.length_eq]
   have:=ddT_len ([p,q] ++ (mineH p q hs).flatten)
   rw [List.length_append] at this
   exact this
  rw [flat_len] at wl
  have:=two_filt (f:=fun h => !decide (h ∈ mineH p q hs)) (g:=fun h => decide (p ∈ h) || decide (q ∈ h)) (hs:=hs) fun h hh e1 e2 => by
   rw [Bool.not_eq_true',decide_eq_false_iff_not] at e1
   rw [Bool.or_eq_true,decide_eq_true_eq,decide_eq_true_eq] at e2
   exact e1 (mem_mineH.mpr ⟨hh,e2⟩)
  have t:=I.tot
  rw [List.map_append,List.sum_append,List.length_append]
  simp only [List.map_cons,List.map_nil,List.sum_cons,List.sum_nil,List.length_singleton]
  have e1:restH p q hs=hs.filter fun h => !decide (h ∈ mineH p q hs):=rfl
  have e2:mineH p q hs=hs.filter fun h => decide (p ∈ h) || decide (q ∈ h):=rfl
  rw [← e1,← e2] at this
  omega
 ·rcases List.mem_append.mp hh with z | z
  ·exact I.two h (mem_restH.mp z).1 u hu
  ·rw [List.mem_singleton.mp z,mw] at hu
   rcases hu with rfl | rfl | ⟨h',a,b⟩
   ·exact hp
   ·exact hq
   ·exact I.two h' (mem_mineH.mp a).1 u b
 ·rcases List.mem_append.mp hx with z | z
  ·obtain ⟨h,a,b⟩:=I.has x z
   by_cases c:h ∈ mineH p q hs
   ·exact ⟨w,List.mem_append_right _ List.mem_cons_self,(mw _).mpr (.inr (.inr ⟨h,c,b⟩))⟩
   ·exact ⟨h,List.mem_append_left _ (mem_restH.mpr ⟨a,c⟩),b⟩
  ·rw [List.mem_singleton.mp z]
   exact ⟨w,List.mem_append_right _ List.mem_cons_self,(mw _).mpr (.inl rfl)⟩
 ·rcases List.mem_append.mp hx with z | z
  ·rcases List.mem_append.mp hh with y | y
   ·exact I.ifs x z h (mem_restH.mp y).1
   ·rw [List.mem_singleton.mp y]
    obtain ⟨h0,a0,b0⟩:=I.has x z
    have c0:=(I.ifs x z h0 a0).mp b0
    constructor
    ·intro hu
     have:∃ h ∈ mineH p q hs,x.1 ∈ h:=by
      rcases (mw _).mp hu with e | e | e
      ·exact ⟨h0,mem_mineH.mpr ⟨a0,.inl (e ▸ b0)⟩,b0⟩
      ·exact ⟨h0,mem_mineH.mpr ⟨a0,.inr (e ▸ b0)⟩,b0⟩
      ·exact e
     obtain ⟨h,a,b⟩:=this
     exact (mw _).mpr (.inr (.inr ⟨h,a,(I.ifs x z h (mem_mineH.mp a).1).mp b⟩))
    ·intro hu
     have:∃ h ∈ mineH p q hs,x.2 ∈ h:=by
      rcases (mw _).mp hu with e | e | e
      ·exact ⟨h0,mem_mineH.mpr ⟨a0,.inl (e ▸ c0)⟩,c0⟩
      ·exact ⟨h0,mem_mineH.mpr ⟨a0,.inr (e ▸ c0)⟩,c0⟩
      ·exact e
     obtain ⟨h,a,b⟩:=this
     exact (mw _).mpr (.inr (.inr ⟨h,a,(I.ifs x z h (mem_mineH.mp a).1).mpr b⟩))
  ·rw [List.mem_singleton.mp z]
   rcases List.mem_append.mp hh with y | y
   ·obtain ⟨y1,y2⟩:=mem_restH.mp y
    exact ⟨fun e => (y2 (mem_mineH.mpr ⟨y1,.inl e⟩)).elim,fun e => (y2 (mem_mineH.mpr ⟨y1,.inr e⟩)).elim⟩
   ·rw [List.mem_singleton.mp y]
    exact ⟨fun _ => (mw _).mpr (.inr (.inl rfl)),fun _ => (mw _).mpr (.inl rfl)⟩
def triP (t:List Int):List (List Int × List Int):=(List.range 3).map fun i => (endI (t.getD i 0) true,endI (t.getD ((i + 1) % 3) 0) false)
theorem triP_at {t:List Int} {i:Nat} (h:i < 3):(triP t)[i]? = some (endI (t.getD i 0) true,endI (t.getD ((i + 1) % 3) 0) false):=by
 unfold triP
 rw [List.getElem?_map,List.getElem?_range h]
 rfl
theorem ends2 {s:Int} {n:Nat} (g:List (List Int)) (h1:1 ≤ absI s) (h2:absI s ≤ (n:Int)):crs (ringR n g) s=ringE g (endI s true) + ringE g (endI s false):=by
 have e:(ringR n g)[(absI s - 1).toNat]? = some (ringE g [1 + (((absI s - 1).toNat:Nat):Int),0] + ringE g [1 + (((absI s - 1).toNat:Nat):Int),1]):=ringR_at (by omega)
 unfold crs
 rw [List.getD_eq_getElem?_getD,e]
 show _ + _=_
 rw [show 1 + (((absI s - 1).toNat:Nat):Int)=absI s by omega]
 unfold endI
 by_cases c:0 < s
 ·simp only [c,decide_true,if_pos]
  simp
  omega
 ·simp only [c,decide_false]
  simp
theorem ring_ev {S:List (List Int)} (oS:ShOk S) {g:List (List Int)} (h:∀ x ∈ S.flatMap triP,x.1 ∈ g ↔ x.2 ∈ g):EvRow S (ringR (S.length / 2 * 3) g):=by
 have rE:∀ {x y:List Int},(x ∈ g ↔ y ∈ g)→ringE g x=ringE g y:=fun {x y} q => by
  unfold ringE
  by_cases z:x ∈ g
  ·rw [if_pos z,if_pos (q.mp z)]
  ·rw [if_neg z,if_neg fun w => z (q.mpr w)]
 have nn:∀ x,0 ≤ ringE g x:=fun x => by unfold ringE; split <;> decide
 refine ⟨ringR_len _ _,fun x hx => ?_,fun a b c hm => ?_⟩
 ·obtain ⟨j,hj⟩:=List.mem_iff_getElem?.mp hx
  have jl:j < S.length / 2 * 3:=by have:=(List.getElem?_eq_some_iff.mp hj).1; rwa [ringR_len] at this
  rw [ringR_at jl] at hj
  cases hj
  have:=nn [1 + (j:Int),0]
  have:=nn [1 + (j:Int),1]
  omega
 ·have sa:=oS.side hm (i:=a) (by simp)
  have sb:=oS.side hm (i:=b) (by simp)
  have sc:=oS.side hm (i:=c) (by simp)
  rw [ends2 g sa.1 sa.2,ends2 g sb.1 sb.2,ends2 g sc.1 sc.2]
  have e1:=rE (h (endI a true,endI b false) (List.mem_flatMap.mpr ⟨_,hm,List.mem_of_getElem? (triP_at (t:=[a,b,c]) (i:=0) (by decide))⟩))
  have e2:=rE (h (endI b true,endI c false) (List.mem_flatMap.mpr ⟨_,hm,List.mem_of_getElem? (triP_at (t:=[a,b,c]) (i:=1) (by decide))⟩))
  have e3:=rE (h (endI c true,endI a false) (List.mem_flatMap.mpr ⟨_,hm,List.mem_of_getElem? (triP_at (t:=[a,b,c]) (i:=2) (by decide))⟩))
  dsimp only at e1 e2 e3
  rw [e1,e2,e3]
  have:=nn (endI a false)
  have:=nn (endI b false)
  have:=nn (endI c false)
  omega
def mulR (c:Int) (r:List Int):List Int:=r.map (c * ·)
theorem crs_mul (c:Int) (r:List Int) (s:Int):crs (mulR c r) s=c * crs r s:=by
 unfold crs mulR
 rw [List.getD_eq_getElem?_getD,List.getD_eq_getElem?_getD,List.getElem?_map]
 cases r[(absI s - 1).toNat]? with
 | none => exact (Int.mul_zero c).symm
 | some x => rfl
theorem EvRow.mul {S:List (List Int)} {r:List Int} {c:Int} (h:EvRow S r) (hc:0 ≤ c):EvRow S (mulR c r):=by
 refine ⟨by unfold mulR; rw [List.length_map,h.len],fun x hx => ?_,fun a b d hm => ?_⟩
 ·obtain ⟨y,hy,rfl⟩:=List.mem_map.mp hx
  exact Int.mul_nonneg hc (h.nn y hy)
 ·obtain ⟨p1,p2,p3,p4⟩:=h.tri a b d hm
  rw [crs_mul,crs_mul,crs_mul,← Int.mul_add,← Int.mul_add,← Int.mul_add,← Int.mul_add]
  refine ⟨?_,Int.mul_le_mul_of_nonneg_left p2 hc,Int.mul_le_mul_of_nonneg_left p3 hc,Int.mul_le_mul_of_nonneg_left p4 hc⟩
  rw [Int.mul_emod,p1,Int.mul_zero]
  rfl
theorem ev_base {S:List (List Int)} {r:List Int} {b:Int} (oS:ShOk S) (l:r.length=S.length / 2 * 3) (hb:0 ≤ b) (hr:∀ x ∈ r,∃ d,0 ≤ d∧d ≤ b∧x=2 * (b + d)):EvRow S r:=by
 refine ⟨l,fun x hx => ?_,fun a c d hm => ?_⟩
 ·obtain ⟨d,h1,h2,rfl⟩:=hr x hx
  omega
 ·have at' : ∀ s ∈ [a,c,d],∃ e,0 ≤ e∧e ≤ b∧crs r s=2 * (b + e):=fun s hs => hr _ (List.mem_of_getElem? (crs_at oS l hm hs))
  obtain ⟨x,x1,x2,x3⟩:=at' a (by simp)
  obtain ⟨y,y1,y2,y3⟩:=at' c (by simp)
  obtain ⟨z,z1,z2,z3⟩:=at' d (by simp)
  rw [x3,y3,z3]
  omega
end L2
namespace L2
open PySem PySem.Spec PyProof.Rows
def dnT (m:Nat):List Int:=(List.range m).map fun k => 1 + ((k / 2:Nat):Int)
theorem dnT_succ (m:Nat):dnT (m + 1)=dnT m ++ [1 + ((m / 2:Nat):Int)]:=by unfold dnT; rw [List.range_succ,List.map_append]; rfl
theorem dnT_pool:∀ n:Nat,(dnT (2 * n)).Perm (pool n)
 | 0 => List.Perm.refl _
 | n + 1 => by
  have ih:=dnT_pool n
  unfold pool at ih ⊢
  rw [upto_succ,show 2 * (n + 1)=2 * n + 1 + 1 by omega,dnT_succ,dnT_succ,show 2 * n / 2=n by omega,show (2 * n + 1) / 2=n by omega]
  refine ((ih.append_right _).append_right _).trans ?_
  generalize upto 1 n=A
  generalize [1 + (n:Int)]=B
  show (((A ++ A) ++ B) ++ B).Perm ((A ++ B) ++ (A ++ B))
  rw [List.append_assoc A A B,List.append_assoc A B,List.append_assoc]
  refine List.Perm.append_left A ?_
  rw [← List.append_assoc B A B]
  exact List.Perm.append_right B List.perm_append_comm
structure GnA (h m:Nat) (us vs:List Int):Prop where
 lu:us.length + m=6 * h
 au:∀ u ∈ us,0 ≤ u∧u < 6 * (h:Int)
 nd:us.Nodup
 lv:vs.length=6 * h
 z:∀ u ∈ us,vs[u.toNat]? = some 0
 pm:(vs.map absI).Perm (List.replicate (6 * h - m) 0 ++ dnT m)
theorem gen0 (h:Nat):GnA h 0 (upto 0 (6 * h)) (List.replicate (6 * h) (0:Int)):=by
 refine ⟨by rw [upto_len]; rfl,fun u hu => by have:=mem_upto.mp hu; omega,?_,List.length_replicate,fun u hu => ?_,?_⟩
 ·unfold upto
  exact List.Pairwise.map _ (fun a b (ne:a ≠ b) => by show ¬ (0 + (a:Int)=0 + (b:Int)); omega) (List.nodup_range (n:=6 * h))
 ·have:=mem_upto.mp hu
  rw [List.getElem?_replicate,if_pos (by omega)]
 ·rw [List.map_replicate]
  show (List.replicate (6 * h) (absI 0)).Perm (List.replicate (6 * h) 0 ++ [])
  rw [List.append_nil]
  exact List.Perm.refl _
theorem gen_step {h m n:Nat} {us vs:List Int} {c x:Int} (G:GnA h m us vs) (ec:us[n]? = some c) (hx:absI x=1 + ((m / 2:Nat):Int)):GnA h (m + 1) (us.eraseIdx n) (vs.set c.toNat x):=by
 have nl:n < us.length:=(List.getElem?_eq_some_iff.mp ec).1
 have mc:c ∈ us:=List.mem_of_getElem? ec
 have p1:=erase_permK ec
 have nd1:=List.nodup_cons.mp (p1.nodup_iff.mp G.nd)
 have zc:=G.z c mc
 have lu:=G.lu
 refine ⟨by rw [List.length_eraseIdx,if_pos nl]; omega,fun u hu => G.au u (List.mem_of_mem_eraseIdx hu),nd1.2,by rw [List.length_set]; exact G.lv,fun u hu => ?_,?_⟩
 ·have mu:=List.mem_of_mem_eraseIdx hu
  have ne:u ≠ c:=fun e => nd1.1 (e ▸ hu)
  have a1:=G.au u mu
  have a2:=G.au c mc
  rw [List.getElem?_set,if_neg (by omega)]
  exact G.z u mu
 ·have il:c.toNat < vs.length:=(List.getElem?_eq_some_iff.mp zc).1
  have s1:=erase_permK (l:=vs.set c.toNat x) (k:=c.toNat) (y:=x) (by rw [List.getElem?_set,if_pos rfl,if_pos il])
  rw [List.eraseIdx_set_eq] at s1
  have s0:=(erase_permK zc).map absI
  have k1:6 * h - m=(6 * h - (m + 1)) + 1:=by omega
  have pm:=s0.symm.trans G.pm
  rw [k1,List.replicate_succ] at pm
  have pm2:((vs.eraseIdx c.toNat).map absI).Perm (List.replicate (6 * h - (m + 1)) 0 ++ dnT m):=List.Perm.cons_inv pm
  refine (s1.map absI).trans ?_
  rw [List.map_cons,hx,dnT_succ,← List.append_assoc]
  exact (pm2.cons _).trans (List.perm_append_singleton _ _).symm
theorem gen_ok {h:Nat} {us vs:List Int} (h1:1 ≤ h) (h6:h ≤ 6) (G:GnA h (6 * h) us vs):ShOk ((List.range (2 * h)).map fun k => (vs.drop (3 * k)).take 3):=by
 refine ⟨⟨h,by rw [List.length_map,List.length_range],h1,h6⟩,fun t ht => ?_,?_⟩
 ·obtain ⟨k,hk,rfl⟩:=List.mem_map.mp ht
  have:=List.mem_range.mp hk
  have:=G.lv
  rw [List.length_take,List.length_drop]; omega
 ·rw [chunks,List.length_map,List.length_range,show 3 * (2 * h)=vs.length by rw [G.lv]; omega,List.take_length,show 2 * h / 2 * 3=3 * h by omega]
  have:=G.pm
  rw [show 6 * h - 6 * h=0 by omega] at this
  refine this.trans ?_
  show (dnT (6 * h)).Perm _
  rw [show 6 * h=2 * (3 * h) by omega]
  exact dnT_pool (3 * h)
section
variable {K:PySem.W.Frag} {H:Hp} {Q:VK} {Z:L2.St→Hp→Prop}
def spShO:Sp:=fun vs H Q _ => ∃ d:Addr,vs=[.ref d]∧PurseZ H d∧∀ (l:Addr) (ys:List V) (U:List (List Int)) (H' : Hp),ButZ d H H'→PurseZ H' d→H' l=some (.lst ys)→TuL H' ys U→ShOk U→Q (.ref l) H'
structure GenO (d:Addr) (H:Hp) (h m:Nat) (a b:Addr) (H' : Hp):Prop where
 bu:ButZ d H H'
 pu:PurseZ H' d
 ex:∃ us vs:List Int,H' a=some (.lst (us.map V.int))∧H' b=some (.lst (vs.map V.int))∧GnA h m us vs
set_option maxHeartbeats 8000000 in
theorem shO_reads {d:Addr} (P:PurseZ H d) (k:∀ (l:Addr) (ys:List V) (U:List (List Int)) (H' : Hp),ButZ d H H'→PurseZ H' d→H' l=some (.lst ys)→TuL H' ys U→ShOk U→Q (.ref l) H'):tLShX K { nx:=Z,rt:=Q } [some (.ref d),none,none,none,none,none,none] H:=by
 refine ⟨_,rfl,d,4,rfl,P,by decide,by decide,fun r1 H1 a1 b1 P1 B1 => ?_⟩
 refine ⟨_,rfl,d,6,rfl,P1,by decide,by decide,fun r2 H2 a2 b2 P2 B2 => ⟨(by show 2 ≤ sizeLine; decide),fun p hp => ?_⟩⟩
 have P2':=P2.new (o:=.lst [.int r1,.int r2]) hp
 have f2:(upd H2 p (.lst [.int r1,.int r2])) p=some (.lst [.int r1,.int r2]):=upd_same
 have B2':=(B1.trans B2).new (o:=.lst [.int r1,.int r2]) hp
 have np:=P2.ne hp
 refine ⟨_,rfl,d,8,rfl,P2',by decide,by decide,fun r3 H3 a3 b3 P3 B3 => ⟨rfl,.inr ⟨_,rfl,?_⟩⟩⟩
 have B13:=B2'.trans B3
 have f3:=B3 _ _ f2 np
 have hex:∃ h:Nat,1 ≤ h∧h ≤ 6∧∃ i:Int,atI [V.int r1,V.int r2] (if decide (V.int r3=V.int 3)=true then 1 else 0)=some (.int i)∧1 + i=(h:Int):=by
  by_cases e:decide (V.int r3=V.int 3)=true
  ·rw [if_pos e]
   exact ⟨(1 + r2).toNat,by omega,by omega,r2,rfl,by omega⟩
  ·rw [if_neg e]
   exact ⟨(1 + r1).toNat,by omega,by omega,r1,rfl,by omega⟩
 obtain ⟨h,h1,h6,i,ei,eh⟩:=hex
 refine ⟨p,_,_,.int i,rfl,rfl,SqL.of f3,ei,1,i,rfl,rfl,?_⟩
 dsimp only [gName]
 rw [eh]
 refine ⟨_,rfl,6,(h:Int),rfl,rfl,.inl ⟨by decide,by decide⟩,_,rfl,by omega,by omega,fun g hg => ?_⟩
 have P4:=P3.new (o:=.rng 0 (6 * (h:Int))) hg
 have B4:=B13.new (o:=.rng 0 (6 * (h:Int))) hg
 have f4:(upd H3 g (.rng 0 (6 * (h:Int)))) g=some (.rng 0 (6 * (h:Int))):=upd_same
 generalize upd H3 g (.rng 0 (6 * (h:Int)))=H4 at P4 B4 f4 ⊢
 refine ⟨g,_,_,rfl,f4,by omega,by omega,by omega,fun a ha => ?_⟩
 rw [show (6 * (h:Int) - 0).toNat=6 * h by omega]
 have P5:=P4.new (o:=.lst ((upto 0 (6 * h)).map V.int)) ha
 have B5:=B4.new (o:=.lst ((upto 0 (6 * h)).map V.int)) ha
 have f5:(upd H4 a (.lst ((upto 0 (6 * h)).map V.int))) a=some (.lst ((upto 0 (6 * h)).map V.int)):=upd_same
 have ha0:=B4.fr P4 ha
 have hna:=P4.ne ha
 dsimp only [gName]
 generalize upd H4 a (.lst ((upto 0 (6 * h)).map V.int))=H5 at P5 B5 f5 ⊢
 have lu:(upto 0 (6 * h)).length=6 * h:=upto_len _ _
 refine ⟨_,rfl,a,rfl,⟨_,SqL.of f5⟩,compL (K:=K) (a:=a) (xs:=(upto 0 (6 * h)).map V.int) (fun m zs H' => zs=(List.replicate m (0:Int)).map V.int∧H5=H') ⟨rfl,rfl⟩ (by rw [List.length_map,lu]; omega) (fun m zs H' h => by rw [h.1,List.length_map,List.length_replicate]; exact Nat.le_refl _) (fun m zs H' _ h => by rw [← h.2]; exact SqL.of f5) ?_ ?_⟩
 ·rintro n z zs H4 pre hpl hz ⟨rfl,rfl⟩
  rcases pre with _ | ⟨q0,_ | ⟨q1,pre⟩⟩
  ·cases hpl
  ·refine ⟨⟨[some _],rfl,rfl⟩,?_⟩
   unfold tYes
   dsimp only
   rw [if_pos (rfl:true=true)]
   refine ⟨?_,rfl⟩
   rw [List.replicate_succ',List.map_append]
   rfl
  ·cases hpl
 rintro zs H6 ⟨rfl,rfl⟩ b hb
 rw [List.length_map,lu]
 have P6:=P5.new (o:=.lst ((List.replicate (6 * h) (0:Int)).map V.int)) hb
 have B6:=B5.new (o:=.lst ((List.replicate (6 * h) (0:Int)).map V.int)) hb
 have f6:(upd H5 b (.lst ((List.replicate (6 * h) (0:Int)).map V.int))) b=some (.lst ((List.replicate (6 * h) (0:Int)).map V.int)):=upd_same
 have fa6:(upd H5 b (.lst ((List.replicate (6 * h) (0:Int)).map V.int))) a=some (.lst ((upto 0 (6 * h)).map V.int)):=by rw [upd_ne (ne_of_none f5 hb)]; exact f5
 have hb0:=B5.fr P5 hb
 have hnb:=P5.ne hb
 have nab:a ≠ b:=ne_of_none f5 hb
 dsimp only [gName]
 generalize upd H5 b (.lst ((List.replicate (6 * h) (0:Int)).map V.int))=H6 at P6 B6 f6 fa6 ⊢
 have g0:GenO d H h 0 a b H6:=⟨B6,P6,_,_,fa6,f6,gen0 h⟩
 refine ⟨_,rfl,3,(h:Int),rfl,rfl,.inl ⟨by decide,by decide⟩,_,_,rfl,rfl,_,_,rfl,⟨by decide,by decide,by omega,by omega⟩,?_⟩
 rw [show (3 * (h:Int) + 1 - 1).toNat=3 * h by omega]
 refine for_range (fun i σ H' => ∃ x4 x5 x6:Option V,σ=[some (.ref d),some (.int (h:Int)),some (.ref a),some (.ref b),x4,x5,x6]∧GenO d H h (2 * i) a b H') ⟨_,_,_,rfl,g0⟩ ?_ ?_
 ·rintro i σ H7 hi ⟨x4,x5,x6,rfl,g7⟩
  dsimp only [gName]
  refine ⟨_,rfl,by decide,by decide,for_range (fun j σ H' => ∃ x5 x6:Option V,σ=[some (.ref d),some (.int (h:Int)),some (.ref a),some (.ref b),some (.int (1 + (i:Int))),x5,x6]∧GenO d H h (2 * i + j) a b H') ⟨_,_,rfl,g7⟩ ?_ fun σ H' h => ?_⟩
  ·rintro j σ H8 hj ⟨x5,x6,rfl,B8,P8,us,vs,fu,fv,G8⟩
   dsimp only [gName]
   have hj:j < 2:=hj
   have lu8:=G8.lu
   have au:=G8.au
   have lv8:=G8.lv
   refine ⟨_,rfl,.inl ⟨rfl,_,SqL.of fu⟩,_,rfl,_,rfl,a,_,rfl,.inl (SqL.of fu),d,_,rfl,P8,by rw [List.length_map]; omega,Int.lt_of_lt_of_le (show _ < (1000:Int) by rw [List.length_map]; omega) (by decide),fun r H9 r0 rm P9 B9 => ?_⟩
   rw [List.length_map] at rm
   obtain ⟨n,c,en,ec,_⟩:=at_ex us r0 rm
   have nl:n < us.length:=(List.getElem?_eq_some_iff.mp ec).1
   have fu9:=B9 _ _ fu hna
   have fv9:=B9 _ _ fv hnb
   refine ⟨a,_,r,n,.int c,rfl,rfl,fu9,by omega,by omega,by rw [seqIndex_of r0 (by rw [List.length_map]; exact rm)]; congr 1; omega,by rw [List.getElem?_map,ec]; rfl,?_⟩
   have hc:=au c (List.mem_of_getElem? ec)
   have P10:=P9.at (o:=.lst ((us.map V.int).eraseIdx n)) hna
   have B10:=(B8.trans B9).own (o:=.lst ((us.map V.int).eraseIdx n)) ha0
   have fu10:(upd H9 a (.lst ((us.map V.int).eraseIdx n))) a=some (.lst ((us.map V.int).eraseIdx n)):=upd_same
   have fv10:(upd H9 a (.lst ((us.map V.int).eraseIdx n))) b=_:=(upd_ne (Ne.symm nab)).trans fv9
   generalize upd H9 a (.lst ((us.map V.int).eraseIdx n))=H10 at P10 B10 fu10 fv10 ⊢
   dsimp only [gName]
   refine ⟨_,rfl,_,rfl,d,2,rfl,P10,by decide,by decide,fun r' H11 r0' rm' P11 B11 => ?_⟩
   have fu11:=B11 _ _ fu10 hna
   have fv11:=B11 _ _ fv10 hnb
   refine ⟨2,r',rfl,rfl,.inl ⟨by decide,by decide⟩,1,_,rfl,rfl,_,_,rfl,rfl,.inr ⟨by omega,by omega⟩,_,rfl,_,rfl,?_⟩
   refine ⟨b,_,c,c.toNat,rfl,rfl,fv11,?_,?_⟩
   ·rw [List.length_map]
    have:=ixN_nat (n:=vs.length) (j:=c.toNat) (by omega)
    rw [show ((c.toNat:Nat):Int)=c by omega] at this
    exact this
   refine ⟨_,_,rfl,(B10.trans B11).own hb0,P11.at hnb,us.eraseIdx n,vs.set c.toNat ((1 + (i:Int)) * (1 - 2 * r')),?_,?_,?_⟩
   ·rw [upd_ne nab,fu11,map_erase]
   ·rw [upd_same,List.map_set]
   ·refine gen_step G8 ec ?_
    show _=1 + (((2 * i + j) / 2:Nat):Int)
    rw [show (2 * i + j) / 2=i by omega]
    have:r' = 0 ∨ r' = 1:=by omega
    unfold absI
    rcases this with rfl | rfl
    ·rw [if_neg (by omega)]; omega
    ·rw [if_pos (by omega)]; omega
  ·obtain ⟨x5,x6,rfl,g⟩:=h
   exact ⟨_,_,_,rfl,by rw [show 2 * (i + 1)=2 * i + (2:Int).toNat from rfl]; exact g⟩
 ·rintro σ H7 ⟨x4,x5,x6,rfl,B7,P7,us,vs,_,fv,G7⟩
  have lv:=G7.lv
  refine ⟨_,rfl,2,(h:Int),rfl,rfl,.inl ⟨by decide,by decide⟩,_,rfl,by omega,by omega,?_⟩
  rw [show (2 * (h:Int)).toNat=2 * h by omega]
  refine compR (fun n zs H' => Same H7 H'∧TuL H' zs ((List.range n).map fun k => (vs.drop (3 * k)).take 3)) ⟨Same.refl _,TuL.nil _⟩ (by omega) (fun i ys H' h => by rw [h.2.1,List.length_map,List.length_range]; exact Nat.le_refl _) ?_ ?_
  ·rintro i zs H8 pre hpl hi ⟨s8,t8⟩
   rcases pre with _ | ⟨q0,_ | ⟨q1,pre⟩⟩
   ·cases hpl
   ·refine ⟨⟨[some _],rfl,rfl⟩,?_⟩
    unfold tYes
    dsimp only
    rw [if_pos (rfl:true=true)]
    refine ⟨_,rfl,_,rfl,3,(i:Int),rfl,by rw [Int.zero_add],.inl ⟨by decide,by decide⟩,_,rfl,_,rfl,3,(i:Int),rfl,by rw [Int.zero_add],.inl ⟨by decide,by decide⟩,_,_,rfl,rfl,_,rfl,b,_,rfl,SqL.of (s8 _ _ fv),fun q hq => ?_⟩
    have ecut:cutV (vs.map V.int) (some (3 * (i:Int))) (some (3 * (i:Int) + 3))=((vs.drop (3 * i)).take 3).map V.int:=by
     have:=HT.sIx_nat (vs.map V.int).length 0 (3 * i)
     have e1:HT.sIx (vs.map V.int).length 0 (some (3 * (i:Int)))=3 * i:=by
      rw [show (3 * (i:Int))=((3 * i:Nat):Int) by omega,HT.sIx_nat,List.length_map]; omega
     have e2:HT.sIx (vs.map V.int).length (vs.map V.int).length (some (3 * (i:Int) + 3))=3 * i + 3:=by
      rw [show (3 * (i:Int) + 3)=((3 * i + 3:Nat):Int) by omega,HT.sIx_nat,List.length_map]; omega
     unfold cutV
     rw [e1,e2,List.map_take,List.map_drop,show 3 * i + 3 - 3 * i=3 by omega]
    rw [ecut]
    have s9:=Same.nw (o:=.lst (((vs.drop (3 * i)).take 3).map V.int)) (Same.refl H8) hq
    have f9:(upd H8 q (.lst (((vs.drop (3 * i)).take 3).map V.int))) q=some (.lst (((vs.drop (3 * i)).take 3).map V.int)):=upd_same
    dsimp only [tNil]
    generalize upd H8 q (.lst (((vs.drop (3 * i)).take 3).map V.int))=H9 at s9 f9 ⊢
    refine ⟨q,_,rfl,.inl ⟨SqL.of f9,fun q' hq' => ?_⟩⟩
    have s10:=Same.nw (o:=.tup (((vs.drop (3 * i)).take 3).map V.int)) (Same.refl H9) hq'
    refine ⟨s8.trans (s9.trans s10),?_⟩
    rw [List.range_succ,List.map_append]
    exact TuL.snoc (t8.up (s9.trans s10).tups) upd_same
   ·cases hpl
  ·rintro zs H8 ⟨s8,t8⟩ D hD
   have s9:=Same.nw (o:=.lst zs) (Same.refl H8) hD
   exact k D zs _ _ (B7.same (s8.trans s9)) (P7.up (s8.trans s9)) upd_same (t8.up s9.tups) (gen_ok h1 h6 (show GnA h (6 * h) us vs by rw [show 6 * h=2 * (3 * h) by omega]; exact G7))
end
end L2
namespace L2
open PySem PySem.Spec PyProof.Rows
section
variable {K:PySem.W.Frag} {H:Hp} {Q:VK} {Z:L2.St→Hp→Prop}
theorem iteN {p:Bool} {A B:Prop} (h:p=false) (b:B):if p=true then A else B:=by rw [if_neg (by rw [h]; decide)]; exact b
end
end L2
namespace L2
open PySem PySem.Spec PyProof.Rows
section
variable {K:PySem.W.Frag} {H:Hp} {Q:VK} {Z:L2.St→Hp→Prop}
def spPurseZ (K:PySem.W.Frag):Sp:=fun vs H Q _ => ∃ (a:Addr) (ns:List Int) (k:Int),vs=[.ref a,.int k]∧SqL K H a (ns.map V.int)∧0 ≤ k∧k ≤ 1000∧∀ (d:Addr) (H' : Hp),H d=none→PurseZ H' d→Same H H'→Q (.ref d) H'
end
end L2
namespace L2
open PySem PySem.Spec PyProof.Rows
theorem lookup_relabel_cellX {env:Env} {x:Str} (hk:env.scope.kind = .function) (hx:env.kindOf x=some .cell):∀ {names:List (Str × NameKind)},names.lookup x=some .free→(names.map fun (n,k) => if (k == NameKind.free && env.scope.kind == .function && env.kindOf n == some .cell) then (n,NameKind.cell) else (n,k)).lookup x=some .cell
 | [],h => by cases h
 | (n,k) :: ns,h => by
  rw [List.map_cons]
  by_cases e:x == n
  ·have e' : x=n:=by simpa using e
   subst e'
   rw [List.lookup_cons,e] at h
   have hk' : k = .free:=Option.some.inj h
   subst hk'
   have hb:(NameKind.free == NameKind.free && env.scope.kind == .function && env.kindOf x == some .cell)=true:=by rw [hk,hx]; rfl
   show List.lookup x ((if (NameKind.free == NameKind.free && env.scope.kind == .function && env.kindOf x == some .cell) then (x,NameKind.cell) else (x,NameKind.free)) :: _)=_
   rw [if_pos hb,List.lookup_cons,e]
  ·have e1:(x == n)=false:=by simpa using e
   rw [List.lookup_cons,e1] at h
   have ih:=lookup_relabel_cellX hk hx h
   show List.lookup x ((if (k == NameKind.free && env.scope.kind == .function && env.kindOf n == some .cell) then (n,NameKind.cell) else (n,k)) :: _)=_
   split
   ·rw [List.lookup_cons,e1]; exact ih
   ·rw [List.lookup_cons,e1]; exact ih
end L2
set_option maxHeartbeats 4000000
namespace L2
open PySem PySem.Spec PyProof.Rows
section
variable {X:Cx}
def cxD (X:Cx) (x:Str) (xs Nb:List Str) (scope:Scope) (cl:List (Str × Addr)) (C:Addr) (s₂:Shared) (H₂:Hp) (fp:List Addr):Cx :=
 { X with N:=xs ++ Nb,s₀:=s₂,H₀:=H₂,env:=compEnvC scope ((x,C + 1) :: cl) C X.env,outer:=X.stack,stack:=X.stack,ex:=fp,fn:=fun y => y == x,pn:=[],xe:=fun _ _ => False }
def InD (X:Cx) (x:Str) (xs Nb:List Str) (scope:Scope) (φ:Cx→Prop):Prop:=∀ (cl:List (Str × Addr)) (C:Addr) (s₂:Shared) (H₂:Hp) (fp:List Addr),φ (cxD X x xs Nb scope cl C s₂ H₂ fp)
theorem lkD {x y:Str} {d c:Addr} {cl:List (Str × Addr)} (h:List.lookup y ((x,d) :: cl)=some c):(y=x∧c=d) ∨ cl.lookup y=some c:=by
 rw [List.lookup_cons] at h
 cases z:y == x with
 | true => rw [z] at h; exact .inl ⟨eq_of_beq z,(Option.some.inj h).symm⟩
 | false => rw [z] at h; exact .inr h
theorem lkD_ex {x y:Str} {d:Addr} {cl:List (Str × Addr)} (h:y=x ∨ ∃ c,cl.lookup y=some c):∃ c,List.lookup y ((x,d) :: cl)=some c:=by
 rw [List.lookup_cons]
 cases z:y == x with
 | true => exact ⟨_,rfl⟩
 | false =>
  rcases h with h | h
  ·rw [h,beq_self_eq_true] at z; cases z
  ·exact h
theorem relabel_kindD {names:List (Str × NameKind)} {env:Env} {x:Str} {k:NameKind} (h:(names.map fun (n,k) => if (k == NameKind.free && env.scope.kind == .function && env.kindOf n == some .cell) then (n,NameKind.cell) else (n,k)).lookup x=some k) :
  (k = .cell ∨ k = .free)→names.lookup x=some .free ∨ names.lookup x=some .cell:=by
 induction names with
 | nil => cases h
 | cons p r ih =>
  obtain ⟨n,k0⟩:=p
  intro hk
  have h:List.lookup x ((if (k0 == NameKind.free && env.scope.kind == .function && env.kindOf n == some .cell)=true then (n,NameKind.cell) else (n,k0)) :: _)=some k:=h
  by_cases c:(k0 == NameKind.free && env.scope.kind == .function && env.kindOf n == some .cell)=true
  ·rw [if_pos c] at h
   rw [List.lookup_cons] at h ⊢
   cases z:x == n with
   | true =>
    simp only [Bool.and_eq_true,beq_iff_eq] at c
    exact .inl (by rw [c.1.1])
   | false => rw [z] at h; exact ih h hk
  ·rw [if_neg c] at h
   rw [List.lookup_cons] at h ⊢
   cases z:x == n with
   | true =>
    rw [z] at h
    have e:k0=k:=Option.some.inj h
    subst e
    rcases hk with rfl | rfl
    ·exact .inr rfl
    ·exact .inl rfl
   | false => rw [z] at h; exact ih h hk
theorem lookup_relabel_own {env:Env} : ∀ {names:List (Str × NameKind)} {x:Str},names.lookup x=some .cell →
  (names.map fun (n,k) => if (k == NameKind.free && env.scope.kind == .function && env.kindOf n == some .cell) then (n,NameKind.cell) else (n,k)).lookup x=some .cell
 | [],_,h => by cases h
 | (n,k) :: r,x,h => by
  have ih:=@lookup_relabel_own env r x
  show List.lookup x ((if (k == NameKind.free && env.scope.kind == .function && env.kindOf n == some .cell)=true then (n,NameKind.cell) else (n,k)) :: _)=_
  rw [List.lookup_cons] at h
  cases hx:x == n with
  | true =>
   rw [hx] at h
   cases h
   simp [List.lookup_cons,hx]
  | false =>
   rw [hx] at h
   by_cases hc:(k == NameKind.free && env.scope.kind == .function && env.kindOf n == some .cell)=true
   ·rw [if_pos hc]; rw [List.lookup_cons,hx]; exact ih h
   ·rw [if_neg hc]; rw [List.lookup_cons,hx]; exact ih h
theorem wpAny_newEnvD {M:Model} {A:Around} {E:Value→Shared→Prop} {s:Shared} {x:Str} {scope:Scope} {globals:Addr} {cl:List (Str × Addr)} {qual:Str} {env:Env} {Q:Env→Shared→Prop}
  (hcs:∀ n acc,cellsFrom n scope.names acc=(x,n) :: acc) (hps:∀ h,pushCells h scope.names=h.push { cls:=.type "cell",data:=.cell none })
  (h:∀ h₁:Heap,h₁.Ns s.heap.objs.size (fun _ => none)→h₁.IsCell (s.heap.objs.size + 1) none→(∀ b o,s.heap.get? b=some o→h₁.get? b=some o) →
   Q { scope:=scope,locals:=s.heap.objs.size,globals:=globals,cells:=(x,s.heap.objs.size + 1) :: cl,qual:=qual,func:=none,code:=env.code,frame:=env.frame,builtins:=env.builtins } { s with heap:=h₁ }) :
  wpAny M A (newFunctionEnv scope globals cl [] qual none .none (some env)) Q E s:=by
 simp only [newFunctionEnv,Option.isSome_some,if_true]
 refine wpAny_bind (wpAny_alloc ?_)
 refine wpAny_bind (wpAny_layCells _ (fun name kind cells => by cases hkc:kind == NameKind.cell <;> simp [hkc]) _ _ _ _ ?_)
 rw [hcs,hps]
 have sz:({ s with heap:=s.heap.push { cls:=.type "dict",data:=.dict #[] } } : Shared).heap.objs.size=s.heap.objs.size + 1:=Heap.size_push ..
 rw [sz]
 rw [List.forIn_nil]
 refine wpAny_bind (wpAny_pure (wpAny_pure ?_))
 have kp:∀ b o,(s.heap.push { cls:=.type "dict",data:=.dict #[] }).get? b=some o→((s.heap.push { cls:=.type "dict",data:=.dict #[] }).push { cls:=.type "cell",data:=.cell none }).get? b=some o:=fun b o e => Heap.get?_push_of_some _ e
 refine h _ ((Heap.Ns.new s.heap (.type "dict")).keeps kp) ⟨{ cls:=.type "cell",data:=.cell none },?_,rfl⟩ fun b o e => kp b o (Heap.get?_push_of_some _ e)
 have:=Heap.get?_push_size (s.heap.push { cls:=.type "dict",data:=.dict #[] }) (o:={ cls:=.type "cell",data:=.cell none }) rfl
 rw [Heap.size_push] at this
 exact this
theorem comp_coreD {elt iter tg:Expr} {x:Str} {xs Nb:List Str} {ifs:List Expr} {scope:Scope} {pos:PySem.Pos} {wi:TI} {g:TG} {tt:TT} {te:TE}
  (hc:X.calm=true) (hi:PI X tg iter wi) (hlen:Nb.length=X.N.length) (hNb:∀ p ∈ Nb.zip X.N,p.1=p.2 ∨ scope.names.lookup p.1=none) (hxN:∀ y ∈ Nb,scope.names.lookup y ≠ some .local∧scope.names.lookup y ≠ some .cell)
  (hg:InD X x xs Nb scope fun Y => PG Y tg g) (ht:InD X x xs Nb scope fun Y => PIf Y ifs tt) (he:InD X x xs Nb scope fun Y => PE Y elt te)
  (hcs:∀ n acc,cellsFrom n scope.names acc=(x,n) :: acc) (hps:∀ h,pushCells h scope.names=h.push { cls:=.type "cell",data:=.cell none }) (hcx:∀ y ∈ scope.names,y.2 = .cell→y.1=x) (hxc:scope.names.lookup x=some .cell) (hkind:scope.kind = .function) (hnames:∀ y ∈ scope.names,y.2 = .local→scope.names.lookup y.1=some .local)
  (hfree:∀ y ∈ scope.names,y.2 = .free→X.env.kindOf y.1=some .cell)
  (hs:∀ x,foldedSetIterable iter X.env x=pure x) {pos2:PySem.Pos} {use:Option (Value→Sem Unit)} {QQ:Value→Shared→Prop} {pins:List (Addr × Obj)} {s:Shared} {σ:St} {H:Hp} {Q:VK} (I:Inv X pins σ H s) (h:tCompG xs.length wi g tt te σ H Q)
  (post:∀ (s2 s4:Shared) (H2 H4:Hp) (C D:Addr) (m4:Str→Option Value),Inv X pins σ H2 s2→s2.heap.objs.size ≤ C→s4.heap.Ns C m4→H4 C=none→(∀ h',Heap.SameBut C s4.heap h'→Inv X pins σ H4 { s4 with heap:=h' })→Q (.ref D) H4→compPost (model X.prog X.w) X.A X.xe use QQ (.ref D) C (.ok .next) s4) :
  wpAny (model X.prog X.w) X.A (comprehension (.ListComp elt [⟨tg,iter,ifs,0⟩] scope pos) scope X.env pos2 (newList []) false (eval iter X.env) use) QQ X.xe s:=by
 obtain ⟨cl,hcl,cl1,cl2⟩:=clos_ok (scope:=scope) (env:=X.env) (fun y hy hf => I.ok.has y.1 (.inl (hfree y hy hf)))
 refine wpAny_comprehension_free rfl hs hcl hkind hnames (thn (hi pins s σ H _ I h) fun v s1 h1 => thn h1 fun itv s2 h2 => ?_)
 obtain ⟨it,fp,tn,J,H2,e,I2,T,st2,f2,W,⟨m0,w0⟩,turn⟩:=h2
 subst e
 refine wpAny_newObj_type (wpAny_newEnvD hcs hps fun h₁ hns₁ hcl₁ hkp₁ => ?_)
 dsimp only at hns₁ hcl₁ hkp₁ ⊢
 generalize hHp:s2.heap.push { cls:=.type "list",dict:=none,data:=.seq ([]:List Value).toArray } = Hp2 at hns₁ hcl₁ hkp₁ ⊢
 have hC:Hp2.objs.size=s2.heap.objs.size + 1:=by rw [← hHp,Heap.size_push]
 have hDC:s2.heap.objs.size ≠ Hp2.objs.size:=by rw [hC]; exact Nat.ne_of_lt (Nat.lt_succ_self _)
 have below:∀ b,b < s2.heap.objs.size→b ≠ Hp2.objs.size∧b ≠ s2.heap.objs.size:=fun b hb => ⟨by rw [hC]; exact Nat.ne_of_lt (Nat.lt_succ_of_lt hb),Nat.ne_of_lt hb⟩
 have old:∀ b o,s2.heap.get? b=some o→h₁.get? b=some o:=fun b o e => hkp₁ b o (hHp ▸ Heap.get?_push_of_some _ e)
 have hacc:h₁.PlainList s2.heap.objs.size #[]:=⟨_,hkp₁ _ _ (hHp ▸ Heap.get?_push_size _ rfl)⟩
 have hC1:∀ c:Addr,c=Hp2.objs.size + 1→¬ (c < s2.heap.objs.size):=fun c e h => by
  have h:Hp2.objs.size + 1 < s2.heap.objs.size:=by rw [← e]; exact h
  omega
 have hC2 : ¬ s2.heap.objs.size=Hp2.objs.size + 1:=by omega
 generalize hY:cxD X x xs Nb scope cl Hp2.objs.size s2 H2 fp=Y
 have Yprog:Y.prog=X.prog:=by rw [← hY]; rfl
 have fpLt:∀ b ∈ fp,b < s2.heap.objs.size:=fun b hb => by
  obtain ⟨o,e,_⟩:=T.obj _ _ st2 b hb
  exact Heap.lt_size e
 have cellLt:∀ y c,cl.lookup y=some c→c < s2.heap.objs.size:=fun y c hc => by
  obtain ⟨v,q⟩:=I2.cell y c (cl1 y c hc)
  exact q.lt
 have frSub:∀ b ∈ frs X.stack,b < s2.heap.objs.size:=fun b hb => by
  rcases List.mem_cons.mp (I2.stkSub b hb) with z | z
  ·rw [z]; exact I2.lt
  ·by_cases hlt:b < s2.heap.objs.size
   ·exact hlt
   ·exact absurd z (I2.nofs (Nat.le_of_not_lt hlt))
 have ok:(cxD X x xs Nb scope cl Hp2.objs.size s2 H2 fp).Ok:=by
  refine ⟨I2.ok.mod,hkind,I2.ok.glob,I2.ok.blt,(by show s2.heap.objs.size ≤ Hp2.objs.size; omega),fun y z c h1 h2 => ?_,fun y hy => ?_,fun y c hf hc => ?_,I2.ok.hd,I2.ok.frames,.inl rfl,fun b hb => ⟨?_,fun y c h1 h2 => ?_⟩,I2.bs,Nat.le_trans I2.ok.bsz I2.sz,fun b o e hb => ?_,fun b hb hm => ?_,I2.stack,I2.stkFree⟩
  ·rcases lkD h1 with ⟨e1,e2⟩ | h1 <;> rcases lkD h2 with ⟨e3,e4⟩ | h2
   ·rw [e1,e3]
   ·exact absurd (cellLt z c h2) (hC1 _ e2)
   ·exact absurd (cellLt y c h1) (hC1 _ e4)
   ·exact I2.ok.inj y z c (cl1 y c h1) (cl1 z c h2)
  ·have hy:(scope.names.map fun (n,k) => if (k == NameKind.free && X.env.scope.kind == .function && X.env.kindOf n == some .cell) then (n,NameKind.cell) else (n,k)).lookup y=some .cell ∨ (scope.names.map fun (n,k) => if (k == NameKind.free && X.env.scope.kind == .function && X.env.kindOf n == some .cell) then (n,NameKind.cell) else (n,k)).lookup y=some .free:=hy
   have q:scope.names.lookup y=some .free ∨ scope.names.lookup y=some .cell:=by
    rcases hy with z | z
    ·exact relabel_kindD z (.inl rfl)
    ·exact relabel_kindD z (.inr rfl)
   rcases q with q | q
   ·obtain ⟨c,ec⟩:=Option.isSome_iff_exists.mp (cl2 y (PySem.mem_of_lookup q))
    exact lkD_ex (.inr ⟨c,ec⟩)
   ·exact lkD_ex (.inl (hcx _ (PySem.mem_of_lookup q) rfl))
  ·have e:y=x:=eq_of_beq hf
   rcases lkD hc with ⟨_,e2⟩ | h1
   ·rw [e2]; show s2.heap.objs.size ≤ _; omega
   ·subst e
    have:List.lookup y ((y,Hp2.objs.size + 1) :: cl)=some c:=hc
    rw [List.lookup_cons,beq_self_eq_true] at this
    cases this
    show s2.heap.objs.size ≤ _; omega
  ·exact (below b (fpLt b hb)).1
  ·rcases lkD h1 with ⟨_,e2⟩ | h1
   ·exact absurd (h2 ▸ fpLt b hb) (hC1 _ e2)
   ·exact (f2 b hb).2.2.2.2.1 y c (cl1 y c h1) h2
  ·rcases (f2 b hb).2.2.2.1 with z | z
   ·exact I2.ok.noex b o e z
   ·exact absurd (Nat.lt_of_lt_of_le (Heap.lt_size e) (Nat.le_trans I2.ok.bsz z)) (Nat.lt_irrefl _)
  ·rcases List.mem_cons.mp (I2.stkSub b hm) with z | z
   ·exact (f2 b hb).2.1 z
   ·exact (f2 b hb).2.2.1 z
 have fpY:∀ {H' : Hp} {pl:List (Addr × Obj)},(∀ b ∈ fp,H' b=none)→(∀ p ∈ pl,p.1=s2.heap.objs.size)→∀ b ∈ fp,FpOk Y pl H' b:=fun {H' pl} hn hp b hb => by
  rw [← hY]
  refine ⟨hn b hb,(below b (fpLt b hb)).1,fun hm => ?_,.inl hb,fun y c h1 h2 => (by
   rcases lkD h1 with ⟨_,e2⟩ | h1
   ·exact absurd (h2 ▸ fpLt b hb) (hC1 _ e2)
   ·exact (f2 b hb).2.2.2.2.1 y c (cl1 y c h1) h2),fun p hm z => ?_⟩
  ·rcases List.mem_cons.mp (I2.stkSub b hm) with z | z
   ·exact (f2 b hb).2.1 z
   ·exact (f2 b hb).2.2.1 z
  ·have hm:p ∈ pl:=hm
   rw [hp p hm] at z
   exact (below b (fpLt b hb)).2 z.symm
 have HD:H2 s2.heap.objs.size=none:=I2.hok.fresh (Nat.le_refl _)
 have HC:H2 Hp2.objs.size=none:=I2.hok.fresh (by omega)
 obtain ⟨m2,hns2,hloc2⟩:=I2.loc
 have IY:∀ tk,Inv (cxD X x xs Nb scope cl Hp2.objs.size s2 H2 fp) [] (List.replicate xs.length none ++ σ) H2 { s2 with heap:=h₁,toks:=tk }:=fun tk => by
  refine ⟨ok,rfl,I2.bare,Un.kept old,⟨_,hns₁,fun i y v h1 h2 h3 => ?_⟩,fun y c h1 => ?_,HC,fun y c h1 => (by
   rcases lkD h1 with ⟨_,e2⟩ | h1
   ·rw [e2]; exact I2.hok.fresh (by omega)
   ·exact I2.freeC y c (cl1 y c h1)),fun p hp => absurd (show p ∈ ([]:List (Addr × Obj)) from hp) (by simp),I2.hok.kept old,(by show (List.replicate xs.length (none:Option V) ++ σ).length=(xs ++ Nb).length; rw [List.length_append,List.length_append,List.length_replicate,hlen,I2.len])⟩
  ·have h1:(xs ++ Nb)[i]? = some y:=h1
   by_cases hik:i < xs.length
   ·rw [List.getElem?_append_left (by rw [List.length_replicate]; exact hik),List.getElem?_replicate,if_pos hik] at h2
    cases h2
   ·rw [List.getElem?_append_right (by omega)] at h1
    rw [List.getElem?_append_right (by rw [List.length_replicate]; omega),List.length_replicate] at h2
    generalize i - xs.length=i at h1 h2
    have h3:Vis (relabel scope X.env) y:=h3
    have key:∀ k,(k=NameKind.cell ∨ k=NameKind.free)→(relabel scope X.env).names.lookup y=some k→∃ u,RelV v u∧Look (compEnvC scope ((x,Hp2.objs.size + 1) :: cl) Hp2.objs.size X.env) h₁ (fun x => ([]:List (Str × Value)).reverse.lookup x) y u:=fun k hk hl => by
     have q1:scope.names.lookup y=some .free:=by
      rcases relabel_kindD hl hk with z | z
      ·exact z
      ·exact absurd z (hxN y (List.mem_of_getElem? h1)).2
     have q2:=hfree (y,.free) (PySem.mem_of_lookup q1) rfl
     have h1' : X.N[i]? = some y:=by
      have hi' : i < X.N.length:=by rw [← hlen]; exact (List.getElem?_eq_some_iff.mp h1).1
      have hz:(Nb.zip X.N)[i]? = some (y,X.N[i]):=by rw [List.getElem?_zip_eq_some]; exact ⟨h1,List.getElem?_eq_getElem hi'⟩
      rcases hNb _ (List.mem_of_getElem? hz) with z | z
      ·have z:y=X.N[i]:=z
       rw [z]; exact List.getElem?_eq_getElem hi'
      ·have z:scope.names.lookup y=none:=z
       rw [q1] at z; cases z
     obtain ⟨u,r,l⟩:=hloc2 i y v h1' h2 (.inr (.inl q2))
     refine ⟨u,r,.inr ⟨?_,?_⟩⟩
     ·rcases hk with rfl | rfl
      ·exact .inl hl
      ·exact .inr hl
     ·rcases l with ⟨k1,_⟩ | ⟨_,c,e1,z⟩
      ·rw [q2] at k1; cases k1
      ·obtain ⟨c',e2⟩:=Option.isSome_iff_exists.mp (cl2 y (PySem.mem_of_lookup q1))
       have e3:=cl1 y c' e2
       rw [e1] at e3
       cases e3
       obtain ⟨o,ho,hd⟩:=z
       refine ⟨c,?_,o,old c o ho,hd⟩
       show List.lookup y ((x,Hp2.objs.size + 1) :: cl)=_
       rw [List.lookup_cons,show (y == x)=false from ?_]
       ·exact e2
       ·cases z:y == x with
        | false => rfl
        | true => exfalso; rw [eq_of_beq z,hxc] at q1; cases q1
    rcases h3 with h3 | h3 | h3
    ·
     exfalso
     exact (hxN y (List.mem_of_getElem? h1)).1 (relabel_local h3)
    ·exact key _ (.inl rfl) h3
    ·exact key _ (.inr rfl) h3
  ·rcases lkD h1 with ⟨_,e2⟩ | h1
   ·rw [e2]; exact ⟨_,hcl₁⟩
   ·obtain ⟨v,o,ho,hd⟩:=I2.cell y c (cl1 y c h1)
    exact ⟨v,o,old c o ho,hd⟩
 have noErr:∀ {α:Type} {m:Sem α} {G:α→Shared→Prop} {E' : Value→Shared→Prop} {s' : Shared},wpAny (model X.prog X.w) X.A m G (fun _ _ => False) s'→wpAny (model X.prog X.w) X.A m G E' s':=fun h => wpAny_mono h (fun _ _ q => q) fun _ _ q => q.elim
 have loop:∀ (tk:Nat) (R:Result→Shared→Prop),R=compPost (model X.prog X.w) X.A X.xe use QQ (.ref s2.heap.objs.size) Hp2.objs.size →
   codeAny (model X.prog X.w) X.A (.compLoop (.ListComp elt [⟨tg,iter,ifs,0⟩] scope pos) 0 (.ref it) (.ref s2.heap.objs.size) (compEnvC scope ((x,Hp2.objs.size + 1) :: cl) Hp2.objs.size X.env)) R { s2 with heap:=h₁,toks:=tk }:=by
  rintro tk R rfl
  refine loop_turns rfl (fun n s' => ∃ i σv H' ys its,σv.length=xs.length∧Inv Y [] (σv ++ σ) H' s'∧tn i s'.heap∧(∀ b ∈ fp,H' b=none)∧Vals ys its∧ys.length ≤ sizeLine∧s'.heap.PlainList s2.heap.objs.size its.toArray∧H' s2.heap.objs.size=none∧W i n ys H') ?_ m0
   ⟨0,List.replicate xs.length none,H2,[],[],List.length_replicate,hY ▸ IY tk,T.keep _ _ _ st2 fun b _ o e => old b o e,fun b hb => (f2 b hb).1,.nil,Nat.zero_le _,hacc,HD,w0⟩
  rintro n s3 ⟨i,σv,H3,ys,its,lv,I3,st3,fr3,rv,hz,⟨nn,pl3⟩,HD3,w3⟩
  have I3p:Inv Y [(s2.heap.objs.size,{ cls:=.type "list",data:=.seq its.toArray nn })] (σv ++ σ) H3 s3:=I3.pins_of fun p hp => by
   rw [List.mem_singleton] at hp
   subst hp
   refine ⟨pl3,HD3,?_,fun hm => ?_,fun v z => by cases z⟩
   ·rw [← hY]; exact hDC
   ·rw [← hY] at hm
    exact absurd (frSub _ hm) (Nat.lt_irrefl _)
  have pinD:∀ p ∈ [((s2.heap.objs.size:Addr),({ cls:=.type "list",data:=.seq its.toArray nn } : Obj))],p.1=s2.heap.objs.size:=fun p hp => by
   rw [List.mem_singleton] at hp
   rw [hp]
  subst hY
  rcases turn i n ys H3 w3 with ⟨stop,qn⟩ | ⟨go,hlt,NN,hNN,step⟩
  ·refine noErr (thn (T.done (cxD X x xs Nb scope cl Hp2.objs.size s2 H2 fp) rfl rfl rfl hc i _ s3 _ H3 (fun _ _ => False) I3p (fpY fr3 pinD) st3 stop) fun r s4 ⟨hr,I4⟩ => ?_)
   subst hr
   obtain ⟨m4,hns4,_⟩:=I4.loc
   refine post s2 s4 H2 (upd H3 s2.heap.objs.size (.lst ys)) Hp2.objs.size s2.heap.objs.size m4 I2 (by omega) hns4 (by rw [upd_ne (Ne.symm hDC)]; exact I4.free) (fun h' sb => ?_) (qn _ HD3)
   have pl4:=(I4.pin _ (List.mem_append_right _ List.mem_cons_self)).1
   have up:∀ b o,b ≠ Hp2.objs.size→s4.heap.get? b=some o→h'.get? b=some o:=fun b o hb e => sb.extBut b o hb e
   have base:=I4.base
   have HC4:H3 Hp2.objs.size=none:=I4.free
   have neC:∀ b o,s2.heap.get? b=some o→b ≠ Hp2.objs.size:=fun b o e => (below b (Heap.lt_size e)).1
   have neD:∀ b o,s2.heap.get? b=some o→b ≠ s2.heap.objs.size:=fun b o e => (below b (Heap.lt_size e)).2
   have hokN:HOk X.prog X.w (upd H3 s2.heap.objs.size (.lst ys)) h':=fun b u e => by
    by_cases hb:b=s2.heap.objs.size
    ·subst hb
     rw [upd_same] at e
     cases e
     exact ⟨hz,its,nn,rv,up _ _ hDC pl4⟩
    ·rw [upd_ne hb] at e
     refine (I4.hok b u e).stay (fun c v hc q => up c v ?_ q) (fun c q => by rw [upd_ne (ne_of_none q HD3)]; exact q) fun c xs q => by rw [upd_ne (ne_of_none q HD3)]; exact q
     rcases hc with z | z
     ·rw [z]; exact ne_of_none e HC4
     ·exact ne_of_none z HC4
   refine I2.call' (s':={ s4 with heap:=h' }) (ch:=fp) I4.os ⟨fun b o e n hb hx' => up b o (neC b o e) (base.keep b o e n hb hx'),fun b o e n hb hx' => ?_,fun b o e n hx' => ?_,fun b o e hx' => ?_,fun b xs e => ?_,fun b o u e => ?_,fun b ps e => ?_⟩ hokN I4.bare (fun b hb => ?_)
   ·obtain ⟨sl,q⟩:=base.slot b o e n hb hx'
    exact ⟨sl,up b _ (neC b o e) q⟩
   ·rw [upd_ne (neD b o e)]
    exact base.free b o e n hx'
   ·obtain ⟨o',q⟩:=base.there b o e hx'
    exact ⟨o',up b o' (neC b o e) q⟩
   ·have q:=base.tups b xs e
    rw [upd_ne (ne_of_none q HD3)]; exact q
   ·have q:=base.frzs b o u e
    rw [upd_ne (ne_of_none q HD3)]; exact q
   ·obtain ⟨more,q⟩:=base.tbls b ps e
    exact ⟨more,by rw [upd_ne (ne_of_none q HD3)]; exact q⟩
   ·obtain ⟨_,g1,_,g3,g4,g5⟩:=f2 b hb
    exact ⟨g3,g1,g4,g5⟩
  ·refine noErr (thn (T.item (cxD X x xs Nb scope cl Hp2.objs.size s2 H2 fp) rfl rfl rfl hc i _ s3 _ H3 (fun _ _ => False) I3p (fpY fr3 pinD) st3 go) fun r s4 ⟨u,hr,h4⟩ => ?_)
   subst hr
   refine noErr (thn h4 fun _ s5 ⟨v,H5,I5,r5,y5,st5,fr5⟩ => ?_)
   have I5':=I5.pinned (fpY fr5 pinD) (T.obj _ _ st5)
   have stp:=step v H5 σv lv y5
   refine noErr (thn (hg cl Hp2.objs.size s2 H2 fp _ s5 _ H5 v u _ I5' r5 stp) fun _ s6 ⟨σ6,H6,I6,⟨pre',e6,l6⟩,stp⟩ => ?_)
   subst e6
   have again:∀ {s7 s8:Shared} {H7:Hp} {zs:List V} {ws:List Value} {m' : Nat},Inv (cxD X x xs Nb scope cl Hp2.objs.size s2 H2 fp) ([((s2.heap.objs.size:Addr),({ cls:=.type "list",data:=.seq its.toArray nn } : Obj))] ++ pinsAt fp s5.heap) (pre' ++ σ) H7 s7 →
     (∃ h',s8 = { s7 with heap:=h' }∧(∀ b o,b ≠ s2.heap.objs.size→s7.heap.get? b=some o→h'.get? b=some o)∧h'.PlainList s2.heap.objs.size ws.toArray)→Vals zs ws→zs.length ≤ sizeLine→m' < n→W (i + 1) m' zs H7 →
     ∃ m,m < n∧∃ i σv H' ys its,σv.length=xs.length∧Inv (cxD X x xs Nb scope cl Hp2.objs.size s2 H2 fp) [] (σv ++ σ) H' s8∧tn i s8.heap∧(∀ b ∈ fp,H' b=none)∧Vals ys its∧ys.length ≤ sizeLine∧s8.heap.PlainList s2.heap.objs.size its.toArray∧H' s2.heap.objs.size=none∧W i m ys H':=by
    rintro s7 s8 H7 zs ws m' I7 ⟨h',rfl,up,plw⟩ rz hzz hm w7
    have HD7:H7 s2.heap.objs.size=none:=(I7.pin _ (List.mem_append_right _ (List.mem_append_left _ List.mem_cons_self))).2.1
    have fr7:∀ b ∈ fp,H7 b=none:=fun b hb => by
     obtain ⟨o,e,d⟩:=T.obj _ _ st5 b hb
     exact (I7.pin (b,o) (List.mem_append_right _ (List.mem_append_right _ (mem_pinsAt hb e)))).2.1
    have I7' : Inv (cxD X x xs Nb scope cl Hp2.objs.size s2 H2 fp) [] (pre' ++ σ) H7 s7:=I7.pins_of fun p hp => absurd hp (by simp)
    refine ⟨m',hm,i + 1,pre',H7,zs,ws,l6,?_,?_,fr7,rz,hzz,plw,HD7,w7⟩
    ·have:=I7'.turned (it:=s2.heap.objs.size) (h':=h') (t':=s7.toks) up HD7 hDC (.inr (Nat.le_refl _)) (fun y c h1 h2 => (by
      rcases lkD h1 with ⟨_,e2⟩ | h1
      ·exact absurd (h2 ▸ e2) hC2
      ·exact absurd (cellLt y c h1) (by rw [h2]; exact Nat.lt_irrefl _))) (fun p hp => absurd (show p ∈ ([]:List (Addr × Obj)) from hp) (by simp))
     exact this
    ·refine T.keep _ _ _ st5 fun b hb o e => up b o (below b (fpLt b hb)).2 ?_
     exact (I7.pin (b,o) (List.mem_append_right _ (List.mem_append_right _ (mem_pinsAt hb e)))).1
   refine noErr (thn (ht cl Hp2.objs.size s2 H2 fp _ s6 _ H6 _ I6 stp) fun okb s7 ⟨H7,I7,q7⟩ => ?_)
   have pl7:=(I7.pin _ (List.mem_append_right _ (List.mem_append_left _ List.mem_cons_self))).1
   cases okb with
   | false =>
    rw [if_neg Bool.false_ne_true] at q7 ⊢
    obtain ⟨m',hm,w7⟩:=hNN _ _ q7
    exact again I7 ⟨s7.heap,rfl,fun _ _ _ e => e,nn,pl7⟩ rv hz hm w7
   | true =>
    rw [if_pos rfl] at q7 ⊢
    refine noErr (thn (he cl Hp2.objs.size s2 H2 fp _ s7 _ H7 _ I7 q7) fun w' s8 ⟨y,H8,I8,r8,q8⟩ => ?_)
    obtain ⟨m',hm,w8⟩:=hNN _ _ q8
    have pl8:=(I8.pin _ (List.mem_append_right _ (List.mem_append_left _ List.mem_cons_self))).1
    refine wpAny_list_append_plain (hsz:=by have:=rv.length; simp only [List.size_toArray]; omega) ⟨nn,pl8⟩ fun h9 pl9 sb9 => ?_
    refine again I8 ⟨h9,rfl,fun b o hb e => sb9.extBut b o hb e,?_⟩ (rv.append (.cons r8 .nil)) (by rw [List.length_append,List.length_singleton]; omega) hm w8
    have e9:its.toArray.push w' = (its ++ [w']).toArray:=by simp
    rw [← e9]
    exact pl9
 refine codeAny_compStart_list (loop _ _ rfl) (noErr (T.self _ 0 _ _ _ (T.keep _ _ _ st2 fun b _ o e => old b o e) (loop _ _ rfl)))
theorem pe_compD {elt iter tg:Expr} {x:Str} {xs Nb:List Str} {ifs:List Expr} {scope:Scope} {pos:PySem.Pos} {wi:TI} {g:TG} {tt:TT} {te:TE}
  (hc:X.calm=true) (hi:PI X tg iter wi) (hlen:Nb.length=X.N.length) (hNb:∀ p ∈ Nb.zip X.N,p.1=p.2 ∨ scope.names.lookup p.1=none) (hxN:∀ y ∈ Nb,scope.names.lookup y ≠ some .local∧scope.names.lookup y ≠ some .cell)
  (hg:InD X x xs Nb scope fun Y => PG Y tg g) (ht:InD X x xs Nb scope fun Y => PIf Y ifs tt) (he:InD X x xs Nb scope fun Y => PE Y elt te)
  (hcs:∀ n acc,cellsFrom n scope.names acc=(x,n) :: acc) (hps:∀ h,pushCells h scope.names=h.push { cls:=.type "cell",data:=.cell none }) (hcx:∀ y ∈ scope.names,y.2 = .cell→y.1=x) (hxc:scope.names.lookup x=some .cell) (hkind:scope.kind = .function) (hnames:∀ y ∈ scope.names,y.2 = .local→scope.names.lookup y.1=some .local)
  (hfree:∀ y ∈ scope.names,y.2 = .free→X.env.kindOf y.1=some .cell)
  (hs:∀ x,foldedSetIterable iter X.env x=pure x:=by intro _; rfl) :
  PE X (.ListComp elt [⟨tg,iter,ifs,0⟩] scope pos) (tCompG xs.length wi g tt te):=by
 intro pins s σ H Q I h
 rw [eval_ListComp]
 exact comp_coreD (use:=none) (QQ:=EP X pins σ Q) hc hi hlen hNb hxN hg ht he hcs hps hcx hxc hkind hnames hfree hs I h fun s2 s4 H2 H4 C D m4 _ _ hn _ IX q => ⟨m4,hn,fun h' sb => ⟨.ref D,H4,IX h' sb,rfl,q⟩⟩
theorem pi_or {tg iter:Expr} {w1 w2:TI} (h1:PI X tg iter w1) (h2:PI X tg iter w2):PI X tg iter (fun σ H R => w1 σ H R ∨ w2 σ H R):=by
 intro pins s σ H R I h
 rcases h with h | h
 ·exact h1 pins s σ H R I h
 ·exact h2 pins s σ H R I h
theorem call_sumK {K:PySem.W.Frag} (hc:X.calm=true) (hK:X.K=K:=by rfl):CallR X (.builtin "sum") (fun xs H Q => ∃ (p:Addr) (ns:List Int),xs=[.ref p]∧SqL K H p (ns.map V.int)∧Q (.int ns.sum) H):=by subst hK; exact call_sum hc
theorem cxD_fn {x:Str} {xs Nb:List Str} {scope:Scope} {cl:List (Str × Addr)} {C:Addr} {s₂:Shared} {H₂:Hp} {fp:List Addr} : (cxD X x xs Nb scope cl C s₂ H₂ fp).fn x=true:=beq_self_eq_true x
theorem free_inD {x:Str} {xs Nb:List Str} {scope0:Scope} {cl:List (Str × Addr)} {C:Addr} {s₂:Shared} {H₂:Hp} {fp:List Addr} {names L:List (Str × NameKind)} (hk:X.env.scope.kind = .function) (hL:X.env.scope.names=L) (h:∀ y ∈ names,y.2=NameKind.free→(scope0.names.lookup y.1=some .free∧L.lookup y.1=some .cell) ∨ scope0.names.lookup y.1=some .cell) :
  ∀ y ∈ names,y.2=NameKind.free→(cxD X x xs Nb scope0 cl C s₂ H₂ fp).env.kindOf y.1=some .cell:=fun y hy e => by
 rcases h y hy e with ⟨h1,h2⟩ | h1
 ·refine lookup_relabel_cellX hk ?_ h1
  show X.env.scope.names.lookup y.1=_
  rw [hL]; exact h2
 ·exact lookup_relabel_own h1
end
end L2
set_option maxHeartbeats 1000000
namespace L2
open PySem PySem.Spec PyProof.Rows
section
variable {K:PySem.W.Frag} {H:Hp} {Q:VK} {Z:L2.St→Hp→Prop}
def mayB (a b c:Int):Bool:=decide ((a + b + c) % 2=0∧a ≤ b + c∧b ≤ a + c∧c ≤ a + b)
def triB (r t:List Int):Bool:=mayB (crs r (t.getD 0 0)) (crs r (t.getD 1 0)) (crs r (t.getD 2 0))
def rowOB (S:List (List Int)) (r:List Int):Bool:=decide (r.length=S.length / 2 * 3) && (r.all (fun x => decide (0 ≤ x)) && S.all (triB r))
def spMayG (K:PySem.W.Frag):Sp:=fun vs H Q _ => ∃ (p:Addr) (a b c:Int),vs=[.ref p]∧SqL K H p ([a,b,c].map V.int)∧Q (.bl (mayB a b c)) H
def spIsRowG:Sp:=fun vs H Q _ => ∃ (s o:Addr) (xs:List V) (S:List (List Int)) (r:List Int),vs=[.ref s,.ref o]∧H s=some (.lst xs)∧TuL H xs S∧ShOk S∧H o=some (.lst (r.map V.int))∧r.length ≤ 5000∧∀ H',Same H H'→Q (.bl (rowOB S r)) H'
def spRowOn (cR:Addr):Sp:=fun vs H Q E => ∃ (s o:Addr) (xs:List V) (S:List (List Int)) (r:List Int),vs=[.ref s,.ref o]∧H s=some (.lst xs)∧TuL H xs S∧ShOk S∧H o=some (.lst (r.map V.int))∧r.length ≤ 5000∧(rowOB S r=false→∀ H',Same H H'→E (.ref cR) none H')∧(rowOB S r=true→∀ H',Same H H'→Q (.ref o) H')
def spReadRow (cT cR:Addr):Sp:=fun vs H Q E => ∃ (s:Addr) (xs:List V) (S:List (List Int)) (t:Str),vs=[.ref s,.str t]∧H s=some (.lst xs)∧TuL H xs S∧ShOk S∧t.length ≤ 4900∧(rowOk t=false→∀ H',Same H H'→E (.ref cT) none H')∧(rowOk t=true→rowOB S (rowI t)=false→∀ H',Same H H'→E (.ref cR) none H')∧(rowOk t=true→rowOB S (rowI t)=true→∀ (l:Addr) (H' : Hp),Same H H'→H l=none→H' l=some (.lst ((rowI t).map V.int))→Q (.ref l) H')
def spEndE:Sp:=fun vs H Q _ => ∃ (s:Int) (b:Bool),vs=[.int s,.bl b]∧∀ l,H l=none→Q (.ref l) (L2.upd H l (.tup ((endI s b).map V.int)))
def spPtsE:Sp:=fun vs H Q _ => ∃ (s:Addr) (xs:List V) (S:List (List Int)),vs=[.ref s]∧H s=some (.lst xs)∧TuL H xs S∧ShOk S∧∀ (l:Addr) (ys:List V) (hs:List (List (List Int))) (H' : Hp),Same H H'→H l=none→H' l=some (.lst ys)→LsL H' true ys hs→HpI (S.flatMap triP) hs→Q (.ref l) H'
def spLoopE:Sp:=fun vs H Q _ => ∃ (s h:Addr) (xs gs:List V) (S g:List (List Int)),vs=[.ref s,.ref h]∧H s=some (.lst xs)∧TuL H xs S∧ShOk S∧H h=some (.lst gs)∧ItL H true gs g∧∀ (l:Addr) (H' : Hp),Same H H'→H l=none→H' l=some (.lst ((ringR (S.length / 2 * 3) g).map V.int))→Q (.ref l) H'
def spRowE:Sp:=fun vs H Q _ => ∃ (d s:Addr) (xs:List V) (S:List (List Int)),vs=[.ref d,.ref s]∧PurseZ H d∧H s=some (.lst xs)∧TuL H xs S∧ShOk S∧∀ (l:Addr) (r:List Int) (H' : Hp),ButZ d H H'→PurseZ H' d→H' l=some (.lst (r.map V.int))→EvRow S r→(∀ x ∈ r,x < 10 ^ 60)→Q (.ref l) H'
def tRowOn (K:PySem.W.Frag) (E:XK) (cR:Addr):TS:=tSeq (tIfS (tNot (tB (tCall spIsRowG [] E0 (tCons (tVar 0) (tCons (tVar 1) tNil))))) (tRaise E cR) tNext) (tRet (tVar 1))
def tReadRow (K:PySem.W.Frag) (E:XK) (cT cR:Addr):TS:=tRet (tCallX (spRowOn cR) (fun c x H' => E c none H') (tCons (tVar 0) (tCons (tCallX (spNumX cT) (fun c x H' => E c none H') (tCons (tVar 1) tNil)) tNil)))
def tIsRowG (K:PySem.W.Frag):TS:=tSeq (tIfS (tOr (tNot (tB (tCB (fun xs H Q => ∃ x t b,xs=[x,V.ty "list"]∧TyOf K H x t∧W.kitOne K t (Value.type "list")=some b∧Q (V.bl b) H) (tCons (tVar 1) (tCons (tC (V.ty "list")) tNil))))) (tTest (tOp rNe (tCB (fun xs H Q => ∃ p ys,xs=[V.ref p]∧(SqL K H p ys ∨ SqT K H p ys)∧Q (V.int ys.length) H) (tCons (tVar 1) tNil)) (tCall (spTiesZ K) [] E0 (tCons (tVar 0) tNil))))) (tRet (tC (V.bl false))) tNext) (tSeq (tIfS (tNot (tB (tCB (fun xs H_1 Q => ∃ p bs,xs=[V.ref p]∧SqL K H_1 p (List.map V.bl bs)∧Q (V.bl (bs.all id)) H_1) (tCons (tCompG 1 (iList K (tVar 1)) (gName 0) tYes (tCall spFromZ [] E0 (tCons (tVar 0) (tCons (tC (V.int 0)) tNil)))) tNil)))) (tRet (tC (V.bl false))) tNext) (tRet (tCB (fun xs H_1 Q => ∃ p bs,xs=[V.ref p]∧SqL K H_1 p (List.map V.bl bs)∧Q (V.bl (bs.all id)) H_1) (tCons (tCompG 1 (iList K (tVar 0)) (gName 0) tYes (tCall (spMayG K) [] E0 (tCons (tCall spCrossZ [] E0 (tCons (tVar 0) (tCons (tVar 2) tNil))) tNil))) tNil))))
def tMayG (K:PySem.W.Frag):TS:=tRet (tAndV (tOp rEq (tOp (rI (fun x j => 0 < j) fun i j => V.int (i % j)) (tCB (fun xs H_1 Q => ∃ p ns,xs=[V.ref p]∧SqL K H_1 p (List.map V.int ns)∧Q (V.int ns.sum) H_1) (tCons (tVar 0) tNil)) (tC (V.int 2))) (tC (V.int 0))) (tOp (rI0 fun i j => V.bl (decide (i ≤ j))) (tOp (rI CMul fun i j => V.int (i * j)) (tC (V.int 2)) (tCB (fun xs H_1 Q => ∃ p ns,xs=[V.ref p]∧SqL K H_1 p (List.map V.int ns)∧ns ≠ []∧∀ (m:Int),m ∈ ns→(∀ (n:Int),n ∈ ns→n ≤ m)→Q (V.int m) H_1) (tCons (tVar 0) tNil))) (tCB (fun xs H_1 Q => ∃ p ns,xs=[V.ref p]∧SqL K H_1 p (List.map V.int ns)∧Q (V.int ns.sum) H_1) (tCons (tVar 0) tNil))))
def tEndE (K:PySem.W.Frag):TS:=tRet (tTup (tCons (tCB (fun xs H Q => ∃ i,xs=[V.int i]∧Q (V.int (if i < 0 then -i else i)) H) (tCons (tVar 0) tNil)) (tCons (tCB (fun xs H Q => (∃ i,xs=[V.int i]∧Q (V.int i) H) ∨ ∃ k,xs=[V.bl k]∧Q (V.int (if k=true then 1 else 0)) H) (tCons (tOp rEq (tOp (rI0 fun i j => V.bl (decide (j < i))) (tVar 0) (tC (V.int 0))) (tVar 1)) tNil)) tNil)))
def tLoopE (K:PySem.W.Frag):TS:=tRet (tCompG 1 (iRng2 (tCons (tC (V.int 1)) (tCons (tOp (rI0 fun i j => V.int (i + j)) (tOp (rI CDivL fun i j => V.int (i / j)) (tOp (rI CMul fun i j => V.int (i * j)) (tC (V.int 3)) (tCB (fun xs H Q => ∃ p ys,xs=[V.ref p]∧(SqL K H p ys ∨ SqT K H p ys)∧Q (V.int ys.length) H) (tCons (tVar 0) tNil))) (tC (V.int 2))) (tC (V.int 1))) tNil))) (gName 0) tYes (tCB (fun xs H Q => ∃ p ns,xs=[V.ref p]∧SqL K H p (List.map V.int ns)∧Q (V.int ns.sum) H) (tCons (tCompG 1 (iRng1 (tCons (tC (V.int 2)) tNil)) (gName 0) tYes (tCB (fun xs H Q => (∃ i,xs=[V.int i]∧Q (V.int i) H) ∨ ∃ k,xs=[V.bl k]∧Q (V.int (if k=true then 1 else 0)) H) (tCons (tOp (rInC K true) (tTup (tCons (tVar 1) (tCons (tVar 0) tNil))) (tVar 3)) tNil))) tNil)))
def tRowB (K:PySem.W.Frag):TS:=(tSeq (tFor (iList K (tCall spPtsE [] E0 (tCons (tVar 1) tNil))) (gName 4) (tSeq (tAsg (tOp (rIxL K) (tLst (tCons (tC (V.int 0)) (tCons (tCall spTakeZ [] E0 (tCons (tVar 0) (tCons (tC (V.int 4)) tNil))) (tCons (tCall spTakeZ [] E0 (tCons (tVar 0) (tCons (tOp (rI0 fun i j => V.int (i + j)) (tVar 2) (tC (V.int 1))) tNil))) tNil)))) (tCall spTakeZ [] E0 (tCons (tVar 0) (tCons (tC (V.int 3)) tNil)))) (gName 5)) (tAsg (tCompG 2 (iZip K (tCons (tVar 3) (tCons (tCall spLoopE [] E0 (tCons (tVar 1) (tCons (tVar 4) tNil))) tNil))) (gTup K 2 (gCons (gName 0) (gCons (gName 1) gNil))) tYes (tOp (rI0 fun i j => V.int (i + j)) (tVar 0) (tOp (rI CMul fun i j => V.int (i * j)) (tVar 7) (tVar 1)))) (gName 3)))) (tRet (tVar 3)))
def tRowE (K:PySem.W.Frag):TS:=tSeq (tAsg (tCall spTakeZ [] E0 (tCons (tVar 0) (tCons (tOp (rIxL K) (tLst (tCons (tC (V.int 1)) (tCons (tC (V.int 3)) (tCons (tC (V.int 30)) (tCons (tOp (rI CPow fun i j => V.int (i ^ j.toNat)) (tC (V.int 10)) (tC (V.int 9))) (tCons (tOp (rI CPow fun i j => V.int (i ^ j.toNat)) (tC (V.int 10)) (tC (V.int 30))) (tCons (tOp (rI CPow fun i j => V.int (i ^ j.toNat)) (tC (V.int 10)) (tC (V.int 58))) tNil))))))) (tCall spTakeZ [] E0 (tCons (tVar 0) (tCons (tC (V.int 6)) tNil)))) tNil))) (gName 2)) (tSeq (tAsg (tCompG 1 (iRng1 (tCons (tOp (rI CDivL fun i j => V.int (i / j)) (tOp (rI CMul fun i j => V.int (i * j)) (tC (V.int 3)) (tCB (fun xs H Q => ∃ p ys,xs=[V.ref p]∧(SqL K H p ys ∨ SqT K H p ys)∧Q (V.int ys.length) H) (tCons (tVar 1) tNil))) (tC (V.int 2))) tNil)) (gName 0) tYes (tOp (rI CMul fun i j => V.int (i * j)) (tC (V.int 2)) (tOp (rI0 fun i j => V.int (i + j)) (tVar 3) (tCall spTakeZ [] E0 (tCons (tVar 1) (tCons (tOp (rI0 fun i j => V.int (i + j)) (tVar 3) (tC (V.int 1))) tNil)))))) (gName 3)) (tRowB K))
end
end L2
namespace L2
open PySem PySem.Spec PyProof.Rows
section
variable {K:PySem.W.Frag} {H:Hp} {Q:VK} {Z:L2.St→Hp→Prop}
theorem max_may {a b c m:Int} (hm:m ∈ [a,b,c]) (hle:∀ n ∈ [a,b,c],n ≤ m):2 * m ≤ a + b + c ↔ a ≤ b + c∧b ≤ a + c∧c ≤ a + b:=by
 have h1:=hle a (by simp)
 have h2:=hle b (by simp)
 have h3:=hle c (by simp)
 simp only [List.mem_cons,List.not_mem_nil,or_false] at hm
 rcases hm with rfl | rfl | rfl <;> omega
theorem mayG_reads {p:Addr} {a b c:Int} (hp:SqL K H p ([a,b,c].map V.int)) (k:Q (.bl (mayB a b c)) H):tMayG K { nx:=Z,rt:=Q } [some (.ref p)] H:=by
 have es:[a,b,c].sum=a + b + c:=by simp; omega
 refine ⟨_,rfl,p,[a,b,c],rfl,hp,_,2,rfl,rfl,(by show (0:Int) < 2; decide),rfl,decide ((a + b + c) % 2=0),?_,?_⟩
 ·show V.bl (decide (V.int ([a,b,c].sum % 2)=V.int 0))=_
  rw [es]
  congr 1
  rw [decide_eq_decide]
  exact ⟨fun e => V.int.inj e,fun e => congrArg V.int e⟩
 by_cases h0:(a + b + c) % 2=0
 ·rw [decide_eq_true h0]
  refine iteT ⟨_,rfl,p,[a,b,c],rfl,hp,by simp,fun m hm hle => ⟨2,m,rfl,rfl,.inl ⟨by decide,by decide⟩,_,rfl,p,[a,b,c],rfl,hp,_,_,rfl,rfl,?_⟩⟩
  show Q (V.bl (decide (2 * m ≤ [a,b,c].sum))) H
  rw [es,show decide (2 * m ≤ a + b + c)=mayB a b c from by unfold mayB; rw [decide_eq_decide,max_may hm hle]; exact ⟨fun h => ⟨h0,h⟩,fun h => h.2⟩]
  exact k
 ·rw [decide_eq_false h0]
  refine iteF ?_
  rw [show mayB a b c=false from by unfold mayB; exact decide_eq_false fun h => h0 h.1] at k
  exact k
theorem all_take {α:Type} (f:α→Bool) (l:List α):((l.take l.length).map f).all id=l.all f:=by rw [List.take_length,List.all_map]; rfl
set_option maxHeartbeats 4000000 in
theorem isrowG_reads {s o:Addr} {xs:List V} {S:List (List Int)} {r:List Int} (hs:H s=some (.lst xs)) (tS:TuL H xs S) (oS:ShOk S) (ho:H o=some (.lst (r.map V.int))) (rl:r.length ≤ 5000) (k:∀ H',Same H H'→Q (.bl (rowOB S r)) H'):tIsRowG K { nx:=Z,rt:=Q } [some (.ref s),some (.ref o)] H:=by
 have lS:=oS.len
 have lx:xs.length=S.length:=tS.1
 unfold rowOB at k
 refine ⟨_,rfl,.ref o,_,true,rfl,.lst ho,rfl,true,rfl,iteF ⟨_,rfl,o,_,rfl,.inl (SqL.of ho),_,rfl,s,xs,rfl,SqL.of hs,rfl,!decide (r.length=S.length / 2 * 3),?_,?_⟩⟩
 ·show V.bl (!decide (V.int (((r.map V.int).length:Nat):Int)=V.int ((xs.length / 2 * 3:Nat):Int)))=_
  rw [List.length_map,lx]
  congr 2
  rw [decide_eq_decide]
  exact ⟨fun e => by have:=V.int.inj e; omega,fun e => by rw [e]⟩
 by_cases lr:r.length=S.length / 2 * 3
 ·rw [decide_eq_true lr,Bool.true_and] at k
  rw [decide_eq_true lr]
  refine iteF ?_
  refine ⟨_,rfl,o,rfl,⟨_,SqL.of ho⟩,compLW (K:=K) (a:=o) (xs:=r.map V.int) (fun j ts H' => ts=((r.take j).map fun x => decide (0 ≤ x)).map V.bl∧H' = H) ⟨rfl,rfl⟩ (by rw [List.length_map]; omega) (fun j ts H' h => by rw [h.1,List.length_map,List.length_map,List.length_take]; exact Nat.min_le_left _ _) (fun j ts H' _ h => by rw [h.2]; exact SqL.of ho) ?_ ?_⟩
  ·rintro j x ts H9 pre hpl hx ⟨rfl,rfl⟩
   rw [List.getElem?_map] at hx
   cases ej:r[j]? with
   | none => rw [ej] at hx; cases hx
   | some e =>
    rw [ej] at hx
    cases hx
    rcases pre with _ | ⟨q0,_ | ⟨q1,pre⟩⟩
    ·cases hpl
    ·refine ⟨⟨[some _],rfl,rfl⟩,?_⟩
     unfold tYes
     dsimp only
     rw [if_pos (rfl:true=true)]
     refine ⟨_,rfl,e,0,rfl,?_,rfl⟩
     rw [take_succ' ej,List.map_append,List.map_append]
     rfl
    ·cases hpl
  rintro ts H9 ⟨rfl,rfl⟩ D hD
  rw [List.length_map]
  have sD:=Same.nw (o:=.lst (((r.take r.length).map fun x => decide (0 ≤ x)).map V.bl)) (Same.refl H9) hD
  have fD:(upd H9 D (.lst (((r.take r.length).map fun x => decide (0 ≤ x)).map V.bl))) D=some (.lst (((r.take r.length).map fun x => decide (0 ≤ x)).map V.bl)):=upd_same
  generalize upd H9 D (.lst (((r.take r.length).map fun x => decide (0 ≤ x)).map V.bl))=HA at sD fD ⊢
  refine ⟨D,_,rfl,SqL.of fD,_,rfl,?_⟩
  rw [all_take]
  cases ha:r.all fun x => decide (0 ≤ x) with
  | false => rw [ha,Bool.false_and] at k; exact iteT (k _ sD)
  | true =>
   rw [ha,Bool.true_and] at k
   refine iteF ?_
   refine ⟨_,rfl,s,rfl,⟨_,SqL.of (sD _ _ hs)⟩,compL (K:=K) (a:=s) (xs:=xs) (fun j ts H' => ts=((S.take j).map (triB r)).map V.bl∧Same HA H') ⟨rfl,Same.refl _⟩ (by omega) (fun j ts H' h => by rw [h.1,List.length_map,List.length_map,List.length_take]; exact Nat.min_le_left _ _) (fun j ts H' _ h => SqL.of (h.2 _ _ (sD _ _ hs))) ?_ ?_⟩
   ·rintro j x ts HB pre hpl hx ⟨rfl,sB⟩
    obtain ⟨t,q,et,rfl,hq⟩:=(tS.up (sD.trans sB).tups).take hx
    have mt:t ∈ S:=List.mem_of_getElem? et
    obtain ⟨a1,a2,a3,rfl⟩:=three3 (oS.three t mt)
    rcases pre with _ | ⟨q0,_ | ⟨q1,pre⟩⟩
    ·cases hpl
    ·refine ⟨⟨[some _],rfl,rfl⟩,?_⟩
     unfold tYes
     dsimp only
     rw [if_pos (rfl:true=true)]
     refine ⟨_,rfl,_,rfl,q,o,[a1,a2,a3],r,rfl,hq,sB _ _ (sD _ _ ho),by show 3 ≤ 10; decide,fun z hz => ⟨(oS.side mt hz).1,crs_at oS lr mt hz⟩,fun l hl => ?_⟩
     refine ⟨l,crs r a1,crs r a2,crs r a3,rfl,SqL.of upd_same,?_,sB.trans (Same.nw (Same.refl HB) hl)⟩
     rw [take_succ' et,List.map_append,List.map_append]
     rfl
    ·cases hpl
   ·rintro ts HB ⟨rfl,sB⟩ D2 hD2
    have sC:=Same.nw (o:=.lst (((S.take xs.length).map (triB r)).map V.bl)) (Same.refl HB) hD2
    refine ⟨D2,_,rfl,SqL.of upd_same,?_⟩
    rw [lx,all_take]
    rw [lx] at sC
    exact k _ (sD.trans (sB.trans sC))
 ·rw [decide_eq_false lr,Bool.false_and] at k
  rw [decide_eq_false lr]
  exact iteT (k _ (Same.refl H))
theorem rowon_reads {E:XK} {cR s o:Addr} {xs:List V} {S:List (List Int)} {r:List Int} (hs:H s=some (.lst xs)) (tS:TuL H xs S) (oS:ShOk S) (ho:H o=some (.lst (r.map V.int))) (rl:r.length ≤ 5000) (k1:rowOB S r=false→∀ H',Same H H'→E (.ref cR) none H') (k2:rowOB S r=true→∀ H',Same H H'→Q (.ref o) H'):tRowOn K E cR { nx:=Z,rt:=Q } [some (.ref s),some (.ref o)] H:=by
 refine ⟨_,rfl,_,rfl,s,o,xs,S,r,rfl,hs,tS,oS,ho,rl,fun H1 s1 => ⟨_,rfl,?_⟩⟩
 cases hb:rowOB S r with
 | false => exact iteT (k1 hb H1 s1)
 | true => exact iteF ⟨_,rfl,k2 hb H1 s1⟩
theorem row_len {t:Str} (tl:t.length ≤ 4900):(rowI t).length ≤ 5000:=by
 have:=(words_len t tl).1
 unfold rowI
 rw [List.length_map]
 omega
theorem readrow_reads {E:XK} {cT cR s:Addr} {xs:List V} {S:List (List Int)} {t:Str} (hs:H s=some (.lst xs)) (tS:TuL H xs S) (oS:ShOk S) (tl:t.length ≤ 4900) (k1:rowOk t=false→∀ H',Same H H'→E (.ref cT) none H') (k2:rowOk t=true→rowOB S (rowI t)=false→∀ H',Same H H'→E (.ref cR) none H') (k3:rowOk t=true→rowOB S (rowI t)=true→∀ (l:Addr) (H' : Hp),Same H H'→H l=none→H' l=some (.lst ((rowI t).map V.int))→Q (.ref l) H'):tReadRow K E cT cR { nx:=Z,rt:=Q } [some (.ref s),some (.str t)] H:=by
 refine ⟨_,rfl,_,rfl,t,rfl,tl,k1,fun ok l H1 s1 lf hl => ?_⟩
 exact ⟨s,l,xs,S,rowI t,rfl,s1 _ _ hs,tS.up s1.tups,oS,hl,row_len tl,fun h H2 s2 => k2 ok h H2 (s1.trans s2),fun h H2 s2 => k3 ok h l H2 (s1.trans s2) lf (s2 _ _ hl)⟩
end
end L2
namespace L2
open PySem PySem.Spec PyProof.Rows
section
variable {K:PySem.W.Frag} {H:Hp} {Q:VK} {Z:L2.St→Hp→Prop}
theorem LsL.get' {H:Hp} {tp:Bool} {ys:List V} {uss:List (List (List Int))} (h:LsL H tp ys uss) {i:Nat} {y:V} (e:ys[i]? = some y):∃ (us:List (List Int)) (a:Addr) (xs:List V),uss[i]? = some us∧y = .ref a∧H a=some (.lst xs)∧ItL H tp xs us:=by
 have il:i < uss.length:=by rw [← h.1]; exact (List.getElem?_eq_some_iff.mp e).1
 obtain ⟨a,xs,e1,e2,e3⟩:=h.2 i y _ e (List.getElem?_eq_getElem il)
 exact ⟨uss[i],a,xs,List.getElem?_eq_getElem il,e1,e2,e3⟩
theorem LsL.diH {H:Hp} {a:Addr} {ys:List V} {uss:List (List (List Int))} (h:LsL H true ys uss) (ha:H a=some (.lst ys)):DI K H (.ref a) (.list (uss.map dTs)):=by
 refine .lst (SqL.of ha) (by rw [h.1,List.length_map]) fun i x d h1 h2 => ?_
 obtain ⟨us,b,xs,eu,rfl,hb,it⟩:=h.get' h1
 rw [List.getElem?_map,eu] at h2
 cases h2
 exact it.tu.di (SqL.of hb)
theorem lay_hs:∀ hs:List (List (List Int)),PyData.canLayAll0 (hs.map dTs)=true
 | [] => rfl
 | h :: hs => by show ((dTs h).canLay0 && PyData.canLayAll0 (hs.map dTs))=true; rw [lay_dTs,lay_hs hs]; rfl
theorem dep_hs:∀ hs:List (List (List Int)),PyData.depthAll (hs.map dTs) ≤ 40
 | [] => Nat.zero_le _
 | h :: hs => by
  have d1:∀ us:List (List Int),PyData.depthAll (us.map dT) ≤ 1:=by
   intro us
   induction us with
   | nil => exact Nat.zero_le _
   | cons u us ih => show max (dT u).depth _ ≤ 1; rw [dep_dT]; omega
  show max (PyData.depthAll (h.map dT) + 1) (PyData.depthAll (hs.map dTs)) ≤ 40
  have:=d1 h
  have:=dep_hs hs
  omega
theorem any_hs (u:List (List Int)):∀ hs:List (List (List Int)),((hs.map dTs).any fun d => PyData.eqv d (dTs u))=decide (u ∈ hs)
 | [] => rfl
 | h :: hs => by
  show (PyData.eqv (dTs h) (dTs u) || ((hs.map dTs).any fun d => PyData.eqv d (dTs u)))=_
  rw [any_hs u hs,eqv_dTs]
  by_cases c:h=u
  ·rw [decide_eq_true c,Bool.true_or,decide_eq_true (by rw [c]; exact List.mem_cons_self)]
  ·rw [decide_eq_false c,Bool.false_or,decide_eq_decide]
   exact ⟨fun z => List.mem_cons_of_mem _ z,fun z => (List.mem_cons.mp z).resolve_left fun e => c e.symm⟩
theorem endE_reads {s:Int} {b:Bool} (k:∀ l,H l=none→Q (.ref l) (L2.upd H l (.tup ((endI s b).map V.int)))):tEndE K { nx:=Z,rt:=Q } [some (.int s),some (.bl b)] H:=by
 refine ⟨_,rfl,s,rfl,_,rfl,s,0,rfl,rfl,_,rfl,rfl,.inr ⟨_,rfl,(by show 2 ≤ sizeLine; decide),fun l hl => ?_⟩⟩
 have e:(V.int (if decide (V.bl (decide (0 < s))=V.bl b)=true then 1 else 0))=V.int (if decide (0 < s)=b then 1 else 0):=by
  congr 1
  by_cases c:decide (0 < s)=b
  ·rw [if_pos c,if_pos (decide_eq_true (congrArg V.bl c))]
  ·rw [if_neg c,if_neg fun z => c (V.bl.inj (of_decide_eq_true z))]
 have:=k l hl
 show Q (.ref l) (upd H l (.tup [V.int (if s < 0 then -s else s),V.int (if decide (V.bl (decide (0 < s))=V.bl b)=true then 1 else 0)]))
 rw [e]
 exact this
theorem filt_le {α:Type} (f:α→Bool) (l:List α) (n:Nat):((l.take n).filter f).length ≤ n:=Nat.le_trans (List.length_filter_le _ _) (by rw [List.length_take]; exact Nat.min_le_left _ _)
theorem filtQ_one {α:Type} (f:α→Bool) {l:List α} {n:Nat} {x:α} (h:l[n]? = some x):(l.take (n + 1)).filter f=(l.take n).filter f ++ (if f x=true then [x] else []):=by
 rw [take_succ' h,List.filter_append,List.filter_cons,List.filter_nil]
theorem HpI.perm {ps:List (List Int × List Int)} {hs ws:List (List (List Int))} (I:HpI ps hs) (h:ws.Perm hs):HpI ps ws:=by
 refine ⟨by rw [h.length_eq]; exact I.n,?_,fun x hx => I.two x (h.mem_iff.mp hx),fun x hx => ?_,fun x hx y hy => I.ifs x hx y (h.mem_iff.mp hy)⟩
 ·rw [(h.map List.length).sum_nat]; exact I.tot
 ·obtain ⟨y,a,b⟩:=I.has x hx
  exact ⟨y,h.mem_iff.mpr a,b⟩
theorem triP_len (t:List Int):(triP t).length=3:=rfl
theorem flatP_len:∀ l:List (List Int),(l.flatMap triP).length=3 * l.length
 | [] => rfl
 | t :: l => by rw [List.flatMap_cons,List.length_append,flatP_len l,triP_len,List.length_cons]; omega
end
end L2
namespace L2
open PySem PySem.Spec PyProof.Rows
section
variable {K:PySem.W.Frag} {H:Hp} {Q:VK} {Z:L2.St→Hp→Prop}
theorem upd_tup2 {H H' : Hp} {d:Addr} (P:PurseZ H d) (B:ButZ d H H'):Tups H H':=fun c o e => B c _ e fun z => by
 obtain ⟨x,y,h,_⟩:=P
 rw [z,h] at e
 cases e
theorem LsL.purse {H H' : Hp} {d:Addr} {ys:List V} {uss:List (List (List Int))} (h:LsL H true ys uss) (P:PurseZ H d) (B:ButZ d H H'):LsL H' true ys uss:=⟨h.1,fun i y us h1 h2 => by
 obtain ⟨a,xs,e,ha,it⟩:=h.2 i y us h1 h2
 refine ⟨a,xs,e,B _ _ ha fun z => ?_,it.up (upd_tup2 P B)⟩
 obtain ⟨u,v,hd,_⟩:=P
 rw [z,hd] at ha
 cases ha
 have l:=it.1
 cases us with
 | nil => cases l
 | cons w ws => exact nomatch it.2 0 _ w rfl rfl⟩
theorem purse_ne {H:Hp} {d l:Addr} {ys:List V} {U:List (List Int)} (P:PurseZ H d) (h:H l=some (.lst ys)) (t:TuL H ys U) (o:ShOk U):l ≠ d:=by
 rintro rfl
 obtain ⟨u,v,hd,_⟩:=P
 rw [hd] at h
 cases h
 have:=o.len
 cases U with
 | nil => simp at this
 | cons w ws =>
  obtain ⟨a,e,_⟩:=t.2 0 _ w rfl rfl
  cases e
set_option maxHeartbeats 4000000 in
theorem loopE_reads {s h:Addr} {xs gs:List V} {S g:List (List Int)} (hs:H s=some (.lst xs)) (tS:TuL H xs S) (oS:ShOk S) (hh:H h=some (.lst gs)) (it:ItL H true gs g) (k:∀ (l:Addr) (H' : Hp),Same H H'→H l=none→H' l=some (.lst ((ringR (S.length / 2 * 3) g).map V.int))→Q (.ref l) H'):tLoopE K { nx:=Z,rt:=Q } [some (.ref s),some (.ref h)] H:=by
 have lS:=oS.len
 have lx:xs.length=S.length:=tS.1
 have hdiv:3 * (xs.length:Int) / 2=((S.length / 2 * 3:Nat):Int):=by rw [lx]; omega
 refine ⟨_,rfl,s,xs,rfl,.inl (SqL.of hs),3,_,rfl,rfl,.inl ⟨by decide,by decide⟩,_,2,rfl,rfl,⟨by decide,by decide⟩,_,1,rfl,rfl,_,_,rfl,⟨by decide,by decide,by rw [hdiv]; omega,by rw [hdiv]; omega⟩,?_⟩
 rw [hdiv,show (((S.length / 2 * 3:Nat):Int) + 1 - 1).toNat=S.length / 2 * 3 by omega]
 refine compR (lo:=1) (n:=S.length / 2 * 3) (fun i zs H' => Same H H'∧zs=((ringR (S.length / 2 * 3) g).take i).map V.int) ⟨Same.refl H,rfl⟩ (by omega) (fun i zs H' h => by rw [h.2,List.length_map,List.length_take]; exact Nat.min_le_left _ _) ?_ ?_
 ·rintro i zs H1 pre hpl hi ⟨s1,rfl⟩
  rcases pre with _ | ⟨q0,_ | ⟨q1,pre⟩⟩
  ·cases hpl
  ·refine ⟨⟨[some _],rfl,rfl⟩,?_⟩
   unfold tYes
   dsimp only
   rw [if_pos (rfl:true=true)]
   refine ⟨2,rfl,by decide,by decide,compR (lo:=0) (n:=2) (fun j zs H' => Same H1 H'∧zs=((List.range j).map fun (e:Nat) => ringE g [1 + (i:Int),(e:Int)]).map V.int) ⟨Same.refl _,rfl⟩ (by decide) (fun j zs H' h => by rw [h.2,List.length_map,List.length_map,List.length_range]; exact Nat.le_refl _) ?_ ?_⟩
   ·rintro j zs H2 pre2 hpl2 hj ⟨s2,rfl⟩
    rcases pre2 with _ | ⟨q0,_ | ⟨q1,pre2⟩⟩
    ·cases hpl2
    ·refine ⟨⟨[some _],rfl,rfl⟩,?_⟩
     dsimp only
     rw [if_pos (rfl:true=true)]
     refine ⟨_,rfl,_,rfl,(by show 2 ≤ sizeLine; decide),fun tp htp => ?_⟩
     have s3:=Same.nw (o:=.tup [V.int (1 + (i:Int)),V.int (0 + (j:Int))]) (Same.refl H2) htp
     have f3:(upd H2 tp (.tup [V.int (1 + (i:Int)),V.int (0 + (j:Int))])) tp=some (.tup ([1 + (i:Int),(j:Int)].map V.int)):=by rw [upd_same,Int.zero_add]; rfl
     generalize upd H2 tp (.tup [V.int (1 + (i:Int)),V.int (0 + (j:Int))])=H3 at s3 f3 ⊢
     have s13:=s1.trans (s2.trans s3)
     refine ⟨_,rfl,h,gs,_,g,rfl,SqL.of (s13 _ _ hh),.tup f3,it.up s13.tups,.inr ⟨_,rfl,s2.trans s3,?_⟩⟩
     rw [List.range_succ,List.map_append,List.map_append]
     congr 1
     show [V.int (if decide ([1 + (i:Int),(j:Int)] ∈ g)=true then 1 else 0)]=[V.int (ringE g [1 + (i:Int),(j:Int)])]
     unfold ringE
     by_cases c:[1 + (i:Int),(j:Int)] ∈ g
     ·rw [if_pos c,decide_eq_true c,if_pos rfl]
     ·rw [if_neg c,decide_eq_false c,if_neg Bool.false_ne_true]
    ·cases hpl2
   ·rintro zs H2 ⟨s2,rfl⟩ D hD
    have s3:=Same.nw (o:=.lst (((List.range 2).map fun (e:Nat) => ringE g [1 + (i:Int),(e:Int)]).map V.int)) (Same.refl H2) hD
    refine ⟨D,(List.range 2).map fun (e:Nat) => ringE g [1 + (i:Int),(e:Int)],rfl,SqL.of upd_same,s1.trans (s2.trans s3),?_⟩
    rw [take_succ' (ringR_at hi),List.map_append]
    congr 1
    show [V.int (ringE g [1 + (i:Int),((0:Nat):Int)] + (ringE g [1 + (i:Int),((1:Nat):Int)] + 0))]=_
    rw [Int.add_zero]
    rfl
  ·cases hpl
 ·rintro zs H1 ⟨s1,rfl⟩ D hD
  rw [List.take_of_length_le (by rw [ringR_len]; exact Nat.le_refl _)]
  exact k D _ (s1.trans (Same.nw (Same.refl _) hD)) (s1.free hD) upd_same
theorem zip_add {r l:List Int} {c:Int} (h:l.length=r.length) {i:Nat} {x y:Int} (hx:r[i]? = some x) (hy:l[i]? = some y):(addR r (mulR c l))[i]? = some (x + c * y):=by
 have il:i < r.length:=(List.getElem?_eq_some_iff.mp hx).1
 rw [addR_at il]
 unfold mulR
 rw [List.getD_eq_getElem?_getD,List.getD_eq_getElem?_getD,List.getElem?_map,hx,hy]
 rfl
theorem add_bound {r:List Int} {g:List (List Int)} {n:Nat} {c M B:Int} (h:r.length=n) (c0:0 ≤ c) (cM:c ≤ M) (hr:∀ x ∈ r,x ≤ B):∀ x ∈ addR r (mulR c (ringR n g)),x ≤ B + 2 * M:=fun x hx => by
 obtain ⟨i,hi⟩:=List.mem_iff_getElem?.mp hx
 have il:i < r.length:=by have:=(List.getElem?_eq_some_iff.mp hi).1; rwa [addR_len] at this
 have e1:r[i]? = some r[i]:=List.getElem?_eq_getElem il
 rw [zip_add (by rw [ringR_len,h]) e1 (ringR_at (by omega))] at hi
 cases hi
 have b1:=hr _ (List.mem_of_getElem? e1)
 have r1:∀ e,0 ≤ ringE g e∧ringE g e ≤ 1:=fun e => by unfold ringE; split <;> decide
 have a1:=r1 [1 + (i:Int),0]
 have a2:=r1 [1 + (i:Int),1]
 have:c * (ringE g [1 + (i:Int),0] + ringE g [1 + (i:Int),1]) ≤ c * 2:=Int.mul_le_mul_of_nonneg_left (by omega) c0
 omega
def L6:List Int:=[1,3,30,10 ^ 9,10 ^ 30,10 ^ 58]
theorem L6_ok:∀ c ∈ L6,0 < c∧c ≤ 10 ^ 58:=by decide
set_option maxHeartbeats 16000000 in
theorem rowB_reads {d s fo:Addr} {x4 x5:Option V} {far:Int} {xs:List V} {S:List (List Int)} {r0:List Int} {H0:Hp} (B:ButZ d H0 H) (P:PurseZ H d) (hs:H s=some (.lst xs)) (tS:TuL H xs S) (oS:ShOk S) (f0:0 ≤ far) (f1:far < 10 ^ 58) (hf:H fo=some (.lst (r0.map V.int))) (ev:EvRow S r0) (bd:∀ x ∈ r0,x ≤ 4 * far)
  (k:∀ (l:Addr) (r:List Int) (H' : Hp),ButZ d H0 H'→PurseZ H' d→H' l=some (.lst (r.map V.int))→EvRow S r→(∀ x ∈ r,x < 10 ^ 60)→Q (.ref l) H'):tRowB K { nx:=Z,rt:=Q } [some (.ref d),some (.ref s),some (.int far),some (.ref fo),x4,x5] H:=by
 have sd:=purse_ne P hs tS oS
 refine ⟨_,rfl,s,xs,S,rfl,hs,tS,oS,fun l ys hps H1 s1 ln hl Lh Ih => ?_⟩
 have P1:=P.up s1
 have B1:=B.same s1
 have nl:l ≠ d:=P.ne ln
 have hn:hps.length ≤ 36:=by have:=Ih.n; rw [flatP_len] at this; have:=oS.len; omega
 have ly:ys.length=hps.length:=Lh.1
 refine ⟨l,rfl,⟨_,SqL.of hl⟩,for_list (K:=K) (a:=l) (xs:=ys) (fun j σ H' => ∃ (fo:Addr) (r:List Int) (x4 x5:Option V),σ=[some (.ref d),some (.ref s),some (.int far),some (.ref fo),x4,x5]∧ButZ d H1 H'∧PurseZ H' d∧H' fo=some (.lst (r.map V.int))∧EvRow S r∧∀ x ∈ r,x ≤ 4 * far + (j:Int) * (2 * (far + 3))) ⟨fo,r0,_,_,rfl,ButZ.refl _ _,P1,s1 _ _ hf,ev,fun x hx => by have:=bd x hx; rw [show ((0:Nat):Int)=0 from rfl,Int.zero_mul]; omega⟩ (fun j σ H' _ h => by obtain ⟨_,_,_,_,_,b,_⟩:=h; exact SqL.of (b _ _ hl nl)) ?_ ?_⟩
 ·rintro j x σ H2 hx ⟨fo,r,x4,x5,rfl,B2,P2,hf2,ev2,bd2⟩
  obtain ⟨us,c,xc,eu,rfl,hc,it⟩:=(Lh.purse P1 B2).get' hx
  have mu:us ∈ hps:=List.mem_of_getElem? eu
  have nfd:fo ≠ d:=by
   rintro rfl
   obtain ⟨u,v,hd,_⟩:=P2
   rw [hd] at hf2
   have:=ev2.len
   have e2:(r.map V.int).length=2:=by have:=Option.some.inj hf2; injection this with this; rw [← this]; rfl
   rw [List.length_map] at e2
   have:=oS.len
   omega
  have ncd:c ≠ d:=by
   rintro rfl
   obtain ⟨u,v,hd,_⟩:=P2
   rw [hd] at hc
   cases hc
   have l:=it.1
   cases us with
   | nil => cases l
   | cons w ws => exact nomatch it.2 0 _ w rfl rfl
  dsimp only [gName]
  refine ⟨_,rfl,d,4,rfl,P2,by decide,by decide,fun r1 H3 a1 b1 P3 B3 => ?_⟩
  refine ⟨_,rfl,_,rfl,far,1,rfl,rfl,d,far + 1,rfl,P3,by omega,Int.lt_of_le_of_lt (show far + 1 ≤ 10 ^ 58 by omega) (by decide),fun r2 H4 a2 b2 P4 B4 => ⟨(by show 3 ≤ sizeLine; decide),fun p hp => ?_⟩⟩
  have P5:=P4.new (o:=.lst [.int 0,.int r1,.int r2]) hp
  have B5:ButZ d H2 _:=(B3.trans B4).new (o:=.lst [.int 0,.int r1,.int r2]) hp
  have f5:(upd H4 p (.lst [.int 0,.int r1,.int r2])) p=some (.lst ([0,r1,r2].map V.int)):=upd_same
  have np:=P4.ne hp
  generalize upd H4 p (.lst [.int 0,.int r1,.int r2])=H5 at P5 B5 f5 ⊢
  refine ⟨_,rfl,d,3,rfl,P5,by decide,by decide,fun r3 H6 a3 b3 P6 B6 => ?_⟩
  obtain ⟨n,cc,rfl,ec,_⟩:=at_ex [0,r1,r2] a3 b3
  have mc:=List.mem_of_getElem? ec
  have c0:0 ≤ cc∧cc ≤ far + 3:=by
   simp only [List.mem_cons,List.not_mem_nil,or_false] at mc
   rcases mc with rfl | rfl | rfl <;> omega
  refine ⟨p,_,_,.int cc,rfl,rfl,SqL.of (B6 _ _ f5 np),atI_nat (by rw [List.getElem?_map,ec]; rfl),?_⟩
  have B26:=B5.trans B6
  dsimp only [gName]
  have hs6:H6 s=some (.lst xs):=B26 _ _ (B2 _ _ (s1 _ _ hs) sd) sd
  have tS6:TuL H6 xs S:=tS.up fun c o e => upd_tup2 P2 B26 c o (upd_tup2 P1 B2 c o (s1 _ _ e))
  have hc6:=B26 _ _ hc ncd
  have it6:=it.up (upd_tup2 P2 B26)
  have hf6:=B26 _ _ hf2 nfd
  refine ⟨_,rfl,_,rfl,_,rfl,s,c,xs,xc,S,us,rfl,hs6,tS6,oS,hc6,it6,fun lo H7 s7 lon hlo => ?_⟩
  have hf7:=s7 _ _ hf6
  have lr:=ev2.len
  refine ⟨fo,lo,rfl,⟨_,SqL.of hf7⟩,⟨_,SqL.of hlo⟩,compZ (K:=K) (a:=fo) (b:=lo) (xs:=r.map V.int) (ys:=(ringR (S.length / 2 * 3) us).map V.int) (n:=r.length) (fun i zs H' => Same H7 H'∧zs=((addR r (mulR cc (ringR (S.length / 2 * 3) us))).take i).map V.int) ⟨Same.refl _,rfl⟩ (by rw [List.length_map,List.length_map,ringR_len]; omega) (by have:=oS.len; omega) (fun i zs H' h => by rw [h.2,List.length_map,List.length_take]; exact Nat.min_le_left _ _) (fun i zs H' _ h => ⟨SqL.of (h.1 _ _ hf7),SqL.of (h.1 _ _ hlo)⟩) ?_ ?_⟩
  ·rintro i x y zs H8 pre pp hpl hx hy ⟨s8,rfl⟩ hpp
   rw [List.getElem?_map] at hx hy
   cases ex:r[i]? with
   | none => rw [ex] at hx; cases hx
   | some xi =>
    cases ey:(ringR (S.length / 2 * 3) us)[i]? with
    | none => rw [ey] at hy; cases hy
    | some yi =>
     rw [ex] at hx
     rw [ey] at hy
     cases hx
     cases hy
     have yb : -(2 ^ 64) < yi∧yi < 2 ^ 64:=by
      have il:i < S.length / 2 * 3:=by have:=(List.getElem?_eq_some_iff.mp ey).1; rwa [ringR_len] at this
      rw [ringR_at il] at ey
      have r1:∀ e,0 ≤ ringE us e∧ringE us e ≤ 1:=fun e => by unfold ringE; split <;> decide
      have a1:=r1 [1 + (i:Int),0]
      have a2:=r1 [1 + (i:Int),1]
      have:=Option.some.inj ey
      omega
     rcases pre with _ | ⟨q0,_ | ⟨q1,_ | ⟨q2,pre⟩⟩⟩
     ·cases hpl
     ·cases hpl
     ·have s9:=Same.nw (o:=.tup [V.int xi,V.int yi]) (Same.refl H8) hpp
      refine ⟨pp,_,rfl,SqT.of upd_same,rfl,_,_,rfl,_,_,rfl,rfl,⟨[some _,some _],rfl,rfl⟩,?_⟩
      unfold tYes
      dsimp only
      rw [if_pos (rfl:true=true)]
      refine ⟨_,rfl,_,rfl,_,rfl,cc,yi,rfl,rfl,.inr yb,xi,_,rfl,rfl,s8.trans s9,?_⟩
      rw [take_succ' (zip_add (c:=cc) (by rw [ringR_len,lr]) ex ey),List.map_append]
      rfl
     ·cases hpl
  ·rintro zs H8 ⟨s8,rfl⟩ D hD
   rw [List.take_of_length_le (by rw [addR_len]; exact Nat.le_refl _)]
   have s9:=Same.nw (o:=.lst ((addR r (mulR cc (ringR (S.length / 2 * 3) us))).map V.int)) (Same.refl H8) hD
   have s79:=s7.trans (s8.trans s9)
   refine ⟨D,_,_,_,rfl,(B2.trans B26).same s79,P6.up s79,upd_same,ev2.add ((ring_ev oS fun x hx => Ih.ifs x hx us mu).mul c0.1),fun x hx => ?_⟩
   have:=add_bound (M:=far + 3) (B:=4 * far + (j:Int) * (2 * (far + 3))) lr c0.1 c0.2 bd2 x hx
   rw [show ((j + 1:Nat):Int)=(j:Int) + 1 by omega,Int.add_mul,Int.one_mul]
   omega
 ·rintro σ H2 ⟨fo,r,x4,x5,rfl,B2,P2,hf2,ev2,bd2⟩
  refine ⟨_,rfl,k fo r H2 (B1.trans B2) P2 hf2 ev2 fun x hx => ?_⟩
  have h1:=bd2 x hx
  have h2:(ys.length:Int) * (2 * (far + 3)) ≤ 36 * (2 * (far + 3)):=Int.mul_le_mul_of_nonneg_right (by omega) (by omega)
  have:(10:Int) ^ 60=100 * 10 ^ 58:=by decide
  have:(1000:Int) ≤ 10 ^ 58:=by decide
  omega
set_option maxHeartbeats 16000000 in
theorem rowE_reads {d s:Addr} {xs:List V} {S:List (List Int)} (P:PurseZ H d) (hs:H s=some (.lst xs)) (tS:TuL H xs S) (oS:ShOk S) (k:∀ (l:Addr) (r:List Int) (H' : Hp),ButZ d H H'→PurseZ H' d→H' l=some (.lst (r.map V.int))→EvRow S r→(∀ x ∈ r,x < 10 ^ 60)→Q (.ref l) H'):tRowE K { nx:=Z,rt:=Q } [some (.ref d),some (.ref s),none,none,none,none] H:=by
 have sd:=purse_ne P hs tS oS
 have lS:=oS.len
 have lx:xs.length=S.length:=tS.1
 have hdiv:3 * (xs.length:Int) / 2=((S.length / 2 * 3:Nat):Int):=by rw [lx]; omega
 refine ⟨_,rfl,10,9,rfl,rfl,⟨by decide,by decide,by decide⟩,10,30,rfl,rfl,⟨by decide,by decide,by decide⟩,10,58,rfl,rfl,⟨by decide,by decide,by decide⟩,(by show 6 ≤ sizeLine; decide),fun p hp => ?_⟩
 have P1:=P.new (o:=.lst (L6.map V.int)) hp
 have B1:ButZ d H _:=(ButZ.refl d H).new (o:=.lst (L6.map V.int)) hp
 have f1:(upd H p (.lst (L6.map V.int))) p=some (.lst (L6.map V.int)):=upd_same
 have np:=P.ne hp
 have eL:(HO.lst [V.int 1,V.int 3,V.int 30,V.int ((10:Int) ^ (9:Int).toNat),V.int ((10:Int) ^ (30:Int).toNat),V.int ((10:Int) ^ (58:Int).toNat)]) = .lst (L6.map V.int):=rfl
 rw [eL]
 generalize upd H p (.lst (L6.map V.int))=H1 at P1 B1 f1 ⊢
 refine ⟨_,rfl,d,6,rfl,P1,by decide,by decide,fun r1 H2 a1 b1 P2 B2 => ?_⟩
 obtain ⟨n,m,rfl,em,_⟩:=at_ex L6 a1 b1
 have hm:=L6_ok m (List.mem_of_getElem? em)
 refine ⟨p,_,_,.int m,rfl,rfl,SqL.of (B2 _ _ f1 np),atI_nat (by rw [List.getElem?_map,em]; rfl),d,m,rfl,P2,hm.1,Int.lt_of_le_of_lt hm.2 (by decide),fun far H3 f0 fm P3 B3 => ?_⟩
 have B03:=(B1.trans B2).trans B3
 have hs3:=B03 _ _ hs sd
 have tS3:=tS.up (upd_tup2 P B03)
 dsimp only [gName]
 refine ⟨_,rfl,s,xs,rfl,.inl (SqL.of hs3),3,_,rfl,rfl,.inl ⟨by decide,by decide⟩,_,2,rfl,rfl,⟨by decide,by decide⟩,_,rfl,by rw [hdiv]; omega,by rw [hdiv]; omega,?_⟩
 rw [hdiv,Int.toNat_natCast]
 refine compR (lo:=0) (n:=S.length / 2 * 3) (fun i zs H' => ∃ r:List Int,zs=r.map V.int∧r.length=i∧(∀ x ∈ r,∃ e,0 ≤ e∧e ≤ far∧x=2 * (far + e))∧ButZ d H3 H'∧PurseZ H' d) ⟨[],rfl,rfl,fun x hx => (by cases hx),ButZ.refl _ _,P3⟩ (by omega) (fun i zs H' h => by obtain ⟨r,rfl,e,_⟩:=h; rw [List.length_map,e]; exact Nat.le_refl _) ?_ ?_
 ·rintro i zs H4 pre hpl hi ⟨r,rfl,rl,rb,B4,P4⟩
  rcases pre with _ | ⟨q0,_ | ⟨q1,pre⟩⟩
  ·cases hpl
  ·refine ⟨⟨[some _],rfl,rfl⟩,?_⟩
   unfold tYes
   dsimp only
   rw [if_pos (rfl:true=true)]
   refine ⟨_,rfl,_,rfl,_,rfl,far,1,rfl,rfl,d,far + 1,rfl,P4,by omega,Int.lt_of_le_of_lt (show far + 1 ≤ 10 ^ 58 by omega) (by decide),fun e H5 e0 em P5 B5 => ⟨far,e,rfl,rfl,2,_,rfl,rfl,.inl ⟨by decide,by decide⟩,r ++ [2 * (far + e)],by rw [List.map_append]; rfl,by rw [List.length_append,rl]; rfl,fun x hx => ?_,B4.trans B5,P5⟩⟩
   rcases List.mem_append.mp hx with z | z
   ·exact rb x z
   ·rw [List.mem_singleton.mp z]
    exact ⟨e,e0,by omega,rfl⟩
  ·cases hpl
 ·rintro zs H4 ⟨r,rfl,rl,rb,B4,P4⟩ D hD
  have s5:=Same.nw (o:=.lst (r.map V.int)) (Same.refl H4) hD
  have f5:(upd H4 D (.lst (r.map V.int))) D=some (.lst (r.map V.int)):=upd_same
  dsimp only [gName]
  generalize upd H4 D (.lst (r.map V.int))=H5 at s5 f5 ⊢
  have B05:=(B03.trans B4).same s5
  refine rowB_reads B05 (P4.up s5) (B05 _ _ hs sd) (tS.up (upd_tup2 P B05)) oS f0 (by omega) f5 (ev_base oS rl f0 rb) (fun x hx => ?_) k
  obtain ⟨e,e0,e1,rfl⟩:=rb x hx
  omega
end
end L2
namespace L2
open PySem PySem.Spec PyProof.Rows
theorem app_list (a b:Str):(a ++ b).cps.toList=a.cps.toList ++ b.cps.toList:=by
 show (a.cps ++ b.cps).toList=_
 rw [Array.toList_append]
theorem join_two (y s t:Str) (r:List Str):Str.join y (s :: t :: r)=s ++ y ++ Str.join y (t :: r):=rfl
theorem at_list {x y:Str} {i:Nat} (h:StrLaws.At x y x.length i):(x.cps.toList.drop i).take y.cps.toList.length=y.cps.toList:=by
 have h2:x.cps.extract i (i + y.length)=y.cps:=eq_of_beq h.2
 have:=congrArg Array.toList h2
 rw [Array.toList_extract,List.extract_eq_take_drop] at this
 rw [len_list] at this
 rw [show i + y.cps.toList.length - i=y.cps.toList.length by omega] at this
 exact this
theorem at_of {x y:Str} {i:Nat} {B:List Nat} (h:x.cps.toList.drop i=y.cps.toList ++ B) (hi:i ≤ x.length):StrLaws.At x y x.length i:=by
 have hl:=congrArg List.length h
 rw [List.length_drop,List.length_append,← len_list,← len_list] at hl
 refine ⟨by omega,?_⟩
 show (x.cps.extract i (i + y.length) == y.cps)=true
 rw [beq_iff_eq]
 apply Array.toList_inj.mp
 rw [Array.toList_extract,List.extract_eq_take_drop,h,len_list,show i + y.cps.toList.length - i=y.cps.toList.length by omega]
 exact List.take_left
theorem first_d {A B:List Nat} {d i:Nat} (hA:d ∉ A) (h:(A ++ B)[i]? = some d):A.length ≤ i:=by
 refine Classical.byContradiction fun z => hA ?_
 rw [List.getElem?_append_left (by omega)] at h
 exact List.mem_of_getElem? h
theorem at_d {x y:Str} {p q:List Nat} {d i:Nat} (hy:y.cps.toList=p ++ d :: q) (h:StrLaws.At x y x.length i):(x.cps.toList.drop i)[p.length]? = some d:=by
 have:=at_list h
 have e:((x.cps.toList.drop i).take y.cps.toList.length)[p.length]? = some d:=by
  rw [this,hy,List.getElem?_append_right (Nat.le_refl _),Nat.sub_self]
  rfl
 rw [List.getElem?_take_of_lt (by rw [hy,List.length_append,List.length_cons]; omega)] at e
 exact e
theorem parts_join {x y:Str} {p q:List Nat} {d:Nat} (hy:y.cps.toList=p ++ d :: q) (hp:d ∉ p):∀ (ss:List Str) (a f:Nat) (cuts:List Nat),ss ≠ []→(∀ s ∈ ss,d ∉ s.cps.toList)→x.cps.toList.drop a=(Str.join y ss).cps.toList→a ≤ x.length→StrLaws.ChainG x y x.length a cuts f→(∀ k,f ≤ k→¬ StrLaws.At x y x.length k)→StrLaws.partsFrom x y.length a cuts=ss
 | [],_,_,_,ne,_,_,_,_,_ => absurd rfl ne
 | [s],a,f,cuts,_,fr,hd,ha,hc,hn => by
  have hd:x.cps.toList.drop a=s.cps.toList:=hd
  cases cuts with
  | nil =>
   show [Builtin.Str.strSub x a x.length]=[s]
   congr 1
   apply str_ext
   rw [StrLaws.strSub_toList,len_list,hd.symm]
   rw [List.take_of_length_le (by rw [List.length_drop]; exact Nat.le_refl _)]
  | cons c r =>
   exfalso
   obtain ⟨ac,hA,_⟩:=hc
   have e:=at_d hy hA
   rw [show c=a + (c - a) by omega,← List.drop_drop,hd,List.getElem?_drop] at e
   exact fr s List.mem_cons_self (List.mem_of_getElem? e)
 | s :: t :: r,a,f,cuts,_,fr,hd,ha,hc,hn => by
  rw [join_two,app_list,app_list,List.append_assoc] at hd
  have hl:=congrArg List.length hd
  rw [List.length_drop,List.length_append,List.length_append,← len_list] at hl
  have as:a + s.cps.toList.length ≤ x.length:=by omega
  have hd2:x.cps.toList.drop (a + s.cps.toList.length)=y.cps.toList ++ (Str.join y (t :: r)).cps.toList:=by
   rw [← List.drop_drop,hd,List.drop_left]
  have A0:=at_of hd2 as
  cases cuts with
  | nil =>
   have e:f=a:=hc
   exact absurd A0 (hn _ (by omega))
  | cons c cs =>
   obtain ⟨ac,hA,hk,hr⟩:=hc
   have c1:c ≤ a + s.cps.toList.length:=by
    refine Classical.byContradiction fun z => hk _ (by omega) (by omega) A0
   have c2:a + s.cps.toList.length ≤ c:=by
    have e:=at_d hy hA
    rw [show c=a + (c - a) by omega,← List.drop_drop,hd,List.getElem?_drop,hy,List.append_assoc,← List.append_assoc] at e
    have:=first_d (A:=s.cps.toList ++ p) (fun m => (List.mem_append.mp m).elim (fr s List.mem_cons_self) hp) e
    rw [List.length_append] at this
    omega
   have ec:c=a + s.cps.toList.length:=by omega
   subst ec
   show Builtin.Str.strSub x a (a + s.cps.toList.length) :: StrLaws.partsFrom x y.length (a + s.cps.toList.length + y.length) cs=_
   have e1:Builtin.Str.strSub x a (a + s.cps.toList.length)=s:=by
    apply str_ext
    rw [StrLaws.strSub_toList,hd,show a + s.cps.toList.length - a=s.cps.toList.length by omega]
    exact List.take_left
   have yl:y.length=y.cps.toList.length:=len_list y
   rw [e1,parts_join hy hp (t :: r) (a + s.cps.toList.length + y.length) f cs (by simp) (fun z hz => fr z (List.mem_cons_of_mem _ hz)) ?_ ?_ hr hn]
   ·rw [yl,← List.drop_drop,hd2,List.drop_left]
   ·omega
theorem kind_pos (x:Str):1 ≤ Builtin.Str.strKind x:=by
 unfold Builtin.Str.strKind
 split
 ·decide
 ·split <;> decide
theorem split_join {y:Str} {p q:List Nat} {d:Nat} (hy:y.cps.toList=p ++ d :: q) (hp:d ∉ p) (hk:Builtin.Str.strKind y=1) {ss:List Str} (ne:ss ≠ []) (fr:∀ s ∈ ss,d ∉ s.cps.toList):Txt.split (Str.join y ss) y=ss:=by
 have yl:1 ≤ y.length:=by rw [len_list,hy,List.length_append,List.length_cons]; omega
 obtain ⟨f,hG,hn⟩:=StrLaws.occ_tight (Str.join y ss) y yl
 have key:=parts_join (x:=Str.join y ss) hy hp ss 0 f _ ne fr rfl (Nat.zero_le _) hG hn
 unfold Txt.split
 split
 ·rename_i hc
  rw [Bool.or_eq_true,decide_eq_true_eq,decide_eq_true_eq] at hc
  cases ss with
  | nil => exact absurd rfl ne
  | cons s r =>
   cases r with
   | nil => rfl
   | cons t r =>
    exfalso
    have:=kind_pos (Str.join y (s :: t :: r))
    rcases hc with hc | hc
    ·rw [join_two,Str.length_append,Str.length_append] at hc
     omega
    ·omega
 ·split
  ·rename_i he
   rw [List.isEmpty_iff.mp he] at key
   rw [← key]
   show _=[Builtin.Str.strSub _ 0 _]
   rw [StrLaws.sub_whole,key]
  ·rw [StrLaws.partsBetween_eq]
   exact key
theorem join_free {y:Str} {d:Nat} (hy:d ∉ y.cps.toList):∀ {ss:List Str},(∀ s ∈ ss,d ∉ s.cps.toList)→d ∉ (Str.join y ss).cps.toList
 | [],_ => by show d ∉ ([]:List Nat); simp
 | [s],h => h s List.mem_cons_self
 | s :: t :: r,h => by
  rw [join_two,app_list,app_list]
  intro m
  rcases List.mem_append.mp m with m | m
  ·rcases List.mem_append.mp m with m | m
   ·exact h s List.mem_cons_self m
   ·exact hy m
  ·exact join_free hy (fun z hz => h z (List.mem_cons_of_mem _ hz)) m
structure GoodN (i:Int):Prop where
 num:isNum (numT i)=true
 val:numI (numT i)=i
 bl:32 ∉ (numT i).cps.toList
 sl:47 ∉ (numT i).cps.toList
theorem good_side {i:Int} (h1 : -18 ≤ i) (h2:i ≤ 18):GoodN i:=by
 have key:∀ n:Fin 37,isNum (numT ((n.val:Int) - 18))=true∧numI (numT ((n.val:Int) - 18))=(n.val:Int) - 18∧32 ∉ (numT ((n.val:Int) - 18)).cps.toList∧47 ∉ (numT ((n.val:Int) - 18)).cps.toList:=by decide +kernel
 have:=key ⟨(i + 18).toNat,by omega⟩
 rw [show (((⟨(i + 18).toNat,by omega⟩:Fin 37).val:Nat):Int) - 18=i by show ((i + 18).toNat:Int) - 18=i; omega] at this
 exact ⟨this.1,this.2.1,this.2.2.1,this.2.2.2⟩
theorem dg_to {c:Nat} (h:48 ≤ c∧c ≤ 57):isDg c=true:=by
 unfold isDg
 rw [show ("0123456789" : Str).cps.toList=[48,49,50,51,52,53,54,55,56,57] from by decide +kernel]
 refine decide_eq_true ?_
 simp only [List.mem_cons,List.not_mem_nil,or_false]
 omega
theorem val_lt:∀ (cs:List Nat) (a:Nat),PySem.NumText.AllDigits cs→cs.foldl (fun acc c => acc * 10 + (c - 48)) a < (a + 1) * 10 ^ cs.length
 | [],a,_ => by simp
 | c :: cs,a,h => by
  have hc:=h.head
  have ih:=val_lt cs (a * 10 + (c - 48)) h.tail
  show cs.foldl _ (a * 10 + (c - 48)) < _
  refine Nat.lt_of_lt_of_le ih ?_
  rw [List.length_cons,Nat.pow_succ,Nat.mul_comm (10 ^ cs.length) 10,← Nat.mul_assoc]
  exact Nat.mul_le_mul_right _ (by omega)
theorem good_num {i:Int} (h0:0 ≤ i) (h1:i < 10 ^ 60):GoodN i:=by
 obtain ⟨m,rfl⟩:=Int.eq_ofNat_of_zero_le h0
 have hm:m < 10 ^ 60:=by omega
 have es:(numT (m:Int)).cps.toList=(Nat.toDigits 10 m).map Char.toNat:=PySem.W.KIN.signs_num m
 have hd:PySem.NumText.AllDigits (numT (m:Int)).cps.toList:=by
  intro c hc
  rw [es] at hc
  obtain ⟨ch,hch,e⟩:=List.mem_map.mp hc
  have r:=PyProof.Rows.digit_range (Nat.isDigit_of_mem_toDigits (by decide) (by decide) hch)
  rw [← e]
  exact r
 have dl:∀ k,0 < k→m < 10 ^ k→(Nat.toDigits 10 m).length ≤ k:=fun k k0 hk => by
  have e:=(Nat.length_repr_le_iff (n:=m) k0).mpr hk
  rwa [← String.length_toList,Nat.toList_repr] at e
 have hl:(numT (m:Int)).length ≤ 60:=by rw [len_list,es,List.length_map]; exact dl 60 (by decide) hm
 have hne:(numT (m:Int)).cps.toList ≠ []:=by
  rw [es]
  intro e
  have h:=toDigits_len_ge 10 m
  rw [List.map_eq_nil_iff.mp e] at h
  exact absurd h (by decide)
 have hv:PySem.intText? (numT (m:Int))=some (m:Int):=by
  have e:=PySem.intText_digits hd hne (Nat.le_trans hl (by decide))
  rw [es,PySem.W.KIN.val_back] at e
  exact e
 have ns:Txt.startswith (numT (m:Int)) "-" = false:=by
  rw [starts_minus]
  refine decide_eq_false fun z => ?_
  have:=hd 45 (by
   cases e:(numT (m:Int)).cps.toList with
   | nil => exact absurd e hne
   | cons c r => rw [e] at z; cases z; exact List.mem_cons_self)
  omega
 have eb:bareS (numT (m:Int))=numT (m:Int):=by unfold bareS; rw [if_neg (by rw [ns]; decide)]
 have l1:1 ≤ (numT (m:Int)).length:=by
  rw [len_list]
  cases e:(numT (m:Int)).cps.toList with
  | nil => exact absurd e hne
  | cons c r => simp
 refine ⟨?_,by unfold numI; rw [hv]; rfl,fun z => by have:=hd 32 z; omega,fun z => by have:=hd 47 z; omega⟩
 unfold isNum digsB
 rw [eb,decide_eq_true ⟨l1,hl⟩,Bool.true_and,Bool.and_eq_true]
 refine ⟨List.all_eq_true.mpr fun c hc => dg_to (hd c hc),?_⟩
 rw [Bool.or_eq_true]
 cases e:(numT (m:Int)).cps.toList with
 | nil => exact absurd e hne
 | cons c r =>
  by_cases hc:c=48
  ·right
   subst hc
   cases r with
   | nil =>
    have e0:m=0:=by
     have:=PySem.W.KIN.val_back m
     rw [← es,e] at this
     exact this.symm
    rw [e0]
    decide +kernel
   | cons c2 r2 =>
    exfalso
    have e0:m=PySem.NumText.digitsVal (c2 :: r2):=by
     have:=PySem.W.KIN.val_back m
     rw [← es,e] at this
     exact this.symm
    have lt:=val_lt (c2 :: r2) 0 (by have:=hd; rw [e] at this; exact this.tail)
    have lt2:m < 10 ^ (c2 :: r2).length:=by
     rw [e0]
     have:PySem.NumText.digitsVal (c2 :: r2) < (0 + 1) * 10 ^ (c2 :: r2).length:=lt
     omega
    have:=dl _ (by simp) lt2
    have e2:=congrArg List.length (es.symm.trans e)
    rw [List.length_map,List.length_cons] at e2
    omega
  ·left
   show (some c != some 48)=true
   simp [hc]
theorem blank_cps:(" " : Str).cps.toList=[] ++ 32 :: []:=by decide +kernel
theorem slash_cps:(" / " : Str).cps.toList=[32] ++ 47 :: [32]:=by decide +kernel
theorem words_row {u:List Int} (ne:u ≠ []) (h:∀ i ∈ u,GoodN i):wordsS (rowT u)=u.map numT :=
 split_join (d:=32) blank_cps (by simp) (by decide +kernel) (by simpa using ne) fun s hs => by
  obtain ⟨i,hi,rfl⟩:=List.mem_map.mp hs
  exact (h i hi).bl
theorem row_ok {u:List Int} (ne:u ≠ []) (h:∀ i ∈ u,GoodN i):rowOk (rowT u)=true∧rowI (rowT u)=u:=by
 unfold rowOk rowI
 rw [words_row ne h]
 refine ⟨List.all_eq_true.mpr fun w hw => ?_,?_⟩
 ·obtain ⟨i,hi,rfl⟩:=List.mem_map.mp hw
  exact (h i hi).num
 ·rw [List.map_map]
  exact (List.map_congr_left fun i hi => (h i hi).val).trans (List.map_id _)
def sheetT (U:List (List Int)):Str:=Str.join " / " (U.map rowT)
theorem sheetQ_ok {U:List (List Int)} (ne:U ≠ []) (h:∀ u ∈ U,u ≠ []∧∀ i ∈ u,GoodN i):txtOk (sheetT U)=true∧triI (sheetT U)=U:=by
 have e:partsS (sheetT U)=U.map rowT:=split_join (d:=47) slash_cps (by decide) (by decide +kernel) (by simpa using ne) fun s hs => by
  obtain ⟨u,hu,rfl⟩:=List.mem_map.mp hs
  refine join_free (by rw [blank_cps]; decide) fun z hz => ?_
  obtain ⟨i,hi,rfl⟩:=List.mem_map.mp hz
  exact ((h u hu).2 i hi).sl
 unfold txtOk triI
 rw [e]
 refine ⟨List.all_eq_true.mpr fun w hw => ?_,?_⟩
 ·obtain ⟨u,hu,rfl⟩:=List.mem_map.mp hw
  exact (row_ok (h u hu).1 (h u hu).2).1
 ·rw [List.map_map]
  exact (List.map_congr_left fun u hu => (row_ok (h u hu).1 (h u hu).2).2).trans (List.map_id _)
theorem sh_good {U:List (List Int)} (o:ShOk U):∀ u ∈ U,u ≠ []∧∀ i ∈ u,GoodN i:=fun u hu =>
 ⟨fun z => (by have:=o.three u hu; rw [z] at this; cases this),fun i hi => good_side (o.small hu hi).1 (o.small hu hi).2⟩
theorem rowOB_ev {S:List (List Int)} {r:List Int} (oS:ShOk S) (ev:EvRow S r):rowOB S r=true:=by
 unfold rowOB
 rw [decide_eq_true ev.len,Bool.true_and,Bool.and_eq_true]
 refine ⟨List.all_eq_true.mpr fun x hx => decide_eq_true (ev.nn x hx),List.all_eq_true.mpr fun t ht => ?_⟩
 obtain ⟨a,b,c,rfl⟩:=three3 (oS.three t ht)
 exact decide_eq_true (ev.tri a b c ht)
end L2
set_option maxHeartbeats 4000000
namespace L2
open PySem PySem.Spec PyProof.Rows
section
variable {prog:Program} {w:World} {A:Around} {E:Value→Shared→Prop} {s:Shared}
theorem sort_tups64 {a:Addr} {vs:List Value} {n:Nat} {P:Fin→Shared→Prop} (hb:s.heap.get? a=some (seqObj "list" vs.toArray n)) (h64:vs.length < 64) (hv:∀ v ∈ vs,∃ u,TupI s.heap v u∧u ≠ [])
  (h:∀ out:Array Value,out.toList.Perm vs→(out.toList.map (kfI s.heap)).Pairwise (fun x y => lexB y x=false)→P (.done (.ret .none)) { s with heap:=sortedHeap s.heap a vs out }):wpAny (model prog w) A (Builtin.«list.sort» ⟨[.ref a],[]⟩) P E s:=by
 have kt:∀ h' : Heap,(∀ b o,b ≠ a→s.heap.get? b=some o→h'.get? b=some o)→∀ v ∈ vs,∃ u,TupI h' v u∧u ≠ []∧kfI s.heap v=u:=fun h' k v q => by
  obtain ⟨u,t,nu⟩:=hv v q
  exact ⟨u,t.keep' (tup_keep hb rfl k),nu,t.kf⟩
 have mz:∀ p,p ∈ (pairsOf vs).toList→p.1=p.2∧p.1 ∈ vs:=fun p q => by rw [pairsOf_toList] at q; exact mem_zip_self q
 refine sort_gen (k0:=tuples' true) (rk:=fun v => rnk (vs.map (kfI s.heap)) (kfI s.heap v)) hb h64 (fun h2 h' k E' Q' q => ?_) (fun h' k E' x y Q' hx hy q => ?_) fun xs pm up => ?_
 ·refine kind_tups (s:={ s with heap:=h' }) (fun v hv' => ?_) (fun z => by rw [z] at h2; simp at h2) q
  obtain ⟨u,t,nu,_⟩:=kt h' k v hv'
  exact ⟨u,t,nu⟩
 ·obtain ⟨u,t,nu,eu⟩:=kt h' k x.1 (mz x hx).2
  obtain ⟨u',t',nu',eu'⟩:=kt h' k y.1 (mz y hy).2
  refine lt_tups (s:={ s with heap:=h' }) true t t' ?_
  have m1:kfI s.heap x.1 ∈ vs.map (kfI s.heap):=List.mem_map.mpr ⟨_,(mz x hx).2,rfl⟩
  have m2:kfI s.heap y.1 ∈ vs.map (kfI s.heap):=List.mem_map.mpr ⟨_,(mz y hy).2,rfl⟩
  have e3:lexB u u' = decide (rnk (vs.map (kfI s.heap)) (kfI s.heap x.1) < rnk (vs.map (kfI s.heap)) (kfI s.heap y.1)):=by rw [rnk_ok m1 m2,eu,eu']
  rw [e3]
  exact q
 ·have pl:xs.toList.Perm (vs.zip vs):=by rw [← pairsOf_toList]; exact Array.perm_iff_toList_perm.mp pm
  have ps:(xs.map (·.2)).toList.Perm vs:=by
   rw [Array.toList_map]
   have:=pl.map (·.2)
   rw [List.map_snd_zip (Nat.le_refl _)] at this
   exact this
  refine h (xs.map (·.2)) ps ?_
  rw [List.pairwise_iff_getElem]
  intro i j hi hj ij
  have lx:(xs.map (·.2)).toList.length=xs.size:=by rw [Array.length_toList,Array.size_map]
  rw [List.length_map,lx] at hi hj
  have hz:xs.size=(pairsOf vs).size:=pm.size_eq
  have q:=up i j (Nat.le_of_lt ij) (by omega)
  have mi:xs[i] ∈ (pairsOf vs).toList:=(Array.perm_iff_toList_perm.mp pm).subset (Array.getElem_mem_toList hi)
  have mj:xs[j] ∈ (pairsOf vs).toList:=(Array.perm_iff_toList_perm.mp pm).subset (Array.getElem_mem_toList hj)
  unfold RK at q
  rw [Array.getElem?_eq_getElem hi,Array.getElem?_eq_getElem hj] at q
  dsimp only at q
  have e:=rnk_ok (ks:=vs.map (kfI s.heap)) (x:=kfI s.heap xs[j].1) (y:=kfI s.heap xs[i].1) (List.mem_map.mpr ⟨_,(mz _ mj).2,rfl⟩) (List.mem_map.mpr ⟨_,(mz _ mi).2,rfl⟩)
  rw [decide_eq_false (by omega)] at e
  simp only [List.getElem_map,Array.getElem_toList,Array.getElem_map]
  rw [← (mz _ mi).1,← (mz _ mj).1]
  exact e.symm
theorem sorted_setT64 {V0:Value→Prop} {S:Addr} {us:List (List Int)} {Q:Value→Shared→Prop} (hh:A.handled=none) (hj:SetT prog w V0 s.heap S us) (h64:us.length < 64) (ne:∀ u ∈ us,u ≠ [])
  (h:∀ (out:Array Value) (ws:List (List Int)) (h1 h' : Heap) (tk:Nat) (d' : Drawn) (e:Nat),(∀ b ob,s.heap.get? b=some ob→h1.get? b=some ob)→(∀ b ob,h1.get? b=some ob→h'.get? b=some ob)→out.size=ws.length→(∀ (i:Nat) (v:Value) (u:List Int),out[i]? = some v→ws[i]? = some u→TupI s.heap v u∧V0 v)→ws.Perm us→ws.Pairwise (fun x y => lexB y x=false)→h'.get? h1.objs.size=some (seqObj "list" out e)→Q (.ref h1.objs.size) { s with heap:=h',toks:=tk,drawn:=d' }) :
  wpAny (model prog w) A (call (.builtin "sorted") [.ref S]) Q E s:=by
 obtain ⟨o,es,ep,t,ks,ho,hx,hd,ea,pm,K⟩:=hj
 have fit:t.fits es.size=true:=by
  have:=K.fits
  rw [List.length_map,Array.length_toList] at this
  exact this
 have hl:es.size=us.length:=by rw [← Array.length_toList,ea.1,pm.length_eq]
 have hb:es.size < scanBound:=by unfold scanBound; omega
 have kv:∀ v ∈ es.toList.map (·.2),∃ u,TupI s.heap v u∧u ∈ us∧V0 v:=fun v q => by
  obtain ⟨e,he,rfl⟩:=List.mem_map.mp q
  obtain ⟨i,hi⟩:=List.mem_iff_getElem?.mp he
  have il:=(List.getElem?_eq_some_iff.mp hi).1
  have ik:i < ks.length:=by rw [← ea.1]; exact il
  have hk:ks[i]? = some ks[i]:=List.getElem?_eq_getElem ik
  exact ⟨ks[i],(ea.2 i e _ hi hk).1,pm.mem_iff.mp (List.mem_of_getElem? hk),(ea.2 i e _ hi hk).2.2⟩
 have ek:(es.toList.map (·.2)).map (kfI s.heap)=ks:=by
  apply List.ext_getElem?
  intro i
  rw [List.getElem?_map,List.getElem?_map]
  by_cases z:i < es.toList.length
  ·have hi:es.toList[i]? = some es.toList[i]:=List.getElem?_eq_getElem z
   have ik2:i < ks.length:=by rw [← ea.1]; exact z
   have hk:ks[i]? = some ks[i]:=List.getElem?_eq_getElem ik2
   rw [hi,hk]
   show some (kfI s.heap _)=_
   rw [(ea.2 i _ _ hi hk).1.kf]
  ·rw [List.getElem?_eq_none (by omega),List.getElem?_eq_none (by rw [← ea.1]; omega)]
   rfl
 refine Calls.call_function_entry kind_sorted plain_sorted entry_sorted (args_sorted1 _) ?_
 unfold Builtin.«sorted»
 refine wpAny_bind (m:=checkCount "sorted" 1 1 _) (wpAny_pure (wpAny_bind (collect_set hh ho hx hd fit hb K.tb fun vs h1 tk d' hpv kp => ?_)))
 have lv:vs.length < 64:=by rw [hpv.length_eq,List.length_map,Array.length_toList]; omega
 refine wpAny_bind (wpAny_newList ?_)
 have hoL:(h1.push { cls:=.type "list",data:=.seq vs.toArray }).get? h1.objs.size=some (seqObj "list" vs.toArray 0):=Heap.get?_push_size _ rfl
 have tv:∀ v ∈ vs,∃ u,TupI s.heap v u∧u ∈ us∧V0 v:=fun v q => kv v (hpv.mem_iff.mp q)
 have kf:∀ v ∈ vs,kfI (h1.push { cls:=.type "list",data:=.seq vs.toArray }) v=kfI s.heap v:=fun v q => by
  obtain ⟨u,t,_⟩:=tv v q
  rw [t.kf,(t.keep' fun b ob _ e => Heap.get?_push_of_some _ (kp b ob e)).kf]
 refine wpAny_bind (wpAny_holding (wpAny_call_entry slot_list_sort ⟨_,hoL,rfl⟩ entry_list_sort (sort_tups64 (s:={ s with heap:=h1.push { cls:=.type "list",data:=.seq vs.toArray },toks:=tk,drawn:=d' }) hoL lv (fun v q => ?_) fun out po so => ⟨_,rfl,?_⟩) (args_list_sort _)))
 ·obtain ⟨u,t,mu,_⟩:=tv v q
  exact ⟨u,t.keep' fun b ob _ e => Heap.get?_push_of_some _ (kp b ob e),ne u mu⟩
 ·obtain ⟨e,he⟩:=sortedHeap_at (out:=out) hoL
  have ew:out.toList.map (kfI (h1.push { cls:=.type "list",data:=.seq vs.toArray }))=out.toList.map (kfI s.heap):=List.map_congr_left fun v q => kf v (po.mem_iff.mp q)
  refine wpAny_pure ⟨_,rfl,h out (out.toList.map (kfI s.heap)) h1 _ tk d' e kp (fun b ob z => ?_) (by rw [List.length_map,Array.length_toList]) (fun i v u h3 h4 => ?_) ?_ ?_ he⟩
  ·have hlt:b < h1.objs.size:=Heap.lt_size z
   rw [sortedHeap_old (Nat.ne_of_lt hlt) (by rw [Heap.size_push]; exact Nat.lt_succ_of_lt hlt)]
   exact Heap.get?_push_of_some _ z
  ·rw [List.getElem?_map,Array.getElem?_toList,h3] at h4
   cases h4
   have mv:v ∈ vs:=po.mem_iff.mp (by rw [← Array.getElem?_toList] at h3; exact List.mem_of_getElem? h3)
   obtain ⟨u,t,_,v0⟩:=tv v mv
   rw [t.kf]; exact ⟨t,v0⟩
  ·have p1:=(po.trans hpv).map (kfI s.heap)
   rw [ek] at p1
   exact p1.trans pm
  ·rw [← ew]; exact so
end
section
variable {X:Cx} {pins:List (Addr × Obj)} {σ:St} {H:Hp} {s:Shared}
theorem pe_sortedSetT64 {k:Nat} {a:Expr} {ta:TE} {p p2 pos pos2:PySem.Pos} (hr:Room k X.A) (hc:X.calm=true) (ha:PE X a ta) (hg:Gl X "sorted") (hm:X.mg "sorted" = none) (hg2:Gl X "set") (hm2:X.mg "set" = none) (hsa:starEach [a] X.env=[(false,eval a X.env)]:=by rfl) :
  PE X (.Call (.Name "sorted" p) [.Call (.Name "set" p2) [a] [] pos2] [] pos) (fun σ H Q => ta σ H fun x H1 => ∃ (l:Addr) (xs:List V) (us:List (List Int)),x = .ref l∧SqL X.K H1 l xs∧TuL H1 xs us∧us.length ≤ 62∧(∀ u ∈ us,u ≠ []) ∧
   ∀ (q:Addr) (ys:List V) (ws:List (List Int)),H1 q=none→TuL H1 ys ws→ws.Perm (ddT us)→ws.Pairwise (fun x y => lexB y x=false)→Q (.ref q) (upd H1 q (.lst ys))):=by
 intro pins s σ H Q I h
 refine wpAny_Call_Name_kw (ld_blt I hg hm boot_sortedX ?_)
 refine PyProof.Rows.callWith_builtin1 (rest:=[]) ?_ rfl rfl
 show wpAny _ _ (spliced ((false,eval (.Call (.Name "set" p2) [a] [] pos2) X.env) :: [])) _ _ s
 refine Calls.spliced_cons (wpAny_Call_Name_kw (ld_blt I hg2 hm2 boot_set ?_))
 refine PyProof.Rows.callWith_type1 (rest:=[]) ?_ hsa rfl
 rw [hsa]
 show wpAny _ _ (spliced ((false,eval a X.env) :: [])) _ _ s
 refine Calls.spliced_cons (thn (ha pins s σ H _ I h) fun u s1 ⟨y,H1,I1,r1,l,xs,us,ey,hq,tt,h62,ne,q⟩ => Calls.spliced_nil ?_)
 subst ey
 cases r1
 obtain ⟨its,r,pl,hz⟩:=I1.list hq
 have hln:its.length=us.length:=by rw [← r.length,tt.1]
 have at' : ∀ (i:Nat) (v:Value),its[i]? = some v→∃ (b:Addr) (u:List Int),v = .ref b∧us[i]? = some u∧H1 b=some (.tup (u.map V.int)):=fun i v hv => by
  have il:=(List.getElem?_eq_some_iff.mp hv).1
  have ix:i < xs.length:=by rw [r.length]; exact il
  obtain ⟨v',e1,e2⟩:=r.get (List.getElem?_eq_getElem ix)
  rw [hv] at e1
  cases e1
  have iu:i < us.length:=by omega
  obtain ⟨b,e3,e4⟩:=tt.2 i _ us[i] (List.getElem?_eq_getElem ix) (List.getElem?_eq_getElem iu)
  rw [e3] at e2
  exact ⟨b,us[i],e2,List.getElem?_eq_getElem iu,e4⟩
 have hu:X.A.units + 8 < cLine:=by have:=hr.units; omega
 refine set_of_listT (V0:=fun v => v ∈ its) (us:=us) (I1.ok.hd hc) pl.isList hu (by rw [List.size_toArray]; exact hln.symm) (fun i v hv => ?_) (by rw [List.size_toArray]; omega) (fun v hv => by simpa using hv) fun h2 tk hj hk => Calls.spliced_nil ?_
 ·obtain ⟨b,u,rfl,eu,hb⟩:=at' i v (by simpa using hv)
  have:us.getD i []=u:=by rw [List.getD_eq_getElem?_getD,eu]; rfl
  rw [this]
  exact tup_of I1 hb
 have I2:Inv X pins σ H1 { s1 with heap:=h2,toks:=tk }:=I1.kept fun b ob z => hk b ob (Heap.lt_size z) z
 refine sorted_setT64 (s:={ s1 with heap:=h2,toks:=tk }) (I1.ok.hd hc) hj (Nat.lt_of_le_of_lt (ddT_len us) (by omega)) (fun u hu' => ne u ((ddT_mem us u).mp hu')) fun out ws h3 h4 tk4 d4 e kp3 kp4 sz at2 hp hs he => ?_
 have I3:Inv X pins σ H1 { s1 with heap:=h3,toks:=tk,drawn:=d4 }:=I2.keptD kp3
 have hml:out.size ≤ 62:=by rw [sz,hp.length_eq]; have:=ddT_len us; omega
 have at3:∀ (i:Nat) (v:Value),out.toList[i]? = some v→∃ (b:Addr) (u:List Int),v = .ref b∧ws[i]? = some u∧H1 b=some (.tup (u.map V.int)):=fun i v hv => by
  have il:=(List.getElem?_eq_some_iff.mp hv).1
  rw [Array.length_toList,sz] at il
  obtain ⟨t1,m1⟩:=at2 i v ws[i] (by rw [← Array.getElem?_toList]; exact hv) (List.getElem?_eq_getElem il)
  obtain ⟨j,hj'⟩:=List.mem_iff_getElem?.mp m1
  obtain ⟨b,u,rfl,eu,hb⟩:=at' j v hj'
  have t2:=tup_of I2 hb
  have:ws[i]=u:=by rw [← t1.kf,← t2.kf]
  exact ⟨b,u,rfl,by rw [List.getElem?_eq_getElem il,this],hb⟩
 have vals:Vals (out.toList.map vOf) out.toList:=by
  have key:∀ l:List Value,(∀ v ∈ l,∃ b:Addr,v = .ref b)→Vals (l.map vOf) l:=by
   intro l
   induction l with
   | nil => intro _; exact .nil
   | cons v l ih =>
    intro hl
    obtain ⟨b,rfl⟩:=hl v List.mem_cons_self
    exact .cons rfl (ih fun z hz => hl z (List.mem_cons_of_mem _ hz))
  refine key _ fun v hv => ?_
  obtain ⟨i,hi⟩:=List.mem_iff_getElem?.mp hv
  obtain ⟨b,_,rfl,_⟩:=at3 i v hi
  exact ⟨b,rfl⟩
 have tt2:TuL H1 (out.toList.map vOf) ws:=by
  refine ⟨by rw [List.length_map,Array.length_toList,sz],fun i x u h5 h6 => ?_⟩
  rw [List.getElem?_map] at h5
  cases zz:out.toList[i]? with
  | none => rw [zz] at h5; cases h5
  | some v =>
   rw [zz] at h5
   obtain ⟨b,u',rfl,eu,hb⟩:=at3 i v zz
   cases h5
   rw [eu] at h6
   cases h6
   exact ⟨b,rfl,hb⟩
 refine ⟨.ref h3.objs.size,_,I3.laid (t':=tk4) (o:=.lst (out.toList.map vOf)) kp4 (Nat.le_refl _) ⟨?_,out.toList,e,vals,?_⟩,rfl,q _ _ ws (I3.hok.fresh (Nat.le_refl _)) tt2 hp hs⟩
 ·rw [List.length_map,Array.length_toList]
  exact Nat.le_trans (show out.size ≤ 1000 by omega) (by decide)
 ·rw [he]
end
end L2
set_option maxHeartbeats 1000000
namespace L2
open PySem PySem.Spec PyProof.Rows
section
variable {K:PySem.W.Frag} {H:Hp} {Q:VK} {Z:L2.St→Hp→Prop}
def spNumP:Sp:=fun vs H Q _ => ∃ (n:Int),vs=[.int n]∧0 ≤ n∧n < 10 ^ 60∧∀ (H' : Hp),Same H H'→Q (.str (numT n)) H'
def spNumR:Sp:=fun vs H Q _ => ∃ (n:Int),vs=[.int n]∧-18 ≤ n∧n < 10 ^ 60∧∀ (H' : Hp),Same H H'→Q (.str (numT n)) H'
def spShowR:Sp:=fun vs H Q _ => ∃ (a:Addr) (u:List Int),vs=[.ref a]∧(H a=some (.lst (u.map V.int)) ∨ H a=some (.tup (u.map V.int)))∧u.length ≤ 18∧(∀ i ∈ u,-18 ≤ i∧i < 10 ^ 60)∧∀ H',Same H H'→Q (.str (rowT u)) H'
def spShowS:Sp:=fun vs H Q _ => ∃ (a:Addr) (xs:List V) (U:List (List Int)),vs=[.ref a]∧H a=some (.lst xs)∧TuL H xs U∧ShOk U∧∀ H',Same H H'→Q (.str (sheetT U)) H'
def spKindsQ:Sp:=fun vs H Q _ => ∃ (a b:Addr) (xs:List V) (U:List (List Int)) (r:List Int),vs=[.ref a,.ref b]∧H a=some (.lst xs)∧TuL H xs U∧ShOk U∧H b=some (.lst (r.map V.int))∧r.length ≤ 18∧∀ H',Same H H'→Q (.bl true) H'
def tNumW (K:PySem.W.Frag):TS:=(tSeq (tAsg (tLst tNil) (gName 1)) (tSeq (tWhile (tTest (tOp (rI0 fun i j => V.bl (decide (j ≤ i))) (tVar 0) (tC (V.int 1000000000000000000000000000000000000000000000000000000000000)))) (tSeq (tAsg (tCB (fun xs H Q => ∃ a b,xs=[V.int a,V.int b]∧b ≠ 0∧Builtin.divisionGoesByPylong a b=false∧∀ (p:Addr),H p=none→Q (V.ref p) (upd H p (HO.tup [V.int (a.fdiv b),V.int (a.fmod b)]))) (tCons (tVar 0) (tCons (tC (V.int 1000000000000000000000000000000000000000000000000000000000000)) tNil))) (gTup K 2 (gCons (gName 0) (gCons (gName 2) gNil)))) (tDrop (tBM K "list" rAppend (tVar 1) (tCons (tBM K "str" (fun x vs H Q => ∃ z i,x=V.str z∧vs=[V.int i]∧PadOk i=true∧Q (V.str (Txt.zfill z i)) H) (tCB (fun xs H Q => ∃ i,xs=[V.int i]∧i.natAbs.log2 < 1920∧Q (V.str ((toString i))) H) (tCons (tVar 2) tNil)) (tCons (tC (V.int 60)) tNil)) tNil))))) (tRet (tOp (fun x y H Q => ∃ i j,x=V.str i∧y=V.str j∧i.length + j.length ≤ sizeLine∧Q (V.str (i ++ j)) H) (tCB (fun xs H Q => ∃ i,xs=[V.int i]∧i.natAbs.log2 < 1920∧Q (V.str ((toString i))) H) (tCons (tVar 0) tNil)) fun σ H_1 Q => tC (V.str "") σ H_1 fun x H1 => ∃ sep,x=V.str sep∧tVar 1 σ H1 fun y H2 => ∃ l ss,y=V.ref l∧SqL K H2 l (List.map V.str ss)∧sep.length ≤ 16∧(List.map (fun x => x.length) ss).sum + ss.length ≤ 1048576∧Q (V.str (sep.join ss.reverse)) H2))))
def tNumP (K:PySem.W.Frag):TS:=tSeq (tIfS (tTest (tOp (rI0 fun i j => V.bl (decide (i < j))) (tVar 0) (tC (V.int 0)))) (fun x x_1 x_2 => False) tNext) (tNumW K)
def tNumR (K:PySem.W.Frag):TS:=tSeq (tIfS (tTest (tOp (rI0 fun i j => V.bl (decide (i < j))) (tVar 0) (tC (V.int 0)))) (tRet (tOp (fun x y H Q => ∃ i j,x=V.str i∧y=V.str j∧i.length + j.length ≤ sizeLine∧Q (V.str (i ++ j)) H) (tC (V.str "-")) (tCall spNumP [] E0 (tCons (tUn (rU fun i => V.int (-i)) (tVar 0)) tNil)))) tNext) (tNumW K)
def tShowR (K:PySem.W.Frag):TS:=tRet (tBM K "str" (fun x vs H_1 Q => ∃ sep p ss,x=V.str sep∧vs=[V.ref p]∧SqL K H_1 p (List.map V.str ss)∧sep.length ≤ 16∧(List.map (fun x => x.length) ss).sum + ss.length ≤ 1048576∧Q (V.str (sep.join ss)) H_1) (tC (V.str " ")) (tCons (tCompG 1 (fun σ H_1 R => iList K (tVar 0) σ H_1 R ∨ iTup K (tVar 0) σ H_1 R) (gName 0) tYes (tCall spNumR [] E0 (tCons (tVar 0) tNil))) tNil))
def tShowS (K:PySem.W.Frag):TS:=tRet (tBM K "str" (fun x vs H_1 Q => ∃ sep p ss,x=V.str sep∧vs=[V.ref p]∧SqL K H_1 p (List.map V.str ss)∧sep.length ≤ 16∧(List.map (fun x => x.length) ss).sum + ss.length ≤ 1048576∧Q (V.str (sep.join ss)) H_1) (tC (V.str " / ")) (tCons (tCompG 1 (iList K (tVar 0)) (gName 0) tYes (tCall spShowR [] E0 (tCons (tVar 0) tNil))) tNil))
def tPtsB64 (K:PySem.W.Frag):TS:=(tSeq (tAsg (tCompG 1 (iList K (tVar 1)) (gName 0) (tOr (tTest (tOp (rInC K true) (tOp (rIxL K) (tVar 5) (tC (V.int 0))) (tVar 0))) (tTest (tOp (rInC K true) (tOp (rIxL K) (tVar 5) (tC (V.int 1))) (tVar 0)))) (tVar 0)) (gName 5)) (tSeq (tAsg (tCompG 1 (iList K (tVar 1)) (gName 0) (tTest (tOp (rNotInD K) (tVar 0) (tVar 6))) (tVar 0)) (gName 1)) (tSeq (tFor (iList K (tVar 5)) (gName 6) (tAsg (tOp rCat (tVar 4) (tVar 6)) (gName 4))) (tDrop (tBM K "list" rAppend (tVar 1) (tCons (fun σ H_1 Q => tVar 4 σ H_1 fun x H1 => ∃ l xs us,x=V.ref l∧SqL K H1 l xs∧TuL H1 xs us∧us.length ≤ 62∧(∀ (u:List Int),u ∈ us→u ≠ [])∧∀ (q:Addr) (ys:List V) (ws:List (List Int)),H1 q=none→TuL H1 ys ws→ws.Perm (ddT us)→List.Pairwise (fun x y => lexB y x=false) ws→Q (V.ref q) (upd H1 q (HO.lst ys))) tNil))))))
def tPtsE64 (K:PySem.W.Frag):TS:=tSeq (tAsg (tLst tNil) (gName 1)) (tSeq (tFor (iList K (tVar 0)) (gName 2) (tFor (iRng1 (tCons (tC (V.int 3)) tNil)) (gName 3) (tSeq (tAsg (tLst (tCons (tCall spEndE [] E0 (tCons (tOp (rIxT K) (tVar 2) (tVar 3)) (tCons (tC (V.bl true)) tNil))) (tCons (tCall spEndE [] E0 (tCons (tOp (rIxT K) (tVar 2) (tOp (rI (fun x j => 0 < j) fun i j => V.int (i % j)) (tOp (rI0 fun i j => V.int (i + j)) (tVar 3) (tC (V.int 1))) (tC (V.int 3)))) (tCons (tC (V.bl false)) tNil))) tNil))) (gName 4)) (tPtsB64 K)))) (tRet (tCB (fun xs H_1 Q => ∃ p ys uss,xs=[V.ref p]∧SqL K H_1 p ys∧LsL H_1 true ys uss∧uss.length < 64∧∀ (l:Addr) (zs:List V) (ws:List (List (List Int))),H_1 l=none→LsL H_1 true zs ws→ws.Perm uss→List.Pairwise (fun x y => lexLL y x=false) ws→Q (V.ref l) (upd H_1 l (HO.lst zs))) (tCons (tVar 1) tNil))))
def tWritQ (K:PySem.W.Frag):TS:=tRet (tBM K "str" (fun x vs H_1 Q => ∃ sep p ss,x=V.str sep∧vs=[V.ref p]∧SqL K H_1 p (List.map V.str ss)∧sep.length ≤ 16∧(List.map (fun x => x.length) ss).sum + ss.length ≤ 1048576∧Q (V.str (sep.join ss)) H_1) (tC (V.str " ")) (tCons (tCompG 1 (fun σ H_1 R => iList K (tVar 0) σ H_1 R ∨ iTup K (tVar 0) σ H_1 R) (gName 0) tYes (tCB (fun xs H Q => ∃ i,xs=[V.int i]∧i.natAbs.log2 < 1920∧Q (V.str ((toString i))) H) (tCons (tVar 0) tNil))) tNil))
def tKindsQ (K:PySem.W.Frag):TS:=tSeq (tIfS (tOr (tNot (tB (tCB (fun xs H Q => ∃ x t b,xs=[x,V.ty "list"]∧TyOf K H x t∧W.kitOne K t (Value.type "list")=some b∧Q (V.bl b) H) (tCons (tVar 0) (tCons (tC (V.ty "list")) tNil))))) (tNot (tB (tCB (fun xs H Q => ∃ x t b,xs=[x,V.ty "list"]∧TyOf K H x t∧W.kitOne K t (Value.type "list")=some b∧Q (V.bl b) H) (tCons (tVar 1) (tCons (tC (V.ty "list")) tNil)))))) (tRet (tC (V.bl false))) tNext) (tSeq (tIfS (tNot (tB (tCB (fun xs H_1 Q => ∃ p bs,xs=[V.ref p]∧SqL K H_1 p (List.map V.bl bs)∧Q (V.bl (bs.all id)) H_1) (tCons (tCompG 1 (iList K (tVar 0)) (gName 0) tYes (tCB (fun xs H Q => ∃ x t b,xs=[x,V.ty "tuple"]∧TyOf K H x t∧W.kitOne K t (Value.type "tuple")=some b∧Q (V.bl b) H) (tCons (tVar 0) (tCons (tC (V.ty "tuple")) tNil)))) tNil)))) (tRet (tC (V.bl false))) tNext) (tSeq (tAsg (tCB (fun xs H_1 Q => ∃ p ys,xs=[V.ref p]∧(SqL K H_1 p ys ∨ SqT K H_1 p ys)∧∀ (l:Addr),H_1 l=none→Q (V.ref l) (upd H_1 l (HO.lst ys))) (tCons (tVar 1) tNil)) (gName 2)) (tSeq (tFor (iList K (tVar 0)) (gName 3) (tAsg (tOp rCat (tVar 2) (tCB (fun xs H_1 Q => ∃ p ys,xs=[V.ref p]∧(SqL K H_1 p ys ∨ SqT K H_1 p ys)∧∀ (l:Addr),H_1 l=none→Q (V.ref l) (upd H_1 l (HO.lst ys))) (tCons (tVar 3) tNil))) (gName 2))) (tRet (tCB (fun xs H_1 Q => ∃ p bs,xs=[V.ref p]∧SqL K H_1 p (List.map V.bl bs)∧Q (V.bl (bs.all id)) H_1) (tCons (tCompG 1 (iList K (tVar 2)) (gName 0) tYes (tAndV (tCB (fun xs H Q => ∃ x t b,xs=[x,V.ty "int"]∧TyOf K H x t∧W.kitOne K t (Value.type "int")=some b∧Q (V.bl b) H) (tCons (tVar 0) (tCons (tC (V.ty "int")) tNil))) (tNotV (tCB (fun xs H Q => ∃ x t b,xs=[x,V.ty "bool"]∧TyOf K H x t∧W.kitOne K t (Value.type "bool")=some b∧Q (V.bl b) H) (tCons (tVar 0) (tCons (tC (V.ty "bool")) tNil)))))) tNil))))))
def tLaw80b (K:PySem.W.Frag) (cT cS cR:Addr):TS:=(tFor (iRng1 (tCons (tC (V.int 2)) tNil)) (gName 7) (tSeq (tAsg (tCallX (spReadX cT cS) (fun x x_1 x_2 => False) (tCons (tOp (rIxL K) (tVar 6) (tC (V.int 0))) tNil)) (gName 8)) (tSeq (tAsg (tCallX (spReadRow cT cR) (fun x x_1 x_2 => False) (tCons (tOp (rIxL K) (tVar 5) (tC (V.int 0))) (tCons (tOp (rIxL K) (tVar 6) (tC (V.int 1))) tNil))) (gName 9)) (tSeq (tIfS (tOr (tNot (tB (tCall spKindsQ [] E0 (tCons (tVar 8) (tCons (tVar 9) tNil))))) (tOr (tTest (tOp (rEqD K fun b => !b) (tVar 8) (tVar 3))) (tOr (tTest (tOp (rEqD K fun b => !b) (tVar 9) (tVar 4))) (tTest (tOp (rEqD K fun b => !b) (tVar 5) (tLst (tCons (tVar 3) (tCons (tVar 4) tNil)))))))) (tRet (tC (V.bl false))) tNext) (tSeq (tDrop (tBM0 K "list" rReverse (tVar 8))) (tDrop (tBM K "list" rAppend (tVar 9) (tCons (tC V.non) tNil))))))))
def tLaw80 (K:PySem.W.Frag) (cT cS cR:Addr):TS:=tSeq (tFor (iRng1 (tCons (tOp (rI0 fun i j => V.int (i + j)) (tC (V.int 1)) (tCB (fun xs H Q => ∃ i j,xs=[V.int i,V.int j]∧Q (V.int (if j < i then j else i)) H) (tCons (tC (V.int 3)) (tCons (tCB (fun xs H Q => ∃ p ys,xs=[V.ref p]∧(SqL K H p ys ∨ SqT K H p ys)∧Q (V.int ys.length) H) (tCons (tVar 0) tNil)) tNil)))) tNil)) (gName 1) (tSeq (tAsg (tCall (spPurseZ K) [] E0 (tCons (tVar 0) (tCons (tVar 1) tNil))) (gName 2)) (tSeq (tAsg (tCall spShO [] E0 (tCons (tVar 2) tNil)) (gName 3)) (tSeq (tAsg (tCall spRowE [] E0 (tCons (tVar 2) (tCons (tVar 3) tNil))) (gName 4)) (tSeq (tAsg (tLst (tCons (tCB (fun xs H_1 Q => ∃ p ys,xs=[V.ref p]∧(SqL K H_1 p ys ∨ SqT K H_1 p ys)∧∀ (l:Addr),H_1 l=none→Q (V.ref l) (upd H_1 l (HO.lst ys))) (tCons (tVar 3) tNil)) (tCons (tCB (fun xs H_1 Q => ∃ p ys,xs=[V.ref p]∧(SqL K H_1 p ys ∨ SqT K H_1 p ys)∧∀ (l:Addr),H_1 l=none→Q (V.ref l) (upd H_1 l (HO.lst ys))) (tCons (tVar 4) tNil)) tNil))) (gName 5)) (tSeq (tAsg (tLst (tCons (tCall spShowS [] E0 (tCons (tOp (rIxL K) (tVar 5) (tC (V.int 0))) tNil)) (tCons (tCall spShowR [] E0 (tCons (tOp (rIxL K) (tVar 5) (tC (V.int 1))) tNil)) tNil))) (gName 6)) (tSeq (tIfS (tOr (tTest (tOp (rEqD K fun b => !b) (tVar 6) (tLst (tCons (tCall spShowS [] E0 (tCons (tVar 3) tNil)) (tCons (tCall spShowR [] E0 (tCons (tVar 4) tNil)) tNil))))) (tTest (tOp (rEqD K fun b => !b) (tVar 5) (tLst (tCons (tVar 3) (tCons (tVar 4) tNil)))))) (tRet (tC (V.bl false))) tNext) (tLaw80b K cT cS cR)))))))) (tRet (tC (V.bl true)))
theorem nodup_leQ {α:Type} [DecidableEq α]:∀ {l m:List α},l.Nodup→(∀ x ∈ l,x ∈ m)→l.length ≤ m.length
 | [],m,_,_ => Nat.zero_le _
 | a :: l,m,h,hm => by
  rw [List.nodup_cons] at h
  have ha:=hm a List.mem_cons_self
  have q:=nodup_leQ (m:=m.erase a) h.2 fun x hx => (List.mem_erase_of_ne (fun z:x=a => h.1 (by rw [← z]; exact hx))).mpr (hm x (List.mem_cons_of_mem _ hx))
  rw [List.length_erase_of_mem ha] at q
  have:=List.length_pos_of_mem ha
  simp only [List.length_cons]
  omega
def endsQ (n:Nat):List (List Int):=(List.range n).flatMap fun (t:Nat) => [[1 + (t:Int),0],[1 + (t:Int),1]]
theorem endsQ_len:∀ n:Nat,(endsQ n).length=2 * n
 | 0 => rfl
 | n + 1 => by
  have ih:=endsQ_len n
  unfold endsQ at ih ⊢
  rw [List.range_succ,List.flatMap_append,List.length_append,ih]
  simp
  omega
theorem endsQ_mem {n:Nat} {s:Int} {b:Bool} (h1:1 ≤ absI s) (h2:absI s ≤ (n:Int)):endI s b ∈ endsQ n:=by
 refine List.mem_flatMap.mpr ⟨(absI s - 1).toNat,List.mem_range.mpr (by omega),?_⟩
 rw [show 1 + (((absI s - 1).toNat:Nat):Int)=absI s by omega]
 unfold endI
 split <;> simp
structure HpJ (n:Nat) (hs:List (List (List Int))):Prop where
 nd:hs.flatten.Nodup
 en:∀ u ∈ hs.flatten,u ∈ endsQ n
theorem HpJ.nil (n:Nat):HpJ n []:=⟨List.nodup_nil,fun u hu => by cases hu⟩
theorem sub_flat {f:List (List Int)→Bool} : ∀ hs:List (List (List Int)),(hs.filter f).flatten.Sublist hs.flatten
 | [] => List.Sublist.refl _
 | h :: hs => by
  rw [List.filter_cons]
  split
  ·rw [List.flatten_cons,List.flatten_cons]
   exact List.Sublist.append (List.Sublist.refl _) (sub_flat hs)
  ·rw [List.flatten_cons]
   exact (sub_flat hs).trans (List.sublist_append_right _ _)
theorem HpJ.mine {n:Nat} {hs:List (List (List Int))} (J:HpJ n hs) (p q:List Int):(mineH p q hs).flatten.length ≤ 2 * n:=by
 rw [← endsQ_len n]
 exact nodup_leQ (J.nd.sublist (sub_flat hs)) fun x hx => J.en x ((sub_flat hs).subset hx)
theorem one_heap:∀ {hs:List (List (List Int))},hs.flatten.Nodup→∀ {h1 h2:List (List Int)} {u:List Int},h1 ∈ hs→h2 ∈ hs→u ∈ h1→u ∈ h2→h1=h2
 | [],_,_,_,_,m,_,_,_ => by cases m
 | h :: hs,nd,h1,h2,u,m1,m2,u1,u2 => by
  rw [List.flatten_cons,List.nodup_append] at nd
  rcases List.mem_cons.mp m1 with e1 | m1 <;> rcases List.mem_cons.mp m2 with e2 | m2
  ·rw [e1,e2]
  ·exact absurd rfl (nd.2.2 u (e1 ▸ u1) u (List.mem_flatten.mpr ⟨h2,m2,u2⟩))
  ·exact absurd rfl (nd.2.2 u (e2 ▸ u2) u (List.mem_flatten.mpr ⟨h1,m1,u1⟩))
  ·exact one_heap nd.2.1 m1 m2 u1 u2
theorem HpJ.step {n:Nat} {hs:List (List (List Int))} {p q:List Int} {w:List (List Int)} (J:HpJ n hs) (hp:p ∈ endsQ n) (hq:q ∈ endsQ n) (hw:w.Perm (ddT ([p,q] ++ (mineH p q hs).flatten))):HpJ n (restH p q hs ++ [w]):=by
 have mw:∀ u ∈ w,u=p ∨ u=q ∨ ∃ h ∈ mineH p q hs,u ∈ h:=fun u hu => by
  rw [hw.mem_iff,ddT_mem,List.mem_append,List.mem_flatten] at hu
  simp only [List.mem_cons,List.not_mem_nil,or_false] at hu
  rcases hu with (e | e) | e
  ·exact .inl e
  ·exact .inr (.inl e)
  ·exact .inr (.inr e)
 refine ⟨?_,fun u hu => ?_⟩
 ·rw [List.flatten_append,List.nodup_append]
  refine ⟨J.nd.sublist (sub_flat hs),?_,fun a ha b hb e => ?_⟩
  ·rw [show [w].flatten=w from by simp]
   exact hw.nodup_iff.mpr (ddT_nodup _)
  ·rw [show [w].flatten=w from by simp] at hb
   subst e
   obtain ⟨h,hh,ah⟩:=List.mem_flatten.mp ha
   obtain ⟨h1,h2⟩:=mem_restH.mp hh
   rcases mw a hb with rfl | rfl | ⟨g,hg,ag⟩
   ·exact h2 (mem_mineH.mpr ⟨h1,.inl ah⟩)
   ·exact h2 (mem_mineH.mpr ⟨h1,.inr ah⟩)
   ·have:=one_heap J.nd h1 (mem_mineH.mp hg).1 ah ag
    exact h2 (this ▸ hg)
 ·rw [List.flatten_append,List.mem_append] at hu
  rcases hu with z | z
  ·exact J.en u ((sub_flat hs).subset z)
  ·rw [show [w].flatten=w from by simp] at z
   rcases mw u z with rfl | rfl | ⟨g,hg,ug⟩
   ·exact hp
   ·exact hq
   ·exact J.en u (List.mem_flatten.mpr ⟨g,(mem_mineH.mp hg).1,ug⟩)
set_option maxHeartbeats 8000000 in
theorem ptsB64_reads {D:Ends} {s hp tri pr a b:Addr} {x5 x6:Option V} {i:Int} {ys:List V} {hs:List (List (List Int))} {p q:List Int} {ps:List (List Int × List Int)} {H0:Hp}
  (s0:Same H0 H) (hh:H hp=some (.lst ys)) (L:LsL H true ys hs) (I:HpI ps hs) (J:HpJ 18 hs) (pl:ps.length ≤ 35) (hpr:H pr=some (.lst [.ref a,.ref b])) (ha:H a=some (.tup (p.map V.int))) (hb:H b=some (.tup (q.map V.int))) (p2:p.length=2) (q2:q.length=2)
  (k:∀ (R pr' mi:Addr) (y6:Option V) (ys' : List V) (w:List (List Int)) (H' : Hp),Same H0 H'→H0 R=none→H' R=some (.lst ys')→LsL H' true ys' (restH p q hs ++ [w])→w.Perm (ddT ([p,q] ++ (mineH p q hs).flatten))→D.nx [some (.ref s),some (.ref R),some (.ref tri),some (.int i),some (.ref pr'),some (.ref mi),y6] H') :
  tPtsB64 K D [some (.ref s),some (.ref hp),some (.ref tri),some (.int i),some (.ref pr),x5,x6] H:=by
 have ly:ys.length=hs.length:=L.1
 have ln:=I.n
 refine ⟨_,rfl,hp,rfl,⟨_,SqL.of hh⟩,compL (K:=K) (a:=hp) (xs:=ys) (fun n zs H' => H=H'∧LsL H true zs ((hs.take n).filter fun h => decide (p ∈ h) || decide (q ∈ h))) ⟨rfl,LsL.nil _ _⟩ (by omega) (fun n zs H' h => by rw [h.2.1]; exact filt_le _ _ _) (fun n zs H' _ h => by rw [← h.1]; exact SqL.of hh) ?_ ?_⟩
 ·rintro n x zs H' pre hpl hx ⟨rfl,L1⟩
  obtain ⟨us,c,xs',eu,rfl,hc,it⟩:=L.get' hx
  rcases pre with _ | ⟨q0,_ | ⟨q1,pre⟩⟩
  ·cases hpl
  ·refine ⟨⟨[some _],rfl,rfl⟩,?_⟩
   refine ⟨_,rfl,pr,_,0,.ref a,rfl,rfl,SqL.of hpr,rfl,_,rfl,c,xs',p,us,rfl,SqL.of hc,.tup ha,it,_,rfl,?_⟩
   rw [filtQ_one _ eu]
   by_cases c1:p ∈ us
   ·rw [decide_eq_true c1,Bool.true_or,if_pos rfl]
    refine iteT (iteT ⟨_,rfl,rfl,L1.snoc hc it⟩)
   ·rw [decide_eq_false c1,Bool.false_or]
    refine iteF ⟨_,rfl,pr,_,1,.ref b,rfl,rfl,SqL.of hpr,rfl,_,rfl,c,xs',q,us,rfl,SqL.of hc,.tup hb,it,_,rfl,?_⟩
    by_cases c2:q ∈ us
    ·rw [decide_eq_true c2,if_pos rfl]
     exact iteT ⟨_,rfl,rfl,L1.snoc hc it⟩
    ·rw [decide_eq_false c2,if_neg Bool.false_ne_true,List.append_nil]
     exact iteF ⟨rfl,L1⟩
  ·cases hpl
 rintro zm H' ⟨rfl,Lm⟩ mi hmi
 rw [ly,List.take_length] at Lm
 have Lm:LsL H true zm (mineH p q hs):=Lm
 have s1:=Same.nw (o:=.lst zm) (Same.refl H) hmi
 have fm:(upd H mi (.lst zm)) mi=some (.lst zm):=upd_same
 dsimp only [gName]
 generalize upd H mi (.lst zm)=H1 at s1 fm ⊢
 have L1:=L.up s1
 have Lm1:=Lm.up s1
 have hh1:=s1 _ _ hh
 refine ⟨_,rfl,hp,rfl,⟨_,SqL.of hh1⟩,compL (K:=K) (a:=hp) (xs:=ys) (fun n zs H' => H1=H'∧LsL H1 true zs ((hs.take n).filter fun h => !decide (h ∈ mineH p q hs))) ⟨rfl,LsL.nil _ _⟩ (by omega) (fun n zs H' h => by rw [h.2.1]; exact filt_le _ _ _) (fun n zs H' _ h => by rw [← h.1]; exact SqL.of hh1) ?_ ?_⟩
 ·rintro n x zs H' pre hpl hx ⟨rfl,L2⟩
  obtain ⟨us,c,xs',eu,rfl,hc,it⟩:=L1.get' hx
  rcases pre with _ | ⟨q0,_ | ⟨q1,pre⟩⟩
  ·cases hpl
  ·refine ⟨⟨[some _],rfl,rfl⟩,?_⟩
   refine ⟨_,rfl,_,rfl,dTs us,_,Lm1.diH fm,it.tu.di (SqL.of hc),lay_hs _,lay_dTs _,dep_hs _,_,rfl,?_⟩
   rw [any_hs,filtQ_one _ eu]
   by_cases c1:us ∈ mineH p q hs
   ·rw [decide_eq_true c1]
    refine iteF ⟨rfl,?_⟩
    rw [if_neg (by decide),List.append_nil]
    exact L2
   ·rw [decide_eq_false c1]
    refine iteT ⟨_,rfl,rfl,?_⟩
    rw [if_pos (by rfl)]
    exact L2.snoc hc it
  ·cases hpl
 rintro zr H' ⟨rfl,Lr⟩ R hR
 rw [ly,List.take_length] at Lr
 have Lr:LsL H1 true zr (restH p q hs):=Lr
 have s2:=Same.nw (o:=.lst zr) (Same.refl H1) hR
 have fR:(upd H1 R (.lst zr)) R=some (.lst zr):=upd_same
 have R0:H0 R=none:=(s0.trans s1).free hR
 dsimp only [gName]
 generalize upd H1 R (.lst zr)=H2 at s2 fR ⊢
 have fm2:=s2 _ _ fm
 have Lm2:=Lm1.up s2
 have s02:=s1.trans s2
 have tt0:TuL H2 [V.ref a,V.ref b] [p,q]:=(TuL.snoc (TuL.snoc (TuL.nil H2) (s02 _ _ ha)) (s02 _ _ hb))
 have lzm:zm.length=(mineH p q hs).length:=Lm.1
 have tml:=I.mine p q
 refine ⟨_,rfl,mi,rfl,⟨_,SqL.of fm2⟩,for_list (K:=K) (a:=mi) (xs:=zm) (fun n σ H' => ∃ (pr' : Addr) (y6:Option V) (xs' : List V),σ=[some (.ref s),some (.ref R),some (.ref tri),some (.int i),some (.ref pr'),some (.ref mi),y6]∧Same H2 H'∧H' pr' = some (.lst xs')∧TuL H' xs' ([p,q] ++ ((mineH p q hs).take n).flatten)) ⟨pr,_,_,rfl,Same.refl _,s02 _ _ hpr,tt0⟩ (fun n σ H' _ h => by obtain ⟨_,_,_,_,s,_⟩:=h; exact SqL.of (s _ _ fm2)) ?_ ?_⟩
 ·rintro n x σ H3 hx ⟨pr',y6,xs',rfl,s3,f3,t3⟩
  obtain ⟨us,c,xc,eu,rfl,hc,it⟩:=(Lm2.up s3).get' hx
  dsimp only [gName]
  have lx:xs'.length ≤ 2 + 2 * ps.length:=by
   rw [t3.1,List.length_append]
   have:((mineH p q hs).take n).flatten.length ≤ (mineH p q hs).flatten.length:=by
    rw [← List.take_append_drop n (mineH p q hs),List.flatten_append,List.length_append,List.take_append_drop]
    omega
   show 2 + _ ≤ _
   omega
  have lc:xc.length ≤ 2 * ps.length:=by
   rw [it.1]
   have:us.length ≤ (mineH p q hs).flatten.length:=(List.sublist_flatten_of_mem (List.mem_of_getElem? eu)).length_le
   omega
  refine ⟨_,rfl,_,rfl,pr',c,xs',xc,rfl,rfl,f3,hc,Nat.le_trans (show _ ≤ 1000 by omega) (by decide),fun l hl => ?_⟩
  have s4:=Same.nw (o:=.lst (xs' ++ xc)) (Same.refl H3) hl
  refine ⟨l,_,xs' ++ xc,rfl,s3.trans s4,upd_same,?_⟩
  rw [take_succ' eu,List.flatten_append,← List.append_assoc]
  have:=((t3.it).append it).up s4.tups
  rw [show [us].flatten=us from by simp]
  exact this.tu
 rintro σ H3 ⟨pr',y6,xs',rfl,s3,f3,t3⟩
 rw [lzm,List.take_length] at t3
 have fR3:=s3 _ _ fR
 refine ⟨_,rfl,.inl ⟨rfl,_,SqL.of fR3⟩,_,rfl,pr',xs',_,rfl,SqL.of f3,t3,?_,fun u hu => ?_,fun w yw ws hw tw pw _ => ?_⟩
 ·rw [List.length_append]
  have:=J.mine p q
  show 2 + _ ≤ 62
  omega
 ·rcases List.mem_append.mp hu with z | z
  ·simp only [List.mem_cons,List.not_mem_nil,or_false] at z
   rcases z with rfl | rfl
   ·rintro rfl; cases p2
   ·rintro rfl; cases q2
  ·obtain ⟨h,h1,h2⟩:=List.mem_flatten.mp z
   have:=I.two h (mem_mineH.mp h1).1 u h2
   rintro rfl; cases this
 have s4:=Same.nw (o:=.lst yw) (Same.refl H3) hw
 have fw:(upd H3 w (.lst yw)) w=some (.lst yw):=upd_same
 have fR4:=s4 _ _ fR3
 generalize upd H3 w (.lst yw)=H4 at s4 fw fR4 ⊢
 have lr:zr.length ≤ hs.length:=by rw [Lr.1]; exact List.length_filter_le _ _
 refine ⟨R,zr,.ref w,rfl,rfl,fR4,Nat.lt_of_le_of_lt (show _ ≤ 1000 by omega) (by decide),?_⟩
 have s14:Same H1 H4:=s2.trans (s3.trans s4)
 have sF:Same H1 (upd H4 R (.lst (zr ++ [.ref w]))):=s14.ow hR
 have nw:w ≠ R:=by rintro rfl; rw [fR3] at hw; cases hw
 have tE:Tups H3 (upd H4 R (.lst (zr ++ [.ref w]))):=fun c o e => by
  rw [upd_ne (by rintro rfl; rw [fR3] at e; cases e)]
  exact s4 _ _ e
 exact k R pr' mi y6 _ ws _ ((s0.trans s1).trans sF) R0 upd_same ((Lr.up sF).snoc (by rw [upd_ne nw]; exact fw) (tw.it.up tE)) pw
set_option maxHeartbeats 8000000 in
theorem ptsE64_reads {s:Addr} {xs:List V} {S:List (List Int)} (hs:H s=some (.lst xs)) (tS:TuL H xs S) (oS:ShOk S) (k:∀ (l:Addr) (ys:List V) (hs:List (List (List Int))) (H' : Hp),Same H H'→H l=none→H' l=some (.lst ys)→LsL H' true ys hs→HpI (S.flatMap triP) hs→Q (.ref l) H'):tPtsE64 K { nx:=Z,rt:=Q } [some (.ref s),none,none,none,none,none,none] H:=by
 have lx:xs.length=S.length:=tS.1
 have lS:=oS.len
 refine ⟨(by show 0 ≤ sizeLine; decide),fun hp0 hhp0 => ?_⟩
 have s0:=Same.nw (o:=.lst []) (Same.refl H) hhp0
 have f0:(upd H hp0 (.lst [])) hp0=some (.lst []):=upd_same
 dsimp only [gName]
 generalize upd H hp0 (.lst [])=Ha at s0 f0 ⊢
 refine ⟨_,rfl,s,rfl,⟨_,SqL.of (s0 _ _ hs)⟩,for_list (K:=K) (a:=s) (xs:=xs) (fun j σ H' => Same H H'∧∃ (hp:Addr) (x2 x3 x4 x5 x6:Option V) (ys:List V) (hs:List (List (List Int))),σ=[some (.ref s),some (.ref hp),x2,x3,x4,x5,x6]∧H hp=none∧H' hp=some (.lst ys)∧LsL H' true ys hs∧HpI ((S.take j).flatMap triP) hs∧HpJ 18 hs) ⟨s0,hp0,_,_,_,_,_,[],[],rfl,hhp0,f0,LsL.nil _ _,HpI.nil,HpJ.nil _⟩ (fun j σ H' _ h => SqL.of (h.1 _ _ hs)) ?_ ?_⟩
 ·rintro j x σ H1 hx ⟨s1,hp,x2,x3,x4,x5,x6,ys,gs,rfl,hn,f1,L1,I1,J1⟩
  obtain ⟨t,tr,et,rfl,htr⟩:=(tS.up s1.tups).take hx
  have mt:t ∈ S:=List.mem_of_getElem? et
  obtain ⟨a1,a2,a3,rfl⟩:=three3 (oS.three t mt)
  have jl:j < S.length:=(List.getElem?_eq_some_iff.mp et).1
  dsimp only [gName]
  refine ⟨3,rfl,by decide,by decide,for_range (n:=3) (fun i σ H' => Same H H'∧∃ (hp:Addr) (x3 x4 x5 x6:Option V) (ys:List V) (hs:List (List (List Int))),σ=[some (.ref s),some (.ref hp),some (.ref tr),x3,x4,x5,x6]∧H hp=none∧H' hp=some (.lst ys)∧LsL H' true ys hs∧HpI ((S.take j).flatMap triP ++ (triP [a1,a2,a3]).take i) hs∧HpJ 18 hs) ⟨s1,hp,_,_,_,_,ys,gs,rfl,hn,f1,L1,by rw [List.take_zero,List.append_nil]; exact I1,J1⟩ ?_ ?_⟩
  ·rintro i σ H2 hi ⟨s2,hp,x3,x4,x5,x6,ys,gs,rfl,hn,f2,L2,I2,J2⟩
   have hi:i < 3:=hi
   dsimp only [gName]
   rw [Int.zero_add]
   have htr2:H2 tr=some (.tup ([a1,a2,a3].map V.int)):=by
    obtain ⟨t',tr',et',e',h'⟩:=(tS.up s2.tups).take hx
    rw [et] at et'
    cases et'
    cases e'
    exact h'
   have at3:∀ n:Nat,n < 3→atI ([a1,a2,a3].map V.int) (n:Int)=some (V.int ([a1,a2,a3].getD n 0)):=fun n hn => int_at hn
   have ee:∀ n:Nat,n < 3→∀ b:Bool,endI ([a1,a2,a3].getD n 0) b ∈ endsQ 18:=fun n hn b => by
    have m:[a1,a2,a3].getD n 0 ∈ [a1,a2,a3]:=by rw [List.getD_eq_getElem?_getD,List.getElem?_eq_getElem hn]; exact List.getElem_mem hn
    have:=oS.side mt m
    exact endsQ_mem this.1 (by omega)
   have em:((i:Int) + 1) % 3=(((i + 1) % 3:Nat):Int):=by omega
   refine ⟨_,rfl,_,rfl,tr,_,(i:Int),_,rfl,rfl,SqT.of htr2,at3 i hi,_,true,rfl,fun la hla => ?_⟩
   refine ⟨_,rfl,_,rfl,(i:Int),1,rfl,rfl,_,3,rfl,rfl,(by show (0:Int) < 3; decide),tr,_,((i:Int) + 1) % 3,_,rfl,rfl,SqT.of (by rw [upd_ne (ne_of_none htr2 hla)]; exact htr2),by rw [em]; exact at3 ((i + 1) % 3) (by omega),_,false,rfl,fun lb hlb => ?_⟩
   have sa:=Same.nw (o:=.tup ((endI ([a1,a2,a3].getD i 0) true).map V.int)) (Same.refl H2) hla
   have fa:(upd H2 la (.tup ((endI ([a1,a2,a3].getD i 0) true).map V.int))) la=some (.tup ((endI ([a1,a2,a3].getD i 0) true).map V.int)):=upd_same
   generalize upd H2 la (.tup ((endI ([a1,a2,a3].getD i 0) true).map V.int))=H3 at sa fa hlb ⊢
   have sb:=Same.nw (o:=.tup ((endI ([a1,a2,a3].getD ((i + 1) % 3) 0) false).map V.int)) (Same.refl H3) hlb
   have fb:(upd H3 lb (.tup ((endI ([a1,a2,a3].getD ((i + 1) % 3) 0) false).map V.int))) lb=some (.tup ((endI ([a1,a2,a3].getD ((i + 1) % 3) 0) false).map V.int)):=upd_same
   generalize upd H3 lb (.tup ((endI ([a1,a2,a3].getD ((i + 1) % 3) 0) false).map V.int))=H4 at sb fb ⊢
   refine ⟨(by show 2 ≤ sizeLine; decide),fun pr hpr => ?_⟩
   have sc:=Same.nw (o:=.lst [.ref la,.ref lb]) (Same.refl H4) hpr
   have fc:(upd H4 pr (.lst [.ref la,.ref lb])) pr=some (.lst [.ref la,.ref lb]):=upd_same
   dsimp only [gName]
   generalize upd H4 pr (.lst [.ref la,.ref lb])=H5 at sc fc ⊢
   have s25:=sa.trans (sb.trans sc)
   refine ptsB64_reads (p:=endI ([a1,a2,a3].getD i 0) true) (q:=endI ([a1,a2,a3].getD ((i + 1) % 3) 0) false) (s2.trans s25) (s25 _ _ f2) (L2.up s25) I2 J2 ?_ fc (sc _ _ (sb _ _ fa)) (sc _ _ fb) rfl rfl ?_
   ·rw [List.length_append,flatP_len,List.length_take,List.length_take]
    omega
   ·intro R pr' mi y6 ys' w H' s' R0 fR LR pw
    refine ⟨s',R,_,_,_,_,ys',_,rfl,R0,fR,LR,?_,J2.step (ee i hi true) (ee ((i + 1) % 3) (by omega) false) pw⟩
    rw [take_succ' (triP_at hi),← List.append_assoc]
    exact I2.step rfl rfl pw
  ·rintro σ H2 ⟨s2,hp,x3,x4,x5,x6,ys,gs,rfl,hn,f2,L2,I2,J2⟩
   refine ⟨s2,hp,_,_,_,_,_,ys,gs,rfl,hn,f2,L2,?_,J2⟩
   rw [take_succ' et,List.flatMap_append]
   have e3:(triP [a1,a2,a3]).take 3=triP [a1,a2,a3]:=rfl
   rw [e3] at I2
   simpa using I2
 ·rintro σ H1 ⟨s1,hp,x2,x3,x4,x5,x6,ys,gs,rfl,hn,f1,L1,I1,J1⟩
  rw [lx,List.take_length] at I1
  have:=I1.n
  rw [flatP_len] at this
  refine ⟨_,rfl,hp,ys,gs,rfl,SqL.of f1,L1,by omega,fun l zs ws hl Lw pw _ => ?_⟩
  have s2:=Same.nw (o:=.lst zs) (Same.refl H1) hl
  exact k l zs ws _ (s1.trans s2) (s1.free hl) upd_same (Lw.up s2) (I1.perm pw)
end
end L2
namespace L2
open PySem PySem.Spec PyProof.Rows
section
variable {K:PySem.W.Frag} {H:Hp} {Q:VK} {Z:L2.St→Hp→Prop}
theorem numW_reads {n:Int} {x2:Option V} (n0:0 ≤ n) (n1:n < 10 ^ 60) (k:∀ (H' : Hp),Same H H'→Q (.str (numT n)) H'):tNumW K { nx:=Z,rt:=Q } [some (.int n),none,x2] H:=by
 refine ⟨(by show 0 ≤ sizeLine; decide),fun b fb => ?_⟩
 have s1:=Same.nw (o:=.lst []) (Same.refl H) fb
 have f1:(upd H b (.lst [])) b=some (.lst (([]:List Str).map V.str)):=upd_same
 dsimp only [gName]
 generalize upd H b (.lst [])=H1 at s1 f1 ⊢
 refine while_by (fun σ H' => σ=[some (.int n),some (.ref b),x2]∧H' = H1) (fun _ _ => 0) ⟨rfl,rfl⟩ ?_ ?_
 ·rintro σ H2 ⟨rfl,rfl⟩
  refine ⟨_,rfl,_,_,rfl,rfl,_,rfl,ite2 (fun e => ?_) (fun e => ?_)⟩
  ·have e:=of_decide_eq_true e
   have:(10:Int) ^ 60=1000000000000000000000000000000000000000000000000000000000000:=by decide
   omega
  ·refine ⟨_,rfl,_,rfl,numT_log n0 (by omega),_,rfl,_,rfl,b,[],rfl,SqL.of f1,by decide,by decide,_,_,rfl,rfl,?_,?_⟩
   ·have:=numT_len n0 (Int.le_of_lt n1)
    show (numT n).length + 0 ≤ sizeLine
    exact Nat.le_trans (by omega:_ ≤ 80) (by decide)
   ·show Q (.str (numT n ++ Str.empty)) H2
    rw [Str.append_empty]
    exact k H2 s1
 ·rintro σ H1 Q1 Q2 hi ⟨v,hv,i,j,e1,e2,b1,e3,q⟩
  exact ⟨v,hv,i,j,e1,e2,b1,e3,hi _ _ q⟩
theorem numP_reads {n:Int} (n0:0 ≤ n) (n1:n < 10 ^ 60) (k:∀ (H' : Hp),Same H H'→Q (.str (numT n)) H'):tNumP K { nx:=Z,rt:=Q } [some (.int n),none,none] H:=by
 refine ⟨_,rfl,_,_,rfl,rfl,_,rfl,ite2 (fun e => ?_) (fun e => numW_reads n0 n1 k)⟩
 have e:=of_decide_eq_true e
 omega
theorem minus_num {n:Int} (h1 : -18 ≤ n) (h2:n < 0) : "-" ++ numT (-n)=numT n:=by
 have key:∀ m:Fin 18,("-" : Str) ++ numT (-((m.val:Int) - 18))=numT ((m.val:Int) - 18):=by decide +kernel
 have:=key ⟨(n + 18).toNat,by omega⟩
 rw [show (((⟨(n + 18).toNat,by omega⟩:Fin 18).val:Nat):Int) - 18=n by show ((n + 18).toNat:Int) - 18=n; omega] at this
 exact this
theorem numR_reads {n:Int} (n0 : -18 ≤ n) (n1:n < 10 ^ 60) (k:∀ (H' : Hp),Same H H'→Q (.str (numT n)) H'):tNumR K { nx:=Z,rt:=Q } [some (.int n),none,none] H:=by
 refine ⟨_,rfl,_,_,rfl,rfl,_,rfl,ite2 (fun e => ?_) (fun e => ?_)⟩
 ·have e:=of_decide_eq_true e
  refine ⟨_,rfl,n,rfl,-n,rfl,by omega,by omega,fun H1 s1 => ⟨"-",numT (-n),rfl,rfl,?_,?_⟩⟩
  ·have:=numT_len (i:=-n) (by omega) (by omega)
   rw [show ("-" : Str).length=1 from by decide +kernel]
   exact Nat.le_trans (by omega:_ ≤ 100) (by decide)
  ·rw [minus_num n0 e]
   exact k H1 s1
 ·have e:=of_decide_eq_false (Bool.eq_false_iff.mpr e)
  exact numW_reads (by omega) n1 k
theorem numQ_len {i:Int} (h : -18 ≤ i) (h1:i < 10 ^ 60):(numT i).length ≤ 80∧i.natAbs.log2 < 1920:=by
 by_cases c:0 ≤ i
 ·exact ⟨numT_len c (Int.le_of_lt h1),numT_log c (Int.le_of_lt h1)⟩
 ·have:=str18 h (by omega)
  exact ⟨Nat.le_trans (show (numT i).length ≤ 3 from this.2) (by decide),this.1⟩
theorem numsQ {u:List Int} (h:∀ i ∈ u,-18 ≤ i∧i < 10 ^ 60):∀ x ∈ u.map numT,x.length ≤ 80:=fun x hx => by
 obtain ⟨i,hi,rfl⟩:=List.mem_map.mp hx
 exact (numQ_len (h i hi).1 (h i hi).2).1
theorem joinR_reads {D:Addr} {u:List Int} {H1:Hp} (ul:u.length ≤ 18) (h:∀ i ∈ u,-18 ≤ i∧i < 10 ^ 60):(" " : Str).length ≤ 16∧((u.map numT).map (fun x => x.length)).sum + (u.map numT).length ≤ 1048576:=by
 have sm:=sum_len 80 (numsQ h)
 rw [List.length_map] at sm
 exact ⟨by decide,by rw [List.length_map]; omega⟩
theorem showR_core {a:Addr} {u:List Int} {tx:TE} (spx:∀ (i:Int) (H1:Hp) (R:VK),-18 ≤ i→i < 10 ^ 60→(∀ H2,Same H1 H2→R (.str (numT i)) H2)→∀ σ:L2.St,σ[0]? = some (some (.int i))→tx σ H1 R)
  (ha:H a=some (.lst (u.map V.int)) ∨ H a=some (.tup (u.map V.int))) (ul:u.length ≤ 18) (hb:∀ i ∈ u,-18 ≤ i∧i < 10 ^ 60) (k:∀ H',Same H H'→Q (.str (rowT u)) H') :
  tCompG 1 (fun σ H_1 R => iList K (tVar 0) σ H_1 R ∨ iTup K (tVar 0) σ H_1 R) (gName 0) tYes tx [some (.ref a)] H fun x H1 => ∃ p ss,x = .ref p∧SqL K H1 p (ss.map V.str)∧ss=u.map numT∧Same H H1:=by
 have step:∀ (i:Nat) (x:V) (ys:List V) (H1:Hp) (pre:L2.St),pre.length=1→(u.map V.int)[i]? = some x→(Same H H1∧ys=((u.take i).map numT).map V.str)→gName 0 x (pre ++ [some (.ref a)]) H1 fun σ' H2 => (∃ pre' : L2.St,σ' = pre' ++ [some (.ref a)]∧pre'.length=1)∧tYes σ' H2 fun ok H3 => if ok=true then tx σ' H3 fun y H4 => Same H H4∧ys ++ [y]=((u.take (i + 1)).map numT).map V.str else Same H H3∧ys=((u.take (i + 1)).map numT).map V.str:=by
  rintro i x ys H1 pre hpl hx ⟨s1,rfl⟩
  rw [List.getElem?_map] at hx
  cases ez:u[i]? with
  | none => rw [ez] at hx; cases hx
  | some n =>
   rw [ez] at hx
   cases hx
   have hn:=hb n (List.mem_of_getElem? ez)
   rcases pre with _ | ⟨q0,_ | ⟨q1,pre⟩⟩
   ·cases hpl
   ·refine ⟨⟨[some _],rfl,rfl⟩,?_⟩
    unfold tYes
    dsimp only
    rw [if_pos (rfl:true=true)]
    refine spx n H1 _ hn.1 hn.2 (fun H2 s2 => ⟨s1.trans s2,?_⟩) _ rfl
    rw [take_succ' ez,List.map_append,List.map_append]
    rfl
   ·cases hpl
 have fin:∀ (ys:List V) (H1:Hp),(Same H H1∧ys=((u.take (u.map V.int).length).map numT).map V.str)→∀ D,H1 D=none→∃ p ss,V.ref D = .ref p∧SqL K (upd H1 D (.lst ys)) p (ss.map V.str)∧ss=u.map numT∧Same H (upd H1 D (.lst ys)):=by
  rintro ys H1 ⟨s1,rfl⟩ D hD
  rw [List.length_map,List.take_length]
  exact ⟨D,u.map numT,rfl,SqL.of upd_same,rfl,s1.nw hD⟩
 have lz:∀ (i:Nat) (ys:List V) (H1:Hp),(Same H H1∧ys=((u.take i).map numT).map V.str)→ys.length ≤ i:=fun i ys H1 h => by rw [h.2,List.length_map,List.length_map,List.length_take]; exact Nat.min_le_left _ _
 rcases ha with ha | ha
 ·exact .inl ⟨_,rfl,a,rfl,⟨_,SqL.of ha⟩,compL (K:=K) (a:=a) (xs:=u.map V.int) (fun i ys H1 => Same H H1∧ys=((u.take i).map numT).map V.str) ⟨Same.refl _,rfl⟩ (by rw [List.length_map]; omega) lz (fun i ys H1 _ h => SqL.of (h.1 _ _ ha)) step fin⟩
 ·exact .inr ⟨_,rfl,a,rfl,⟨_,SqT.of ha⟩,compT (K:=K) (a:=a) (xs:=u.map V.int) (fun i ys H1 => Same H H1∧ys=((u.take i).map numT).map V.str) ⟨Same.refl _,rfl⟩ (by rw [List.length_map]; omega) lz (fun i ys H1 _ h => SqT.of (h.1 _ _ ha)) step fin⟩
theorem TE_mono {k:Nat} {wi:TI} {g:TG} {tt:TT} {te:TE} {σ:L2.St} {R R' : VK} (hw:∀ (S S' : L2.It→Hp→Prop),(∀ J H1,S J H1→S' J H1)→wi σ H S→wi σ H S') (h:tCompG k wi g tt te σ H R) (m:∀ x H1,R x H1→R' x H1):tCompG k wi g tt te σ H R':=by
 refine hw _ _ (fun J H1 hJ => ?_) h
 obtain ⟨W,w0,st⟩:=hJ
 refine ⟨W,w0,fun i m' ys H2 hW => ?_⟩
 rcases st i m' ys H2 hW with ⟨a,b⟩ | q
 ·exact .inl ⟨a,fun D hD => m _ _ (b D hD)⟩
 ·exact .inr q
theorem or_mono {σ:L2.St} (S S' : L2.It→Hp→Prop) (m:∀ J H1,S J H1→S' J H1) (h:iList K (tVar 0) σ H S ∨ iTup K (tVar 0) σ H S):iList K (tVar 0) σ H S' ∨ iTup K (tVar 0) σ H S':=by
 rcases h with h | h
 ·obtain ⟨x,hx,a,e,l,q⟩:=h
  exact .inl ⟨x,hx,a,e,l,m _ _ q⟩
 ·obtain ⟨x,hx,a,e,l,q⟩:=h
  exact .inr ⟨x,hx,a,e,l,m _ _ q⟩
theorem showR_reads {a:Addr} {u:List Int} (ha:H a=some (.lst (u.map V.int)) ∨ H a=some (.tup (u.map V.int))) (ul:u.length ≤ 18) (hb:∀ i ∈ u,-18 ≤ i∧i < 10 ^ 60) (k:∀ H',Same H H'→Q (.str (rowT u)) H'):tShowR K { nx:=Z,rt:=Q } [some (.ref a)] H:=by
 refine ⟨rfl,TE_mono (fun S S' m h => or_mono S S' m h) (showR_core (Q:=Q) (fun i H1 R h1 h2 hR σ e => ⟨_,e,i,rfl,h1,h2,hR⟩) ha ul hb k) fun x H1 h => ?_⟩
 obtain ⟨p,ss,rfl,hp,rfl,s1⟩:=h
 obtain ⟨j1,j2⟩:=joinR_reads (D:=p) (H1:=H1) ul hb
 exact ⟨" ",p,_,rfl,rfl,hp,j1,j2,k H1 s1⟩
theorem writQ_reads {a:Addr} {u:List Int} (ha:H a=some (.lst (u.map V.int)) ∨ H a=some (.tup (u.map V.int))) (ul:u.length ≤ 18) (hb:∀ i ∈ u,-18 ≤ i∧i < 10 ^ 60) (k:∀ H',Same H H'→Q (.str (rowT u)) H'):tWritQ K { nx:=Z,rt:=Q } [some (.ref a)] H:=by
 refine ⟨rfl,TE_mono (fun S S' m h => or_mono S S' m h) (showR_core (Q:=Q) (fun i H1 R h1 h2 hR σ e => ⟨_,e,i,rfl,(numQ_len h1 h2).2,hR H1 (Same.refl _)⟩) ha ul hb k) fun x H1 h => ?_⟩
 obtain ⟨p,ss,rfl,hp,rfl,s1⟩:=h
 obtain ⟨j1,j2⟩:=joinR_reads (D:=p) (H1:=H1) ul hb
 exact ⟨" ",p,_,rfl,rfl,hp,j1,j2,k H1 s1⟩
theorem rowS_len {u:List Int} (u3:u.length=3) (h:∀ i ∈ u,-18 ≤ i∧i ≤ 18):(rowT u).length ≤ 12:=by
 have al:∀ x ∈ u.map numT,x.length ≤ 3:=fun x hx => by
  obtain ⟨i,hi,rfl⟩:=List.mem_map.mp hx
  exact (str18 (h i hi).1 (h i hi).2).2
 have sm:=sum_len 3 al
 have:=StrLaws.join_length_le " " (u.map numT)
 rw [List.length_map,u3,show (" " : Str).length=1 from by decide +kernel] at this
 rw [List.length_map,u3] at sm
 unfold rowT
 omega
theorem sheetT_len {U:List (List Int)} (o:ShOk U):((U.map rowT).map (fun x => x.length)).sum ≤ 144∧(sheetT U).length ≤ 200:=by
 have al:∀ x ∈ U.map rowT,x.length ≤ 12:=fun x hx => by
  obtain ⟨u,hu,rfl⟩:=List.mem_map.mp hx
  exact rowS_len (o.three u hu) fun i hi => o.small hu hi
 have sm:=sum_len 12 al
 have:=StrLaws.join_length_le " / " (U.map rowT)
 rw [List.length_map,show (" / " : Str).length=3 from by decide +kernel] at this
 rw [List.length_map] at sm
 have:=o.len
 unfold sheetT
 omega
theorem showS_reads {a:Addr} {xs:List V} {U:List (List Int)} (ha:H a=some (.lst xs)) (tU:TuL H xs U) (o:ShOk U) (k:∀ H',Same H H'→Q (.str (sheetT U)) H'):tShowS K { nx:=Z,rt:=Q } [some (.ref a)] H:=by
 have lx:xs.length=U.length:=tU.1
 have lU:=o.len
 refine ⟨rfl,_,rfl,a,rfl,⟨_,SqL.of ha⟩,compL (K:=K) (a:=a) (xs:=xs) (fun i ys H1 => Same H H1∧ys=((U.take i).map rowT).map V.str) ⟨Same.refl _,rfl⟩ (by omega) (fun i ys H1 h => by rw [h.2,List.length_map,List.length_map,List.length_take]; exact Nat.min_le_left _ _) (fun i ys H1 _ h => SqL.of (h.1 _ _ ha)) ?_ ?_⟩
 ·rintro i x ys H1 pre hpl hx ⟨s1,rfl⟩
  obtain ⟨u,q,eu,rfl,hq⟩:=(tU.up s1.tups).take hx
  have mu:=List.mem_of_getElem? eu
  rcases pre with _ | ⟨q0,_ | ⟨q1,pre⟩⟩
  ·cases hpl
  ·refine ⟨⟨[some _],rfl,rfl⟩,?_⟩
   unfold tYes
   dsimp only
   rw [if_pos (rfl:true=true)]
   refine ⟨_,rfl,q,u,rfl,.inr hq,by have:=o.three u mu; omega,fun i hi => ⟨(o.small mu hi).1,Int.lt_of_le_of_lt (o.small mu hi).2 (by decide)⟩,fun H2 s2 => ⟨s1.trans s2,?_⟩⟩
   rw [take_succ' eu,List.map_append,List.map_append]
   rfl
  ·cases hpl
 ·rintro ys H1 ⟨s1,rfl⟩ D hD
  rw [lx,List.take_length]
  have:=(sheetT_len o).1
  exact ⟨" / ",D,U.map rowT,rfl,rfl,SqL.of upd_same,by decide,by rw [List.length_map]; omega,k _ (s1.nw hD)⟩
set_option maxHeartbeats 4000000 in
theorem kindsQ_reads {a b:Addr} {xs:List V} {U:List (List Int)} {r:List Int} (ha:H a=some (.lst xs)) (tU:TuL H xs U) (o:ShOk U) (hb:H b=some (.lst (r.map V.int))) (rl:r.length ≤ 18) (k:∀ H',Same H H'→Q (.bl true) H'):tKindsQ K { nx:=Z,rt:=Q } [some (.ref a),some (.ref b),none,none] H:=by
 have lx:xs.length=U.length:=tU.1
 have lU:=o.len
 refine ⟨_,rfl,.ref a,_,true,rfl,.lst ha,rfl,true,rfl,iteF ⟨_,rfl,.ref b,_,true,rfl,.lst hb,rfl,true,rfl,iteF ?_⟩⟩
 refine ⟨_,rfl,a,rfl,⟨_,SqL.of ha⟩,compL (K:=K) (a:=a) (xs:=xs) (fun j ts H' => ts=List.replicate j (V.bl true)∧H' = H) ⟨rfl,rfl⟩ (by omega) (fun j ts H' h => by rw [h.1,List.length_replicate]; exact Nat.le_refl _) (fun j ts H' _ h => by rw [h.2]; exact SqL.of ha) ?_ ?_⟩
 ·rintro j x ts H9 pre hpl hx ⟨rfl,rfl⟩
  obtain ⟨u,q,eu,rfl,hq⟩:=tU.take hx
  rcases pre with _ | ⟨q0,_ | ⟨q1,pre⟩⟩
  ·cases hpl
  ·refine ⟨⟨[some _],rfl,rfl⟩,?_⟩
   unfold tYes
   dsimp only
   rw [if_pos (rfl:true=true)]
   refine ⟨_,rfl,.ref q,_,true,rfl,.tup hq,rfl,?_,rfl⟩
   rw [List.replicate_succ']
  ·cases hpl
 rintro ts H9 ⟨rfl,rfl⟩ D hD
 have sD:=Same.nw (o:=.lst (List.replicate xs.length (V.bl true))) (Same.refl H9) hD
 have fD:(upd H9 D (.lst (List.replicate xs.length (V.bl true)))) D=some (.lst (List.replicate xs.length (V.bl true))):=upd_same
 generalize upd H9 D (.lst (List.replicate xs.length (V.bl true)))=HA at sD fD ⊢
 refine ⟨D,List.replicate xs.length true,rfl,by rw [List.map_replicate]; exact SqL.of fD,true,by rw [show (List.replicate xs.length true).all id=true by simp],iteF ?_⟩
 refine ⟨_,rfl,b,_,rfl,.inl (SqL.of (sD _ _ hb)),fun l hl => ?_⟩
 have sB:=sD.trans (Same.nw (o:=.lst (r.map V.int)) (Same.refl HA) hl)
 have fB:(upd HA l (.lst (r.map V.int))) l=some (.lst (r.map V.int)):=upd_same
 dsimp only [gName]
 generalize upd HA l (.lst (r.map V.int))=HB at sB fB ⊢
 refine ⟨_,rfl,a,rfl,⟨_,SqL.of (sB _ _ ha)⟩,for_list (K:=K) (a:=a) (xs:=xs) (fun i σ H' => ∃ (l:Addr) (v:List Int) (x3:Option V),σ=[some (.ref a),some (.ref b),some (.ref l),x3]∧Same H9 H'∧H' l=some (.lst (v.map V.int))∧v.length=r.length + 3 * i) ⟨l,r,_,rfl,sB,fB,rfl⟩ (fun i σ H' _ h => by obtain ⟨_,_,_,_,s,_⟩:=h; exact SqL.of (s _ _ ha)) ?_ ?_⟩
 ·rintro i x σ H1 hx ⟨l,v,x3,rfl,s1,f1,vl⟩
  obtain ⟨u,q,eu,rfl,hq⟩:=(tU.up s1.tups).take hx
  have u3:=o.three u (List.mem_of_getElem? eu)
  have il:i < U.length:=(List.getElem?_eq_some_iff.mp eu).1
  dsimp only [gName]
  refine ⟨_,rfl,_,rfl,q,_,rfl,.inr (SqT.of hq),fun m hm => ?_⟩
  have s2:=Same.nw (o:=.lst (u.map V.int)) (Same.refl H1) hm
  have f2:(upd H1 m (.lst (u.map V.int))) m=some (.lst (u.map V.int)):=upd_same
  generalize upd H1 m (.lst (u.map V.int))=H2 at s2 f2 ⊢
  refine ⟨l,m,_,_,rfl,rfl,s2 _ _ f1,f2,Nat.le_trans (show _ ≤ 1000 by rw [List.length_map,List.length_map]; omega) (by decide),fun m2 hm2 => ?_⟩
  refine ⟨m2,v ++ u,_,rfl,(s1.trans s2).nw hm2,by rw [List.map_append]; exact upd_same,by rw [List.length_append]; omega⟩
 ·rintro σ H1 ⟨l,v,x3,rfl,s1,f1,vl⟩
  refine ⟨_,rfl,l,rfl,⟨_,SqL.of f1⟩,compL (K:=K) (a:=l) (xs:=v.map V.int) (fun j ts H' => ts=List.replicate j (V.bl true)∧H' = H1) ⟨rfl,rfl⟩ (by rw [List.length_map]; omega) (fun j ts H' h => by rw [h.1,List.length_replicate]; exact Nat.le_refl _) (fun j ts H' _ h => by rw [h.2]; exact SqL.of f1) ?_ ?_⟩
  ·rintro j x ts H9 pre hpl hx ⟨rfl,rfl⟩
   rw [List.getElem?_map] at hx
   cases ej:v[j]? with
   | none => rw [ej] at hx; cases hx
   | some e =>
    rw [ej] at hx
    cases hx
    rcases pre with _ | ⟨q0,_ | ⟨q1,pre⟩⟩
    ·cases hpl
    ·refine ⟨⟨[some _],rfl,rfl⟩,?_⟩
     unfold tYes
     dsimp only
     rw [if_pos (rfl:true=true)]
     refine ⟨_,rfl,.int e,_,true,rfl,.int e,kit_ii,true,rfl,iteT ⟨_,rfl,.int e,_,false,rfl,.int e,kit_ib,?_⟩⟩
     refine ⟨false,rfl,?_,rfl⟩
     rw [List.replicate_succ']
     rfl
    ·cases hpl
  ·rintro ts H9 ⟨rfl,rfl⟩ D2 hD2
   refine ⟨D2,List.replicate v.length true,rfl,by rw [List.map_replicate,List.length_map]; exact SqL.of upd_same,?_⟩
   rw [show (List.replicate v.length true).all id=true by simp]
   exact k _ (s1.nw hD2)
end
end L2
namespace L2
open PySem PySem.Spec PyProof.Rows
section
variable {K:PySem.W.Frag} {H:Hp} {Q:VK} {Z:L2.St→Hp→Prop}
theorem di_two {a:Addr} {x y:V} {d e:PyData} (h:H a=some (.lst [x,y])) (h1:DI K H x d) (h2:DI K H y e):DI K H (.ref a) (.list [d,e]):=by
 refine .lst (SqL.of h) rfl fun i z f e1 e2 => ?_
 match i,e1,e2 with
 | 0,e1,e2 => cases e1; cases e2; exact h1
 | 1,e1,e2 => cases e1; cases e2; exact h2
def dHd (U:List (List Int)) (r:List Int):PyData:=.list [dTs U,dI r]
theorem lay_dHd (U:List (List Int)) (r:List Int):(dHd U r).canLay0=true:=by
 show ((dTs U).canLay0 && ((dI r).canLay0 && true))=true
 rw [lay_dTs,lay_dI]
 rfl
theorem dep_dHd (U:List (List Int)) (r:List Int):(dHd U r).depth ≤ 60:=by
 have d1:=dep_hs [U]
 have e1:(dTs U).depth ≤ 40:=by
  have:PyData.depthAll ([U].map dTs)=max (dTs U).depth 0:=rfl
  omega
 have e2:(dI r).depth ≤ 40:=by show PyData.depthAll _ + 1 ≤ 40; rw [dep_ints]; decide
 show max (dTs U).depth (max (dI r).depth 0) + 1 ≤ 60
 omega
theorem eqv_dHd (U:List (List Int)) (r:List Int):PyData.eqv (dHd U r) (dHd U r)=true:=PySem.SeqAt.eqv_refl _ (lay_dHd U r)
def dTx (a b:Str):PyData:=.list [.str a,.str b]
def OkS (x:Str):Prop:=∀ c ∈ x.cps.toList,c < 0x110000
theorem OkS.ok {x:Str} (h:OkS x):PyData.strOk x=true:=by
 unfold PyData.strOk
 rw [← Array.all_toList]
 exact List.all_eq_true.mpr fun c hc => decide_eq_true (h c hc)
theorem okS_num (i:Int):OkS (numT i):=fun c hc => by
 have e:(numT i).cps.toList=(toString i).toList.map Char.toNat:=PyProof.Rows.signs_ofString _
 rw [e] at hc
 obtain ⟨ch,_,rfl⟩:=List.mem_map.mp hc
 have:=ch.valid
 unfold UInt32.isValidChar Nat.isValidChar at this
 show ch.val.toNat < _
 omega
theorem okS_join {y:Str} (hy:OkS y):∀ {ss:List Str},(∀ s ∈ ss,OkS s)→OkS (Str.join y ss)
 | [],_ => fun c hc => by cases hc
 | [s],h => h s List.mem_cons_self
 | s :: t :: r,h => fun c hc => by
  rw [join_two,app_list,app_list] at hc
  rcases List.mem_append.mp hc with m | m
  ·rcases List.mem_append.mp m with m | m
   ·exact h s List.mem_cons_self c m
   ·exact hy c m
  ·exact okS_join hy (fun z hz => h z (List.mem_cons_of_mem _ hz)) c m
theorem okS_row (u:List Int):OkS (rowT u):=okS_join (by intro c hc; rw [blank_cps] at hc; simp at hc; omega) fun s hs => by
 obtain ⟨i,_,rfl⟩:=List.mem_map.mp hs
 exact okS_num i
theorem okS_sheet (U:List (List Int)):OkS (sheetT U):=okS_join (by intro c hc; rw [slash_cps] at hc; simp at hc; omega) fun s hs => by
 obtain ⟨u,_,rfl⟩:=List.mem_map.mp hs
 exact okS_row u
theorem lay_dTx (U:List (List Int)) (r:List Int):(dTx (sheetT U) (rowT r)).canLay0=true:=by
 show (PyData.strOk (sheetT U) && (PyData.strOk (rowT r) && true))=true
 rw [(okS_sheet U).ok,(okS_row r).ok]
 rfl
theorem eqv_dTx (U:List (List Int)) (r:List Int):PyData.eqv (dTx (sheetT U) (rowT r)) (dTx (sheetT U) (rowT r))=true:=PySem.SeqAt.eqv_refl _ (lay_dTx U r)
theorem dep_dTx (a b:Str):(dTx a b).depth ≤ 60:=by show max 0 (max 0 0) + 1 ≤ 60; decide
set_option maxHeartbeats 8000000 in
theorem law80b_reads {D:Ends} {cT cS cR a d l lr h1 h2 hd tx:Addr} {kk:V} {x7 x8 x9:Option V} {ys:List V} {U:List (List Int)} {r:List Int} (hl:H l=some (.lst ys)) (tU:TuL H ys U) (oU:ShOk U) (hr:H lr=some (.lst (r.map V.int))) (ev:EvRow U r) (rb:∀ x ∈ r,x < 10 ^ 60) (e1:H h1=some (.lst ys)) (e2:H h2=some (.lst (r.map V.int))) (e3:H hd=some (.lst [.ref h1,.ref h2])) (e4:H tx=some (.lst [.str (sheetT U),.str (rowT r)]))
  (k:∀ (y7 y8 y9:Option V) (H' : Hp),Same H H'→D.nx [some (.ref a),some kk,some (.ref d),some (.ref l),some (.ref lr),some (.ref hd),some (.ref tx),y7,y8,y9] H'):tLaw80b K cT cS cR D [some (.ref a),some kk,some (.ref d),some (.ref l),some (.ref lr),some (.ref hd),some (.ref tx),x7,x8,x9] H:=by
 have lU:=oU.len
 have rl:r.length ≤ 18:=by have:=ev.len; omega
 have rne:r ≠ []:=fun z => by have:=ev.len; rw [z] at this; simp at this; omega
 have Une:U ≠ []:=fun z => by rw [z] at lU; simp at lU
 have sk:=sheetQ_ok Une (sh_good oU)
 have rk:=row_ok rne fun i hi => good_num (ev.nn i hi) (rb i hi)
 have h6:Sixty r:=fun x hx => ⟨ev.nn x hx,Int.le_of_lt (rb x hx)⟩
 refine ⟨2,rfl,by decide,by decide,for_range (n:=2) (fun j σ H' => Same H H'∧∃ y7 y8 y9:Option V,σ=[some (.ref a),some kk,some (.ref d),some (.ref l),some (.ref lr),some (.ref hd),some (.ref tx),y7,y8,y9]) ⟨Same.refl _,_,_,_,rfl⟩ ?_ ?_⟩
 ·rintro j σ H1 hj ⟨s1,y7,y8,y9,rfl⟩
  dsimp only [gName]
  refine ⟨_,rfl,tx,_,0,.str (sheetT U),rfl,rfl,SqL.of (s1 _ _ e4),rfl,sheetT U,rfl,Nat.le_trans (sheetT_len oU).2 (by decide),fun bad => (by rw [sk.1] at bad; cases bad),fun ok bad => (by rw [sk.2,isS_sheet oU] at bad; cases bad),fun ok good lo yo H2 s2 lof hlo tUo => ?_⟩
  rw [sk.2] at tUo
  have lo0:=s1.free lof
  have s02:=s1.trans s2
  dsimp only [gName]
  refine ⟨_,rfl,hd,_,0,.ref h1,rfl,rfl,SqL.of (s02 _ _ e3),rfl,_,rfl,tx,_,1,.str (rowT r),rfl,rfl,SqL.of (s02 _ _ e4),rfl,h1,ys,U,rowT r,rfl,s02 _ _ e1,tU.up s02.tups,oU,Nat.le_trans (rowT_len h6 rl) (by decide),fun bad => (by rw [rk.1] at bad; cases bad),fun ok bad => (by rw [rk.2,rowOB_ev oU ev] at bad; cases bad),fun ok good lq H3 s3 lqf hlq => ?_⟩
  rw [rk.2] at hlq
  have lq0:=s02.free lqf
  have s03:=s02.trans s3
  have hlo3:=s3 _ _ hlo
  have tUo3:=tUo.up s3.tups
  dsimp only [gName]
  refine ⟨_,rfl,_,rfl,lo,lq,yo,U,r,rfl,hlo3,tUo3,oU,hlq,rl,fun H4 s4 => ⟨true,rfl,iteF ?_⟩⟩
  have s04:=s03.trans s4
  refine ⟨_,rfl,_,rfl,dTs U,dTs U,(tUo3.up s4.tups).di (SqL.of (s4 _ _ hlo3)),(tU.up s04.tups).di (SqL.of (s04 _ _ hl)),lay_dTs _,lay_dTs _,dep_dTs _,_,rfl,iteN (by rw [eqv_dTs,decide_eq_true rfl]; rfl) ?_⟩
  refine ⟨_,rfl,_,rfl,dI r,dI r,di_lst (SqL.of (s4 _ _ hlq)),di_lst (SqL.of (s04 _ _ hr)),lay_dI _,lay_dI _,dep_dI _,_,rfl,iteN (by rw [eqv_dI,decide_eq_true rfl]; rfl) ?_⟩
  refine ⟨_,rfl,_,rfl,_,rfl,(by show 2 ≤ sizeLine; decide),fun m hm => ?_⟩
  have s5:=Same.nw (o:=.lst [.ref l,.ref lr]) (Same.refl H4) hm
  have f5:(upd H4 m (.lst [.ref l,.ref lr])) m=some (.lst [.ref l,.ref lr]):=upd_same
  generalize upd H4 m (.lst [.ref l,.ref lr])=H5 at s5 f5 ⊢
  have s05:=s04.trans s5
  have t5:=tU.up s05.tups
  refine ⟨dHd U r,dHd U r,di_two (s05 _ _ e3) (t5.di (SqL.of (s05 _ _ e1))) (di_lst (SqL.of (s05 _ _ e2))),di_two f5 (t5.di (SqL.of (s05 _ _ hl))) (di_lst (SqL.of (s05 _ _ hr))),lay_dHd _ _,lay_dHd _ _,dep_dHd _ _,_,rfl,iteN (by rw [eqv_dHd]; rfl) ?_⟩
  have hlo5:=s5 _ _ (s4 _ _ hlo3)
  have hlq5:=s5 _ _ (s4 _ _ hlq)
  have nlq:lq ≠ lo:=by
   rintro rfl
   rw [hlo] at lqf
   cases lqf
  refine ⟨_,rfl,.inl ⟨rfl,_,SqL.of hlo5⟩,lo,_,rfl,rfl,hlo5,?_⟩
  have s6:Same H (upd H5 lo (.lst yo.reverse)):=s05.ow lo0
  have hlq6:(upd H5 lo (.lst yo.reverse)) lq=some (.lst (r.map V.int)):=by rw [upd_ne nlq]; exact hlq5
  generalize upd H5 lo (.lst yo.reverse)=H6 at s6 hlq6 ⊢
  refine ⟨_,rfl,.inl ⟨rfl,_,SqL.of hlq6⟩,lq,_,.non,rfl,rfl,hlq6,Nat.lt_of_le_of_lt (show _ ≤ 1000 by rw [List.length_map]; omega) (by decide),?_⟩
  exact ⟨s6.ow lq0,_,_,_,rfl⟩
 ·rintro σ H1 ⟨s1,y7,y8,y9,rfl⟩
  exact k _ _ _ H1 s1
set_option maxHeartbeats 8000000 in
theorem law80_reads {a cT cS cR:Addr} {ns:List Int} (hS:SqL K H a (ns.map V.int)) (k:∀ H',Q (.bl true) H'):tLaw80 K cT cS cR { nx:=Z,rt:=Q } [some (.ref a),none,none,none,none,none,none,none,none,none] H:=by
 refine ⟨_,rfl,a,_,rfl,.inl hS,3,_,rfl,1,_,rfl,rfl,_,rfl,?_,?_,?_⟩
 ·split <;> omega
 ·split <;> omega
 have hn:(1 + (if (((ns.map V.int).length:Nat):Int) < 3 then (((ns.map V.int).length:Nat):Int) else 3)).toNat ≤ 4:=by split <;> omega
 generalize (1 + (if (((ns.map V.int).length:Nat):Int) < 3 then (((ns.map V.int).length:Nat):Int) else 3)).toNat=n at hn ⊢
 refine for_range (fun i σ H' => ∃ x1 x2 x3 x4 x5 x6 x7 x8 x9:Option V,σ=[some (.ref a),x1,x2,x3,x4,x5,x6,x7,x8,x9]∧Same H H') ⟨_,_,_,_,_,_,_,_,_,rfl,Same.refl _⟩ ?_ ?_
 ·rintro i σ H1 hi ⟨x1,x2,x3,x4,x5,x6,x7,x8,x9,rfl,s1⟩
  dsimp only [gName]
  refine ⟨_,rfl,_,rfl,a,ns,_,rfl,Same.seq s1 hS,by omega,by omega,fun d H2 fd P2 s2 => ?_⟩
  have fd0:H d=none:=s1.free fd
  dsimp only [gName]
  refine ⟨_,rfl,d,rfl,P2,fun l ys U H3 B3 P3 hl tU oU => ?_⟩
  dsimp only [gName]
  have nl:=purse_ne P3 hl tU oU
  refine ⟨_,rfl,_,rfl,d,l,ys,U,rfl,P3,hl,tU,oU,fun lr r H4 B4 P4 hr ev rb => ?_⟩
  have lU:=oU.len
  have rl:r.length ≤ 18:=by have:=ev.len; omega
  have hl4:=B4 _ _ hl nl
  have tU4:=tU.up (upd_tup2 P3 B4)
  have B24:=B3.trans B4
  have rq:∀ x ∈ r,-18 ≤ x∧x < 10 ^ 60:=fun x hx => ⟨by have:=ev.nn x hx; omega,rb x hx⟩
  dsimp only [gName]
  refine ⟨_,rfl,l,ys,rfl,.inl (SqL.of hl4),fun h1 hh1 => ?_⟩
  have s5:=Same.nw (o:=.lst ys) (Same.refl H4) hh1
  have f5:(upd H4 h1 (.lst ys)) h1=some (.lst ys):=upd_same
  generalize upd H4 h1 (.lst ys)=H5 at s5 f5 ⊢
  refine ⟨_,rfl,lr,_,rfl,.inl (SqL.of (s5 _ _ hr)),fun h2 hh2 => ?_⟩
  have s6:=Same.nw (o:=.lst (r.map V.int)) (Same.refl H5) hh2
  have f6:(upd H5 h2 (.lst (r.map V.int))) h2=some (.lst (r.map V.int)):=upd_same
  generalize upd H5 h2 (.lst (r.map V.int))=H6 at s6 f6 ⊢
  refine ⟨(by show 2 ≤ sizeLine; decide),fun hd hhd => ?_⟩
  have s7:=Same.nw (o:=.lst [.ref h1,.ref h2]) (Same.refl H6) hhd
  have f7:(upd H6 hd (.lst [.ref h1,.ref h2])) hd=some (.lst [.ref h1,.ref h2]):=upd_same
  dsimp only [gName]
  generalize upd H6 hd (.lst [.ref h1,.ref h2])=H7 at s7 f7 ⊢
  have s57:=s6.trans s7
  have s47:=s5.trans s57
  refine ⟨_,rfl,hd,_,0,.ref h1,rfl,rfl,SqL.of f7,rfl,h1,ys,U,rfl,s57 _ _ f5,tU4.up s47.tups,oU,fun H8 s8 => ?_⟩
  refine ⟨_,rfl,hd,_,1,.ref h2,rfl,rfl,SqL.of (s8 _ _ f7),rfl,h2,r,rfl,.inl (s8 _ _ (s7 _ _ f6)),rl,rq,fun H9 s9 => ⟨(by show 2 ≤ sizeLine; decide),fun tx htx => ?_⟩⟩
  have s10:=Same.nw (o:=.lst [.str (sheetT U),.str (rowT r)]) (Same.refl H9) htx
  have f10:(upd H9 tx (.lst [.str (sheetT U),.str (rowT r)])) tx=some (.lst [.str (sheetT U),.str (rowT r)]):=upd_same
  dsimp only [gName]
  generalize upd H9 tx (.lst [.str (sheetT U),.str (rowT r)])=H10 at s10 f10 ⊢
  have s710:=s8.trans (s9.trans s10)
  have s410:=s47.trans s710
  refine ⟨_,rfl,_,rfl,l,ys,U,rfl,s410 _ _ hl4,tU4.up s410.tups,oU,fun H11 s11 => ?_⟩
  refine ⟨_,rfl,lr,r,rfl,.inl (s11 _ _ (s410 _ _ hr)),rl,rq,fun H12 s12 => ⟨(by show 2 ≤ sizeLine; decide),fun t2 ht2 => ?_⟩⟩
  have s13:=Same.nw (o:=.lst [.str (sheetT U),.str (rowT r)]) (Same.refl H12) ht2
  have f13:(upd H12 t2 (.lst [.str (sheetT U),.str (rowT r)])) t2=some (.lst [.str (sheetT U),.str (rowT r)]):=upd_same
  generalize upd H12 t2 (.lst [.str (sheetT U),.str (rowT r)])=H13 at s13 f13 ⊢
  have s1013:=s11.trans (s12.trans s13)
  refine ⟨dTx (sheetT U) (rowT r),dTx (sheetT U) (rowT r),di_two (s1013 _ _ f10) (.str _) (.str _),di_two f13 (.str _) (.str _),lay_dTx _ _,lay_dTx _ _,dep_dTx _ _,_,rfl,iteN (by rw [eqv_dTx]; rfl) ?_⟩
  refine ⟨_,rfl,_,rfl,_,rfl,(by show 2 ≤ sizeLine; decide),fun m hm => ?_⟩
  have s14:=Same.nw (o:=.lst [.ref l,.ref lr]) (Same.refl H13) hm
  have f14:(upd H13 m (.lst [.ref l,.ref lr])) m=some (.lst [.ref l,.ref lr]):=upd_same
  generalize upd H13 m (.lst [.ref l,.ref lr])=H14 at s14 f14 ⊢
  have s1014:=s1013.trans s14
  have s414:=s410.trans s1014
  have s714:=s710.trans s1014
  have t14:=tU4.up s414.tups
  have hh1:=s714 _ _ (s57 _ _ f5)
  have hh2:=s714 _ _ (s7 _ _ f6)
  refine ⟨dHd U r,dHd U r,di_two (s714 _ _ f7) (t14.di (SqL.of hh1)) (di_lst (SqL.of hh2)),di_two f14 (t14.di (SqL.of (s414 _ _ hl4))) (di_lst (SqL.of (s414 _ _ hr))),lay_dHd _ _,lay_dHd _ _,dep_dHd _ _,_,rfl,iteN (by rw [eqv_dHd]; rfl) ?_⟩
  refine law80b_reads (s414 _ _ hl4) t14 oU (s414 _ _ hr) ev rb hh1 hh2 (s714 _ _ f7) (s1014 _ _ f10) fun y7 y8 y9 H15 s15 => ?_
  refine ⟨_,_,_,_,_,_,_,_,_,rfl,fun c o q => (s414.trans s15) c o (B24 c o (s2 _ _ (s1 _ _ q)) fun z => ?_)⟩
  rw [z,fd0] at q
  cases q
 ·rintro σ H1 ⟨x1,x2,x3,x4,x5,x6,x7,x8,x9,rfl,s1⟩
  exact k H1
end
end L2
namespace Toy
open PySem L2 PyProof.Rows
def top (i:Nat):Stmt:=PySem.Challenge.pw_farcords_k80_sheets_and_rows_there_and_b.main.body.getD i (.Pass ⟨0,0,0,0⟩)
structure Kn (P:Program) (w:World) (K:PySem.W.Frag) (mg:Str→Option Value) (base:Heap) (x:Str) (k:Nat) (ps:List Str) (sp:Sp):Prop where
 ex:∃ (f:Addr) (fd:FuncData),FnOk P w K mg base CX0 k f fd ps sp∧mg x=some (.ref f)∧PySem.W.keepIn K (.ref f)=true∧Binds K fd ps []
theorem pe_callD {X:Cx} {x:Str} {k j:Nat} {ps:List Str} {sp:Sp} {e:Expr} {es:List Expr} {t:TA} {p pos:PySem.Pos} (G:Kn X.prog X.w X.K X.mg X.base x k ps sp) (hr:Room j X.A) (hg:Gl X x) (ha:PA X (e :: es) t) (hle:k ≤ j:=by decide)
  (hdb:(x == ("__debug__" : Str))=false:=by decide)
  (he:starEach (e :: es) X.env=(false,eval e X.env) :: starEach es X.env:=by rfl) (hpl:(backTo pos (starEach es X.env)).any (·.1)=false:=by rfl):PE X (.Call (.Name x p) (e :: es) [] pos) (tCall sp [] E0 t):=by
 obtain ⟨f,fd,F,hm,hk,hb⟩:=G.ex
 exact pe_call F (hr.mono hle) hg hm hk hb .nil pass0 ha hdb he hpl
structure Txt (mg:Str→Option Value):Prop where
 len:mg "len" = none
 range:mg "range" = none
 min:mg "min" = none
 max:mg "max" = none
 isinstance:mg "isinstance" = none
 bool:mg "bool" = none
 int:mg "int" = none
 tuple:mg "tuple" = none
 list:mg "list" = none
 str:mg "str" = none
 all:mg "all" = none
 sum:mg "sum" = none
 sorted:mg "sorted" = none
def Purse (H:Hp) (d:Addr):Prop:=∃ a b:Int,H d=some (.lst [.int a,.int b])∧0 ≤ b∧b < 2147483648
def But (d:Addr) (H H' : Hp):Prop:=∀ c o,H c=some o→c ≠ d→H' c=some o
theorem But.refl (d:Addr) (H:Hp):But d H H:=fun _ _ e _ => e
theorem But.upd {d:Addr} {H H' : Hp} {o:HO} (a:But d H H'):But d H (upd H' d o):=fun c u e n => by rw [upd_ne n]; exact a c u e n
theorem Same.new {p:Addr} {H H' : Hp} {o:HO} (a:Same H H') (h:H' p=none):Same H (L2.upd H' p o):=fun c u e => by
 have:=a c u e
 rw [upd_ne (ne_of_none this h)]; exact this
theorem log_ok {m:Int} (h0:0 < m) (h:m < 10 ^ 100):m.natAbs.log2 < 9000:=by
 have h2:m.natAbs < 2 ^ 400:=by
  have:(10:Int) ^ 100 ≤ 2 ^ 400:=by decide +kernel
  omega
 have:=(Nat.log2_lt (n:=m.natAbs) (k:=400) (by omega)).mpr h2
 omega
theorem bits_ok {m:Int} (h0:0 < m) (h:m < 10 ^ 100):((Builtin.Int.intBits m:Nat):Int) ≤ 400:=by
 have h2:m.natAbs < 2 ^ 400:=by
  have:(10:Int) ^ 100 ≤ 2 ^ 400:=by decide +kernel
  omega
 have:=(Nat.log2_lt (n:=m.natAbs) (k:=400) (by omega)).mpr h2
 have hne:(m == 0)=false:=by simp; omega
 unfold Builtin.Int.intBits
 simp only [hne]
 simp
 omega
section
variable {P:Program} {w:World} {K:PySem.W.Frag} {mg:Str→Option Value} {base:Heap}
abbrev s__law_cell_at:Stmt:=top 35
theorem sc__law_cell_at:FnScope ["_law_script", "_law_k"] ["_law_script", "_law_k"] (defScope s__law_cell_at):=⟨rfl,rfl,rfl,by decide +kernel,rfl,by decide +kernel,by decide +kernel⟩
def spCell (K:PySem.W.Frag):Sp:=fun vs H Q _ => ∃ (a:Addr) (ns:List Int) (k:Int),vs=[.ref a,.int k]∧SqL K H a (ns.map V.int)∧0 ≤ k∧∀ n:Int,Q (.int n) H
theorem ok_cell {f:Addr} {fd:FuncData} (F:Fun K "_law_cell_at" "_law_cell_at" s__law_cell_at f fd) (M:Txt mg):FnOk P w K mg base CX0 1 f fd ["_law_script", "_law_k"] (spCell K):=by
 have sc:=sc__law_cell_at
 refine F.ok sc (fun vs H Q E h => ?_) (fun cdv A outer s H vs Q E hr h => ?_)
 ·obtain ⟨a,ns,k,rfl,_⟩:=h
  rfl
 ·obtain ⟨a,ns,i,rfl,hS,h0,k⟩:=h
  refine ⟨_,(pss_cons (ps_if (pt_cmpR op_lt (pv 1) (pe_callB (call_lenK (K:=K)) (by rfl) M.len PySem.boot_len (pa_Name (pv 0) pa_nil)) (nomark _)) (pss_one (ps_ret (pe_ix (ix_listK (K:=K)) (pv 0) (pv 1) (fun _ _ => rfl)))) pss_nil)
   (pss_one (ps_ret pe_int))),?_⟩
  refine ⟨_,rfl,_,rfl,a,_,rfl,.inl hS,_,_,rfl,rfl,_,rfl,?_⟩
  refine ite2 (fun e => ?_) (fun e => ?_)
  ·have e:=of_decide_eq_true e
   rw [List.length_map] at e
   have hlt:i.toNat < ns.length:=by omega
   refine ⟨_,rfl,_,rfl,a,_,_,V.int (ns[i.toNat]),rfl,rfl,hS,?_,k _⟩
   have:=atI_nat (xs:=ns.map V.int) (j:=i.toNat) (v:=V.int (ns[i.toNat])) (by rw [List.getElem?_map,List.getElem?_eq_getElem hlt]; rfl)
   rw [Int.toNat_of_nonneg h0] at this
   exact this
  ·exact k 0
abbrev s__law_purse:Stmt:=top 36
theorem sc__law_purse:FnScope ["_law_script", "_law_at", "_law_cell", "_law_seed", "_law_k"] ["_law_script", "_law_at"] (defScope s__law_purse):=⟨rfl,rfl,rfl,by decide +kernel,rfl,by decide +kernel,by decide +kernel⟩
def spPurse (K:PySem.W.Frag):Sp:=fun vs H Q _ => ∃ (a:Addr) (ns:List Int) (k:Int),vs=[.ref a,.int k]∧SqL K H a (ns.map V.int)∧0 ≤ k∧k ≤ 1000∧∀ (d:Addr) (H' : Hp),H d=none→Purse H' d→Same H H'→Q (.ref d) H'
theorem ok_purse {f:Addr} {fd:FuncData} (F:Fun K "_law_purse" "_law_purse" s__law_purse f fd) (M:Txt mg) (G_law_cell_at:Kn P w K mg base "_law_cell_at" 1 ["_law_script", "_law_k"] (spCell K)):FnOk P w K mg base CX0 2 f fd ["_law_script", "_law_at"] (spPurse K):=by
 have sc:=sc__law_purse
 refine F.ok sc (fun vs H Q E h => ?_) (fun cdv A outer s H vs Q E hr h => ?_)
 ·obtain ⟨a,ns,k,rfl,_⟩:=h
  rfl
 ·obtain ⟨a,ns,i,rfl,hS,h0,h1,k⟩:=h
  refine ⟨_,(pss_cons (ps_set (i:=2) sc.nd rfl (Or.inl rfl) (pe_callD G_law_cell_at hr rfl (pa_Name (pv 0) (pa_Name (pv 1) pa_nil))))
   (pss_cons (ps_if (pt_cmpR op_ge (pv 2) (pe_op op_pow pe_int pe_int) (nomark _)) (pss_one (ps_ret (pe_lst (pa_o2 (pv 2) pe_int pa_nil)))) pss_nil)
   (pss_cons (ps_set (i:=3) sc.nd rfl (Or.inl rfl) (pe_op op_add (pe_op op_mul pe_int (pv 1)) pe_int))
   (pss_cons (ps_for PassesOwn.never rfl (pi_range1 rfl M.range (pa_Constant pe_int pa_nil)) (pg_name (i:=4) sc.nd rfl (Or.inl rfl))
   (pss_cons (ps_set (i:=3) sc.nd rfl (Or.inl rfl) (pe_op op_add (pe_op op_add (pe_op op_mul (pv 3) pe_int) (pe_op op_mod (pe_callD G_law_cell_at hr rfl (pa_Name (pv 0) (pa_BinOp (pe_op op_add (pv 1) (pv 4)) pa_nil))) pe_int)) (pe_op op_mul pe_int (pv 4))))
   (pss_one (ps_set (i:=3) sc.nd rfl (Or.inl rfl) (pe_op op_mod (pv 3) pe_int)))))
   (pss_one (ps_ret (pe_lst (pa_o2 pe_int (pe_op op_add (pv 3) pe_int) pa_nil)))))))),?_⟩
  refine ⟨_,rfl,_,rfl,a,ns,i,rfl,hS,h0,fun cell => ?_⟩
  refine ⟨_,rfl,_,_,rfl,rfl,⟨by decide,by decide,by decide⟩,_,_,rfl,rfl,_,rfl,?_⟩
  refine ite2 (fun e => ?_) (fun e => ?_)
  ·refine ⟨_,rfl,(by show 2 ≤ sizeLine; decide),fun d hd => ?_⟩
   exact k d _ hd ⟨_,_,upd_same,by decide,by decide⟩ (Same.new (Same.refl _) hd)
  ·refine ⟨_,rfl,_,_,rfl,rfl,.inl ⟨by decide,by decide⟩,_,_,rfl,rfl,?_⟩
   refine ⟨9,rfl,by decide,by decide,for_range (n:=9) (fun j σ H' => ∃ (c kk:Option V) (seed:Int),σ=[some (.ref a),some (.int i),c,some (.int seed),kk]∧0 ≤ seed∧seed < 2147483629∧H' = H) ⟨_,_,_,rfl,by omega,by omega,rfl⟩ ?_ ?_⟩
   ·rintro j σ H' hj ⟨c,kk,seed,rfl,hs0,hs1,rfl⟩
    refine ⟨_,rfl,_,_,rfl,rfl,.inl ⟨by omega,by omega⟩,?_⟩
    refine ⟨_,rfl,_,rfl,_,rfl,_,_,rfl,rfl,a,ns,_,rfl,hS,by omega,fun cell' => ?_⟩
    refine ⟨_,_,rfl,rfl,(by show (0:Int) < 2147483647; decide),_,_,rfl,rfl,_,rfl,_,_,rfl,rfl,.inl ⟨by decide,by decide⟩,_,_,rfl,rfl,?_⟩
    refine ⟨_,rfl,_,_,rfl,rfl,(by show (0:Int) < 2147483629; decide),?_⟩
    exact ⟨_,_,_,rfl,Int.emod_nonneg _ (by decide),Int.emod_lt_of_pos _ (by decide),rfl⟩
   ·rintro σ H' ⟨c,kk,seed,rfl,hs0,hs1,rfl⟩
    refine ⟨_,rfl,_,_,rfl,rfl,(by show 2 ≤ sizeLine; decide),fun d hd => ?_⟩
    exact k d _ hd ⟨_,_,upd_same,by omega,by omega⟩ (Same.new (Same.refl _) hd)
abbrev s__law_take:Stmt:=top 37
theorem sc__law_take:FnScope ["_law_draw", "_law_many", "_law_digit", "_law_found", "_law_k"] ["_law_draw", "_law_many"] (defScope s__law_take):=⟨rfl,rfl,rfl,by decide +kernel,rfl,by decide +kernel,by decide +kernel⟩
def spTake:Sp:=fun vs H Q _ => ∃ (d:Addr) (m:Int),vs=[.ref d,.int m]∧Purse H d∧0 < m∧m < 10 ^ 100∧∀ (r:Int) (H' : Hp),0 ≤ r→r < m→Purse H' d→But d H H'→Q (.int r) H'
theorem ok_take {f:Addr} {fd:FuncData} (F:Fun K "_law_take" "_law_take" s__law_take f fd) (M:Txt mg):FnOk P w K mg base CX0 1 f fd ["_law_draw", "_law_many"] spTake:=by
 have sc:=sc__law_take
 refine F.ok sc (fun vs H Q E h => ?_) (fun cdv A outer s H vs Q E hr h => ?_)
 ·obtain ⟨a,k,rfl,_⟩:=h
  rfl
 ·obtain ⟨d,m,rfl,⟨a,b,hd,hb0,hb1⟩,hm0,hm1,k⟩:=h
  have hlog:=log_ok hm0 hm1
  have hbits:=bits_ok hm0 hm1
  refine ⟨_,(pss_cons (ps_if (pt_cmpR op_eq (pe_ix (ix_listK (K:=K)) (pv 0) pe_int (fun _ _ => rfl)) pe_int (nomark _)) (pss_cons (ps_set (i:=2) sc.nd rfl (Or.inl rfl) (pe_op op_mod (pe_ix (ix_listK (K:=K)) (pv 0) pe_int (fun _ _ => rfl)) (pv 1)))
   (pss_cons (ps_asg (pe_op op_fdivL (pe_ix (ix_listK (K:=K)) (pv 0) pe_int (fun _ _ => rfl)) (pv 1)) (pg_sub (pv 0) pe_int set_list))
   (pss_one (ps_ret (pv 2))))) pss_nil)
   (pss_cons (ps_set (i:=3) sc.nd rfl (Or.inl rfl) pe_int)
   (pss_cons (ps_for PassesOwn.never rfl (pi_range1 rfl M.range (pa_BinOp (pe_op op_add pe_int (pe_op op_fdivL (pe_bm0 PySem.F.plainAttrs_int PySem.F.slot_int_bit_length PySem.F.type_int_bit_length mt_bits (pv 1)) pe_int)) pa_nil)) (pg_name (i:=4) sc.nd rfl (Or.inl rfl))
   (pss_cons (ps_asg (pe_op op_mod (pe_op op_mul (pe_ix (ix_listK (K:=K)) (pv 0) pe_int (fun _ _ => rfl)) pe_int) pe_int) (pg_sub (pv 0) pe_int set_list))
   (pss_one (ps_set (i:=3) sc.nd rfl (Or.inl rfl) (pe_op op_add (pe_op op_mul (pv 3) pe_int) (pe_op op_mod (pe_op op_mul (pe_ix (ix_listK (K:=K)) (pv 0) pe_int (fun _ _ => rfl)) (pe_ix (ix_listK (K:=K)) (pv 0) pe_int (fun _ _ => rfl))) pe_int))))))
   (pss_one (ps_ret (pe_op op_mod (pe_op op_fdivL (pv 3) pe_int) (pv 1))))))),?_⟩
  refine ⟨_,rfl,d,_,_,_,rfl,rfl,SqL.of hd,rfl,rfl,_,rfl,?_⟩
  refine ite2 (fun e => ?_) (fun e => ?_)
  ·refine ⟨_,rfl,d,_,_,_,rfl,rfl,SqL.of hd,rfl,_,rfl,_,_,rfl,rfl,hm0,?_⟩
   refine ⟨_,rfl,d,_,_,_,rfl,rfl,SqL.of hd,rfl,_,rfl,_,_,rfl,rfl,⟨hm0,hlog⟩,_,rfl,d,_,_,_,rfl,rfl,hd,rfl,?_⟩
   refine ⟨_,rfl,?_⟩
   exact k _ _ (Int.emod_nonneg _ (by omega)) (Int.emod_lt_of_pos _ hm0) ⟨_,_,upd_same,hb0,hb1⟩ (But.upd (But.refl _ _))
  ·refine ⟨_,rfl,rfl,_,rfl,rfl,_,_,rfl,rfl,⟨by decide,by decide⟩,_,_,rfl,rfl,?_⟩
   refine ⟨_,rfl,by omega,by omega,for_range (fun j σ H' => ∃ (c kk:Option V) (found b' : Int),σ=[some (.ref d),some (.int m),c,some (.int found),kk]∧H' d=some (.lst [.int a,.int b'])∧0 ≤ b'∧b' < 2147483648∧But d H H') ⟨_,_,_,b,rfl,hd,hb0,hb1,But.refl _ _⟩ ?_ ?_⟩
   ·rintro j σ H' hj ⟨c,kk,found,b',rfl,hd',hb0',hb1',bt⟩
    refine ⟨_,rfl,d,_,_,_,rfl,rfl,SqL.of hd',rfl,_,_,rfl,rfl,.inl ⟨by omega,by omega⟩,_,_,rfl,rfl,(by show (0:Int) < 2147483647; decide),_,rfl,d,_,_,_,rfl,rfl,hd',rfl,?_⟩
    have z0:0 ≤ b' * 48271 % 2147483647:=Int.emod_nonneg _ (by decide)
    have z1:b' * 48271 % 2147483647 < 2147483647:=Int.emod_lt_of_pos _ (by decide)
    refine ⟨_,rfl,_,_,rfl,rfl,.inr ⟨by decide,by decide⟩,?_⟩
    refine ⟨_,rfl,d,_,_,_,rfl,rfl,SqL.of upd_same,rfl,_,rfl,d,_,_,_,rfl,rfl,SqL.of upd_same,rfl,_,_,rfl,rfl,.inl ⟨by omega,by omega⟩,_,_,rfl,rfl,(by show (0:Int) < 2147483629; decide),_,_,rfl,rfl,?_⟩
    exact ⟨_,_,_,_,rfl,upd_same,z0,by omega,But.upd bt⟩
   ·rintro σ H' ⟨c,kk,found,b',rfl,hd',hb0',hb1',bt⟩
    refine ⟨_,rfl,_,_,rfl,rfl,⟨by decide,by decide⟩,_,rfl,_,_,rfl,rfl,hm0,?_⟩
    exact k _ _ (Int.emod_nonneg _ (by omega)) (Int.emod_lt_of_pos _ hm0) ⟨_,_,hd',hb0',hb1'⟩ bt
end
end Toy
namespace Toy
open PySem L2 PyProof.Rows
structure Gb (mg:Str→Option Value):Prop where
 ab:mg "abs" = none
 zp:mg "zip" = none
 st:mg "set" = none
 dm:mg "divmod" = none
 rv:mg "reversed" = none
 mt:∃ t,mg "MOST_TRIANGLES" = some (.int 12 t)
 fi:∃ t,mg "FIGURES" = some (.str "0123456789" t)
 mo:∃ t,mg "MOST_FIGURES" = some (.int 60 t)
 bt:∃ t,mg "BETWEEN_TRIANGLES" = some (.str " / " t)
 fg:∃ t,mg "FIGURES_AT_ONCE" = some (.int 60 t)
 bo:∃ t,mg "BEYOND_AT_ONCE" = some (.int 1000000000000000000000000000000000000000000000000000000000000 t)
structure Exs (K:PySem.W.Frag) (mg:Str→Option Value) (c_CordError c_NoRow c_NoSheet c_NoText:Addr):Prop where
 m_CordError:mg "CordError" = some (.ref c_CordError)
 m_NoRow:mg "NoRow" = some (.ref c_NoRow)
 m_NoSheet:mg "NoSheet" = some (.ref c_NoSheet)
 m_NoText:mg "NoText" = some (.ref c_NoText)
 x_CordError:XCls K c_CordError
 x_NoRow:XCls K c_NoRow
 x_NoSheet:XCls K c_NoSheet
 x_NoText:XCls K c_NoText
 e_NoText:PySem.W.excIn K c_NoText bmV "ValueError.__new__" = true
 e_NoSheet:PySem.W.excIn K c_NoSheet bmV "ValueError.__new__" = true
 e_NoRow:PySem.W.excIn K c_NoRow bmV "ValueError.__new__" = true
 v_NoText:PySem.W.subIn K (.ref c_NoText) (.type "ValueError")=some true
 v_NoSheet:PySem.W.subIn K (.ref c_NoSheet) (.type "ValueError")=some true
 v_NoRow:PySem.W.subIn K (.ref c_NoRow) (.type "ValueError")=some true
 s_NoText_CordError:PySem.W.subIn K (.ref c_NoText) (.ref c_CordError)=some true
 s_NoText_NoRow:PySem.W.subIn K (.ref c_NoText) (.ref c_NoRow)=some false
 s_NoText_NoSheet:PySem.W.subIn K (.ref c_NoText) (.ref c_NoSheet)=some false
 s_NoText_NoText:PySem.W.subIn K (.ref c_NoText) (.ref c_NoText)=some true
 s_NoSheet_CordError:PySem.W.subIn K (.ref c_NoSheet) (.ref c_CordError)=some true
 s_NoSheet_NoRow:PySem.W.subIn K (.ref c_NoSheet) (.ref c_NoRow)=some false
 s_NoSheet_NoSheet:PySem.W.subIn K (.ref c_NoSheet) (.ref c_NoSheet)=some true
 s_NoSheet_NoText:PySem.W.subIn K (.ref c_NoSheet) (.ref c_NoText)=some false
 s_NoRow_CordError:PySem.W.subIn K (.ref c_NoRow) (.ref c_CordError)=some true
 s_NoRow_NoRow:PySem.W.subIn K (.ref c_NoRow) (.ref c_NoRow)=some true
 s_NoRow_NoSheet:PySem.W.subIn K (.ref c_NoRow) (.ref c_NoSheet)=some false
 s_NoRow_NoText:PySem.W.subIn K (.ref c_NoRow) (.ref c_NoText)=some false
end Toy
namespace Toy
open PySem L2 PyProof.Rows
theorem sort_uni:∀ {a b:List Int},a.Perm b→a.Pairwise (· ≤ ·)→b.Pairwise (· ≤ ·)→a=b
 | [],b,p,_,_ => p.nil_eq
 | x :: a,[],p,_,_ => absurd p.length_eq (by simp)
 | x :: a,y :: b,p,h1,h2 => by
  obtain ⟨u1,u2⟩:=List.pairwise_cons.mp h1
  obtain ⟨v1,v2⟩:=List.pairwise_cons.mp h2
  have e:x=y:=by
   have m1:x ∈ y :: b:=p.subset List.mem_cons_self
   have m2:y ∈ x :: a:=p.symm.subset List.mem_cons_self
   rcases List.mem_cons.mp m1 with q | q
   ·exact q
   rcases List.mem_cons.mp m2 with r | r
   ·exact r.symm
   have:=u1 y r
   have:=v1 x q
   omega
  subst e
  rw [sort_uni p.cons_inv u2 v2]
end Toy
namespace Toy
open PySem L2 PyProof.Rows
section
variable {P:Program} {w:World} {K:PySem.W.Frag} {mg:Str→Option Value} {base:Heap}
abbrev s_is_whole:Stmt:=top 6
theorem sc_is_whole:FnScope ["thing"] ["thing"] (defScope s_is_whole):=⟨rfl,rfl,rfl,by decide +kernel,rfl,by decide +kernel,by decide +kernel⟩
def spWhole:Sp:=fun vs H Q _ => ∃ x d,vs=[x]∧Th H x d∧Q (.bl (wholeD d)) H
theorem ok_whole {f:Addr} {fd:FuncData} (F:Fun K "is_whole" "is_whole" s_is_whole f fd) (M:Txt mg):FnOk P w K mg base CX0 1 f fd ["thing"] spWhole:=by
 have sc:=sc_is_whole
 refine F.ok sc (fun vs H Q E h => ?_) (fun cdv A outer s H vs Q E hr h => ?_)
 ·obtain ⟨x,d,rfl,_⟩:=h
  rfl
 ·obtain ⟨x,d,rfl,t,k⟩:=h
  refine ⟨_,(pss_one (ps_ret (pe_and (pe_callB (call_isinstK (T := "int") (K:=K)) (by rfl) M.isinstance boot_isinstance (pa_Name (pv 0) (pa_Name (pe_bltn (v:=.ty "int") rfl M.int boot_int rfl) pa_nil))) (pe_one (pe_not (pe_callB (call_isinstK (T := "bool") (K:=K)) (by rfl) M.isinstance boot_isinstance (pa_Name (pv 0) (pa_Name (pe_bltn (v:=.ty "bool") rfl M.bool boot_bool rfl) pa_nil)))))))),?_⟩
  rw [whole_ib] at k
  refine ⟨_,rfl,x,_,_,rfl,t.ty,kit_int d,_,rfl,?_⟩
  cases hi:isInt d with
  | false => rw [hi] at k; exact iteF k
  | true => rw [hi] at k; exact iteT ⟨_,rfl,x,_,_,rfl,t.ty,kit_bool d,_,rfl,k⟩
abbrev s_is_triangle:Stmt:=top 10
theorem sc_is_triangle:FnScope ["thing"] ["thing"] (defScope s_is_triangle):=⟨rfl,rfl,rfl,by decide +kernel,rfl,by decide +kernel,by decide +kernel⟩
def spTri:Sp:=fun vs H Q _ => ∃ x d,vs=[x]∧Th H x d∧∀ H',Same H H'→Q (.bl (isTri d)) H'
theorem ok_tri {f:Addr} {fd:FuncData} (F:Fun K "is_triangle" "is_triangle" s_is_triangle f fd) (M:Txt mg) (Gis_whole:Kn P w K mg base "is_whole" 1 ["thing"] spWhole):FnOk P w K mg base CX0 2 f fd ["thing"] spTri:=by
 have sc:=sc_is_triangle
 refine F.ok sc (fun vs H Q E h => ?_) (fun cdv A outer s H vs Q E hr h => ?_)
 ·obtain ⟨x,d,rfl,_⟩:=h
  rfl
 ·obtain ⟨x,d,rfl,t,k⟩:=h
  refine ⟨_,(pss_one (ps_ret (pe_and (pe_callB (call_isinstK (T := "tuple") (K:=K)) (by rfl) M.isinstance boot_isinstance (pa_Name (pv 0) (pa_Name (pe_bltn (v:=.ty "tuple") rfl M.tuple boot_tuple rfl) pa_nil))) (pe_and (pe_cmpR op_eq (pe_callB (call_lenK (K:=K)) (by rfl) M.len PySem.boot_len (pa_Name (pv 0) pa_nil)) pe_int (nomark _)) (pe_one (pe_callB (call_all rfl) (by rfl) M.all boot_all (pa_cons (pe_compG (xs:=["side"]) (Nb:=["thing"]) rfl (pi_tup (pv 0)) rfl (by show ∀ p ∈ (List.zip ["thing"] ["thing"]:List (Str × Str)),_; decide +kernel) (by decide +kernel) (fun cl C s₂ H₂ fp => (pg_name (i:=0) (by show List.Nodup (["side", "thing"]:List Str); decide +kernel) rfl (Or.inl (lookup_relabel_local rfl)) (Or.inr (lookup_relabel_local rfl)))) (fun cl C s₂ H₂ fp => pif_nil) (fun cl C s₂ H₂ fp => (pe_callD Gis_whole hr rfl (pa_Name (pv 0) pa_nil))) (by decide +kernel) rfl (by decide +kernel) (by show ∀ y ∈ (_:List (Str × NameKind)),y.2=NameKind.free→(defScope s_is_triangle).names.lookup y.1=some .cell; decide +kernel)) pa_nil))))))),?_⟩
  refine ⟨_,rfl,x,_,_,rfl,t.ty,kit_tup d,_,rfl,?_⟩
  cases ht:isTup d with
  | false =>
   rw [isTri_not ht] at k
   exact iteF (k H (Same.refl H))
  | true =>
   refine iteT ?_
   obtain ⟨p,ds,xs,rfl,rfl,hp,tl⟩:=tup_parts t ht
   refine ⟨_,rfl,p,_,rfl,.inr (SqT.of hp),rfl,_,rfl,?_⟩
   have eb:isTri (.tuple ds)=(decide (ds.length=3) && ds.all wholeD):=rfl
   rw [eb] at k
   by_cases h3:ds.length=3
   ·have ev:decide (V.int ((xs.length:Nat):Int)=V.int 3)=true:=by rw [tl.1,h3]; rfl
    rw [ev]
    refine iteT ?_
    rw [decide_eq_true h3,Bool.true_and] at k
    have xl:xs.length=3:=by rw [tl.1]; exact h3
    refine ⟨_,rfl,p,rfl,⟨_,SqT.of hp⟩,compT (K:=K) (a:=p) (xs:=xs) (fun i ys H' => ys=((ds.take i).map wholeD).map V.bl∧H=H') ⟨rfl,rfl⟩ (by omega) (fun n ys H' h => by rw [h.1,List.length_map,List.length_map,List.length_take]; exact Nat.min_le_left _ _) (fun n ys H' _ h => by rw [← h.2]; exact SqT.of hp) ?_ ?_⟩
    ·rintro n y ys' H' pre hpl hx ⟨rfl,rfl⟩
     obtain ⟨dn,hdn,tn⟩:=thl_at tl hx
     rcases pre with _ | ⟨q0,_ | ⟨q1,pre⟩⟩
     ·cases hpl
     ·refine ⟨⟨[some _],rfl,rfl⟩,?_⟩
      unfold tYes
      dsimp only
      rw [if_pos (rfl:true=true)]
      refine ⟨_,rfl,y,dn,rfl,tn,?_,rfl⟩
      rw [take_succ' hdn,List.map_append,List.map_append]
      rfl
     ·cases hpl
    ·rintro ys' H' ⟨rfl,rfl⟩ D hD
     refine ⟨D,(ds.take xs.length).map wholeD,rfl,SqL.of upd_same,?_⟩
     rw [List.take_of_length_le (by rw [tl.1]; exact Nat.le_refl _),List.all_map]
     exact k _ (Same.new (Same.refl H) hD)
   ·have ev:decide (V.int ((xs.length:Nat):Int)=V.int 3)=false:=decide_eq_false fun q => h3 (by have:=V.int.inj q; rw [← tl.1]; omega)
    rw [ev]
    refine iteF ?_
    rw [decide_eq_false h3,Bool.false_and] at k
    exact k H (Same.refl H)
abbrev s_many_ties:Stmt:=top 11
theorem sc_many_ties:FnScope ["sheet"] ["sheet"] (defScope s_many_ties):=⟨rfl,rfl,rfl,by decide +kernel,rfl,by decide +kernel,by decide +kernel⟩
theorem ok_ties {f:Addr} {fd:FuncData} (F:Fun K "many_ties" "many_ties" s_many_ties f fd) (M:Txt mg):FnOk P w K mg base CX0 1 f fd ["sheet"] (spTiesZ K):=by
 have sc:=sc_many_ties
 refine F.ok sc (fun vs H Q E h => ?_) (fun cdv A outer s H vs Q E hr h => ?_)
 ·obtain ⟨a,xs,rfl,_⟩:=h
  rfl
 ·obtain ⟨a,xs,rfl,ha,k⟩:=h
  refine ⟨_,(pss_one (ps_ret (pe_op op_mul (pe_op op_fdivL (pe_callB (call_lenK (K:=K)) (by rfl) M.len PySem.boot_len (pa_Name (pv 0) pa_nil)) pe_int) pe_int))),?_⟩
  refine ⟨_,rfl,a,_,rfl,.inl ha,_,_,rfl,rfl,⟨by decide,by decide⟩,((xs.length:Nat):Int) / 2,3,rfl,rfl,.inr ⟨by decide,by decide⟩,?_⟩
  have e:((xs.length:Nat):Int) / 2 * 3=((xs.length / 2 * 3:Nat):Int):=by omega
  show Q (V.int (((xs.length:Nat):Int) / 2 * 3)) H
  rw [e]
  exact k
abbrev s_is_sheet:Stmt:=top 12
theorem sc_is_sheet:FnScope ["thing", "ties"] ["thing"] (defScope s_is_sheet):=⟨rfl,rfl,rfl,by decide +kernel,rfl,by decide +kernel,by decide +kernel⟩
def spIsS:Sp:=fun vs H Q _ => ∃ x d,vs=[x]∧Th H x d∧∀ H',Same H H'→Q (.bl (isS d)) H'
theorem ok_issheet {f:Addr} {fd:FuncData} (F:Fun K "is_sheet" "is_sheet" s_is_sheet f fd) (M:Txt mg) (Gis_triangle:Kn P w K mg base "is_triangle" 2 ["thing"] spTri) (Gmany_ties:Kn P w K mg base "many_ties" 1 ["sheet"] (spTiesZ K)) (B:Gb mg):FnOk P w K mg base CX0 3 f fd ["thing"] spIsS:=by
 have sc:=sc_is_sheet
 refine F.ok sc (fun vs H Q E h => ?_) (fun cdv A outer s H vs Q E hr h => ?_)
 ·obtain ⟨x,d,rfl,_⟩:=h
  rfl
 ·obtain ⟨x,d,rfl,t,k⟩:=h
  obtain ⟨_,hmt⟩:=B.mt
  refine ⟨_,(pss_cons (ps_if (PW.pt (pw_or (pt_not (pt_val (pe_callB (call_isinstK (T := "list") (K:=K)) (by rfl) M.isinstance boot_isinstance (pa_Name (pv 0) (pa_Name (pe_bltn (v:=.ty "list") rfl M.list boot_list rfl) pa_nil))))) (pw_or (pt_not (pt_chain op_le op_le pe_int (pe_callB (call_lenK (K:=K)) (by rfl) M.len PySem.boot_len (pa_Name (pv 0) pa_nil)) (pe_glob (v:=.int 12) rfl hmt ⟨_,rfl⟩))) (pw_or1 (pt_cmpR op_eq (pe_op op_mod (pe_callB (call_lenK (K:=K)) (by rfl) M.len PySem.boot_len (pa_Name (pv 0) pa_nil)) pe_int) pe_int (nomark _)))))) (pss_one (ps_ret pe_bl)) pss_nil)
   (pss_cons (ps_if (pt_not (pt_val (pe_callB (call_all rfl) (by rfl) M.all boot_all (pa_cons (pe_compG (xs:=["triangle"]) (Nb:=["thing", "ties"]) rfl (pi_list (pv 0)) rfl (by show ∀ p ∈ (List.zip ["thing", "ties"] ["thing", "ties"]:List (Str × Str)),_; decide +kernel) (by decide +kernel) (fun cl C s₂ H₂ fp => (pg_name (i:=0) (by show List.Nodup (["triangle", "thing", "ties"]:List Str); decide +kernel) rfl (Or.inl (lookup_relabel_local rfl)) (Or.inr (lookup_relabel_local rfl)))) (fun cl C s₂ H₂ fp => pif_nil) (fun cl C s₂ H₂ fp => (pe_callD Gis_triangle hr rfl (pa_Name (pv 0) pa_nil))) (by decide +kernel) rfl (by decide +kernel) (by show ∀ y ∈ (_:List (Str × NameKind)),y.2=NameKind.free→(defScope s_is_sheet).names.lookup y.1=some .cell; decide +kernel)) pa_nil)))) (pss_one (ps_ret pe_bl)) pss_nil)
   (pss_cons (ps_set (i:=1) sc.nd rfl (Or.inl rfl) (pe_callB call_sorted (by rfl) M.sorted boot_sorted (pa_cons (pe_comp2 (xs:=["triangle", "side"]) (Nb:=["thing", "ties"]) rfl (pi_list (pv 0)) rfl (by show ∀ p ∈ (List.zip ["thing", "ties"] ["thing", "ties"]:List (Str × Str)),_; decide +kernel) (by decide +kernel) (fun cl C s₂ H₂ fp => (pg_name (i:=0) (by show List.Nodup (["triangle", "side", "thing", "ties"]:List Str); decide +kernel) rfl (Or.inl (lookup_relabel_local rfl)) (Or.inr (lookup_relabel_local rfl)))) (fun cl C s₂ H₂ fp => pif_nil) (fun cl C s₂ H₂ fp => (pi_tupK (K:=K) (pv 0))) (fun cl C s₂ H₂ fp => (pg_name (i:=1) (by show List.Nodup (["triangle", "side", "thing", "ties"]:List Str); decide +kernel) rfl (Or.inl (lookup_relabel_local rfl)) (Or.inr (lookup_relabel_local rfl)))) (fun cl C s₂ H₂ fp => pif_nil) (fun cl C s₂ H₂ fp => (pe_callB call_abs (by rfl) B.ab boot_abs (pa_Name (pv 1) pa_nil))) (by decide +kernel) rfl (by decide +kernel) (by show ∀ y ∈ (_:List (Str × NameKind)),y.2=NameKind.free→(defScope s_is_sheet).names.lookup y.1=some .cell; decide +kernel)) pa_nil)))
   (pss_one (ps_ret (pe_cmpR (op_eqD hr) (pv 1) (pe_callB call_sorted (by rfl) M.sorted boot_sorted (pa_BinOp (pe_op op_rep (pe_callTy (call_list_rng2 rfl) (by rfl) M.list boot_list (pa_Call (pe_callTy call_range2 (by rfl) M.range boot_range (pa_Constant pe_int (pa_BinOp (pe_op op_add (pe_callD Gmany_ties hr rfl (pa_Name (pv 0) pa_nil)) pe_int) pa_nil))) pa_nil)) pe_int) pa_nil)) (nomark _))))))),?_⟩
  refine ⟨_,rfl,x,_,_,rfl,t.ty,kit_lst d,_,rfl,?_⟩
  cases ht:isLst d with
  | false =>
   rw [isS_not ht] at k
   exact iteT (iteT (k H (Same.refl H)))
  | true =>
   refine iteF ?_
   obtain ⟨p,ds,xs,rfl,rfl,hp,tl⟩:=lst_parts t ht
   have lx:=tl.1
   have kf : ¬ (2 ≤ ds.length∧ds.length ≤ 12∧ds.length % 2=0)→∀ H',Same H H'→Q (.bl false) H':=fun z H' s' => by
    have:=k H' s'
    rw [isS_len z] at this
    exact this
   refine ⟨_,rfl,p,_,rfl,.inl (SqL.of hp),_,_,rfl,rfl,_,rfl,?_⟩
   by_cases l2:(2:Int) ≤ ((xs.length:Nat):Int)
   rotate_left
   ·rw [decide_eq_false l2]
    exact iteF ⟨_,rfl,iteT (iteT (kf (by omega) H (Same.refl H)))⟩
   rw [decide_eq_true l2]
   refine iteT ⟨_,_,rfl,rfl,_,rfl,?_⟩
   by_cases l12:((xs.length:Nat):Int) ≤ 12
   rotate_left
   ·rw [decide_eq_false l12]
    exact iteT (iteT (kf (by omega) H (Same.refl H)))
   rw [decide_eq_true l12]
   refine iteF ?_
   refine ⟨_,rfl,p,_,rfl,.inl (SqL.of hp),_,_,rfl,rfl,(by show (0:Int) < 2; decide),rfl,_,rfl,?_⟩
   by_cases lo:((xs.length:Nat):Int) % 2=1
   ·have ev:decide ((fun i j => V.int (i % j)) ((xs.length:Nat):Int) 2=V.int 1)=true:=decide_eq_true (by show V.int (((xs.length:Nat):Int) % 2)=V.int 1; rw [lo])
    rw [ev]
    exact iteT (kf (by omega) H (Same.refl H))
   have ev:decide ((fun i j => V.int (i % j)) ((xs.length:Nat):Int) 2=V.int 1)=false:=decide_eq_false fun q => lo (V.int.inj q)
   rw [ev]
   refine iteF ?_
   have okl:2 ≤ ds.length∧ds.length ≤ 12∧ds.length % 2=0:=by omega
   refine ⟨_,rfl,p,rfl,⟨_,SqL.of hp⟩,compL (K:=K) (a:=p) (xs:=xs) (fun i ys H' => ys=((ds.take i).map isTri).map V.bl∧Same H H') ⟨rfl,Same.refl H⟩ (by omega) (fun n ys H' h => by rw [h.1,List.length_map,List.length_map,List.length_take]; exact Nat.min_le_left _ _) (fun n ys H' _ h => SqL.of (h.2 _ _ hp)) ?_ ?_⟩
   ·rintro n y ys' H1 pre hpl hx ⟨rfl,s1⟩
    obtain ⟨dn,hdn,tn⟩:=thl_at tl hx
    rcases pre with _ | ⟨q0,_ | ⟨q1,pre⟩⟩
    ·cases hpl
    ·refine ⟨⟨[some _],rfl,rfl⟩,?_⟩
     unfold tYes
     dsimp only
     rw [if_pos (rfl:true=true)]
     refine ⟨_,rfl,y,dn,rfl,tn.up s1,fun H2 s2 => ⟨?_,s1.trans s2⟩⟩
     rw [take_succ' hdn,List.map_append,List.map_append]
     rfl
    ·cases hpl
   rintro ys' H1 ⟨rfl,s1⟩ D hD
   rw [List.take_of_length_le (by rw [lx]; exact Nat.le_refl _)]
   refine ⟨D,ds.map isTri,rfl,SqL.of upd_same,?_⟩
   have s2:=Same.new (o:=.lst ((ds.map isTri).map V.bl)) s1 hD
   generalize upd H1 D (.lst ((ds.map isTri).map V.bl))=H2 at s2 ⊢
   rw [List.all_map]
   refine ⟨_,rfl,?_⟩
   cases hall:ds.all isTri with
   | false =>
    have e:ds.all (id ∘ isTri)=false:=hall
    rw [e]
    have:=k H2 s2
    rw [isS_tri hall] at this
    exact iteT this
   | true =>
    have e:ds.all (id ∘ isTri)=true:=hall
    rw [e]
    refine iteF ?_
    have hp2:=s2 _ _ hp
    refine ⟨_,rfl,p,rfl,⟨_,SqL.of hp2⟩,comp2LT (K:=K) (a:=p) (xs:=xs) (fun i ys H' => ys=(tiesD (ds.take i)).map V.int∧H2=H') ⟨rfl,rfl⟩ (fun n ys H' _ h => by rw [← h.2]; exact SqL.of hp2) ?_ ?_⟩
    ·rintro n y ys' H' pre hpl hx ⟨rfl,rfl⟩
     obtain ⟨dn,hdn,tn⟩:=thl_at tl hx
     obtain ⟨a,b,c,rfl⟩:=isTri_ints (List.all_eq_true.mp hall dn (List.mem_of_getElem? hdn))
     obtain ⟨q,es,zs,rfl,ee,hq,tq⟩:=tup_parts (tn.up s2) rfl
     cases ee
     obtain ⟨y1,y2,y3,rfl⟩:=three3 tq.1
     have e1:y1 = .int a:=by have:=tq.2 0 y1 _ rfl rfl; cases this; rfl
     have e2:y2 = .int b:=by have:=tq.2 1 y2 _ rfl rfl; cases this; rfl
     have e3:y3 = .int c:=by have:=tq.2 2 y3 _ rfl rfl; cases this; rfl
     subst e1 e2 e3
     have nl:=(List.getElem?_eq_some_iff.mp hdn).1
     have tl3:(tiesD (ds.take n)).length=3 * n:=by
      rw [ties_len (List.all_eq_true.mpr fun z hz => List.all_eq_true.mp hall z (List.mem_of_mem_take hz)),List.length_take]
      omega
     rcases pre with _ | ⟨q0,_ | ⟨q1,_ | ⟨q2,pre⟩⟩⟩
     ·cases hpl
     ·cases hpl
     ·refine ⟨⟨[some _,_],rfl,rfl⟩,?_⟩
      unfold tYes
      dsimp only
      rw [if_pos (rfl:true=true)]
      refine ⟨_,rfl,q,rfl,⟨_,SqT.of hq⟩,compIT (K:=K) (a:=q) (xs:=[.int a,.int b,.int c]) (fun j zs σ' H' => zs=(tiesD (ds.take n) ++ ([a,b,c].map absI).take j).map V.int∧(∃ q1,σ' = [some (.ref q),q1,some (.ref p),none])∧H2=H') ⟨by rw [List.take_zero,List.append_nil],⟨_,rfl⟩,rfl⟩ (fun j zs σ' H' h => ?_) (fun j zs σ' H' _ h => by rw [← h.2.2]; exact SqT.of hq) ?_ ?_⟩
      ·rw [h.1,List.length_map,List.length_append,List.length_take,tl3]
       simp only [List.length_map,List.length_cons,List.length_nil]
       omega
      ·rintro j z zs σ' H' hz ⟨rfl,⟨q1,rfl⟩,rfl⟩
       refine ⟨⟨[some _,some _],rfl,rfl⟩,?_⟩
       dsimp only
       rw [if_pos (rfl:true=true)]
       rcases j with _ | _ | _ | j
       ·cases hz
        refine ⟨_,rfl,a,rfl,?_,⟨_,rfl⟩,rfl⟩
        show (tiesD (ds.take n) ++ []).map V.int ++ [V.int (absI a)]=(tiesD (ds.take n) ++ [absI a]).map V.int
        rw [List.map_append,List.map_append]
        simp
       ·cases hz
        refine ⟨_,rfl,b,rfl,?_,⟨_,rfl⟩,rfl⟩
        show (tiesD (ds.take n) ++ [absI a]).map V.int ++ [V.int (absI b)]=(tiesD (ds.take n) ++ [absI a,absI b]).map V.int
        rw [List.map_append,List.map_append]
        simp
       ·cases hz
        refine ⟨_,rfl,c,rfl,?_,⟨_,rfl⟩,rfl⟩
        show (tiesD (ds.take n) ++ [absI a,absI b]).map V.int ++ [V.int (absI c)]=(tiesD (ds.take n) ++ [absI a,absI b,absI c]).map V.int
        rw [List.map_append,List.map_append]
        simp
       ·cases hz
      ·rintro zs σ' H' ⟨rfl,_,rfl⟩
       refine ⟨?_,rfl⟩
       rw [take_succ' hdn,tiesD_snoc]
       rfl
     ·cases hpl
    ·rintro ys' H' ⟨rfl,rfl⟩ D2 hD2
     rw [List.take_of_length_le (by rw [lx]; exact Nat.le_refl _)]
     have tlen:=ties_len hall
     refine ⟨D2,tiesD ds,rfl,SqL.of upd_same,by omega,fun l3 ms hl3 pm pw => ?_⟩
     have s3:=Same.new (o:=.lst ((tiesD ds).map V.int)) s2 hD2
     have s4:=Same.new (o:=.lst (ms.map V.int)) s3 hl3
     have hl4:(upd (upd H2 D2 (.lst ((tiesD ds).map V.int))) l3 (.lst (ms.map V.int))) l3=some (.lst (ms.map V.int)):=upd_same
     generalize upd (upd H2 D2 (.lst ((tiesD ds).map V.int))) l3 (.lst (ms.map V.int))=H4 at s4 hl4 ⊢
     have e6:(((xs.length / 2 * 3:Nat):Int) + 1 - 1).toNat=ds.length / 2 * 3:=by rw [lx]; omega
     refine ⟨_,rfl,_,rfl,p,xs,rfl,SqL.of (s4 _ _ hp),_,_,rfl,rfl,1,((xs.length / 2 * 3:Nat):Int) + 1,rfl,fun p1 hp1 => ⟨p1,1,((xs.length / 2 * 3:Nat):Int) + 1,rfl,upd_same,by decide,by omega,by omega,fun l1 hl1 => ⟨l1,2,_,rfl,rfl,upd_same,by decide,by decide,?_,fun pl hpl => ?_⟩⟩⟩
     ·rw [List.length_map,upto_len,e6]
      exact Nat.le_trans (show ds.length / 2 * 3 * 2 ≤ 1000 by omega) (by decide)
     ·have s5:=Same.new (o:=.rng 1 (((xs.length / 2 * 3:Nat):Int) + 1)) (Same.refl H4) hp1
      have s6:=Same.new (o:=.lst ((upto 1 (((xs.length / 2 * 3:Nat):Int) + 1 - 1).toNat).map V.int)) s5 hl1
      have s7:=Same.new (o:=.lst ((List.replicate (2:Int).toNat ((upto 1 (((xs.length / 2 * 3:Nat):Int) + 1 - 1).toNat).map V.int)).flatten)) s6 hpl
      have hpl7:(upd (upd (upd H4 p1 (.rng 1 (((xs.length / 2 * 3:Nat):Int) + 1))) l1 (.lst ((upto 1 (((xs.length / 2 * 3:Nat):Int) + 1 - 1).toNat).map V.int))) pl (.lst ((List.replicate (2:Int).toNat ((upto 1 (((xs.length / 2 * 3:Nat):Int) + 1 - 1).toNat).map V.int)).flatten))) pl=some (.lst ((pool (ds.length / 2 * 3)).map V.int)):=by
       rw [upd_same,rep2,e6,← List.map_append]
       rfl
      generalize upd (upd (upd H4 p1 (.rng 1 (((xs.length / 2 * 3:Nat):Int) + 1))) l1 (.lst ((upto 1 (((xs.length / 2 * 3:Nat):Int) + 1 - 1).toNat).map V.int))) pl (.lst ((List.replicate (2:Int).toNat ((upto 1 (((xs.length / 2 * 3:Nat):Int) + 1 - 1).toNat).map V.int)).flatten))=H7 at s7 hpl7 ⊢
      refine ⟨pl,pool (ds.length / 2 * 3),rfl,SqL.of hpl7,by rw [pool_len]; omega,fun l5 ms2 hl5 pm2 pw2 => ?_⟩
      have s8:=Same.new (o:=.lst (ms2.map V.int)) s7 hl5
      refine ⟨_,_,di_lst (SqL.of (s8 _ _ hl4)),di_lst (SqL.of upd_same),lay_dI _,lay_dI _,dep_dI _,?_⟩
      rw [eqv_dI]
      have key:decide (ms=ms2)=isS (.list ds):=by
       have hiff:ms=ms2 ↔ isS (.list ds)=true:=by
        rw [isS_perm okl hall]
        constructor
        ·intro z
         rw [← z] at pm2
         exact pm.symm.trans pm2
        ·intro z
         exact sort_uni ((pm.trans z).trans pm2.symm) pw pw2
       by_cases z:ms=ms2
       ·rw [decide_eq_true z,hiff.mp z]
       ·rw [decide_eq_false z]
        exact (Bool.eq_false_iff.mpr fun q => z (hiff.mpr q)).symm
      rw [key]
      exact k _ (s4.trans s8)
abbrev s_is_whole_from:Stmt:=top 7
theorem sc_is_whole_from:FnScope ["thing", "least"] ["thing", "least"] (defScope s_is_whole_from):=⟨rfl,rfl,rfl,by decide +kernel,rfl,by decide +kernel,by decide +kernel⟩
theorem ok_from {f:Addr} {fd:FuncData} (F:Fun K "is_whole_from" "is_whole_from" s_is_whole_from f fd) (M:Txt mg) (Gis_whole:Kn P w K mg base "is_whole" 1 ["thing"] spWhole):FnOk P w K mg base CX0 2 f fd ["thing", "least"] spFromZ:=by
 have sc:=sc_is_whole_from
 refine F.ok sc (fun vs H Q E h => ?_) (fun cdv A outer s H vs Q E hr h => ?_)
 ·obtain ⟨i,l,rfl,_⟩:=h
  rfl
 ·obtain ⟨i,l,rfl,k⟩:=h
  refine ⟨_,(pss_one (ps_ret (pe_and (pe_callD Gis_whole hr rfl (pa_Name (pv 0) pa_nil)) (pe_one (pe_cmpR op_ge (pv 0) (pv 1) (nomark _)))))),?_⟩
  exact ⟨_,rfl,.int i,.int i,rfl,.int i,_,rfl,iteT ⟨_,rfl,_,rfl,_,_,rfl,rfl,k⟩⟩
abbrev s_crossings:Stmt:=top 14
theorem sc_crossings:FnScope ["triangle", "row"] ["triangle", "row"] (defScope s_crossings):=⟨rfl,rfl,rfl,by decide +kernel,rfl,by decide +kernel,by decide +kernel⟩
theorem ok_cross {f:Addr} {fd:FuncData} (F:Fun K "crossings" "crossings" s_crossings f fd) (M:Txt mg) (B:Gb mg):FnOk P w K mg base CX0 1 f fd ["triangle", "row"] spCrossZ:=by
 have sc:=sc_crossings
 refine F.ok sc (fun vs H Q E h => ?_) (fun cdv A outer s H vs Q E hr h => ?_)
 ·obtain ⟨q,c,t,r,rfl,_⟩:=h
  rfl
 ·obtain ⟨q,c,t,r,rfl,hq,hc,tl,ok,k⟩:=h
  refine ⟨_,(pss_one (ps_ret (pe_compG (xs:=["side"]) (Nb:=["triangle", "row"]) rfl (pi_tup (pv 0)) rfl (by show ∀ p ∈ (List.zip ["triangle", "row"] ["triangle", "row"]:List (Str × Str)),_; decide +kernel) (by decide +kernel) (fun cl C s₂ H₂ fp => (pg_name (i:=0) (by show List.Nodup (["side", "triangle", "row"]:List Str); decide +kernel) rfl (Or.inl (lookup_relabel_local rfl)) (Or.inr (lookup_relabel_local rfl)))) (fun cl C s₂ H₂ fp => pif_nil) (fun cl C s₂ H₂ fp => (pe_ix (ix_listK (K:=K)) (pv 2) (pe_op op_sub (pe_callB call_abs (by rfl) B.ab boot_abs (pa_Name (pv 0) pa_nil)) pe_int) (fun _ _ => rfl))) (by decide +kernel) rfl (by decide +kernel) (by show ∀ y ∈ (_:List (Str × NameKind)),y.2=NameKind.free→(defScope s_crossings).names.lookup y.1=some .cell; decide +kernel)))),?_⟩
  refine ⟨_,rfl,q,rfl,⟨_,SqT.of hq⟩,compT (K:=K) (a:=q) (xs:=t.map V.int) (fun i ys H' => ys=((t.take i).map (crs r)).map V.int∧H=H') ⟨rfl,rfl⟩ (by rw [List.length_map]; omega) (fun m ys H' h => by rw [h.1,List.length_map,List.length_map,List.length_take]; exact Nat.min_le_left _ _) (fun m ys H' _ h => by rw [← h.2]; exact SqT.of hq) ?_ ?_⟩
  ·rintro m z ys' H' pre hpl hz ⟨rfl,rfl⟩
   rw [List.getElem?_map] at hz
   cases ez:t[m]? with
   | none => rw [ez] at hz; cases hz
   | some sd =>
    rw [ez] at hz
    cases hz
    obtain ⟨s1,er⟩:=ok sd (List.mem_of_getElem? ez)
    have a1:atI (r.map V.int) (absI sd - 1)=some (V.int (crs r sd)):=by
     rw [show absI sd - 1=(((absI sd - 1).toNat:Nat):Int) by omega]
     exact atI_nat (by rw [List.getElem?_map,er]; rfl)
    rcases pre with _ | ⟨q0,_ | ⟨q1,pre⟩⟩
    ·cases hpl
    ·refine ⟨⟨[some _],rfl,rfl⟩,?_⟩
     unfold tYes
     dsimp only
     rw [if_pos (rfl:true=true)]
     refine ⟨_,rfl,_,rfl,sd,rfl,_,_,rfl,rfl,c,_,_,_,rfl,rfl,SqL.of hc,a1,?_,rfl⟩
     rw [take_succ' ez,List.map_append,List.map_append]
     rfl
    ·cases hpl
  ·rintro ys' H' ⟨rfl,rfl⟩ D hD
   rw [List.length_map,List.take_length]
   exact k D hD
abbrev s_may_cross:Stmt:=top 15
theorem sc_may_cross:FnScope ["numbers"] ["numbers"] (defScope s_may_cross):=⟨rfl,rfl,rfl,by decide +kernel,rfl,by decide +kernel,by decide +kernel⟩
set_option maxHeartbeats 4000000 in
theorem ok_may {f:Addr} {fd:FuncData} (F:Fun K "may_cross" "may_cross" s_may_cross f fd) (M:Txt mg):FnOk P w K mg base CX0 1 f fd ["numbers"] (spMayG K):=by
 have sc:=sc_may_cross
 refine F.ok sc (fun vs H Q E h => ?_) (fun cdv A outer s H vs Q E hr h => ?_)
 ·obtain ⟨p,a,b,c,rfl,_⟩:=h
  rfl
 ·obtain ⟨p,a,b,c,rfl,h1,k⟩:=h
  refine ⟨_,(pss_one (ps_ret (pe_and (pe_cmpR op_eq (pe_op op_mod (pe_callB (call_sum rfl) (by rfl) M.sum boot_sum (pa_Name (pv 0) pa_nil)) pe_int) pe_int (nomark _)) (pe_one (pe_cmpR op_le (pe_op op_mul pe_int (pe_callB (call_maxL rfl) (by rfl) M.max boot_max (pa_Name (pv 0) pa_nil))) (pe_callB (call_sum rfl) (by rfl) M.sum boot_sum (pa_Name (pv 0) pa_nil)) (nomark _)))))),?_⟩
  exact mayG_reads (K:=K) h1 k
abbrev s_is_row:Stmt:=top 16
theorem sc_is_row:FnScope ["sheet", "thing"] ["sheet", "thing"] (defScope s_is_row):=⟨rfl,rfl,rfl,by decide +kernel,rfl,by decide +kernel,by decide +kernel⟩
set_option maxHeartbeats 4000000 in
theorem ok_isrow {f:Addr} {fd:FuncData} (F:Fun K "is_row" "is_row" s_is_row f fd) (M:Txt mg) (Gmany_ties:Kn P w K mg base "many_ties" 1 ["sheet"] (spTiesZ K)) (Gis_whole_from:Kn P w K mg base "is_whole_from" 2 ["thing", "least"] spFromZ) (Gmay_cross:Kn P w K mg base "may_cross" 1 ["numbers"] (spMayG K)) (Gcrossings:Kn P w K mg base "crossings" 1 ["triangle", "row"] spCrossZ):FnOk P w K mg base CX0 3 f fd ["sheet", "thing"] spIsRowG:=by
 have sc:=sc_is_row
 refine F.ok sc (fun vs H Q E h => ?_) (fun cdv A outer s H vs Q E hr h => ?_)
 ·obtain ⟨i,o,xs,S,r,rfl,_⟩:=h
  rfl
 ·obtain ⟨i,o,xs,S,r,rfl,h1,h2,h3,h4,h5,k⟩:=h
  refine ⟨_,(pss_cons (ps_if (PW.pt (pw_or (pt_not (pt_val (pe_callB (call_isinstK (T := "list") (K:=K)) (by rfl) M.isinstance boot_isinstance (pa_Name (pv 1) (pa_Name (pe_bltn (v:=.ty "list") rfl M.list boot_list rfl) pa_nil))))) (pw_or1 (pt_cmpR op_ne (pe_callB (call_lenK (K:=K)) (by rfl) M.len PySem.boot_len (pa_Name (pv 1) pa_nil)) (pe_callD Gmany_ties hr rfl (pa_Name (pv 0) pa_nil)) (nomark _))))) (pss_one (ps_ret pe_bl)) pss_nil)
   (pss_cons (ps_if (pt_not (pt_val (pe_callB (call_all rfl) (by rfl) M.all boot_all (pa_cons (pe_compG (xs:=["many"]) (Nb:=["sheet", "thing"]) rfl (pi_list (pv 1)) rfl (by show ∀ p ∈ (List.zip ["sheet", "thing"] ["sheet", "thing"]:List (Str × Str)),_; decide +kernel) (by decide +kernel) (fun cl C s₂ H₂ fp => (pg_name (i:=0) (by show List.Nodup (["many", "sheet", "thing"]:List Str); decide +kernel) rfl (Or.inl (lookup_relabel_local rfl)) (Or.inr (lookup_relabel_local rfl)))) (fun cl C s₂ H₂ fp => pif_nil) (fun cl C s₂ H₂ fp => (pe_callD Gis_whole_from hr rfl (pa_Name (pv 0) (pa_Constant pe_int pa_nil)))) (by decide +kernel) rfl (by decide +kernel) (by show ∀ y ∈ (_:List (Str × NameKind)),y.2=NameKind.free→(defScope s_is_row).names.lookup y.1=some .cell; decide +kernel)) pa_nil)))) (pss_one (ps_ret pe_bl)) pss_nil)
   (pss_one (ps_ret (pe_callB (call_all rfl) (by rfl) M.all boot_all (pa_cons (pe_compG (xs:=["triangle"]) (Nb:=["sheet", "thing"]) rfl (pi_list (pv 0)) rfl (by show ∀ p ∈ (List.zip ["sheet", "thing"] ["sheet", "thing"]:List (Str × Str)),_; decide +kernel) (by decide +kernel) (fun cl C s₂ H₂ fp => (pg_name (i:=0) (by show List.Nodup (["triangle", "sheet", "thing"]:List Str); decide +kernel) rfl (Or.inl (lookup_relabel_local rfl)) (Or.inr (lookup_relabel_local rfl)))) (fun cl C s₂ H₂ fp => pif_nil) (fun cl C s₂ H₂ fp => (pe_callD Gmay_cross hr rfl (pa_Call (pe_callD Gcrossings hr rfl (pa_Name (pv 0) (pa_Name (pv 2) pa_nil))) pa_nil))) (by decide +kernel) rfl (by decide +kernel) (by show ∀ y ∈ (_:List (Str × NameKind)),y.2=NameKind.free→(defScope s_is_row).names.lookup y.1=some .cell; decide +kernel)) pa_nil)))))),?_⟩
  exact isrowG_reads (K:=K) h1 h2 h3 h4 h5 k
end
end Toy
namespace Toy
open PySem L2 PyProof.Rows
section
variable {P:Program} {w:World} {K:PySem.W.Frag} {mg:Str→Option Value} {base:Heap} {c_CordError c_NoRow c_NoSheet c_NoText:Addr}
abbrev s_is_number:Stmt:=top 26
theorem sc_is_number:FnScope ["text", "figures"] ["text"] (defScope s_is_number):=⟨rfl,rfl,rfl,by decide +kernel,rfl,by decide +kernel,by decide +kernel⟩
set_option maxHeartbeats 4000000 in
theorem ok_isnum {f:Addr} {fd:FuncData} (F:Fun K "is_number" "is_number" s_is_number f fd) (M:Txt mg) (B:Gb mg):FnOk P w K mg base CX0 1 f fd ["text"] spIsNum:=by
 have sc:=sc_is_number
 refine F.ok sc (fun vs H Q E h => ?_) (fun cdv A outer s H vs Q E hr h => ?_)
 ·obtain ⟨w0,rfl,_⟩:=h
  rfl
 ·obtain ⟨w0,rfl,wl,k⟩:=h
  obtain ⟨tfi,hfi⟩:=B.fi
  obtain ⟨tmo,hmo⟩:=B.mo
  obtain ⟨tbt,hbt⟩:=B.bt
  obtain ⟨tmt,hmt⟩:=B.mt
  obtain ⟨tfg,hfg⟩:=B.fg
  obtain ⟨tbo,hbo⟩:=B.bo
  refine ⟨_,(pss_cons (ps_set (i:=1) sc.nd rfl (Or.inl rfl) (pe_ifExp (pt_val (pe_bm PySem.F.plainAttrs_str PySem.F.slot_str_startswith PySem.F.type_str_startswith mt_starts (pv 0) (pa_Constant pe_str pa_nil))) (pe_slice sl_str (pv 0) (po_some pe_int) po_none) (pv 0)))
   (pss_cons (ps_if (PW.pt (pw_or (pt_not (pt_chain op_le op_le pe_int (pe_callB call_len_str (by rfl) M.len PySem.boot_len (pa_Name (pv 1) pa_nil)) (pe_glob (v:=.int 60) rfl hmo ⟨_,rfl⟩))) (pw_or1 (pt_not (pt_val (pe_callB (call_all rfl) (by rfl) M.all boot_all (pa_cons (pe_compG (xs:=["sign"]) (Nb:=["text", "figures"]) rfl (pi_str (pv 1)) rfl (by show ∀ p ∈ (List.zip ["text", "figures"] ["text", "figures"]:List (Str × Str)),_; decide +kernel) (by decide +kernel) (fun cl C s₂ H₂ fp => (pg_name (i:=0) (by show List.Nodup (["sign", "text", "figures"]:List Str); decide +kernel) rfl (Or.inl (lookup_relabel_local rfl)) (Or.inr (lookup_relabel_local rfl)))) (fun cl C s₂ H₂ fp => pif_nil) (fun cl C s₂ H₂ fp => (pe_cmpR op_in_str (pv 0) (pe_glob (v:=.str "0123456789") rfl hfi ⟨_,rfl⟩) rfl)) (by decide +kernel) rfl (by decide +kernel) (by show ∀ y ∈ (_:List (Str × NameKind)),y.2=NameKind.free→(defScope s_is_number).names.lookup y.1=some .cell; decide +kernel)) pa_nil))))))) (pss_one (ps_ret pe_bl)) pss_nil)
   (pss_one (ps_ret (pe_or (pe_cmpR op_ne (pe_ix ix_str (pv 1) pe_int (fun _ _ => rfl)) pe_str (nomark _)) (pe_one (pe_cmpR op_eq (pv 0) pe_str (nomark _)))))))),?_⟩
  exact isnum_reads (K:=K) wl k
abbrev s_parts_of:Stmt:=top 27
theorem sc_parts_of:FnScope ["text", "between"] ["text", "between"] (defScope s_parts_of):=⟨rfl,rfl,rfl,by decide +kernel,rfl,by decide +kernel,by decide +kernel⟩
set_option maxHeartbeats 4000000 in
theorem ok_parts {f:Addr} {fd:FuncData} (F:Fun K "parts_of" "parts_of" s_parts_of f fd) (M:Txt mg) (Z:Exs K mg c_CordError c_NoRow c_NoSheet c_NoText):FnOk P w K mg base (CXE P w) 1 f fd ["text", "between"] (spPartsX c_NoText):=by
 have sc:=sc_parts_of
 refine F.okX sc (fun vs H Q E h => ?_) (fun cdv A outer s H vs Q E hd0 hr h => ?_)
 ·obtain ⟨t,y,rfl,_⟩:=h
  rfl
 ·obtain ⟨t,y,rfl,hy,tl,k⟩:=h
  refine ⟨_,(pss_cons (ps_if (PT.nox (pt_not (pt_val (pe_callB (call_isinstK (T := "str") (K:=K)) (by rfl) M.isinstance boot_isinstance (pa_Name (pv 0) (pa_Name (pe_bltn (v:=.ty "str") rfl M.str boot_str rfl) pa_nil)))))) (pss_one (ps_raise Z.e_NoText hd0 Z.m_NoText pe_str rfl)) pss_nil)
   (pss_one (PS.nox (ps_ret (pe_bm PySem.F.plainAttrs_str PySem.F.slot_str_split PySem.F.type_str_split mt_split (pv 0) (pa_Name (pv 1) pa_nil)))))),?_⟩
  exact parts_reads (K:=K) hy tl k
abbrev s_numbers_of:Stmt:=top 28
theorem sc_numbers_of:FnScope ["text", "words"] ["text"] (defScope s_numbers_of):=⟨rfl,rfl,rfl,by decide +kernel,rfl,by decide +kernel,by decide +kernel⟩
set_option maxHeartbeats 4000000 in
theorem ok_numbers {f:Addr} {fd:FuncData} (F:Fun K "numbers_of" "numbers_of" s_numbers_of f fd) (M:Txt mg) (Gparts_of:KnX P w K mg base "parts_of" 1 ["text", "between"] (spPartsX c_NoText)) (Gis_number:Kn P w K mg base "is_number" 1 ["text"] spIsNum) (Z:Exs K mg c_CordError c_NoRow c_NoSheet c_NoText):FnOk P w K mg base (CXE P w) 2 f fd ["text"] (spNumX c_NoText):=by
 have sc:=sc_numbers_of
 refine F.okX sc (fun vs H Q E h => ?_) (fun cdv A outer s H vs Q E hd0 hr h => ?_)
 ·obtain ⟨t,rfl,_⟩:=h
  rfl
 ·obtain ⟨t,rfl,tl,k1,k2⟩:=h
  refine ⟨_,(pss_cons (ps_set (i:=1) sc.nd rfl (Or.inl rfl) (pe_callX Gparts_of passE hr rfl (pa_Name (PE.nox (pv 0)) (pa_Constant (PE.nox pe_str) pa_nil))))
   (pss_cons (ps_if (PT.nox (pt_not (pt_val (pe_callB (call_all rfl) (by rfl) M.all boot_all (pa_cons (pe_compG (xs:=["word"]) (Nb:=["text", "words"]) rfl (pi_list (pv 1)) rfl (by show ∀ p ∈ (List.zip ["text", "words"] ["text", "words"]:List (Str × Str)),_; decide +kernel) (by decide +kernel) (fun cl C s₂ H₂ fp => (pg_name (i:=0) (by show List.Nodup (["word", "text", "words"]:List Str); decide +kernel) rfl (Or.inl (lookup_relabel_local rfl)) (Or.inr (lookup_relabel_local rfl)))) (fun cl C s₂ H₂ fp => pif_nil) (fun cl C s₂ H₂ fp => (pe_callD Gis_number hr rfl (pa_Name (pv 0) pa_nil))) (by decide +kernel) rfl (by decide +kernel) (by show ∀ y ∈ (_:List (Str × NameKind)),y.2=NameKind.free→(defScope s_numbers_of).names.lookup y.1=some .cell; decide +kernel)) pa_nil))))) (pss_one (ps_raise Z.e_NoText hd0 Z.m_NoText pe_str rfl)) pss_nil)
   (pss_one (PS.nox (ps_ret (pe_compG (xs:=["word"]) (Nb:=["text", "words"]) rfl (pi_list (pv 1)) rfl (by show ∀ p ∈ (List.zip ["text", "words"] ["text", "words"]:List (Str × Str)),_; decide +kernel) (by decide +kernel) (fun cl C s₂ H₂ fp => (pg_name (i:=0) (by show List.Nodup (["word", "text", "words"]:List Str); decide +kernel) rfl (Or.inl (lookup_relabel_local rfl)) (Or.inr (lookup_relabel_local rfl)))) (fun cl C s₂ H₂ fp => pif_nil) (fun cl C s₂ H₂ fp => (pe_callTy call_int_text (by rfl) M.int boot_int (pa_Name (pv 0) pa_nil))) (by decide +kernel) rfl (by decide +kernel) (by show ∀ y ∈ (_:List (Str × NameKind)),y.2=NameKind.free→(defScope s_numbers_of).names.lookup y.1=some .cell; decide +kernel))))))),?_⟩
  exact numbers_reads (K:=K) tl k1 k2
abbrev s_triangles_of:Stmt:=top 29
theorem sc_triangles_of:FnScope ["text"] ["text"] (defScope s_triangles_of):=⟨rfl,rfl,rfl,by decide +kernel,rfl,by decide +kernel,by decide +kernel⟩
set_option maxHeartbeats 8000000 in
theorem ok_triangles {f:Addr} {fd:FuncData} (F:Fun K "triangles_of" "triangles_of" s_triangles_of f fd) (M:Txt mg) (Gparts_of:KnX P w K mg base "parts_of" 1 ["text", "between"] (spPartsX c_NoText)) (Gnumbers_of:KnX P w K mg base "numbers_of" 2 ["text"] (spNumX c_NoText)) (B:Gb mg):FnOk P w K mg base (CXE P w) 3 f fd ["text"] (spTriX c_NoText):=by
 have sc:=sc_triangles_of
 refine F.okX sc (fun vs H Q E h => ?_) (fun cdv A outer s H vs Q E hd0 hr h => ?_)
 ·obtain ⟨t,rfl,_⟩:=h
  rfl
 ·obtain ⟨t,rfl,tl,k1,k2⟩:=h
  obtain ⟨tfi,hfi⟩:=B.fi
  obtain ⟨tmo,hmo⟩:=B.mo
  obtain ⟨tbt,hbt⟩:=B.bt
  obtain ⟨tmt,hmt⟩:=B.mt
  obtain ⟨tfg,hfg⟩:=B.fg
  obtain ⟨tbo,hbo⟩:=B.bo
  refine ⟨_,(pss_one (ps_ret (pe_compGX (xs:=["part"]) (Nb:=["text"]) rfl (pi_list (pe_callX Gparts_of passE hr rfl (pa_Name (PE.nox (pv 0)) (pa_Name (PE.nox (pe_glob (v:=.str " / ") rfl hbt ⟨_,rfl⟩)) pa_nil)))) rfl (by show ∀ p ∈ (List.zip ["text"] ["text"]:List (Str × Str)),_; decide +kernel) (by decide +kernel) (fun cl C s₂ H₂ fp hin => (pg_name (i:=0) (by show List.Nodup (["part", "text"]:List Str); decide +kernel) rfl (Or.inl (lookup_relabel_local rfl)) (Or.inr (lookup_relabel_local rfl)))) (fun cl C s₂ H₂ fp hin => pif_nil) (fun cl C s₂ H₂ fp hin => (pe_callTy (call_tuple_ofKK (K:=K)) (by rfl) M.tuple boot_tuple (pa_Call (pe_callX Gnumbers_of (passEC hin) hr rfl (pa_Name (PE.nox (pv 0)) pa_nil)) pa_nil))) (by decide +kernel) rfl (by decide +kernel) (by show ∀ y ∈ (_:List (Str × NameKind)),y.2=NameKind.free→(defScope s_triangles_of).names.lookup y.1=some .cell; decide +kernel)))),?_⟩
  exact triangles_reads (K:=K) tl k1 k2
abbrev s_sheet_of:Stmt:=top 30
theorem sc_sheet_of:FnScope ["triangles"] ["triangles"] (defScope s_sheet_of):=⟨rfl,rfl,rfl,by decide +kernel,rfl,by decide +kernel,by decide +kernel⟩
set_option maxHeartbeats 4000000 in
theorem ok_sheetof {f:Addr} {fd:FuncData} (F:Fun K "sheet_of" "sheet_of" s_sheet_of f fd) (M:Txt mg) (Gis_sheet:Kn P w K mg base "is_sheet" 3 ["thing"] spIsS) (Z:Exs K mg c_CordError c_NoRow c_NoSheet c_NoText):FnOk P w K mg base (CXE P w) 4 f fd ["triangles"] (spSheetOf c_NoSheet):=by
 have sc:=sc_sheet_of
 refine F.okX sc (fun vs H Q E h => ?_) (fun cdv A outer s H vs Q E hd0 hr h => ?_)
 ·obtain ⟨l,ys,U,rfl,_⟩:=h
  rfl
 ·obtain ⟨l,ys,U,rfl,hl,tU,k1,k2⟩:=h
  refine ⟨_,(pss_cons (ps_if (PT.nox (pt_not (pt_val (pe_callD Gis_sheet hr rfl (pa_Name (pv 0) pa_nil))))) (pss_one (ps_raise Z.e_NoSheet hd0 Z.m_NoSheet pe_str rfl)) pss_nil)
   (pss_one (PS.nox (ps_ret (pv 0))))),?_⟩
  exact sheetof_reads (K:=K) hl tU k1 k2
abbrev s_row_on:Stmt:=top 31
theorem sc_row_on:FnScope ["sheet", "numbers"] ["sheet", "numbers"] (defScope s_row_on):=⟨rfl,rfl,rfl,by decide +kernel,rfl,by decide +kernel,by decide +kernel⟩
set_option maxHeartbeats 4000000 in
theorem ok_rowon {f:Addr} {fd:FuncData} (F:Fun K "row_on" "row_on" s_row_on f fd) (M:Txt mg) (Gis_row:Kn P w K mg base "is_row" 3 ["sheet", "thing"] spIsRowG) (Z:Exs K mg c_CordError c_NoRow c_NoSheet c_NoText):FnOk P w K mg base (CXE P w) 4 f fd ["sheet", "numbers"] (spRowOn c_NoRow):=by
 have sc:=sc_row_on
 refine F.okX sc (fun vs H Q E h => ?_) (fun cdv A outer s H vs Q E hd0 hr h => ?_)
 ·obtain ⟨i,o,xs,S,r,rfl,_⟩:=h
  rfl
 ·obtain ⟨i,o,xs,S,r,rfl,h1,h2,h3,h4,h5,k1,k2⟩:=h
  refine ⟨_,(pss_cons (ps_if (PT.nox (pt_not (pt_val (pe_callD Gis_row hr rfl (pa_Name (pv 0) (pa_Name (pv 1) pa_nil)))))) (pss_one (ps_raise Z.e_NoRow hd0 Z.m_NoRow pe_str rfl)) pss_nil)
   (pss_one (PS.nox (ps_ret (pv 1))))),?_⟩
  exact rowon_reads (K:=K) h1 h2 h3 h4 h5 k1 k2
abbrev s_read_sheet:Stmt:=top 32
theorem sc_read_sheet:FnScope ["text"] ["text"] (defScope s_read_sheet):=⟨rfl,rfl,rfl,by decide +kernel,rfl,by decide +kernel,by decide +kernel⟩
set_option maxHeartbeats 4000000 in
theorem ok_readsheet {f:Addr} {fd:FuncData} (F:Fun K "read_sheet" "read_sheet" s_read_sheet f fd) (M:Txt mg) (Gsheet_of:KnX P w K mg base "sheet_of" 4 ["triangles"] (spSheetOf c_NoSheet)) (Gtriangles_of:KnX P w K mg base "triangles_of" 3 ["text"] (spTriX c_NoText)):FnOk P w K mg base (CXE P w) 5 f fd ["text"] (spReadX c_NoText c_NoSheet):=by
 have sc:=sc_read_sheet
 refine F.okX sc (fun vs H Q E h => ?_) (fun cdv A outer s H vs Q E hd0 hr h => ?_)
 ·obtain ⟨t,rfl,_⟩:=h
  rfl
 ·obtain ⟨t,rfl,tl,k1,k2,k3⟩:=h
  refine ⟨_,(pss_one (ps_ret (pe_callX Gsheet_of passE hr rfl (pa_Call (pe_callX Gtriangles_of passE hr rfl (pa_Name (PE.nox (pv 0)) pa_nil)) pa_nil)))),?_⟩
  exact read_reads (K:=K) tl k1 k2 k3
abbrev s_read_row:Stmt:=top 33
theorem sc_read_row:FnScope ["sheet", "text"] ["sheet", "text"] (defScope s_read_row):=⟨rfl,rfl,rfl,by decide +kernel,rfl,by decide +kernel,by decide +kernel⟩
set_option maxHeartbeats 4000000 in
theorem ok_readrow {f:Addr} {fd:FuncData} (F:Fun K "read_row" "read_row" s_read_row f fd) (M:Txt mg) (Grow_on:KnX P w K mg base "row_on" 4 ["sheet", "numbers"] (spRowOn c_NoRow)) (Gnumbers_of:KnX P w K mg base "numbers_of" 2 ["text"] (spNumX c_NoText)):FnOk P w K mg base (CXE P w) 5 f fd ["sheet", "text"] (spReadRow c_NoText c_NoRow):=by
 have sc:=sc_read_row
 refine F.okX sc (fun vs H Q E h => ?_) (fun cdv A outer s H vs Q E hd0 hr h => ?_)
 ·obtain ⟨i,xs,S,t,rfl,_⟩:=h
  rfl
 ·obtain ⟨i,xs,S,t,rfl,h1,h2,h3,h4,k1,k2,k3⟩:=h
  refine ⟨_,(pss_one (ps_ret (pe_callX Grow_on passE hr rfl (pa_Name (PE.nox (pv 0)) (pa_Call (pe_callX Gnumbers_of passE hr rfl (pa_Name (PE.nox (pv 1)) pa_nil)) pa_nil))))),?_⟩
  exact readrow_reads (K:=K) h1 h2 h3 h4 k1 k2 k3
end
end Toy
namespace Toy
open PySem L2 PyProof.Rows
section
variable {P:Program} {w:World} {K:PySem.W.Frag} {mg:Str→Option Value} {base:Heap} {c_CordError c_NoRow c_NoSheet c_NoText:Addr}
abbrev s__law_sheet:Stmt:=top 38
theorem sc__law_sheet:FnScope ["_law_draw", "_law_half", "_law_slots", "_law_sides", "_law_tie", "_law_turn", "_law_spot"] ["_law_draw"] (defScope s__law_sheet):=⟨rfl,rfl,rfl,by decide +kernel,rfl,by decide +kernel,by decide +kernel⟩
set_option maxHeartbeats 8000000 in
theorem ok_sheet {f:Addr} {fd:FuncData} (F:Fun K "_law_sheet" "_law_sheet" s__law_sheet f fd) (M:Txt mg) (G_law_take:Kn P w K mg base "_law_take" 1 ["_law_draw", "_law_many"] spTake):FnOk P w K mg base CX0 2 f fd ["_law_draw"] spShO:=by
 have sc:=sc__law_sheet
 refine F.ok sc (fun vs H Q E h => ?_) (fun cdv A outer s H vs Q E hr h => ?_)
 ·obtain ⟨d,rfl,_⟩:=h
  rfl
 ·obtain ⟨d,rfl,hP,k⟩:=h
  refine ⟨_,(pss_cons (ps_set (i:=1) sc.nd rfl (Or.inl rfl) (pe_op op_add pe_int (pe_ix (ix_listK (K:=K)) (pe_lst (pa_o2 (pe_callD G_law_take hr rfl (pa_Name (pv 0) (pa_Constant pe_int pa_nil))) (pe_callD G_law_take hr rfl (pa_Name (pv 0) (pa_Constant pe_int pa_nil))) pa_nil)) (pe_callTy call_int1 (by rfl) M.int boot_int (pa_cons (pe_cmpR op_eq (pe_callD G_law_take hr rfl (pa_Name (pv 0) (pa_Constant pe_int pa_nil))) pe_int (nomark _)) pa_nil)) (fun _ _ => rfl))))
   (pss_cons (ps_set (i:=2) sc.nd rfl (Or.inl rfl) (pe_callTy (call_list_rng2 rfl) (by rfl) M.list boot_list (pa_Call (pe_callTy call_range1 (by rfl) M.range boot_range (pa_BinOp (pe_op op_mul pe_int (pv 1)) pa_nil)) pa_nil)))
   (pss_cons (ps_set (i:=3) sc.nd rfl (Or.inr rfl) (pe_compG (xs:=["_law_slot"]) (Nb:=["_law_draw", "_law_half", "_law_slots", "_law_sides", "_law_tie", "_law_turn", "_law_spot"]) rfl (pi_list (pv 2)) rfl (by show ∀ p ∈ (List.zip ["_law_draw", "_law_half", "_law_slots", "_law_sides", "_law_tie", "_law_turn", "_law_spot"] ["_law_draw", "_law_half", "_law_slots", "_law_sides", "_law_tie", "_law_turn", "_law_spot"]:List (Str × Str)),_; decide +kernel) (by decide +kernel) (fun cl C s₂ H₂ fp => (pg_name (i:=0) (by show List.Nodup (["_law_slot", "_law_draw", "_law_half", "_law_slots", "_law_sides", "_law_tie", "_law_turn", "_law_spot"]:List Str); decide +kernel) rfl (Or.inl (lookup_relabel_local rfl)) (Or.inr (lookup_relabel_local rfl)))) (fun cl C s₂ H₂ fp => pif_nil) (fun cl C s₂ H₂ fp => pe_int) (by decide +kernel) rfl (by decide +kernel) (by show ∀ y ∈ (_:List (Str × NameKind)),y.2=NameKind.free→(defScope s__law_sheet).names.lookup y.1=some .cell; decide +kernel)))
   (pss_cons (ps_for PassesOwn.never rfl (pi_range2 rfl M.range (pa_Constant pe_int (pa_BinOp (pe_op op_add (pe_op op_mul pe_int (pv 1)) pe_int) pa_nil))) (pg_name (i:=4) sc.nd rfl (Or.inl rfl))
   (pss_one (ps_for PassesOwn.never rfl (pi_range1 rfl M.range (pa_Constant pe_int pa_nil)) (pg_name (i:=5) sc.nd rfl (Or.inl rfl))
   (pss_cons (ps_set (i:=6) sc.nd rfl (Or.inl rfl) (pe_bm PySem.F.plainAttrs_list PySem.F.slot_list_pop PySem.F.type_list_pop mt_popAt (pv 2) (pa_Call (pe_callD G_law_take hr rfl (pa_Name (pv 0) (pa_Call (pe_callB (call_lenK (K:=K)) (by rfl) M.len PySem.boot_len (pa_Name (pv 2) pa_nil)) pa_nil))) pa_nil)))
   (pss_one (ps_asg (pe_op op_mul (pv 4) (pe_op op_sub pe_int (pe_op op_mul pe_int (pe_callD G_law_take hr rfl (pa_Name (pv 0) (pa_Constant pe_int pa_nil)))))) (pg_sub (pv 3) (pv 6) set_list)))))))
   (pss_one (ps_ret (pe_compG (xs:=["_law_k"]) (Nb:=["_law_draw", "_law_half", "_law_slots", "_law_sides", "_law_tie", "_law_turn", "_law_spot"]) rfl (pi_range1 rfl M.range (pa_BinOp (pe_op op_mul pe_int (pv 1)) pa_nil)) rfl (by show ∀ p ∈ (List.zip ["_law_draw", "_law_half", "_law_slots", "_law_sides", "_law_tie", "_law_turn", "_law_spot"] ["_law_draw", "_law_half", "_law_slots", "_law_sides", "_law_tie", "_law_turn", "_law_spot"]:List (Str × Str)),_; decide +kernel) (by decide +kernel) (fun cl C s₂ H₂ fp => (pg_name (i:=0) (by show List.Nodup (["_law_k", "_law_draw", "_law_half", "_law_slots", "_law_sides", "_law_tie", "_law_turn", "_law_spot"]:List Str); decide +kernel) rfl (Or.inl (lookup_relabel_local rfl)) (Or.inr (lookup_relabel_local rfl)))) (fun cl C s₂ H₂ fp => pif_nil) (fun cl C s₂ H₂ fp => (pe_callTy (call_tuple_ofKK (K:=K)) (by rfl) M.tuple boot_tuple (pa_Subscript (pe_slice (sl_listK (K:=K)) (pv 4) (po_some (pe_op op_mul pe_int (pv 0))) (po_some (pe_op op_add (pe_op op_mul pe_int (pv 0)) pe_int))) pa_nil))) (by decide +kernel) rfl (by decide +kernel) (by show ∀ y ∈ (_:List (Str × NameKind)),y.2=NameKind.free→(defScope s__law_sheet).names.lookup y.1=some .cell; decide +kernel)))))))),?_⟩
  exact shO_reads (K:=K) hP k
abbrev s__law_end:Stmt:=top 39
theorem sc__law_end:FnScope ["_law_side", "_law_last"] ["_law_side", "_law_last"] (defScope s__law_end):=⟨rfl,rfl,rfl,by decide +kernel,rfl,by decide +kernel,by decide +kernel⟩
set_option maxHeartbeats 4000000 in
theorem ok_end {f:Addr} {fd:FuncData} (F:Fun K "_law_end" "_law_end" s__law_end f fd) (M:Txt mg) (B:Gb mg):FnOk P w K mg base CX0 1 f fd ["_law_side", "_law_last"] spEndE:=by
 have sc:=sc__law_end
 refine F.ok sc (fun vs H Q E h => ?_) (fun cdv A outer s H vs Q E hr h => ?_)
 ·obtain ⟨s0,b0,rfl,_⟩:=h
  rfl
 ·obtain ⟨s0,b0,rfl,k⟩:=h
  obtain ⟨tfi,hfi⟩:=B.fi
  obtain ⟨tmo,hmo⟩:=B.mo
  obtain ⟨tbt,hbt⟩:=B.bt
  obtain ⟨tmt,hmt⟩:=B.mt
  obtain ⟨tfg,hfg⟩:=B.fg
  obtain ⟨tbo,hbo⟩:=B.bo
  refine ⟨_,(pss_one (ps_ret (pe_tup (pa_o2 (pe_callB call_abs (by rfl) B.ab boot_abs (pa_Name (pv 0) pa_nil)) (pe_callTy call_int1 (by rfl) M.int boot_int (pa_cons (pe_cmpR op_eq (pe_cmpR op_gt (pv 0) pe_int (nomark _)) (pv 1) (nomark _)) pa_nil)) pa_nil)))),?_⟩
  exact endE_reads (K:=K) k
abbrev s__law_points:Stmt:=top 40
theorem sc__law_points:FnScope ["_law_sheet_here", "_law_heaps", "_law_triangle", "_law_i", "_law_pair", "_law_mine", "_law_heap"] ["_law_sheet_here"] (defScope s__law_points):=⟨rfl,rfl,rfl,by decide +kernel,rfl,by decide +kernel,by decide +kernel⟩
set_option maxHeartbeats 8000000 in
theorem ok_points {f:Addr} {fd:FuncData} (F:Fun K "_law_points" "_law_points" s__law_points f fd) (M:Txt mg) (G_law_end:Kn P w K mg base "_law_end" 1 ["_law_side", "_law_last"] spEndE) (B:Gb mg):FnOk P w K mg base CX0 2 f fd ["_law_sheet_here"] spPtsE:=by
 have sc:=sc__law_points
 refine F.ok sc (fun vs H Q E h => ?_) (fun cdv A outer s H vs Q E hr h => ?_)
 ·obtain ⟨i,xs,S,rfl,_⟩:=h
  rfl
 ·obtain ⟨i,xs,S,rfl,h1,h2,h3,k⟩:=h
  obtain ⟨tfi,hfi⟩:=B.fi
  obtain ⟨tmo,hmo⟩:=B.mo
  obtain ⟨tbt,hbt⟩:=B.bt
  obtain ⟨tmt,hmt⟩:=B.mt
  obtain ⟨tfg,hfg⟩:=B.fg
  obtain ⟨tbo,hbo⟩:=B.bo
  refine ⟨_,(pss_cons (ps_set (i:=1) sc.nd rfl (Or.inl rfl) (pe_lst pa_nil))
   (pss_cons (ps_for PassesOwn.never rfl (pi_list (pv 0)) (pg_name (i:=2) sc.nd rfl (Or.inl rfl))
   (pss_one (ps_for PassesOwn.never rfl (pi_range1 rfl M.range (pa_Constant pe_int pa_nil)) (pg_name (i:=3) sc.nd rfl (Or.inl rfl))
   (pss_cons (ps_set (i:=4) sc.nd rfl (Or.inr rfl) (pe_lst (pa_o2 (pe_callD G_law_end hr rfl (pa_Subscript (pe_ix (ix_tupK (K:=K)) (pv 2) (pv 3) (fun _ _ => rfl)) (pa_Constant pe_bl pa_nil))) (pe_callD G_law_end hr rfl (pa_Subscript (pe_ix ix_tup (pv 2) (pe_op op_mod (pe_op op_add (pv 3) pe_int) pe_int) (fun _ _ => rfl)) (pa_Constant pe_bl pa_nil))) pa_nil)))
   (pss_cons (ps_set (i:=5) sc.nd rfl (Or.inr rfl) (pe_compG (xs:=["_law_heap"]) (Nb:=["_law_sheet_here", "_law_heaps", "_law_triangle", "_law_i", "_law_pair", "_law_mine", ""]) rfl (pi_list (pv 1)) rfl (by show ∀ p ∈ (List.zip ["_law_sheet_here", "_law_heaps", "_law_triangle", "_law_i", "_law_pair", "_law_mine", ""] ["_law_sheet_here", "_law_heaps", "_law_triangle", "_law_i", "_law_pair", "_law_mine", "_law_heap"]:List (Str × Str)),_; decide +kernel) (by decide +kernel) (fun cl C s₂ H₂ fp => (pg_name (i:=0) (by show List.Nodup (["_law_heap", "_law_sheet_here", "_law_heaps", "_law_triangle", "_law_i", "_law_pair", "_law_mine", ""]:List Str); decide +kernel) rfl (Or.inl (lookup_relabel_local rfl)) (Or.inr (lookup_relabel_local rfl)))) (fun cl C s₂ H₂ fp => (pif_one (PW.pt (pw_or (pt_cmpR (op_inCK (K:=K) true hr) (pe_ix (ix_listK (K:=K)) (pv 5) pe_int (fun _ _ => rfl)) (pv 0) rfl) (pw_or1 (pt_cmpR (op_inCK (K:=K) true hr) (pe_ix (ix_listK (K:=K)) (pv 5) pe_int (fun _ _ => rfl)) (pv 0) rfl)))))) (fun cl C s₂ H₂ fp => (pv 0)) (by decide +kernel) rfl (by decide +kernel) (by show ∀ y ∈ (_:List (Str × NameKind)),y.2=NameKind.free→(defScope s__law_points).names.lookup y.1=some .cell; decide +kernel)))
   (pss_cons (ps_compG (xs:=["_law_heap"]) (Nb:=["_law_sheet_here", "_law_heaps", "_law_triangle", "_law_i", "_law_pair", "_law_mine", ""]) (pg_name (i:=1) sc.nd rfl (Or.inl rfl)) rfl rfl (pi_list (pv 1)) rfl (by show ∀ p ∈ (List.zip ["_law_sheet_here", "_law_heaps", "_law_triangle", "_law_i", "_law_pair", "_law_mine", ""] ["_law_sheet_here", "_law_heaps", "_law_triangle", "_law_i", "_law_pair", "_law_mine", "_law_heap"]:List (Str × Str)),_; decide +kernel) (by decide +kernel) (fun cl C s₂ H₂ fp => (pg_name (i:=0) (by show List.Nodup (["_law_heap", "_law_sheet_here", "_law_heaps", "_law_triangle", "_law_i", "_law_pair", "_law_mine", ""]:List Str); decide +kernel) rfl (Or.inl (lookup_relabel_local rfl)) (Or.inr (lookup_relabel_local rfl)))) (fun cl C s₂ H₂ fp => (pif_one (pt_cmpR (op_notInD (K:=K) hr) (pv 0) (pv 6) rfl))) (fun cl C s₂ H₂ fp => (pv 0)) (by decide +kernel) rfl (by decide +kernel) (by show ∀ y ∈ (_:List (Str × NameKind)),y.2=NameKind.free→(defScope s__law_points).names.lookup y.1=some .cell; decide +kernel))
   (pss_cons (ps_for PassesOwn.never rfl (pi_list (pv 5)) (pg_name (i:=6) sc.nd rfl (Or.inl rfl))
   (pss_one (ps_set (i:=4) sc.nd rfl (Or.inr rfl) (pe_op op_cat (pv 4) (pv 6)))))
   (pss_one (ps_expr (pe_bm PySem.F.plainAttrs_list PySem.F.slot_list_append PySem.F.type_list_append mt_append (pv 1) (pa_Call (pe_sortedSetT64 hr rfl (pv 4) rfl M.sorted rfl B.st) pa_nil)))))))))))
   (pss_one (ps_ret (pe_callB (call_sortedLL true hr) (by rfl) M.sorted boot_sorted (pa_Name (pv 1) pa_nil)))))),?_⟩
  exact ptsE64_reads (K:=K) h1 h2 h3 k
abbrev s__law_loop:Stmt:=top 41
theorem sc__law_loop:FnScope ["_law_sheet_here", "_law_heap"] ["_law_sheet_here", "_law_heap"] (defScope s__law_loop):=⟨rfl,rfl,rfl,by decide +kernel,rfl,by decide +kernel,by decide +kernel⟩
set_option maxHeartbeats 8000000 in
theorem ok_loop {f:Addr} {fd:FuncData} (F:Fun K "_law_loop" "_law_loop" s__law_loop f fd) (M:Txt mg):FnOk P w K mg base CX0 1 f fd ["_law_sheet_here", "_law_heap"] spLoopE:=by
 have sc:=sc__law_loop
 refine F.ok sc (fun vs H Q E h => ?_) (fun cdv A outer s H vs Q E hr h => ?_)
 ·obtain ⟨i,j,xs,gs,S,gg,rfl,_⟩:=h
  rfl
 ·obtain ⟨i,j,xs,gs,S,gg,rfl,h1,h2,h3,h4,h5,k⟩:=h
  refine ⟨_,(pss_one (ps_ret (pe_compD (x := "_law_tie") (xs:=["_law_tie"]) (Nb:=["_law_sheet_here", "_law_heap"]) rfl (pi_range2 rfl M.range (pa_Constant pe_int (pa_BinOp (pe_op op_add (pe_op op_fdivL (pe_op op_mul pe_int (pe_callB (call_lenK (K:=K)) (by rfl) M.len PySem.boot_len (pa_Name (pv 0) pa_nil))) pe_int) pe_int) pa_nil))) rfl (by show ∀ p ∈ (List.zip ["_law_sheet_here", "_law_heap"] ["_law_sheet_here", "_law_heap"]:List (Str × Str)),_; decide +kernel) (by decide +kernel) (fun cl C s₂ H₂ fp => (pg_name (i:=0) (by show List.Nodup (["_law_tie", "_law_sheet_here", "_law_heap"]:List Str); decide +kernel) rfl (Or.inr (lookup_relabel_own rfl)) (Or.inl cxD_fn))) (fun cl C s₂ H₂ fp => pif_nil) (fun cl C s₂ H₂ fp => (pe_callB (call_sumK (K:=K) rfl) (by rfl) M.sum boot_sum (pa_cons (pe_compG (xs:=["_law_end_here"]) (Nb:=["_law_tie", "_law_sheet_here", "_law_heap"]) rfl (pi_range1 rfl M.range (pa_Constant pe_int pa_nil)) rfl (by show ∀ p ∈ (List.zip ["_law_tie", "_law_sheet_here", "_law_heap"] ["_law_tie", "_law_sheet_here", "_law_heap"]:List (Str × Str)),_; decide +kernel) (by decide +kernel) (fun cl C s₂ H₂ fp => (pg_name (i:=0) (by show List.Nodup (["_law_end_here", "_law_tie", "_law_sheet_here", "_law_heap"]:List Str); decide +kernel) rfl (Or.inl (lookup_relabel_local rfl)) (Or.inr (lookup_relabel_local rfl)))) (fun cl C s₂ H₂ fp => pif_nil) (fun cl C s₂ H₂ fp => (pe_callTy call_int1 (by rfl) M.int boot_int (pa_cons (pe_cmpR (op_inCK (K:=K) true hr) (pe_tup (pa_o2 (pv 1) (pv 0) pa_nil)) (pv 3) rfl) pa_nil))) (by decide +kernel) rfl (by decide +kernel) (free_inD (L:=(defScope s__law_loop).names) rfl rfl (by decide +kernel))) pa_nil))) (fun _ _ => rfl) (fun _ => rfl) (by decide +kernel) rfl rfl (by decide +kernel) (by show ∀ y ∈ (_:List (Str × NameKind)),y.2=NameKind.free→(defScope s__law_loop).names.lookup y.1=some .cell; decide +kernel)))),?_⟩
  exact loopE_reads (K:=K) h1 h2 h3 h4 h5 k
abbrev s__law_row:Stmt:=top 42
theorem sc__law_row:FnScope ["_law_draw", "_law_sheet_here", "_law_far", "_law_found", "_law_heap", "_law_often"] ["_law_draw", "_law_sheet_here"] (defScope s__law_row):=⟨rfl,rfl,rfl,by decide +kernel,rfl,by decide +kernel,by decide +kernel⟩
set_option maxHeartbeats 8000000 in
theorem ok_row {f:Addr} {fd:FuncData} (F:Fun K "_law_row" "_law_row" s__law_row f fd) (M:Txt mg) (G_law_take:Kn P w K mg base "_law_take" 1 ["_law_draw", "_law_many"] spTake) (G_law_points:Kn P w K mg base "_law_points" 2 ["_law_sheet_here"] spPtsE) (G_law_loop:Kn P w K mg base "_law_loop" 1 ["_law_sheet_here", "_law_heap"] spLoopE) (B:Gb mg):FnOk P w K mg base CX0 3 f fd ["_law_draw", "_law_sheet_here"] spRowE:=by
 have sc:=sc__law_row
 refine F.ok sc (fun vs H Q E h => ?_) (fun cdv A outer s H vs Q E hr h => ?_)
 ·obtain ⟨d,i,xs,S,rfl,_⟩:=h
  rfl
 ·obtain ⟨d,i,xs,S,rfl,h1,h2,h3,h4,k⟩:=h
  obtain ⟨tfi,hfi⟩:=B.fi
  obtain ⟨tmo,hmo⟩:=B.mo
  obtain ⟨tbt,hbt⟩:=B.bt
  obtain ⟨tmt,hmt⟩:=B.mt
  obtain ⟨tfg,hfg⟩:=B.fg
  obtain ⟨tbo,hbo⟩:=B.bo
  refine ⟨_,(pss_cons (ps_set (i:=2) sc.nd rfl (Or.inr rfl) (pe_callD G_law_take hr rfl (pa_Name (pv 0) (pa_Subscript (pe_ix (ix_listK (K:=K)) (pe_lst (pa_o4 pe_int pe_int pe_int (pe_op op_pow pe_int pe_int) (pa_o2 (pe_op op_pow pe_int pe_int) (pe_op op_pow pe_int pe_int) pa_nil))) (pe_callD G_law_take hr rfl (pa_Name (pv 0) (pa_Constant pe_int pa_nil))) (fun _ _ => rfl)) pa_nil))))
   (pss_cons (ps_compG (xs:=["_law_tie"]) (Nb:=["_law_draw", "_law_sheet_here", "_law_far", "_law_found", "_law_heap", "_law_often"]) (pg_name (i:=3) sc.nd rfl (Or.inl rfl)) rfl rfl (pi_range1 rfl M.range (pa_BinOp (pe_op op_fdivL (pe_op op_mul pe_int (pe_callB (call_lenK (K:=K)) (by rfl) M.len PySem.boot_len (pa_Name (pv 1) pa_nil))) pe_int) pa_nil)) rfl (by show ∀ p ∈ (List.zip ["_law_draw", "_law_sheet_here", "_law_far", "_law_found", "_law_heap", "_law_often"] ["_law_draw", "_law_sheet_here", "_law_far", "_law_found", "_law_heap", "_law_often"]:List (Str × Str)),_; decide +kernel) (by decide +kernel) (fun cl C s₂ H₂ fp => (pg_name (i:=0) (by show List.Nodup (["_law_tie", "_law_draw", "_law_sheet_here", "_law_far", "_law_found", "_law_heap", "_law_often"]:List Str); decide +kernel) rfl (Or.inl (lookup_relabel_local rfl)) (Or.inr (lookup_relabel_local rfl)))) (fun cl C s₂ H₂ fp => pif_nil) (fun cl C s₂ H₂ fp => (pe_op op_mul pe_int (pe_op op_add (pv 3) (pe_callD G_law_take hr rfl (pa_Name (pv 1) (pa_BinOp (pe_op op_add (pv 3) pe_int) pa_nil)))))) (by decide +kernel) rfl (by decide +kernel) (by show ∀ y ∈ (_:List (Str × NameKind)),y.2=NameKind.free→(defScope s__law_row).names.lookup y.1=some .cell; decide +kernel))
   (pss_cons (ps_for PassesOwn.never rfl (pi_list (pe_callD G_law_points hr rfl (pa_Name (pv 1) pa_nil))) (pg_name (i:=4) sc.nd rfl (Or.inl rfl))
   (pss_cons (ps_set (i:=5) sc.nd rfl (Or.inr rfl) (pe_ix (ix_listK (K:=K)) (pe_lst (pa_o3 pe_int (pe_callD G_law_take hr rfl (pa_Name (pv 0) (pa_Constant pe_int pa_nil))) (pe_callD G_law_take hr rfl (pa_Name (pv 0) (pa_BinOp (pe_op op_add (pv 2) pe_int) pa_nil))) pa_nil)) (pe_callD G_law_take hr rfl (pa_Name (pv 0) (pa_Constant pe_int pa_nil))) (fun _ _ => rfl)) sw_sub)
   (pss_one (ps_compG (xs:=["_law_one", "_law_more"]) (Nb:=["_law_draw", "_law_sheet_here", "_law_far", "_law_found", "_law_heap", "_law_often"]) (pg_name (i:=3) sc.nd rfl (Or.inl rfl)) rfl rfl (pi_zip rfl B.zp (pa_Name (pv 3) (pa_Call (pe_callD G_law_loop hr rfl (pa_Name (pv 1) (pa_Name (pv 4) pa_nil))) pa_nil))) rfl (by show ∀ p ∈ (List.zip ["_law_draw", "_law_sheet_here", "_law_far", "_law_found", "_law_heap", "_law_often"] ["_law_draw", "_law_sheet_here", "_law_far", "_law_found", "_law_heap", "_law_often"]:List (Str × Str)),_; decide +kernel) (by decide +kernel) (fun cl C s₂ H₂ fp => (pg_tupK (K:=K) (n:=2) rfl (pgs_cons (pg_name (i:=0) (by show List.Nodup (["_law_one", "_law_more", "_law_draw", "_law_sheet_here", "_law_far", "_law_found", "_law_heap", "_law_often"]:List Str); decide +kernel) rfl (Or.inl (lookup_relabel_local rfl)) (Or.inr (lookup_relabel_local rfl))) (pgs_cons (pg_name (i:=1) (by show List.Nodup (["_law_one", "_law_more", "_law_draw", "_law_sheet_here", "_law_far", "_law_found", "_law_heap", "_law_often"]:List Str); decide +kernel) rfl (Or.inl (lookup_relabel_local rfl)) (Or.inr (lookup_relabel_local rfl))) pgs_nil)))) (fun cl C s₂ H₂ fp => pif_nil) (fun cl C s₂ H₂ fp => (pe_op op_add (pv 0) (pe_op op_mul (pv 7) (pv 1)))) (by decide +kernel) rfl (by decide +kernel) (by show ∀ y ∈ (_:List (Str × NameKind)),y.2=NameKind.free→(defScope s__law_row).names.lookup y.1=some .cell; decide +kernel)))))
   (pss_one (ps_ret (pv 3)))))),?_⟩
  exact rowE_reads (K:=K) h1 h2 h3 h4 k
end
end Toy
namespace Toy
open PySem L2 PyProof.Rows
section
variable {P:Program} {w:World} {K:PySem.W.Frag} {mg:Str→Option Value} {base:Heap} {c_CordError c_NoRow c_NoSheet c_NoText:Addr}
abbrev s_show_number:Stmt:=top 23
theorem sc_show_number:FnScope ["whole", "parts", "rest"] ["whole"] (defScope s_show_number):=⟨rfl,rfl,rfl,by decide +kernel,rfl,by decide +kernel,by decide +kernel⟩
set_option maxHeartbeats 8000000 in
theorem ok_num {f:Addr} {fd:FuncData} (F:Fun K "show_number" "show_number" s_show_number f fd) (M:Txt mg) (B:Gb mg):FnOk P w K mg base CX0 1 f fd ["whole"] spNumP:=by
 have sc:=sc_show_number
 refine F.ok sc (fun vs H Q E h => ?_) (fun cdv A outer s H vs Q E hr h => ?_)
 ·obtain ⟨n,rfl,_⟩:=h
  rfl
 ·obtain ⟨n,rfl,h1,h2,k⟩:=h
  obtain ⟨tfi,hfi⟩:=B.fi
  obtain ⟨tmo,hmo⟩:=B.mo
  obtain ⟨tbt,hbt⟩:=B.bt
  obtain ⟨tmt,hmt⟩:=B.mt
  obtain ⟨tfg,hfg⟩:=B.fg
  obtain ⟨tbo,hbo⟩:=B.bo
  refine ⟨_,(pss_cons (ps_if (pt_cmpR op_lt (pv 0) pe_int (nomark _)) pss_dead pss_nil)
   (pss_cons (ps_set (i:=1) sc.nd rfl (Or.inl rfl) (pe_lst pa_nil))
   (pss_cons (ps_while PassesOwn.never (pt_cmpR op_ge (pv 0) (pe_glob (v:=.int 1000000000000000000000000000000000000000000000000000000000000) rfl hbo ⟨_,rfl⟩) (nomark _)) (pss_cons (ps_asg (pe_callB call_divmodW (by rfl) B.dm boot_divmod (pa_Name (pv 0) (pa_Name (pe_glob (v:=.int 1000000000000000000000000000000000000000000000000000000000000) rfl hbo ⟨_,rfl⟩) pa_nil))) (pg_tup rfl (pgs_cons (pg_name (i:=0) sc.nd rfl (Or.inl rfl)) (pgs_cons (pg_name (i:=2) sc.nd rfl (Or.inl rfl)) pgs_nil))))
   (pss_one (ps_expr (pe_bm PySem.F.plainAttrs_list PySem.F.slot_list_append PySem.F.type_list_append mt_append (pv 1) (pa_Call (pe_bm PySem.F.plainAttrs_str PySem.F.slot_str_zfill PySem.F.type_str_zfill mt_zfill (pe_callTy call_str_int (by rfl) M.str boot_str (pa_Name (pv 2) pa_nil)) (pa_Name (pe_glob (v:=.int 60) rfl hfg ⟨_,rfl⟩) pa_nil)) pa_nil))))))
   (pss_one (ps_ret (pe_op op_add_str (pe_callTy call_str_int (by rfl) M.str boot_str (pa_Name (pv 0) pa_nil)) (pe_joinRev rfl pe_str (pv 1) rfl B.rv))))))),?_⟩
  exact numP_reads (K:=K) h1 h2 k
set_option maxHeartbeats 8000000 in
theorem ok_numR {f:Addr} {fd:FuncData} (F:Fun K "show_number" "show_number" s_show_number f fd) (M:Txt mg) (Gshow_number:Kn P w K mg base "show_number" 1 ["whole"] spNumP) (B:Gb mg):FnOk P w K mg base CX0 2 f fd ["whole"] spNumR:=by
 have sc:=sc_show_number
 refine F.ok sc (fun vs H Q E h => ?_) (fun cdv A outer s H vs Q E hr h => ?_)
 ·obtain ⟨n,rfl,_⟩:=h
  rfl
 ·obtain ⟨n,rfl,h1,h2,k⟩:=h
  obtain ⟨tfi,hfi⟩:=B.fi
  obtain ⟨tmo,hmo⟩:=B.mo
  obtain ⟨tbt,hbt⟩:=B.bt
  obtain ⟨tmt,hmt⟩:=B.mt
  obtain ⟨tfg,hfg⟩:=B.fg
  obtain ⟨tbo,hbo⟩:=B.bo
  refine ⟨_,(pss_cons (ps_if (pt_cmpR op_lt (pv 0) pe_int (nomark _)) (pss_one (ps_ret (pe_op op_add_str pe_str (pe_callD Gshow_number hr rfl (pa_UnaryOp (pe_un un_neg (pv 0)) pa_nil))))) pss_nil)
   (pss_cons (ps_set (i:=1) sc.nd rfl (Or.inl rfl) (pe_lst pa_nil))
   (pss_cons (ps_while PassesOwn.never (pt_cmpR op_ge (pv 0) (pe_glob (v:=.int 1000000000000000000000000000000000000000000000000000000000000) rfl hbo ⟨_,rfl⟩) (nomark _)) (pss_cons (ps_asg (pe_callB call_divmodW (by rfl) B.dm boot_divmod (pa_Name (pv 0) (pa_Name (pe_glob (v:=.int 1000000000000000000000000000000000000000000000000000000000000) rfl hbo ⟨_,rfl⟩) pa_nil))) (pg_tup rfl (pgs_cons (pg_name (i:=0) sc.nd rfl (Or.inl rfl)) (pgs_cons (pg_name (i:=2) sc.nd rfl (Or.inl rfl)) pgs_nil))))
   (pss_one (ps_expr (pe_bm PySem.F.plainAttrs_list PySem.F.slot_list_append PySem.F.type_list_append mt_append (pv 1) (pa_Call (pe_bm PySem.F.plainAttrs_str PySem.F.slot_str_zfill PySem.F.type_str_zfill mt_zfill (pe_callTy call_str_int (by rfl) M.str boot_str (pa_Name (pv 2) pa_nil)) (pa_Name (pe_glob (v:=.int 60) rfl hfg ⟨_,rfl⟩) pa_nil)) pa_nil))))))
   (pss_one (ps_ret (pe_op op_add_str (pe_callTy call_str_int (by rfl) M.str boot_str (pa_Name (pv 0) pa_nil)) (pe_joinRev rfl pe_str (pv 1) rfl B.rv))))))),?_⟩
  exact numR_reads (K:=K) h1 h2 k
abbrev s_show_row:Stmt:=top 24
theorem sc_show_row:FnScope ["row"] ["row"] (defScope s_show_row):=⟨rfl,rfl,rfl,by decide +kernel,rfl,by decide +kernel,by decide +kernel⟩
set_option maxHeartbeats 8000000 in
theorem ok_showrow {f:Addr} {fd:FuncData} (F:Fun K "show_row" "show_row" s_show_row f fd) (M:Txt mg) (Gshow_number:Kn P w K mg base "show_number" 2 ["whole"] spNumR):FnOk P w K mg base CX0 3 f fd ["row"] spShowR:=by
 have sc:=sc_show_row
 refine F.ok sc (fun vs H Q E h => ?_) (fun cdv A outer s H vs Q E hr h => ?_)
 ·obtain ⟨a,u,rfl,_⟩:=h
  rfl
 ·obtain ⟨a,u,rfl,h1,h2,h3,k⟩:=h
  refine ⟨_,(pss_one (ps_ret (pe_bm PySem.F.plainAttrs_str PySem.F.slot_str_join PySem.F.type_str_join mt_join pe_str (pa_cons (pe_compG (xs:=["whole"]) (Nb:=["row"]) rfl (pi_or (pi_list (pv 0)) (pi_tup (pv 0))) rfl (by show ∀ p ∈ (List.zip ["row"] ["row"]:List (Str × Str)),_; decide +kernel) (by decide +kernel) (fun cl C s₂ H₂ fp => (pg_name (i:=0) (by show List.Nodup (["whole", "row"]:List Str); decide +kernel) rfl (Or.inl (lookup_relabel_local rfl)) (Or.inr (lookup_relabel_local rfl)))) (fun cl C s₂ H₂ fp => pif_nil) (fun cl C s₂ H₂ fp => (pe_callD Gshow_number hr rfl (pa_Name (pv 0) pa_nil))) (by decide +kernel) rfl (by decide +kernel) (by show ∀ y ∈ (_:List (Str × NameKind)),y.2=NameKind.free→(defScope s_show_row).names.lookup y.1=some .cell; decide +kernel)) pa_nil)))),?_⟩
  exact showR_reads (K:=K) h1 h2 h3 k
abbrev s_show_sheet:Stmt:=top 25
theorem sc_show_sheet:FnScope ["sheet"] ["sheet"] (defScope s_show_sheet):=⟨rfl,rfl,rfl,by decide +kernel,rfl,by decide +kernel,by decide +kernel⟩
set_option maxHeartbeats 8000000 in
theorem ok_showsheet {f:Addr} {fd:FuncData} (F:Fun K "show_sheet" "show_sheet" s_show_sheet f fd) (M:Txt mg) (Gshow_row:Kn P w K mg base "show_row" 3 ["row"] spShowR) (B:Gb mg):FnOk P w K mg base CX0 4 f fd ["sheet"] spShowS:=by
 have sc:=sc_show_sheet
 refine F.ok sc (fun vs H Q E h => ?_) (fun cdv A outer s H vs Q E hr h => ?_)
 ·obtain ⟨a,xs,U,rfl,_⟩:=h
  rfl
 ·obtain ⟨a,xs,U,rfl,h1,h2,h3,k⟩:=h
  obtain ⟨tfi,hfi⟩:=B.fi
  obtain ⟨tmo,hmo⟩:=B.mo
  obtain ⟨tbt,hbt⟩:=B.bt
  obtain ⟨tmt,hmt⟩:=B.mt
  obtain ⟨tfg,hfg⟩:=B.fg
  obtain ⟨tbo,hbo⟩:=B.bo
  refine ⟨_,(pss_one (ps_ret (pe_bm PySem.F.plainAttrs_str PySem.F.slot_str_join PySem.F.type_str_join mt_join (pe_glob (v:=.str " / ") rfl hbt ⟨_,rfl⟩) (pa_cons (pe_compG (xs:=["triangle"]) (Nb:=["sheet"]) rfl (pi_list (pv 0)) rfl (by show ∀ p ∈ (List.zip ["sheet"] ["sheet"]:List (Str × Str)),_; decide +kernel) (by decide +kernel) (fun cl C s₂ H₂ fp => (pg_name (i:=0) (by show List.Nodup (["triangle", "sheet"]:List Str); decide +kernel) rfl (Or.inl (lookup_relabel_local rfl)) (Or.inr (lookup_relabel_local rfl)))) (fun cl C s₂ H₂ fp => pif_nil) (fun cl C s₂ H₂ fp => (pe_callD Gshow_row hr rfl (pa_Name (pv 0) pa_nil))) (by decide +kernel) rfl (by decide +kernel) (by show ∀ y ∈ (_:List (Str × NameKind)),y.2=NameKind.free→(defScope s_show_sheet).names.lookup y.1=some .cell; decide +kernel)) pa_nil)))),?_⟩
  exact showS_reads (K:=K) h1 h2 h3 k
abbrev s__law_written:Stmt:=top 43
theorem sc__law_written:FnScope ["_law_figures"] ["_law_figures"] (defScope s__law_written):=⟨rfl,rfl,rfl,by decide +kernel,rfl,by decide +kernel,by decide +kernel⟩
set_option maxHeartbeats 8000000 in
theorem ok_written {f:Addr} {fd:FuncData} (F:Fun K "_law_written" "_law_written" s__law_written f fd) (M:Txt mg):FnOk P w K mg base CX0 1 f fd ["_law_figures"] spShowR:=by
 have sc:=sc__law_written
 refine F.ok sc (fun vs H Q E h => ?_) (fun cdv A outer s H vs Q E hr h => ?_)
 ·obtain ⟨a,u,rfl,_⟩:=h
  rfl
 ·obtain ⟨a,u,rfl,h1,h2,h3,k⟩:=h
  refine ⟨_,(pss_one (ps_ret (pe_bm PySem.F.plainAttrs_str PySem.F.slot_str_join PySem.F.type_str_join mt_join pe_str (pa_cons (pe_compG (xs:=["_law_one"]) (Nb:=["_law_figures"]) rfl (pi_or (pi_list (pv 0)) (pi_tup (pv 0))) rfl (by show ∀ p ∈ (List.zip ["_law_figures"] ["_law_figures"]:List (Str × Str)),_; decide +kernel) (by decide +kernel) (fun cl C s₂ H₂ fp => (pg_name (i:=0) (by show List.Nodup (["_law_one", "_law_figures"]:List Str); decide +kernel) rfl (Or.inl (lookup_relabel_local rfl)) (Or.inr (lookup_relabel_local rfl)))) (fun cl C s₂ H₂ fp => pif_nil) (fun cl C s₂ H₂ fp => (pe_callTy call_str_int (by rfl) M.str boot_str (pa_Name (pv 0) pa_nil))) (by decide +kernel) rfl (by decide +kernel) (by show ∀ y ∈ (_:List (Str × NameKind)),y.2=NameKind.free→(defScope s__law_written).names.lookup y.1=some .cell; decide +kernel)) pa_nil)))),?_⟩
  exact writQ_reads (K:=K) h1 h2 h3 k
abbrev s__law_sheet_written:Stmt:=top 44
theorem sc__law_sheet_written:FnScope ["_law_sheet_here"] ["_law_sheet_here"] (defScope s__law_sheet_written):=⟨rfl,rfl,rfl,by decide +kernel,rfl,by decide +kernel,by decide +kernel⟩
set_option maxHeartbeats 8000000 in
theorem ok_swritten {f:Addr} {fd:FuncData} (F:Fun K "_law_sheet_written" "_law_sheet_written" s__law_sheet_written f fd) (M:Txt mg) (G_law_written:Kn P w K mg base "_law_written" 1 ["_law_figures"] spShowR):FnOk P w K mg base CX0 2 f fd ["_law_sheet_here"] spShowS:=by
 have sc:=sc__law_sheet_written
 refine F.ok sc (fun vs H Q E h => ?_) (fun cdv A outer s H vs Q E hr h => ?_)
 ·obtain ⟨a,xs,U,rfl,_⟩:=h
  rfl
 ·obtain ⟨a,xs,U,rfl,h1,h2,h3,k⟩:=h
  refine ⟨_,(pss_one (ps_ret (pe_bm PySem.F.plainAttrs_str PySem.F.slot_str_join PySem.F.type_str_join mt_join pe_str (pa_cons (pe_compG (xs:=["_law_triangle"]) (Nb:=["_law_sheet_here"]) rfl (pi_list (pv 0)) rfl (by show ∀ p ∈ (List.zip ["_law_sheet_here"] ["_law_sheet_here"]:List (Str × Str)),_; decide +kernel) (by decide +kernel) (fun cl C s₂ H₂ fp => (pg_name (i:=0) (by show List.Nodup (["_law_triangle", "_law_sheet_here"]:List Str); decide +kernel) rfl (Or.inl (lookup_relabel_local rfl)) (Or.inr (lookup_relabel_local rfl)))) (fun cl C s₂ H₂ fp => pif_nil) (fun cl C s₂ H₂ fp => (pe_callD G_law_written hr rfl (pa_Name (pv 0) pa_nil))) (by decide +kernel) rfl (by decide +kernel) (by show ∀ y ∈ (_:List (Str × NameKind)),y.2=NameKind.free→(defScope s__law_sheet_written).names.lookup y.1=some .cell; decide +kernel)) pa_nil)))),?_⟩
  exact showS_reads (K:=K) h1 h2 h3 k
abbrev s__law_kinds:Stmt:=top 45
theorem sc__law_kinds:FnScope ["_law_sheet_here", "_law_row_here", "_law_sides", "_law_triangle"] ["_law_sheet_here", "_law_row_here"] (defScope s__law_kinds):=⟨rfl,rfl,rfl,by decide +kernel,rfl,by decide +kernel,by decide +kernel⟩
set_option maxHeartbeats 8000000 in
theorem ok_kinds {f:Addr} {fd:FuncData} (F:Fun K "_law_kinds" "_law_kinds" s__law_kinds f fd) (M:Txt mg):FnOk P w K mg base CX0 1 f fd ["_law_sheet_here", "_law_row_here"] spKindsQ:=by
 have sc:=sc__law_kinds
 refine F.ok sc (fun vs H Q E h => ?_) (fun cdv A outer s H vs Q E hr h => ?_)
 ·obtain ⟨a,b,xs,U,r,rfl,_⟩:=h
  rfl
 ·obtain ⟨a,b,xs,U,r,rfl,h1,h2,h3,h4,h5,k⟩:=h
  refine ⟨_,(pss_cons (ps_if (PW.pt (pw_or (pt_not (pt_val (pe_callB (call_isinstK (T := "list") (K:=K)) (by rfl) M.isinstance boot_isinstance (pa_Name (pv 0) (pa_Name (pe_bltn (v:=.ty "list") rfl M.list boot_list rfl) pa_nil))))) (pw_or1 (pt_not (pt_val (pe_callB (call_isinstK (T := "list") (K:=K)) (by rfl) M.isinstance boot_isinstance (pa_Name (pv 1) (pa_Name (pe_bltn (v:=.ty "list") rfl M.list boot_list rfl) pa_nil)))))))) (pss_one (ps_ret pe_bl)) pss_nil)
   (pss_cons (ps_if (pt_not (pt_val (pe_callB (call_all rfl) (by rfl) M.all boot_all (pa_cons (pe_compG (xs:=["_law_triangle"]) (Nb:=["_law_sheet_here", "_law_row_here", "_law_sides", ""]) rfl (pi_list (pv 0)) rfl (by show ∀ p ∈ (List.zip ["_law_sheet_here", "_law_row_here", "_law_sides", ""] ["_law_sheet_here", "_law_row_here", "_law_sides", "_law_triangle"]:List (Str × Str)),_; decide +kernel) (by decide +kernel) (fun cl C s₂ H₂ fp => (pg_name (i:=0) (by show List.Nodup (["_law_triangle", "_law_sheet_here", "_law_row_here", "_law_sides", ""]:List Str); decide +kernel) rfl (Or.inl (lookup_relabel_local rfl)) (Or.inr (lookup_relabel_local rfl)))) (fun cl C s₂ H₂ fp => pif_nil) (fun cl C s₂ H₂ fp => (pe_callB (call_isinstK (T := "tuple") (K:=K)) (by rfl) M.isinstance boot_isinstance (pa_Name (pv 0) (pa_Name (pe_bltn (v:=.ty "tuple") rfl M.tuple boot_tuple rfl) pa_nil)))) (by decide +kernel) rfl (by decide +kernel) (by show ∀ y ∈ (_:List (Str × NameKind)),y.2=NameKind.free→(defScope s__law_kinds).names.lookup y.1=some .cell; decide +kernel)) pa_nil)))) (pss_one (ps_ret pe_bl)) pss_nil)
   (pss_cons (ps_set (i:=2) sc.nd rfl (Or.inl rfl) (pe_callTy call_list_of (by rfl) M.list boot_list (pa_Name (pv 1) pa_nil)))
   (pss_cons (ps_for PassesOwn.never rfl (pi_list (pv 0)) (pg_name (i:=3) sc.nd rfl (Or.inl rfl))
   (pss_one (ps_set (i:=2) sc.nd rfl (Or.inl rfl) (pe_op op_cat (pv 2) (pe_callTy call_list_of (by rfl) M.list boot_list (pa_Name (pv 3) pa_nil))))))
   (pss_one (ps_ret (pe_callB (call_all rfl) (by rfl) M.all boot_all (pa_cons (pe_compG (xs:=["_law_one"]) (Nb:=["_law_sheet_here", "_law_row_here", "_law_sides", "_law_triangle"]) rfl (pi_list (pv 2)) rfl (by show ∀ p ∈ (List.zip ["_law_sheet_here", "_law_row_here", "_law_sides", "_law_triangle"] ["_law_sheet_here", "_law_row_here", "_law_sides", "_law_triangle"]:List (Str × Str)),_; decide +kernel) (by decide +kernel) (fun cl C s₂ H₂ fp => (pg_name (i:=0) (by show List.Nodup (["_law_one", "_law_sheet_here", "_law_row_here", "_law_sides", "_law_triangle"]:List Str); decide +kernel) rfl (Or.inl (lookup_relabel_local rfl)) (Or.inr (lookup_relabel_local rfl)))) (fun cl C s₂ H₂ fp => pif_nil) (fun cl C s₂ H₂ fp => (pe_and (pe_callB (call_isinstK (T := "int") (K:=K)) (by rfl) M.isinstance boot_isinstance (pa_Name (pv 0) (pa_Name (pe_bltn (v:=.ty "int") rfl M.int boot_int rfl) pa_nil))) (pe_one (pe_not (pe_callB (call_isinstK (T := "bool") (K:=K)) (by rfl) M.isinstance boot_isinstance (pa_Name (pv 0) (pa_Name (pe_bltn (v:=.ty "bool") rfl M.bool boot_bool rfl) pa_nil))))))) (by decide +kernel) rfl (by decide +kernel) (by show ∀ y ∈ (_:List (Str × NameKind)),y.2=NameKind.free→(defScope s__law_kinds).names.lookup y.1=some .cell; decide +kernel)) pa_nil)))))))),?_⟩
  exact kindsQ_reads (K:=K) h1 h2 h3 h4 h5 k
end
end Toy
namespace Toy
open PySem L2 PyProof.Rows
section
variable {P:Program} {w:World} {K:PySem.W.Frag} {mg:Str→Option Value} {base:Heap} {c_CordError c_NoRow c_NoSheet c_NoText:Addr}
def spLaw (K:PySem.W.Frag):Sp:=fun vs H Q _ => ∃ (a:Addr) (ns:List Int),vs=[.ref a]∧SqL K H a (ns.map V.int)∧ns.length ≤ 63∧∀ H',Q (.bl true) H'
abbrev s_law:Stmt:=top 46
theorem sc_law:FnScope ["_law_script", "_law_k", "_law_draw", "_law_sheet_here", "_law_row_here", "_law_handed", "_law_texts", "_law_turn", "_law_one", "_law_other"] ["_law_script"] (defScope s_law):=⟨rfl,rfl,rfl,by decide +kernel,rfl,by decide +kernel,by decide +kernel⟩
set_option maxHeartbeats 8000000 in
theorem ok_law {f:Addr} {fd:FuncData} (F:Fun K "law" "law" s_law f fd) (M:Txt mg) (G_law_purse:Kn P w K mg base "_law_purse" 2 ["_law_script", "_law_at"] (spPurse K)) (G_law_sheet:Kn P w K mg base "_law_sheet" 2 ["_law_draw"] spShO) (G_law_row:Kn P w K mg base "_law_row" 3 ["_law_draw", "_law_sheet_here"] spRowE) (Gshow_sheet:Kn P w K mg base "show_sheet" 4 ["sheet"] spShowS) (Gshow_row:Kn P w K mg base "show_row" 3 ["row"] spShowR) (G_law_sheet_written:Kn P w K mg base "_law_sheet_written" 2 ["_law_sheet_here"] spShowS) (G_law_written:Kn P w K mg base "_law_written" 1 ["_law_figures"] spShowR) (Gread_sheet:KnX P w K mg base "read_sheet" 5 ["text"] (spReadX c_NoText c_NoSheet)) (Gread_row:KnX P w K mg base "read_row" 5 ["sheet", "text"] (spReadRow c_NoText c_NoRow)) (G_law_kinds:Kn P w K mg base "_law_kinds" 1 ["_law_sheet_here", "_law_row_here"] spKindsQ):FnOk P w K mg base CX0 7 f fd ["_law_script"] (spLaw K):=by
 have sc:=sc_law
 refine F.ok sc (fun vs H Q E h => ?_) (fun cdv A outer s H vs Q E hr h => ?_)
 ·obtain ⟨a,ns,rfl,_⟩:=h
  rfl
 ·obtain ⟨a,ns,rfl,hS,hl,k⟩:=h
  refine ⟨_,(pss_cons (ps_for PassesOwn.never rfl (pi_range1 rfl M.range (pa_BinOp (pe_op op_add pe_int (pe_callB (call_min2 rfl) (by rfl) M.min boot_min (pa_Constant pe_int (pa_Call (pe_callB (call_lenK (K:=K)) (by rfl) M.len PySem.boot_len (pa_Name (pv 0) pa_nil)) pa_nil)))) pa_nil)) (pg_name (i:=1) sc.nd rfl (Or.inl rfl))
   (pss_cons (ps_set (i:=2) sc.nd rfl (Or.inl rfl) (pe_callD G_law_purse hr rfl (pa_Name (pv 0) (pa_Name (pv 1) pa_nil))))
   (pss_cons (ps_set (i:=3) sc.nd rfl (Or.inl rfl) (pe_callD G_law_sheet hr rfl (pa_Name (pv 2) pa_nil)))
   (pss_cons (ps_set (i:=4) sc.nd rfl (Or.inl rfl) (pe_callD G_law_row hr rfl (pa_Name (pv 2) (pa_Name (pv 3) pa_nil))))
   (pss_cons (ps_set (i:=5) sc.nd rfl (Or.inl rfl) (pe_lst (pa_o2 (pe_callTy call_list_of (by rfl) M.list boot_list (pa_Name (pv 3) pa_nil)) (pe_callTy call_list_of (by rfl) M.list boot_list (pa_Name (pv 4) pa_nil)) pa_nil)))
   (pss_cons (ps_set (i:=6) sc.nd rfl (Or.inl rfl) (pe_lst (pa_o2 (pe_callD Gshow_sheet hr rfl (pa_Subscript (pe_ix (ix_listK (K:=K)) (pv 5) pe_int (fun _ _ => rfl)) pa_nil)) (pe_callD Gshow_row hr rfl (pa_Subscript (pe_ix (ix_listK (K:=K)) (pv 5) pe_int (fun _ _ => rfl)) pa_nil)) pa_nil)))
   (pss_cons (ps_if (PW.pt (pw_or (pt_cmpR (op_neD hr) (pv 6) (pe_lst (pa_o2 (pe_callD G_law_sheet_written hr rfl (pa_Name (pv 3) pa_nil)) (pe_callD G_law_written hr rfl (pa_Name (pv 4) pa_nil)) pa_nil)) (nomark _)) (pw_or1 (pt_cmpR (op_neD hr) (pv 5) (pe_lst (pa_o2 (pv 3) (pv 4) pa_nil)) (nomark _))))) (pss_one (ps_ret pe_bl)) pss_nil)
   (pss_one (ps_for PassesOwn.never rfl (pi_range1 rfl M.range (pa_Constant pe_int pa_nil)) (pg_name (i:=7) sc.nd rfl (Or.inl rfl))
   (pss_cons (ps_set (i:=8) sc.nd rfl (Or.inl rfl) (pe_callX Gread_sheet passN hr rfl (pa_Subscript (pe_ix (ix_listK (K:=K)) (pv 6) pe_int (fun _ _ => rfl)) pa_nil)))
   (pss_cons (ps_set (i:=9) sc.nd rfl (Or.inl rfl) (pe_callX Gread_row passN hr rfl (pa_Subscript (pe_ix (ix_listK (K:=K)) (pv 5) pe_int (fun _ _ => rfl)) (pa_Subscript (pe_ix (ix_listK (K:=K)) (pv 6) pe_int (fun _ _ => rfl)) pa_nil))))
   (pss_cons (ps_if (PW.pt (pw_or (pt_not (pt_val (pe_callD G_law_kinds hr rfl (pa_Name (pv 8) (pa_Name (pv 9) pa_nil))))) (pw_or (pt_cmpR (op_neD hr) (pv 8) (pv 3) (nomark _)) (pw_or (pt_cmpR (op_neD hr) (pv 9) (pv 4) (nomark _)) (pw_or1 (pt_cmpR (op_neD hr) (pv 5) (pe_lst (pa_o2 (pv 3) (pv 4) pa_nil)) (nomark _))))))) (pss_one (ps_ret pe_bl)) pss_nil)
   (pss_cons (ps_expr (pe_bm0 PySem.F.plainAttrs_list PySem.F.slot_list_reverse PySem.F.type_list_reverse mt_reverse (pv 8)))
   (pss_one (ps_expr (pe_bm PySem.F.plainAttrs_list PySem.F.slot_list_append PySem.F.type_list_append mt_append (pv 9) (pa_Constant pe_non pa_nil)))))))))))))))))
   (pss_one (ps_ret pe_bl))),?_⟩
  exact law80_reads (K:=K) (cT:=c_NoText) (cS:=c_NoSheet) (cR:=c_NoRow) hS k
end
theorem all_mk {l:PySem.W.OpenLaw} {w:World} {K:PySem.W.Frag} {h:Heap} {mg:Str→Option Value} {fa f0 f1 f2 f3 f4 f5 f6 f7 f8 f9 f10 f11 f12 f13 f14 f15 f16 f17 f18 f19 f20 f21 f22 f23 f24 f25 f26 f27 f28 f29 f30:Addr} {c_CordError c_NoRow c_NoSheet c_NoText:Addr} {tg_MOST_TRIANGLES tg_FIGURES tg_MOST_FIGURES tg_BETWEEN_TRIANGLES tg_FIGURES_AT_ONCE tg_BEYOND_AT_ONCE:Tok} (X:K.In h) (G:h.Ns mainGlobals mg) (hfa:mg "law" = some (.ref fa))
  {od0 an0 od1 an1 od2 an2 od3 an3 od4 an4 od5 an5 od6 an6 od7 an7 od8 an8 od9 an9 od10 an10 od11 an11 od12 an12 od13 an13 od14 an14 od15 an15 od16 an16 od17 an17 od18 an18 od19 an19 od20 an20 od21 an21 od22 an22 od23 an23 od24 an24 od25 an25 od26 an26 od27 an27 od28 an28 od29 an29 od30 an30:Option Addr} {sl0 sl1 sl2 sl3 sl4 sl5 sl6 sl7 sl8 sl9 sl10 sl11 sl12 sl13 sl14 sl15 sl16 sl17 sl18 sl19 sl20 sl21 sl22 sl23 sl24 sl25 sl26 sl27 sl28 sl29 sl30:Array (Option Value)} {oc0 kV0 dc0 pm0 cd0 ct0 oc1 kV1 dc1 pm1 cd1 ct1 oc2 kV2 dc2 pm2 cd2 ct2 oc3 kV3 dc3 pm3 cd3 ct3 oc4 kV4 dc4 pm4 cd4 ct4 oc5 kV5 dc5 pm5 cd5 ct5 oc6 kV6 dc6 pm6 cd6 ct6 oc7 kV7 dc7 pm7 cd7 ct7 oc8 kV8 dc8 pm8 cd8 ct8 oc9 kV9 dc9 pm9 cd9 ct9 oc10 kV10 dc10 pm10 cd10 ct10 oc11 kV11 dc11 pm11 cd11 ct11 oc12 kV12 dc12 pm12 cd12 ct12 oc13 kV13 dc13 pm13 cd13 ct13 oc14 kV14 dc14 pm14 cd14 ct14 oc15 kV15 dc15 pm15 cd15 ct15 oc16 kV16 dc16 pm16 cd16 ct16 oc17 kV17 dc17 pm17 cd17 ct17 oc18 kV18 dc18 pm18 cd18 ct18 oc19 kV19 dc19 pm19 cd19 ct19 oc20 kV20 dc20 pm20 cd20 ct20 oc21 kV21 dc21 pm21 cd21 ct21 oc22 kV22 dc22 pm22 cd22 ct22 oc23 kV23 dc23 pm23 cd23 ct23 oc24 kV24 dc24 pm24 cd24 ct24 oc25 kV25 dc25 pm25 cd25 ct25 oc26 kV26 dc26 pm26 cd26 ct26 oc27 kV27 dc27 pm27 cd27 ct27 oc28 kV28 dc28 pm28 cd28 ct28 oc29 kV29 dc29 pm29 cd29 ct29 oc30 kV30 dc30 pm30 cd30 ct30:Value}
  (a0:PySem.W.nsIn K mainGlobals "is_whole" = some (some (.ref f0))) (l0:K.lookup f0=some ⟨oc0,od0,.func (PySem.W.fnOf "is_whole" "is_whole" (defArgs s_is_whole) (defBody s_is_whole) (defScope s_is_whole) .none kV0 dc0 pm0 an0 cd0 ct0),sl0⟩) (c0:PySem.W.codeIn K cd0 "is_whole" = true) (k0:PySem.W.keepIn K (.ref f0)=true)
  (a1:PySem.W.nsIn K mainGlobals "is_whole_from" = some (some (.ref f1))) (l1:K.lookup f1=some ⟨oc1,od1,.func (PySem.W.fnOf "is_whole_from" "is_whole_from" (defArgs s_is_whole_from) (defBody s_is_whole_from) (defScope s_is_whole_from) .none kV1 dc1 pm1 an1 cd1 ct1),sl1⟩) (c1:PySem.W.codeIn K cd1 "is_whole_from" = true) (k1:PySem.W.keepIn K (.ref f1)=true)
  (a2:PySem.W.nsIn K mainGlobals "is_triangle" = some (some (.ref f2))) (l2:K.lookup f2=some ⟨oc2,od2,.func (PySem.W.fnOf "is_triangle" "is_triangle" (defArgs s_is_triangle) (defBody s_is_triangle) (defScope s_is_triangle) .none kV2 dc2 pm2 an2 cd2 ct2),sl2⟩) (c2:PySem.W.codeIn K cd2 "is_triangle" = true) (k2:PySem.W.keepIn K (.ref f2)=true)
  (a3:PySem.W.nsIn K mainGlobals "many_ties" = some (some (.ref f3))) (l3:K.lookup f3=some ⟨oc3,od3,.func (PySem.W.fnOf "many_ties" "many_ties" (defArgs s_many_ties) (defBody s_many_ties) (defScope s_many_ties) .none kV3 dc3 pm3 an3 cd3 ct3),sl3⟩) (c3:PySem.W.codeIn K cd3 "many_ties" = true) (k3:PySem.W.keepIn K (.ref f3)=true)
  (a4:PySem.W.nsIn K mainGlobals "is_sheet" = some (some (.ref f4))) (l4:K.lookup f4=some ⟨oc4,od4,.func (PySem.W.fnOf "is_sheet" "is_sheet" (defArgs s_is_sheet) (defBody s_is_sheet) (defScope s_is_sheet) .none kV4 dc4 pm4 an4 cd4 ct4),sl4⟩) (c4:PySem.W.codeIn K cd4 "is_sheet" = true) (k4:PySem.W.keepIn K (.ref f4)=true)
  (a5:PySem.W.nsIn K mainGlobals "crossings" = some (some (.ref f5))) (l5:K.lookup f5=some ⟨oc5,od5,.func (PySem.W.fnOf "crossings" "crossings" (defArgs s_crossings) (defBody s_crossings) (defScope s_crossings) .none kV5 dc5 pm5 an5 cd5 ct5),sl5⟩) (c5:PySem.W.codeIn K cd5 "crossings" = true) (k5:PySem.W.keepIn K (.ref f5)=true)
  (a6:PySem.W.nsIn K mainGlobals "may_cross" = some (some (.ref f6))) (l6:K.lookup f6=some ⟨oc6,od6,.func (PySem.W.fnOf "may_cross" "may_cross" (defArgs s_may_cross) (defBody s_may_cross) (defScope s_may_cross) .none kV6 dc6 pm6 an6 cd6 ct6),sl6⟩) (c6:PySem.W.codeIn K cd6 "may_cross" = true) (k6:PySem.W.keepIn K (.ref f6)=true)
  (a7:PySem.W.nsIn K mainGlobals "is_row" = some (some (.ref f7))) (l7:K.lookup f7=some ⟨oc7,od7,.func (PySem.W.fnOf "is_row" "is_row" (defArgs s_is_row) (defBody s_is_row) (defScope s_is_row) .none kV7 dc7 pm7 an7 cd7 ct7),sl7⟩) (c7:PySem.W.codeIn K cd7 "is_row" = true) (k7:PySem.W.keepIn K (.ref f7)=true)
  (a8:PySem.W.nsIn K mainGlobals "show_number" = some (some (.ref f8))) (l8:K.lookup f8=some ⟨oc8,od8,.func (PySem.W.fnOf "show_number" "show_number" (defArgs s_show_number) (defBody s_show_number) (defScope s_show_number) .none kV8 dc8 pm8 an8 cd8 ct8),sl8⟩) (c8:PySem.W.codeIn K cd8 "show_number" = true) (k8:PySem.W.keepIn K (.ref f8)=true)
  (a9:PySem.W.nsIn K mainGlobals "show_row" = some (some (.ref f9))) (l9:K.lookup f9=some ⟨oc9,od9,.func (PySem.W.fnOf "show_row" "show_row" (defArgs s_show_row) (defBody s_show_row) (defScope s_show_row) .none kV9 dc9 pm9 an9 cd9 ct9),sl9⟩) (c9:PySem.W.codeIn K cd9 "show_row" = true) (k9:PySem.W.keepIn K (.ref f9)=true)
  (a10:PySem.W.nsIn K mainGlobals "show_sheet" = some (some (.ref f10))) (l10:K.lookup f10=some ⟨oc10,od10,.func (PySem.W.fnOf "show_sheet" "show_sheet" (defArgs s_show_sheet) (defBody s_show_sheet) (defScope s_show_sheet) .none kV10 dc10 pm10 an10 cd10 ct10),sl10⟩) (c10:PySem.W.codeIn K cd10 "show_sheet" = true) (k10:PySem.W.keepIn K (.ref f10)=true)
  (a11:PySem.W.nsIn K mainGlobals "is_number" = some (some (.ref f11))) (l11:K.lookup f11=some ⟨oc11,od11,.func (PySem.W.fnOf "is_number" "is_number" (defArgs s_is_number) (defBody s_is_number) (defScope s_is_number) .none kV11 dc11 pm11 an11 cd11 ct11),sl11⟩) (c11:PySem.W.codeIn K cd11 "is_number" = true) (k11:PySem.W.keepIn K (.ref f11)=true)
  (a12:PySem.W.nsIn K mainGlobals "parts_of" = some (some (.ref f12))) (l12:K.lookup f12=some ⟨oc12,od12,.func (PySem.W.fnOf "parts_of" "parts_of" (defArgs s_parts_of) (defBody s_parts_of) (defScope s_parts_of) .none kV12 dc12 pm12 an12 cd12 ct12),sl12⟩) (c12:PySem.W.codeIn K cd12 "parts_of" = true) (k12:PySem.W.keepIn K (.ref f12)=true)
  (a13:PySem.W.nsIn K mainGlobals "numbers_of" = some (some (.ref f13))) (l13:K.lookup f13=some ⟨oc13,od13,.func (PySem.W.fnOf "numbers_of" "numbers_of" (defArgs s_numbers_of) (defBody s_numbers_of) (defScope s_numbers_of) .none kV13 dc13 pm13 an13 cd13 ct13),sl13⟩) (c13:PySem.W.codeIn K cd13 "numbers_of" = true) (k13:PySem.W.keepIn K (.ref f13)=true)
  (a14:PySem.W.nsIn K mainGlobals "triangles_of" = some (some (.ref f14))) (l14:K.lookup f14=some ⟨oc14,od14,.func (PySem.W.fnOf "triangles_of" "triangles_of" (defArgs s_triangles_of) (defBody s_triangles_of) (defScope s_triangles_of) .none kV14 dc14 pm14 an14 cd14 ct14),sl14⟩) (c14:PySem.W.codeIn K cd14 "triangles_of" = true) (k14:PySem.W.keepIn K (.ref f14)=true)
  (a15:PySem.W.nsIn K mainGlobals "sheet_of" = some (some (.ref f15))) (l15:K.lookup f15=some ⟨oc15,od15,.func (PySem.W.fnOf "sheet_of" "sheet_of" (defArgs s_sheet_of) (defBody s_sheet_of) (defScope s_sheet_of) .none kV15 dc15 pm15 an15 cd15 ct15),sl15⟩) (c15:PySem.W.codeIn K cd15 "sheet_of" = true) (k15:PySem.W.keepIn K (.ref f15)=true)
  (a16:PySem.W.nsIn K mainGlobals "row_on" = some (some (.ref f16))) (l16:K.lookup f16=some ⟨oc16,od16,.func (PySem.W.fnOf "row_on" "row_on" (defArgs s_row_on) (defBody s_row_on) (defScope s_row_on) .none kV16 dc16 pm16 an16 cd16 ct16),sl16⟩) (c16:PySem.W.codeIn K cd16 "row_on" = true) (k16:PySem.W.keepIn K (.ref f16)=true)
  (a17:PySem.W.nsIn K mainGlobals "read_sheet" = some (some (.ref f17))) (l17:K.lookup f17=some ⟨oc17,od17,.func (PySem.W.fnOf "read_sheet" "read_sheet" (defArgs s_read_sheet) (defBody s_read_sheet) (defScope s_read_sheet) .none kV17 dc17 pm17 an17 cd17 ct17),sl17⟩) (c17:PySem.W.codeIn K cd17 "read_sheet" = true) (k17:PySem.W.keepIn K (.ref f17)=true)
  (a18:PySem.W.nsIn K mainGlobals "read_row" = some (some (.ref f18))) (l18:K.lookup f18=some ⟨oc18,od18,.func (PySem.W.fnOf "read_row" "read_row" (defArgs s_read_row) (defBody s_read_row) (defScope s_read_row) .none kV18 dc18 pm18 an18 cd18 ct18),sl18⟩) (c18:PySem.W.codeIn K cd18 "read_row" = true) (k18:PySem.W.keepIn K (.ref f18)=true)
  (a19:PySem.W.nsIn K mainGlobals "_law_cell_at" = some (some (.ref f19))) (l19:K.lookup f19=some ⟨oc19,od19,.func (PySem.W.fnOf "_law_cell_at" "_law_cell_at" (defArgs s__law_cell_at) (defBody s__law_cell_at) (defScope s__law_cell_at) .none kV19 dc19 pm19 an19 cd19 ct19),sl19⟩) (c19:PySem.W.codeIn K cd19 "_law_cell_at" = true) (k19:PySem.W.keepIn K (.ref f19)=true)
  (a20:PySem.W.nsIn K mainGlobals "_law_purse" = some (some (.ref f20))) (l20:K.lookup f20=some ⟨oc20,od20,.func (PySem.W.fnOf "_law_purse" "_law_purse" (defArgs s__law_purse) (defBody s__law_purse) (defScope s__law_purse) .none kV20 dc20 pm20 an20 cd20 ct20),sl20⟩) (c20:PySem.W.codeIn K cd20 "_law_purse" = true) (k20:PySem.W.keepIn K (.ref f20)=true)
  (a21:PySem.W.nsIn K mainGlobals "_law_take" = some (some (.ref f21))) (l21:K.lookup f21=some ⟨oc21,od21,.func (PySem.W.fnOf "_law_take" "_law_take" (defArgs s__law_take) (defBody s__law_take) (defScope s__law_take) .none kV21 dc21 pm21 an21 cd21 ct21),sl21⟩) (c21:PySem.W.codeIn K cd21 "_law_take" = true) (k21:PySem.W.keepIn K (.ref f21)=true)
  (a22:PySem.W.nsIn K mainGlobals "_law_sheet" = some (some (.ref f22))) (l22:K.lookup f22=some ⟨oc22,od22,.func (PySem.W.fnOf "_law_sheet" "_law_sheet" (defArgs s__law_sheet) (defBody s__law_sheet) (defScope s__law_sheet) .none kV22 dc22 pm22 an22 cd22 ct22),sl22⟩) (c22:PySem.W.codeIn K cd22 "_law_sheet" = true) (k22:PySem.W.keepIn K (.ref f22)=true)
  (a23:PySem.W.nsIn K mainGlobals "_law_end" = some (some (.ref f23))) (l23:K.lookup f23=some ⟨oc23,od23,.func (PySem.W.fnOf "_law_end" "_law_end" (defArgs s__law_end) (defBody s__law_end) (defScope s__law_end) .none kV23 dc23 pm23 an23 cd23 ct23),sl23⟩) (c23:PySem.W.codeIn K cd23 "_law_end" = true) (k23:PySem.W.keepIn K (.ref f23)=true)
  (a24:PySem.W.nsIn K mainGlobals "_law_points" = some (some (.ref f24))) (l24:K.lookup f24=some ⟨oc24,od24,.func (PySem.W.fnOf "_law_points" "_law_points" (defArgs s__law_points) (defBody s__law_points) (defScope s__law_points) .none kV24 dc24 pm24 an24 cd24 ct24),sl24⟩) (c24:PySem.W.codeIn K cd24 "_law_points" = true) (k24:PySem.W.keepIn K (.ref f24)=true)
  (a25:PySem.W.nsIn K mainGlobals "_law_loop" = some (some (.ref f25))) (l25:K.lookup f25=some ⟨oc25,od25,.func (PySem.W.fnOf "_law_loop" "_law_loop" (defArgs s__law_loop) (defBody s__law_loop) (defScope s__law_loop) .none kV25 dc25 pm25 an25 cd25 ct25),sl25⟩) (c25:PySem.W.codeIn K cd25 "_law_loop" = true) (k25:PySem.W.keepIn K (.ref f25)=true)
  (a26:PySem.W.nsIn K mainGlobals "_law_row" = some (some (.ref f26))) (l26:K.lookup f26=some ⟨oc26,od26,.func (PySem.W.fnOf "_law_row" "_law_row" (defArgs s__law_row) (defBody s__law_row) (defScope s__law_row) .none kV26 dc26 pm26 an26 cd26 ct26),sl26⟩) (c26:PySem.W.codeIn K cd26 "_law_row" = true) (k26:PySem.W.keepIn K (.ref f26)=true)
  (a27:PySem.W.nsIn K mainGlobals "_law_written" = some (some (.ref f27))) (l27:K.lookup f27=some ⟨oc27,od27,.func (PySem.W.fnOf "_law_written" "_law_written" (defArgs s__law_written) (defBody s__law_written) (defScope s__law_written) .none kV27 dc27 pm27 an27 cd27 ct27),sl27⟩) (c27:PySem.W.codeIn K cd27 "_law_written" = true) (k27:PySem.W.keepIn K (.ref f27)=true)
  (a28:PySem.W.nsIn K mainGlobals "_law_sheet_written" = some (some (.ref f28))) (l28:K.lookup f28=some ⟨oc28,od28,.func (PySem.W.fnOf "_law_sheet_written" "_law_sheet_written" (defArgs s__law_sheet_written) (defBody s__law_sheet_written) (defScope s__law_sheet_written) .none kV28 dc28 pm28 an28 cd28 ct28),sl28⟩) (c28:PySem.W.codeIn K cd28 "_law_sheet_written" = true) (k28:PySem.W.keepIn K (.ref f28)=true)
  (a29:PySem.W.nsIn K mainGlobals "_law_kinds" = some (some (.ref f29))) (l29:K.lookup f29=some ⟨oc29,od29,.func (PySem.W.fnOf "_law_kinds" "_law_kinds" (defArgs s__law_kinds) (defBody s__law_kinds) (defScope s__law_kinds) .none kV29 dc29 pm29 an29 cd29 ct29),sl29⟩) (c29:PySem.W.codeIn K cd29 "_law_kinds" = true) (k29:PySem.W.keepIn K (.ref f29)=true)
  (a30:PySem.W.nsIn K mainGlobals "law" = some (some (.ref f30))) (l30:K.lookup f30=some ⟨oc30,od30,.func (PySem.W.fnOf "law" "law" (defArgs s_law) (defBody s_law) (defScope s_law) .none kV30 dc30 pm30 an30 cd30 ct30),sl30⟩) (c30:PySem.W.codeIn K cd30 "law" = true) (k30:PySem.W.keepIn K (.ref f30)=true)
  (n_CordError:PySem.W.nsIn K mainGlobals "CordError" = some (some (.ref c_CordError)))
  (xa_CordError:PySem.W.findIn K (.ref c_CordError) "__getattribute__" = some (some (.builtin "BaseException.__getattribute__"))) (xb_CordError:PySem.W.findIn K (.ref c_CordError) "__getattr__" = some none) (xc_CordError:PySem.W.findIn K (.ref c_CordError) "__class__" = some (some (.builtin "object.__class__"))) (xd_CordError:PySem.W.subIn K (.ref c_CordError) (.type "BaseException")=some true) (xe_CordError:PySem.W.subIn K (.ref c_CordError) (.type "object")=some true) (xf_CordError:PySem.W.typeIn K (.ref c_CordError)=some (.type "type")) (xg_CordError:PySem.W.isClsIn K c_CordError=true) (xh_CordError:PySem.W.subIn K (.ref c_CordError) (.ref c_CordError)=some true)
  (n_NoRow:PySem.W.nsIn K mainGlobals "NoRow" = some (some (.ref c_NoRow)))
  (xa_NoRow:PySem.W.findIn K (.ref c_NoRow) "__getattribute__" = some (some (.builtin "BaseException.__getattribute__"))) (xb_NoRow:PySem.W.findIn K (.ref c_NoRow) "__getattr__" = some none) (xc_NoRow:PySem.W.findIn K (.ref c_NoRow) "__class__" = some (some (.builtin "object.__class__"))) (xd_NoRow:PySem.W.subIn K (.ref c_NoRow) (.type "BaseException")=some true) (xe_NoRow:PySem.W.subIn K (.ref c_NoRow) (.type "object")=some true) (xf_NoRow:PySem.W.typeIn K (.ref c_NoRow)=some (.type "type")) (xg_NoRow:PySem.W.isClsIn K c_NoRow=true) (xh_NoRow:PySem.W.subIn K (.ref c_NoRow) (.ref c_NoRow)=some true)
  (n_NoSheet:PySem.W.nsIn K mainGlobals "NoSheet" = some (some (.ref c_NoSheet)))
  (xa_NoSheet:PySem.W.findIn K (.ref c_NoSheet) "__getattribute__" = some (some (.builtin "BaseException.__getattribute__"))) (xb_NoSheet:PySem.W.findIn K (.ref c_NoSheet) "__getattr__" = some none) (xc_NoSheet:PySem.W.findIn K (.ref c_NoSheet) "__class__" = some (some (.builtin "object.__class__"))) (xd_NoSheet:PySem.W.subIn K (.ref c_NoSheet) (.type "BaseException")=some true) (xe_NoSheet:PySem.W.subIn K (.ref c_NoSheet) (.type "object")=some true) (xf_NoSheet:PySem.W.typeIn K (.ref c_NoSheet)=some (.type "type")) (xg_NoSheet:PySem.W.isClsIn K c_NoSheet=true) (xh_NoSheet:PySem.W.subIn K (.ref c_NoSheet) (.ref c_NoSheet)=some true)
  (n_NoText:PySem.W.nsIn K mainGlobals "NoText" = some (some (.ref c_NoText)))
  (xa_NoText:PySem.W.findIn K (.ref c_NoText) "__getattribute__" = some (some (.builtin "BaseException.__getattribute__"))) (xb_NoText:PySem.W.findIn K (.ref c_NoText) "__getattr__" = some none) (xc_NoText:PySem.W.findIn K (.ref c_NoText) "__class__" = some (some (.builtin "object.__class__"))) (xd_NoText:PySem.W.subIn K (.ref c_NoText) (.type "BaseException")=some true) (xe_NoText:PySem.W.subIn K (.ref c_NoText) (.type "object")=some true) (xf_NoText:PySem.W.typeIn K (.ref c_NoText)=some (.type "type")) (xg_NoText:PySem.W.isClsIn K c_NoText=true) (xh_NoText:PySem.W.subIn K (.ref c_NoText) (.ref c_NoText)=some true)
  (e_NoText:PySem.W.excIn K c_NoText bmV "ValueError.__new__" = true) (v_NoText:PySem.W.subIn K (.ref c_NoText) (.type "ValueError")=some true)
  (s_NoText_CordError:PySem.W.subIn K (.ref c_NoText) (.ref c_CordError)=some true)
  (s_NoText_NoRow:PySem.W.subIn K (.ref c_NoText) (.ref c_NoRow)=some false)
  (s_NoText_NoSheet:PySem.W.subIn K (.ref c_NoText) (.ref c_NoSheet)=some false)
  (s_NoText_NoText:PySem.W.subIn K (.ref c_NoText) (.ref c_NoText)=some true)
  (e_NoSheet:PySem.W.excIn K c_NoSheet bmV "ValueError.__new__" = true) (v_NoSheet:PySem.W.subIn K (.ref c_NoSheet) (.type "ValueError")=some true)
  (s_NoSheet_CordError:PySem.W.subIn K (.ref c_NoSheet) (.ref c_CordError)=some true)
  (s_NoSheet_NoRow:PySem.W.subIn K (.ref c_NoSheet) (.ref c_NoRow)=some false)
  (s_NoSheet_NoSheet:PySem.W.subIn K (.ref c_NoSheet) (.ref c_NoSheet)=some true)
  (s_NoSheet_NoText:PySem.W.subIn K (.ref c_NoSheet) (.ref c_NoText)=some false)
  (e_NoRow:PySem.W.excIn K c_NoRow bmV "ValueError.__new__" = true) (v_NoRow:PySem.W.subIn K (.ref c_NoRow) (.type "ValueError")=some true)
  (s_NoRow_CordError:PySem.W.subIn K (.ref c_NoRow) (.ref c_CordError)=some true)
  (s_NoRow_NoRow:PySem.W.subIn K (.ref c_NoRow) (.ref c_NoRow)=some true)
  (s_NoRow_NoSheet:PySem.W.subIn K (.ref c_NoRow) (.ref c_NoSheet)=some false)
  (s_NoRow_NoText:PySem.W.subIn K (.ref c_NoRow) (.ref c_NoText)=some false)
  (g_abs:PySem.W.nsIn K mainGlobals "abs" = some none)
  (g_zip:PySem.W.nsIn K mainGlobals "zip" = some none)
  (g_set:PySem.W.nsIn K mainGlobals "set" = some none)
  (g_divmod:PySem.W.nsIn K mainGlobals "divmod" = some none)
  (g_reversed:PySem.W.nsIn K mainGlobals "reversed" = some none)
  (g_MOST_TRIANGLES:PySem.W.nsIn K mainGlobals "MOST_TRIANGLES" = some (some (.int 12 tg_MOST_TRIANGLES)))
  (g_FIGURES:PySem.W.nsIn K mainGlobals "FIGURES" = some (some (.str "0123456789" tg_FIGURES)))
  (g_MOST_FIGURES:PySem.W.nsIn K mainGlobals "MOST_FIGURES" = some (some (.int 60 tg_MOST_FIGURES)))
  (g_BETWEEN_TRIANGLES:PySem.W.nsIn K mainGlobals "BETWEEN_TRIANGLES" = some (some (.str " / " tg_BETWEEN_TRIANGLES)))
  (g_FIGURES_AT_ONCE:PySem.W.nsIn K mainGlobals "FIGURES_AT_ONCE" = some (some (.int 60 tg_FIGURES_AT_ONCE)))
  (g_BEYOND_AT_ONCE:PySem.W.nsIn K mainGlobals "BEYOND_AT_ONCE" = some (some (.int 1000000000000000000000000000000000000000000000000000000000000 tg_BEYOND_AT_ONCE)))
  (z_len:PySem.W.nsIn K mainGlobals "len" = some none) (z_range:PySem.W.nsIn K mainGlobals "range" = some none) (z_min:PySem.W.nsIn K mainGlobals "min" = some none) (z_max:PySem.W.nsIn K mainGlobals "max" = some none) (z_isinstance:PySem.W.nsIn K mainGlobals "isinstance" = some none) (z_bool:PySem.W.nsIn K mainGlobals "bool" = some none) (z_int:PySem.W.nsIn K mainGlobals "int" = some none) (z_tuple:PySem.W.nsIn K mainGlobals "tuple" = some none) (z_list:PySem.W.nsIn K mainGlobals "list" = some none) (z_str:PySem.W.nsIn K mainGlobals "str" = some none) (z_all:PySem.W.nsIn K mainGlobals "all" = some none) (z_sum:PySem.W.nsIn K mainGlobals "sum" = some none) (z_sorted:PySem.W.nsIn K mainGlobals "sorted" = some none) :
  ∃ fd:FuncData,(∀ (s:Shared) (v:Value),BindsTo s fd ⟨[v],[]⟩ [("_law_script",v)])∧∀ base:Heap,K.In base→base.Ns mainGlobals mg→FnOk l.prog w K mg base CX0 7 fa fd ["_law_script"] (spLaw K):=by
 have e:=hfa.symm.trans (PySem.W.mg_of X G a30)
 cases e
 have M:Txt mg:=⟨PySem.W.mg_none_of X G z_len,PySem.W.mg_none_of X G z_range,PySem.W.mg_none_of X G z_min,PySem.W.mg_none_of X G z_max,PySem.W.mg_none_of X G z_isinstance,PySem.W.mg_none_of X G z_bool,PySem.W.mg_none_of X G z_int,PySem.W.mg_none_of X G z_tuple,PySem.W.mg_none_of X G z_list,PySem.W.mg_none_of X G z_str,PySem.W.mg_none_of X G z_all,PySem.W.mg_none_of X G z_sum,PySem.W.mg_none_of X G z_sorted⟩
 have GB:Gb mg:=⟨PySem.W.mg_none_of X G g_abs,PySem.W.mg_none_of X G g_zip,PySem.W.mg_none_of X G g_set,PySem.W.mg_none_of X G g_divmod,PySem.W.mg_none_of X G g_reversed,⟨_,PySem.W.mg_of X G g_MOST_TRIANGLES⟩,⟨_,PySem.W.mg_of X G g_FIGURES⟩,⟨_,PySem.W.mg_of X G g_MOST_FIGURES⟩,⟨_,PySem.W.mg_of X G g_BETWEEN_TRIANGLES⟩,⟨_,PySem.W.mg_of X G g_FIGURES_AT_ONCE⟩,⟨_,PySem.W.mg_of X G g_BEYOND_AT_ONCE⟩⟩
 have Z:Exs K mg c_CordError c_NoRow c_NoSheet c_NoText:=⟨PySem.W.mg_of X G n_CordError,PySem.W.mg_of X G n_NoRow,PySem.W.mg_of X G n_NoSheet,PySem.W.mg_of X G n_NoText,⟨xa_CordError,xb_CordError,xc_CordError,xd_CordError,xe_CordError,xf_CordError,xg_CordError,xh_CordError⟩,⟨xa_NoRow,xb_NoRow,xc_NoRow,xd_NoRow,xe_NoRow,xf_NoRow,xg_NoRow,xh_NoRow⟩,⟨xa_NoSheet,xb_NoSheet,xc_NoSheet,xd_NoSheet,xe_NoSheet,xf_NoSheet,xg_NoSheet,xh_NoSheet⟩,⟨xa_NoText,xb_NoText,xc_NoText,xd_NoText,xe_NoText,xf_NoText,xg_NoText,xh_NoText⟩,e_NoText,e_NoSheet,e_NoRow,v_NoText,v_NoSheet,v_NoRow,s_NoText_CordError,s_NoText_NoRow,s_NoText_NoSheet,s_NoText_NoText,s_NoSheet_CordError,s_NoSheet_NoRow,s_NoSheet_NoSheet,s_NoSheet_NoText,s_NoRow_CordError,s_NoRow_NoRow,s_NoRow_NoSheet,s_NoRow_NoText⟩
 have F0:=fun_mk (st:=s_is_whole) l0 c0 k0
 have b0:=F0.binds (ps:=["thing"]) fun _ _ _ _ _ _ us hl => match us,hl with | [_],_ => rfl
 have F1:=fun_mk (st:=s_is_whole_from) l1 c1 k1
 have b1:=F1.binds (ps:=["thing", "least"]) fun _ _ _ _ _ _ us hl => match us,hl with | [_,_],_ => rfl
 have F2:=fun_mk (st:=s_is_triangle) l2 c2 k2
 have b2:=F2.binds (ps:=["thing"]) fun _ _ _ _ _ _ us hl => match us,hl with | [_],_ => rfl
 have F3:=fun_mk (st:=s_many_ties) l3 c3 k3
 have b3:=F3.binds (ps:=["sheet"]) fun _ _ _ _ _ _ us hl => match us,hl with | [_],_ => rfl
 have F4:=fun_mk (st:=s_is_sheet) l4 c4 k4
 have b4:=F4.binds (ps:=["thing"]) fun _ _ _ _ _ _ us hl => match us,hl with | [_],_ => rfl
 have F5:=fun_mk (st:=s_crossings) l5 c5 k5
 have b5:=F5.binds (ps:=["triangle", "row"]) fun _ _ _ _ _ _ us hl => match us,hl with | [_,_],_ => rfl
 have F6:=fun_mk (st:=s_may_cross) l6 c6 k6
 have b6:=F6.binds (ps:=["numbers"]) fun _ _ _ _ _ _ us hl => match us,hl with | [_],_ => rfl
 have F7:=fun_mk (st:=s_is_row) l7 c7 k7
 have b7:=F7.binds (ps:=["sheet", "thing"]) fun _ _ _ _ _ _ us hl => match us,hl with | [_,_],_ => rfl
 have F8:=fun_mk (st:=s_show_number) l8 c8 k8
 have b8:=F8.binds (ps:=["whole"]) fun _ _ _ _ _ _ us hl => match us,hl with | [_],_ => rfl
 have F9:=fun_mk (st:=s_show_row) l9 c9 k9
 have b9:=F9.binds (ps:=["row"]) fun _ _ _ _ _ _ us hl => match us,hl with | [_],_ => rfl
 have F10:=fun_mk (st:=s_show_sheet) l10 c10 k10
 have b10:=F10.binds (ps:=["sheet"]) fun _ _ _ _ _ _ us hl => match us,hl with | [_],_ => rfl
 have F11:=fun_mk (st:=s_is_number) l11 c11 k11
 have b11:=F11.binds (ps:=["text"]) fun _ _ _ _ _ _ us hl => match us,hl with | [_],_ => rfl
 have F12:=fun_mk (st:=s_parts_of) l12 c12 k12
 have b12:=F12.binds (ps:=["text", "between"]) fun _ _ _ _ _ _ us hl => match us,hl with | [_,_],_ => rfl
 have F13:=fun_mk (st:=s_numbers_of) l13 c13 k13
 have b13:=F13.binds (ps:=["text"]) fun _ _ _ _ _ _ us hl => match us,hl with | [_],_ => rfl
 have F14:=fun_mk (st:=s_triangles_of) l14 c14 k14
 have b14:=F14.binds (ps:=["text"]) fun _ _ _ _ _ _ us hl => match us,hl with | [_],_ => rfl
 have F15:=fun_mk (st:=s_sheet_of) l15 c15 k15
 have b15:=F15.binds (ps:=["triangles"]) fun _ _ _ _ _ _ us hl => match us,hl with | [_],_ => rfl
 have F16:=fun_mk (st:=s_row_on) l16 c16 k16
 have b16:=F16.binds (ps:=["sheet", "numbers"]) fun _ _ _ _ _ _ us hl => match us,hl with | [_,_],_ => rfl
 have F17:=fun_mk (st:=s_read_sheet) l17 c17 k17
 have b17:=F17.binds (ps:=["text"]) fun _ _ _ _ _ _ us hl => match us,hl with | [_],_ => rfl
 have F18:=fun_mk (st:=s_read_row) l18 c18 k18
 have b18:=F18.binds (ps:=["sheet", "text"]) fun _ _ _ _ _ _ us hl => match us,hl with | [_,_],_ => rfl
 have F19:=fun_mk (st:=s__law_cell_at) l19 c19 k19
 have b19:=F19.binds (ps:=["_law_script", "_law_k"]) fun _ _ _ _ _ _ us hl => match us,hl with | [_,_],_ => rfl
 have F20:=fun_mk (st:=s__law_purse) l20 c20 k20
 have b20:=F20.binds (ps:=["_law_script", "_law_at"]) fun _ _ _ _ _ _ us hl => match us,hl with | [_,_],_ => rfl
 have F21:=fun_mk (st:=s__law_take) l21 c21 k21
 have b21:=F21.binds (ps:=["_law_draw", "_law_many"]) fun _ _ _ _ _ _ us hl => match us,hl with | [_,_],_ => rfl
 have F22:=fun_mk (st:=s__law_sheet) l22 c22 k22
 have b22:=F22.binds (ps:=["_law_draw"]) fun _ _ _ _ _ _ us hl => match us,hl with | [_],_ => rfl
 have F23:=fun_mk (st:=s__law_end) l23 c23 k23
 have b23:=F23.binds (ps:=["_law_side", "_law_last"]) fun _ _ _ _ _ _ us hl => match us,hl with | [_,_],_ => rfl
 have F24:=fun_mk (st:=s__law_points) l24 c24 k24
 have b24:=F24.binds (ps:=["_law_sheet_here"]) fun _ _ _ _ _ _ us hl => match us,hl with | [_],_ => rfl
 have F25:=fun_mk (st:=s__law_loop) l25 c25 k25
 have b25:=F25.binds (ps:=["_law_sheet_here", "_law_heap"]) fun _ _ _ _ _ _ us hl => match us,hl with | [_,_],_ => rfl
 have F26:=fun_mk (st:=s__law_row) l26 c26 k26
 have b26:=F26.binds (ps:=["_law_draw", "_law_sheet_here"]) fun _ _ _ _ _ _ us hl => match us,hl with | [_,_],_ => rfl
 have F27:=fun_mk (st:=s__law_written) l27 c27 k27
 have b27:=F27.binds (ps:=["_law_figures"]) fun _ _ _ _ _ _ us hl => match us,hl with | [_],_ => rfl
 have F28:=fun_mk (st:=s__law_sheet_written) l28 c28 k28
 have b28:=F28.binds (ps:=["_law_sheet_here"]) fun _ _ _ _ _ _ us hl => match us,hl with | [_],_ => rfl
 have F29:=fun_mk (st:=s__law_kinds) l29 c29 k29
 have b29:=F29.binds (ps:=["_law_sheet_here", "_law_row_here"]) fun _ _ _ _ _ _ us hl => match us,hl with | [_,_],_ => rfl
 have F30:=fun_mk (st:=s_law) l30 c30 k30
 refine ⟨PySem.W.fnOf "law" "law" (defArgs s_law) (defBody s_law) (defScope s_law) .none kV30 dc30 pm30 an30 cd30 ct30,fun s v => .of_eq rfl,fun base _ _ => ?_⟩
 have G_law_cell_at:Kn l.prog w K mg base "_law_cell_at" _ ["_law_script", "_law_k"] _:=⟨⟨f19,_,ok_cell F19 M ,PySem.W.mg_of X G a19,k19,b19⟩⟩
 have G_law_purse:Kn l.prog w K mg base "_law_purse" _ ["_law_script", "_law_at"] _:=⟨⟨f20,_,ok_purse F20 M G_law_cell_at,PySem.W.mg_of X G a20,k20,b20⟩⟩
 have G_law_take:Kn l.prog w K mg base "_law_take" _ ["_law_draw", "_law_many"] _:=⟨⟨f21,_,ok_take F21 M ,PySem.W.mg_of X G a21,k21,b21⟩⟩
 have Gis_whole:Kn l.prog w K mg base "is_whole" _ ["thing"] _:=⟨⟨f0,_,ok_whole F0 M ,PySem.W.mg_of X G a0,k0,b0⟩⟩
 have Gis_whole_from:Kn l.prog w K mg base "is_whole_from" _ ["thing", "least"] _:=⟨⟨f1,_,ok_from F1 M Gis_whole,PySem.W.mg_of X G a1,k1,b1⟩⟩
 have Gis_triangle:Kn l.prog w K mg base "is_triangle" _ ["thing"] _:=⟨⟨f2,_,ok_tri F2 M Gis_whole,PySem.W.mg_of X G a2,k2,b2⟩⟩
 have Gmany_ties:Kn l.prog w K mg base "many_ties" _ ["sheet"] _:=⟨⟨f3,_,ok_ties F3 M ,PySem.W.mg_of X G a3,k3,b3⟩⟩
 have Gis_sheet:Kn l.prog w K mg base "is_sheet" _ ["thing"] _:=⟨⟨f4,_,ok_issheet F4 M Gis_triangle Gmany_ties GB,PySem.W.mg_of X G a4,k4,b4⟩⟩
 have Gcrossings:Kn l.prog w K mg base "crossings" _ ["triangle", "row"] _:=⟨⟨f5,_,ok_cross F5 M GB,PySem.W.mg_of X G a5,k5,b5⟩⟩
 have Gmay_cross:Kn l.prog w K mg base "may_cross" _ ["numbers"] _:=⟨⟨f6,_,ok_may F6 M ,PySem.W.mg_of X G a6,k6,b6⟩⟩
 have Gis_row:Kn l.prog w K mg base "is_row" _ ["sheet", "thing"] _:=⟨⟨f7,_,ok_isrow F7 M Gmany_ties Gis_whole_from Gmay_cross Gcrossings,PySem.W.mg_of X G a7,k7,b7⟩⟩
 have Gshow_number:Kn l.prog w K mg base "show_number" _ ["whole"] _:=⟨⟨f8,_,ok_num F8 M GB,PySem.W.mg_of X G a8,k8,b8⟩⟩
 have Gshow_number:Kn l.prog w K mg base "show_number" _ ["whole"] _:=⟨⟨f8,_,ok_numR F8 M Gshow_number GB,PySem.W.mg_of X G a8,k8,b8⟩⟩
 have Gshow_row:Kn l.prog w K mg base "show_row" _ ["row"] _:=⟨⟨f9,_,ok_showrow F9 M Gshow_number,PySem.W.mg_of X G a9,k9,b9⟩⟩
 have Gshow_sheet:Kn l.prog w K mg base "show_sheet" _ ["sheet"] _:=⟨⟨f10,_,ok_showsheet F10 M Gshow_row GB,PySem.W.mg_of X G a10,k10,b10⟩⟩
 have Gis_number:Kn l.prog w K mg base "is_number" _ ["text"] _:=⟨⟨f11,_,ok_isnum F11 M GB,PySem.W.mg_of X G a11,k11,b11⟩⟩
 have Gparts_of:KnX l.prog w K mg base "parts_of" _ ["text", "between"] _:=⟨⟨f12,_,ok_parts F12 M Z,PySem.W.mg_of X G a12,k12,b12⟩⟩
 have Gnumbers_of:KnX l.prog w K mg base "numbers_of" _ ["text"] _:=⟨⟨f13,_,ok_numbers F13 M Gparts_of Gis_number Z,PySem.W.mg_of X G a13,k13,b13⟩⟩
 have Gtriangles_of:KnX l.prog w K mg base "triangles_of" _ ["text"] _:=⟨⟨f14,_,ok_triangles F14 M Gparts_of Gnumbers_of GB,PySem.W.mg_of X G a14,k14,b14⟩⟩
 have Gsheet_of:KnX l.prog w K mg base "sheet_of" _ ["triangles"] _:=⟨⟨f15,_,ok_sheetof F15 M Gis_sheet Z,PySem.W.mg_of X G a15,k15,b15⟩⟩
 have Grow_on:KnX l.prog w K mg base "row_on" _ ["sheet", "numbers"] _:=⟨⟨f16,_,ok_rowon F16 M Gis_row Z,PySem.W.mg_of X G a16,k16,b16⟩⟩
 have Gread_sheet:KnX l.prog w K mg base "read_sheet" _ ["text"] _:=⟨⟨f17,_,ok_readsheet F17 M Gsheet_of Gtriangles_of,PySem.W.mg_of X G a17,k17,b17⟩⟩
 have Gread_row:KnX l.prog w K mg base "read_row" _ ["sheet", "text"] _:=⟨⟨f18,_,ok_readrow F18 M Grow_on Gnumbers_of,PySem.W.mg_of X G a18,k18,b18⟩⟩
 have G_law_sheet:Kn l.prog w K mg base "_law_sheet" _ ["_law_draw"] _:=⟨⟨f22,_,ok_sheet F22 M G_law_take,PySem.W.mg_of X G a22,k22,b22⟩⟩
 have G_law_end:Kn l.prog w K mg base "_law_end" _ ["_law_side", "_law_last"] _:=⟨⟨f23,_,ok_end F23 M GB,PySem.W.mg_of X G a23,k23,b23⟩⟩
 have G_law_points:Kn l.prog w K mg base "_law_points" _ ["_law_sheet_here"] _:=⟨⟨f24,_,ok_points F24 M G_law_end GB,PySem.W.mg_of X G a24,k24,b24⟩⟩
 have G_law_loop:Kn l.prog w K mg base "_law_loop" _ ["_law_sheet_here", "_law_heap"] _:=⟨⟨f25,_,ok_loop F25 M ,PySem.W.mg_of X G a25,k25,b25⟩⟩
 have G_law_row:Kn l.prog w K mg base "_law_row" _ ["_law_draw", "_law_sheet_here"] _:=⟨⟨f26,_,ok_row F26 M G_law_take G_law_points G_law_loop GB,PySem.W.mg_of X G a26,k26,b26⟩⟩
 have G_law_written:Kn l.prog w K mg base "_law_written" _ ["_law_figures"] _:=⟨⟨f27,_,ok_written F27 M ,PySem.W.mg_of X G a27,k27,b27⟩⟩
 have G_law_sheet_written:Kn l.prog w K mg base "_law_sheet_written" _ ["_law_sheet_here"] _:=⟨⟨f28,_,ok_swritten F28 M G_law_written,PySem.W.mg_of X G a28,k28,b28⟩⟩
 have G_law_kinds:Kn l.prog w K mg base "_law_kinds" _ ["_law_sheet_here", "_law_row_here"] _:=⟨⟨f29,_,ok_kinds F29 M ,PySem.W.mg_of X G a29,k29,b29⟩⟩
 exact ok_law F30 M G_law_purse G_law_sheet G_law_row Gshow_sheet Gshow_row G_law_sheet_written G_law_written Gread_sheet Gread_row G_law_kinds
theorem walk {l:PySem.W.OpenLaw} {q:Program} {loose:List Str} {XP:(Str→Option Value)→Heap→Prop} {YP:World→Heap→Prop} {d:DefRec} {K:Params→PySem.W.Frag} (hn:l.most=some 63) (hdf:d.params.defaults=[])
  (hY:∀ (w:World) (h:Heap),YP w h→(K w.params).In h)
  (F:∀ (w:World) (mg:Str→Option Value) (fa:Addr) (h:Heap),(K w.params).In h→h.Ns mainGlobals mg→mg d.name=some (.ref fa) →
   ∃ fd:FuncData,(∀ (s:Shared) (u:Value),BindsTo s fd ⟨[u],[]⟩ [("_law_script",u)])∧∀ base:Heap,(K w.params).In base→base.Ns mainGlobals mg→FnOk l.prog w (K w.params) mg base CX0 7 fa fd ["_law_script"] (spLaw (K w.params))) :
  PySem.W.WalkO q loose XP YP l.row.toRowW d [] (fun f vs => PySem.call f vs) :=
 L2.walk_of (n:=63) (k:=7) (x := "_law_script") (CX:=fun _ => CX0) (sp:=fun w => spLaw (K w.params)) hn (by decide) hdf ⟨rfl,by decide,by decide,rfl⟩ hY F (fun _ _ a ns hl _ hS => ⟨a,ns,rfl,hS,hl,fun _ => rfl⟩) fun _ _ _ _ _ z => z
end Toy
open PySem PySem.W PyProof.Rows
set_option maxRecDepth 100000 in
set_option maxHeartbeats 0 in
theorem PySem.Challenge.cw_farcords_k80_sheets_and_rows_there_and_b_holds : PySem.Challenge.rw_farcords_k80_sheets_and_rows_there_and_b.Holds := by
 w_on; o_law; k_head; (case hw => w_witness2)
 k_fill
 refine Toy.walk (l:=PySem.Challenge.rw_farcords_k80_sheets_and_rows_there_and_b) rfl rfl (fun w h Y => PySem.W.kIn_of Y) ?F
 case F =>
  intro w mg fa h KX G hmg
  refine' Toy.all_mk KX G hmg ?a0 ?l0 ?c0 ?k0 ?a1 ?l1 ?c1 ?k1 ?a2 ?l2 ?c2 ?k2 ?a3 ?l3 ?c3 ?k3 ?a4 ?l4 ?c4 ?k4 ?a5 ?l5 ?c5 ?k5 ?a6 ?l6 ?c6 ?k6 ?a7 ?l7 ?c7 ?k7 ?a8 ?l8 ?c8 ?k8 ?a9 ?l9 ?c9 ?k9 ?a10 ?l10 ?c10 ?k10 ?a11 ?l11 ?c11 ?k11 ?a12 ?l12 ?c12 ?k12 ?a13 ?l13 ?c13 ?k13 ?a14 ?l14 ?c14 ?k14 ?a15 ?l15 ?c15 ?k15 ?a16 ?l16 ?c16 ?k16 ?a17 ?l17 ?c17 ?k17 ?a18 ?l18 ?c18 ?k18 ?a19 ?l19 ?c19 ?k19 ?a20 ?l20 ?c20 ?k20 ?a21 ?l21 ?c21 ?k21 ?a22 ?l22 ?c22 ?k22 ?a23 ?l23 ?c23 ?k23 ?a24 ?l24 ?c24 ?k24 ?a25 ?l25 ?c25 ?k25 ?a26 ?l26 ?c26 ?k26 ?a27 ?l27 ?c27 ?k27 ?a28 ?l28 ?c28 ?k28 ?a29 ?l29 ?c29 ?k29 ?a30 ?l30 ?c30 ?k30 ?n_CordError ?xa_CordError ?xb_CordError ?xc_CordError ?xd_CordError ?xe_CordError ?xf_CordError ?xg_CordError ?xh_CordError ?n_NoRow ?xa_NoRow ?xb_NoRow ?xc_NoRow ?xd_NoRow ?xe_NoRow ?xf_NoRow ?xg_NoRow ?xh_NoRow ?n_NoSheet ?xa_NoSheet ?xb_NoSheet ?xc_NoSheet ?xd_NoSheet ?xe_NoSheet ?xf_NoSheet ?xg_NoSheet ?xh_NoSheet ?n_NoText ?xa_NoText ?xb_NoText ?xc_NoText ?xd_NoText ?xe_NoText ?xf_NoText ?xg_NoText ?xh_NoText ?e_NoText ?v_NoText ?s_NoText_CordError ?s_NoText_NoRow ?s_NoText_NoSheet ?s_NoText_NoText ?e_NoSheet ?v_NoSheet ?s_NoSheet_CordError ?s_NoSheet_NoRow ?s_NoSheet_NoSheet ?s_NoSheet_NoText ?e_NoRow ?v_NoRow ?s_NoRow_CordError ?s_NoRow_NoRow ?s_NoRow_NoSheet ?s_NoRow_NoText ?g_abs ?g_zip ?g_set ?g_divmod ?g_reversed ?g_MOST_TRIANGLES ?g_FIGURES ?g_MOST_FIGURES ?g_BETWEEN_TRIANGLES ?g_FIGURES_AT_ONCE ?g_BEYOND_AT_ONCE ?z_len ?z_range ?z_min ?z_max ?z_isinstance ?z_bool ?z_int ?z_tuple ?z_list ?z_str ?z_all ?z_sum ?z_sorted
  (case a0 => k_is)
  (case l0 => k_is)
  (case c0 => k_is)
  (case k0 => k_is)
  (case a1 => k_is)
  (case l1 => k_is)
  (case c1 => k_is)
  (case k1 => k_is)
  (case a2 => k_is)
  (case l2 => k_is)
  (case c2 => k_is)
  (case k2 => k_is)
  (case a3 => k_is)
  (case l3 => k_is)
  (case c3 => k_is)
  (case k3 => k_is)
  (case a4 => k_is)
  (case l4 => k_is)
  (case c4 => k_is)
  (case k4 => k_is)
  (case a5 => k_is)
  (case l5 => k_is)
  (case c5 => k_is)
  (case k5 => k_is)
  (case a6 => k_is)
  (case l6 => k_is)
  (case c6 => k_is)
  (case k6 => k_is)
  (case a7 => k_is)
  (case l7 => k_is)
  (case c7 => k_is)
  (case k7 => k_is)
  (case a8 => k_is)
  (case l8 => k_is)
  (case c8 => k_is)
  (case k8 => k_is)
  (case a9 => k_is)
  (case l9 => k_is)
  (case c9 => k_is)
  (case k9 => k_is)
  (case a10 => k_is)
  (case l10 => k_is)
  (case c10 => k_is)
  (case k10 => k_is)
  (case a11 => k_is)
  (case l11 => k_is)
  (case c11 => k_is)
  (case k11 => k_is)
  (case a12 => k_is)
  (case l12 => k_is)
  (case c12 => k_is)
  (case k12 => k_is)
  (case a13 => k_is)
  (case l13 => k_is)
  (case c13 => k_is)
  (case k13 => k_is)
  (case a14 => k_is)
  (case l14 => k_is)
  (case c14 => k_is)
  (case k14 => k_is)
  (case a15 => k_is)
  (case l15 => k_is)
  (case c15 => k_is)
  (case k15 => k_is)
  (case a16 => k_is)
  (case l16 => k_is)
  (case c16 => k_is)
  (case k16 => k_is)
  (case a17 => k_is)
  (case l17 => k_is)
  (case c17 => k_is)
  (case k17 => k_is)
  (case a18 => k_is)
  (case l18 => k_is)
  (case c18 => k_is)
  (case k18 => k_is)
  (case a19 => k_is)
  (case l19 => k_is)
  (case c19 => k_is)
  (case k19 => k_is)
  (case a20 => k_is)
  (case l20 => k_is)
  (case c20 => k_is)
  (case k20 => k_is)
  (case a21 => k_is)
  (case l21 => k_is)
  (case c21 => k_is)
  (case k21 => k_is)
  (case a22 => k_is)
  (case l22 => k_is)
  (case c22 => k_is)
  (case k22 => k_is)
  (case a23 => k_is)
  (case l23 => k_is)
  (case c23 => k_is)
  (case k23 => k_is)
  (case a24 => k_is)
  (case l24 => k_is)
  (case c24 => k_is)
  (case k24 => k_is)
  (case a25 => k_is)
  (case l25 => k_is)
  (case c25 => k_is)
  (case k25 => k_is)
  (case a26 => k_is)
  (case l26 => k_is)
  (case c26 => k_is)
  (case k26 => k_is)
  (case a27 => k_is)
  (case l27 => k_is)
  (case c27 => k_is)
  (case k27 => k_is)
  (case a28 => k_is)
  (case l28 => k_is)
  (case c28 => k_is)
  (case k28 => k_is)
  (case a29 => k_is)
  (case l29 => k_is)
  (case c29 => k_is)
  (case k29 => k_is)
  (case a30 => k_is)
  (case l30 => k_is)
  (case c30 => k_is)
  (case k30 => k_is)
  (case n_CordError => k_is)
  (case xa_CordError => k_is)
  (case xb_CordError => k_is)
  (case xc_CordError => k_is)
  (case xd_CordError => k_is)
  (case xe_CordError => k_is)
  (case xf_CordError => k_is)
  (case xg_CordError => k_is)
  (case xh_CordError => k_is)
  (case n_NoRow => k_is)
  (case xa_NoRow => k_is)
  (case xb_NoRow => k_is)
  (case xc_NoRow => k_is)
  (case xd_NoRow => k_is)
  (case xe_NoRow => k_is)
  (case xf_NoRow => k_is)
  (case xg_NoRow => k_is)
  (case xh_NoRow => k_is)
  (case n_NoSheet => k_is)
  (case xa_NoSheet => k_is)
  (case xb_NoSheet => k_is)
  (case xc_NoSheet => k_is)
  (case xd_NoSheet => k_is)
  (case xe_NoSheet => k_is)
  (case xf_NoSheet => k_is)
  (case xg_NoSheet => k_is)
  (case xh_NoSheet => k_is)
  (case n_NoText => k_is)
  (case xa_NoText => k_is)
  (case xb_NoText => k_is)
  (case xc_NoText => k_is)
  (case xd_NoText => k_is)
  (case xe_NoText => k_is)
  (case xf_NoText => k_is)
  (case xg_NoText => k_is)
  (case xh_NoText => k_is)
  (case e_NoText => k_exc)
  (case v_NoText => k_is)
  (case s_NoText_CordError => k_is)
  (case s_NoText_NoRow => k_is)
  (case s_NoText_NoSheet => k_is)
  (case s_NoText_NoText => k_is)
  (case e_NoSheet => k_exc)
  (case v_NoSheet => k_is)
  (case s_NoSheet_CordError => k_is)
  (case s_NoSheet_NoRow => k_is)
  (case s_NoSheet_NoSheet => k_is)
  (case s_NoSheet_NoText => k_is)
  (case e_NoRow => k_exc)
  (case v_NoRow => k_is)
  (case s_NoRow_CordError => k_is)
  (case s_NoRow_NoRow => k_is)
  (case s_NoRow_NoSheet => k_is)
  (case s_NoRow_NoText => k_is)
  (case g_abs => k_is)
  (case g_zip => k_is)
  (case g_set => k_is)
  (case g_divmod => k_is)
  (case g_reversed => k_is)
  (case g_MOST_TRIANGLES => k_is)
  (case g_FIGURES => k_is)
  (case g_MOST_FIGURES => k_is)
  (case g_BETWEEN_TRIANGLES => k_is)
  (case g_FIGURES_AT_ONCE => k_is)
  (case g_BEYOND_AT_ONCE => k_is)
  (case z_len => k_is)
  (case z_range => k_is)
  (case z_min => k_is)
  (case z_max => k_is)
  (case z_isinstance => k_is)
  (case z_bool => k_is)
  (case z_int => k_is)
  (case z_tuple => k_is)
  (case z_list => k_is)
  (case z_str => k_is)
  (case z_all => k_is)
  (case z_sum => k_is)
  (case z_sorted => k_is)
#print axioms PySem.Challenge.cw_farcords_k80_sheets_and_rows_there_and_b_holds
