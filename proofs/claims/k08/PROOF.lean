import PyProof.Rows.All
import Wide.All
import OpenK.AllK
import Wide.FinOn
import Lean
import PyProof.EqAt
import PyProof.EqKinds
import PyProof.TupleCall
import PyProof.NeData
import PyProof.SumAny
import PyProof.ReprRoads
import PyProof.CallStr
import PyProof.ReprLen
import PyProof.Rows.StrDigitsNeg
import PyProof.Rows.StrJoinMade
import PyProof.Rows.ZipGen
import PyProof.ListRange
import PyProof.TupleOfSeq
import PyProof.SetScanFacts
import PyProof.SetKind
import PyProof.Rows.SetFrom
import PyProof.SetRoads
import PyProof.Rows.SortShell
import PyProof.ListMulRoad
import PyProof.ListMulAny
import PyProof.FactsAll.tuple
import PyProof.RulesAssignMore
import PyProof.ZipIter
import PyProof.TupleIter
import PyProof.EnumFor
import PyProof.EnumMake
import PyProof.FitsBits
import KE.KDictList
import PyProof.Rows.SortShellK
import PyProof.TupleKey
import KE.KItemsList
import KE.KSortTup
import PyProof.Rows.ListMulR
import PyProof.FactsAll.list_2
import PyProof.FactsAll.list_4
import PyProof.Rows.BitMore
import PyProof.ExcArgsOwn
import PyProof.ExcAttrAll.ValueError
import PyProof.ExcBaseAll.ValueError
import PyProof.WalkInts
import PyProof.ListIndex
import PyProof.P3Eq
import PyProof.DictIter
import PyProof.MeetsDict
import PySem.Challenge.RW_farcords_k08_whole_weighings_keep_sums
def PySem.W.Fast.tw5364452037074983310:Unit:=()
def PySem.W.Fast.tw2535185682481341742:Unit:=()
def PySem.W.Fast.tw17432396715763422126:Unit:=()
def PySem.W.Fast.tw13373401721126194798:Unit:=()
def PySem.W.Fast.tw2576203952437523847:Unit:=()
def PySem.W.Fast.tw5683927741940357127:Unit:=()
def PySem.W.Fast.tw7525376311172966343:Unit:=()
def PySem.W.Fast.tw15886533056567819004:Unit:=()
def PySem.W.Fast.tw8820453722506100668:Unit:=()
def PySem.W.Fast.tw17751473832730304988:Unit:=()
def PySem.W.Fast.tw14024155293933936156:Unit:=()
def PySem.W.Fast.tw5562038984709273852:Unit:=()
def PySem.W.Fast.tw15575034770455389628:Unit:=()
def PySem.W.Fast.tw1056650553476618428:Unit:=()
def PySem.W.Fast.tw17479095040450674492:Unit:=()
def PySem.W.Fast.tw10334347102313668757:Unit:=()
def PySem.W.Fast.tw4096647560250858613:Unit:=()
def PySem.W.Fast.tw17240680722847623349:Unit:=()
def PySem.W.Fast.tw13897559931001708341:Unit:=()
def PySem.W.Fast.tw12700347443080244213:Unit:=()
def PySem.W.Fast.tw17267981908130983861:Unit:=()
def PySem.W.Fast.tw12373185075196117685:Unit:=()
def PySem.W.Fast.tw7870966386317817205:Unit:=()
def PySem.W.Fast.tw18119904007293809930:Unit:=()
def PySem.W.Fast.tw10376603660864751850:Unit:=()
def PySem.W.Fast.tw16177313710907597322:Unit:=()
def PySem.W.Fast.tw9086755481727727059:Unit:=()
def PySem.W.Fast.tw10880468736499732947:Unit:=()
def PySem.W.Fast.tw12028669291048822131:Unit:=()
def PySem.W.Fast.tw6331402322790347795:Unit:=()
def PySem.W.Fast.tw4888022151456918291:Unit:=()
def PySem.W.Fast.tw1738974091644621560:Unit:=()
def PySem.W.Fast.tw3243529209364714360:Unit:=()
def PySem.W.Fast.tw5789425049321956184:Unit:=()
def PySem.W.Fast.tw15952546253322295768:Unit:=()
def PySem.W.Fast.tw5339818418397210968:Unit:=()
def PySem.W.Fast.tw7288084365393063192:Unit:=()
def PySem.W.Fast.tw1370345321541467032:Unit:=()
def PySem.W.Fast.tw8230666762777772056:Unit:=()
def PySem.W.Fast.tw9572607970087990241:Unit:=()
def PySem.W.Fast.tw9524825483639423137:Unit:=()
def PySem.W.Fast.tw9846372841454977089:Unit:=()
def PySem.W.Fast.tw3598086008314996577:Unit:=()
def PySem.W.Fast.tw14707697923211041686:Unit:=()
def PySem.W.Fast.tw15238381015373670806:Unit:=()
def PySem.W.Fast.tw2163790154570324278:Unit:=()
def PySem.W.Fast.tw13162156971907118326:Unit:=()
def PySem.W.Fast.tw10096945214010749142:Unit:=()
def PySem.W.Fast.tw12251247004605439766:Unit:=()
def PySem.W.Fast.tw8468576001247040527:Unit:=()
def PySem.W.Fast.tw4836014870046810095:Unit:=()
def PySem.W.Fast.tw6803096680749011727:Unit:=()
def PySem.W.Fast.tw852091597753805359:Unit:=()
def PySem.W.Fast.tw3629017499375225103:Unit:=()
def PySem.W.Fast.tw18112307769121706212:Unit:=()
def PySem.W.Fast.tw1637676032746276932:Unit:=()
def PySem.W.Fast.tw16158913353544395517:Unit:=()
def PySem.W.Fast.tw2997896106504364701:Unit:=()
def PySem.W.Fast.tw14350421633152930173:Unit:=()
def PySem.W.Fast.tw6851971201188496541:Unit:=()
def PySem.W.Fast.tw5221524165158367218:Unit:=()
def PySem.W.Fast.tw13345519318104663026:Unit:=()
def PySem.W.Fast.tw14048849755932491026:Unit:=()
def PySem.W.Fast.tw13760514246949493938:Unit:=()
def PySem.W.Fast.tw2934795872394457490:Unit:=()
def PySem.W.Fast.tw1518347007222758450:Unit:=()
def PySem.W.Fast.tw8089190969704419090:Unit:=()
def PySem.W.Fast.tw6502191522873388571:Unit:=()
def PySem.W.Fast.tw17746852594401755323:Unit:=()
def PySem.W.Fast.tw891394304645693627:Unit:=()
def PySem.W.Fast.tw7205855935375863067:Unit:=()
def PySem.W.Fast.tw6131333283808676859:Unit:=()
def PySem.W.Fast.tw17226253553256273787:Unit:=()
def PySem.W.Fast.tw9405910327109511771:Unit:=()
def PySem.W.Fast.tw16586256160272877371:Unit:=()
def PySem.W.Fast.tw2150216758560786848:Unit:=()
def PySem.W.Fast.tw13495704012094217984:Unit:=()
def PySem.W.Fast.tw6125125598508222176:Unit:=()
def PySem.W.Fast.tw10808930423493184000:Unit:=()
def PySem.W.Fast.tw5431257935890081097:Unit:=()
def PySem.W.Fast.tw8572701793379583977:Unit:=()
def PySem.W.Fast.tw17894245661129520009:Unit:=()
def PySem.W.Fast.tw7795934776688991977:Unit:=()
def PySem.W.Fast.tw2830204785442249257:Unit:=()
def PySem.W.Fast.tw2193493300711221641:Unit:=()
def PySem.W.Fast.tw1596451631097691710:Unit:=()
def PySem.W.Fast.tw2150756679464886462:Unit:=()
def PySem.W.Fast.tw2457046759407948030:Unit:=()
def PySem.W.Fast.tw11424284436447964318:Unit:=()
def PySem.W.Fast.tw3126337302378037950:Unit:=()
def PySem.W.Fast.tw13738374383504028350:Unit:=()
def PySem.W.Fast.tw17642292077113525950:Unit:=()
def PySem.W.Fast.tw10958646787724757598:Unit:=()
def PySem.W.Fast.tw13185372996127498775:Unit:=()
def PySem.W.Fast.tw16900444562551720791:Unit:=()
def PySem.W.Fast.tw16455372219094353559:Unit:=()
def PySem.W.Fast.tw1119838004315672524:Unit:=()
def PySem.W.Fast.tw12577452849665377996:Unit:=()
def PySem.W.Fast.tw16099863326488385132:Unit:=()
def PySem.W.Fast.tw10717466966583663724:Unit:=()
def PySem.W.Fast.tw17999344364532357541:Unit:=()
def PySem.W.Fast.tw2294034333006781861:Unit:=()
def PySem.W.Fast.tw1586073909899109413:Unit:=()
def PySem.W.Fast.tw6222031208053250213:Unit:=()
def PySem.W.Fast.tw5029886048950208197:Unit:=()
def PySem.W.Fast.tw17549205227819664133:Unit:=()
def PySem.W.Fast.tw4387960856006463941:Unit:=()
def PySem.W.Fast.tw8021342231819567482:Unit:=()
def PySem.W.Fast.tw15618688115982923034:Unit:=()
def PySem.W.Fast.tw13112653245895748090:Unit:=()
def PySem.W.Fast.tw15965491678558763258:Unit:=()
def PySem.W.Fast.tw3722847658041566426:Unit:=()
def PySem.W.Fast.tw4992668245359460186:Unit:=()
def PySem.W.Fast.tw7266200892992364154:Unit:=()
def PySem.W.Fast.tw1127775491989522874:Unit:=()
def PySem.W.Fast.tw2087730535901499459:Unit:=()
def PySem.W.Fast.tw5388045715328517347:Unit:=()
def PySem.W.Fast.tw2275596226923600803:Unit:=()
def PySem.W.Fast.tw10740303597813635203:Unit:=()
def PySem.W.Fast.tw17847652351089536963:Unit:=()
def PySem.W.Fast.tw11640190358790745827:Unit:=()
def PySem.W.Fast.tw13453109537195525667:Unit:=()
def PySem.W.Fast.tw5364454375031983587:Unit:=()
def PySem.W.Fast.tw14326722345865687752:Unit:=()
def PySem.W.Fast.tw18282721876311961041:Unit:=()
def PySem.W.Fast.tw7968866123814531537:Unit:=()
def PySem.W.Fast.tw17532917943952388785:Unit:=()
def PySem.W.Fast.tw14477349261547422385:Unit:=()
def PySem.W.Fast.tw1686349435310676241:Unit:=()
def PySem.W.Fast.tw484118561844101937:Unit:=()
def PySem.W.Fast.tw17387626575830942321:Unit:=()
def PySem.W.Fast.tw6426598604299005382:Unit:=()
def PySem.W.Fast.tw8765366225235285350:Unit:=()
def PySem.W.Fast.tw5268434652596252774:Unit:=()
def PySem.W.Fast.tw7792477180183755718:Unit:=()
def PySem.W.Fast.tw9249507003877585670:Unit:=()
def PySem.W.Fast.tw5197268357717007647:Unit:=()
def PySem.W.Fast.tw14991532937161060575:Unit:=()
def PySem.W.Fast.tw444322626156765823:Unit:=()
def PySem.W.Fast.tw12231247405197177375:Unit:=()
def PySem.W.Fast.tw7457471239115660308:Unit:=()
def PySem.W.Fast.tw10724022492096050932:Unit:=()
def PySem.W.Fast.tw861506540210144948:Unit:=()
def PySem.W.Fast.tw13301101003858090669:Unit:=()
def PySem.W.Fast.tw1051608013510064429:Unit:=()
def PySem.W.Fast.tw17691031823697118189:Unit:=()
def PySem.W.Fast.tw3649225369203392141:Unit:=()
def PySem.W.Fast.tw12227560373513083586:Unit:=()
def PySem.W.Fast.tw10809633182280378914:Unit:=()
def PySem.W.Fast.tw529648591615270626:Unit:=()
def PySem.W.Fast.tw2960449823396834754:Unit:=()
def PySem.W.Fast.tw14862354809029201090:Unit:=()
def PySem.W.Fast.tw4861769542880169922:Unit:=()
def PySem.W.Fast.tw8195298598362390274:Unit:=()
def PySem.W.Fast.tw11726263901966950891:Unit:=()
def PySem.W.Fast.tw5508470395588072939:Unit:=()
def PySem.W.Fast.tw8421669684736940491:Unit:=()
def PySem.W.Fast.tw16038027363694147595:Unit:=()
def PySem.W.Fast.tw13737393791247878923:Unit:=()
def PySem.W.Fast.tw17760649468740181899:Unit:=()
def PySem.W.Fast.tw7814920635799295787:Unit:=()
def PySem.W.Fast.tw3407341174328644208:Unit:=()
def PySem.W.Fast.tw16079323106590019728:Unit:=()
def PySem.W.Fast.tw9770722793029550992:Unit:=()
def PySem.W.Fast.tw12100436043216055856:Unit:=()
def PySem.W.Fast.tw3635690099780080112:Unit:=()
def PySem.W.Fast.tw5865149367959971001:Unit:=()
def PySem.W.Fast.tw1518891171530027929:Unit:=()
set_option Elab.async false
set_option linter.all false
set_option maxRecDepth 100000
namespace L2
open PySem PySem.Spec PyProof.Rows
abbrev Key:=Sum Int Str
def keyIs:Key→Value→Bool
 | .inl k,v => Value.isInt k v
 | .inr x,v => Value.isStrOf x v
def keyH (w:World):Key→Int
 | .inl k => hashInt k
 | .inr x => hashStr w x
theorem keyIs_shape:∀ {k:Key} {v:Value},keyIs k v=true→(∃ i t,k=Sum.inl i∧v=Value.int i t) ∨ (∃ x t,k=Sum.inr x∧v=Value.str x t)
 | .inl i,v,h => by
  obtain ⟨t,e⟩:=Value.isInt_shape (k:=i) (v:=v) h
  exact .inl ⟨i,t,rfl,e⟩
 | .inr x,v,h => by
  obtain ⟨t,e⟩:=Value.isStrOf_shape (x:=x) (v:=v) h
  exact .inr ⟨x,t,rfl,e⟩
theorem keyIs_int (i:Int) (t:Tok):keyIs (.inl i) (.int i t)=true:=by simp [keyIs,Value.isInt]
theorem keyIs_str (x:Str) (t:Tok):keyIs (.inr x) (.str x t)=true:=by simp [keyIs,Value.isStrOf]
theorem key_ll (a b:Int):decide ((Sum.inl a:Key)=Sum.inl b)=(a == b):=by
 by_cases e:a=b
 ·subst e; simp
 ·have h : ¬ (Sum.inl a:Key)=Sum.inl b:=fun q => e (Sum.inl.inj q)
  rw [decide_eq_false h]
  exact (beq_eq_false_iff_ne.mpr e).symm
theorem key_rr (a b:Str):decide ((Sum.inr a:Key)=Sum.inr b)=decide (a=b):=by
 by_cases e:a=b
 ·subst e; simp
 ·have h : ¬ (Sum.inr a:Key)=Sum.inr b:=fun q => e (Sum.inr.inj q)
  rw [decide_eq_false h,decide_eq_false e]
theorem key_lr (a:Int) (b:Str):decide ((Sum.inl a:Key)=Sum.inr b)=false:=decide_eq_false (fun q => nomatch q)
theorem key_rl (a:Str) (b:Int):decide ((Sum.inr a:Key)=Sum.inl b)=false:=decide_eq_false (fun q => nomatch q)
def mixKind (prog:Program) (w:World):PySem.KeyKind prog w Key where
 is:=keyIs
 hash:=keyH w
 inj:=fun v a b ha hb => by
  rcases keyIs_shape ha with ⟨i,t,rfl,rfl⟩ | ⟨x,t,rfl,rfl⟩
  ·rcases keyIs_shape hb with ⟨j,u,rfl,e⟩ | ⟨y,u,rfl,e⟩
   ·injection e with e1 _; rw [e1]
   ·exact nomatch e
  ·rcases keyIs_shape hb with ⟨j,u,rfl,e⟩ | ⟨y,u,rfl,e⟩
   ·exact nomatch e
   ·injection e with e1 _; rw [e1]
 byValue:=fun k v h => by
  rcases keyIs_shape h with ⟨i,t,rfl,rfl⟩ | ⟨x,t,rfl,rfl⟩ <;> rfl
 pyHash:=fun hv h => by
  rcases keyIs_shape hv with ⟨i,t,rfl,rfl⟩ | ⟨x,t,rfl,rfl⟩
  ·exact wpAny_pyHash_int h
  ·exact wpAny_pyHash_str h
 eqBool:=fun hu hv h => by
  rcases keyIs_shape hu with ⟨i,t,rfl,rfl⟩ | ⟨x,t,rfl,rfl⟩
  ·rcases keyIs_shape hv with ⟨j,u,rfl,rfl⟩ | ⟨y,u,rfl,rfl⟩
   ·rw [key_ll] at h; exact wpAny_eqBool_int h
   ·rw [key_lr] at h; exact SeqAt.EqAt.int_str i t y u _ _ _ _ h
  ·rcases keyIs_shape hv with ⟨j,u,rfl,rfl⟩ | ⟨y,u,rfl,rfl⟩
   ·rw [key_rl] at h; exact SeqAt.EqAt.str_int x t j u _ _ _ _ h
   ·rw [key_rr] at h; exact wpAny_eqBool_str h
 «strs»:=fun k x t v h => by
  rcases keyIs_shape h with ⟨i,u,rfl,e⟩ | ⟨y,u,rfl,e⟩
  ·exact nomatch e
  ·injection e with e1 _
   subst e1
   cases v <;> rfl
theorem mixKind_int (prog:Program) (w:World) (i:Int) (t:Tok):(mixKind prog w).is (.inl i) (.int i t)=true:=keyIs_int i t
theorem mixKind_str (prog:Program) (w:World) (x:Str) (t:Tok):(mixKind prog w).is (.inr x) (.str x t)=true:=keyIs_str x t
end L2
namespace L2
open PySem PySem.Spec PyProof.Rows
inductive V where
 | non | bl (b:Bool) | int (i:Int) | str (x:Str) | byt (b:Array UInt8) | flt (b:UInt64) | ref (a:Addr) | ty (n:String)
 deriving DecidableEq
def RelV:V→Value→Prop
 | .non,u => u=Value.none
 | .bl b,u => u=Value.bool b
 | .int i,u => ∃ t,u=Value.int i t
 | .str x,u => ∃ t,u=Value.str x t
 | .byt b,u => ∃ t,u=Value.bytes b t
 | .flt b,u => ∃ t,u=Value.float b t
 | .ref a,u => u=Value.ref a
 | .ty n,u => u=Value.type n
abbrev Vals:List V→List Value→Prop:=Paired RelV
theorem Vals.length {xs:List V} {us:List Value} (r:Vals xs us):xs.length=us.length:=Paired.length r
theorem Vals.get:∀ {xs:List V} {us:List Value} {i:Nat} {x:V},Vals xs us→xs[i]? = some x→∃ u,us[i]? = some u∧RelV x u
 | _,_,_,_,.nil,e => by simp at e
 | _,_,0,_,.cons r _,e => by simp at e; subst e; exact ⟨_,rfl,r⟩
 | _,_,i + 1,x,.cons _ t,e => by
  obtain ⟨u,h1,h2⟩:=Vals.get (i:=i) (x:=x) t (by simpa using e)
  exact ⟨u,by simpa using h1,h2⟩
theorem Vals.set {x:V} {u:Value} (r:RelV x u):∀ {xs:List V} {us:List Value} (i:Nat),Vals xs us→Vals (xs.set i x) (us.set i u)
 | _,_,_,.nil => .nil
 | _,_,0,.cons _ t => .cons r t
 | _,_,i + 1,.cons q t => .cons q (Vals.set r i t)
theorem Vals.append:∀ {xs ys:List V} {us ws:List Value},Vals xs us→Vals ys ws→Vals (xs ++ ys) (us ++ ws)
 | _,_,_,_,.nil,s => s
 | _,_,_,_,.cons r t,s => .cons r (Vals.append t s)
theorem Vals.take:∀ {xs:List V} {us:List Value} (n:Nat),Vals xs us→Vals (xs.take n) (us.take n)
 | _,_,0,_ => .nil
 | _,_,_ + 1,.nil => .nil
 | _,_,n + 1,.cons r t => .cons r (Vals.take n t)
theorem Vals.drop:∀ {xs:List V} {us:List Value} (n:Nat),Vals xs us→Vals (xs.drop n) (us.drop n)
 | _,_,0,r => r
 | _,_,_ + 1,.nil => .nil
 | _,_,n + 1,.cons _ t => Vals.drop n t
def RelO:Option V→Option Value→Prop
 | some v,some u => RelV v u
 | none,none => True
 | _,_ => False
def KV {κ:Type} : List (κ × V)→List (κ × Value)→Prop:=Paired fun (p:κ × V) (q:κ × Value) => p.1=q.1∧RelV p.2 q.2
def kV:Key→V
 | .inl i => .int i
 | .inr x => .str x
inductive HO where
 | lst (xs:List V)
 | tup (xs:List V)
 | dK (kvs:List (Key × V)) | dT (kvs:List (List Key × V))
 | set (S:Int→Bool) (n:Nat)
 | ins (C dx:Addr) (fs:List (Str × V))
 | own (x:Addr)
 | xd (fs:List (Str × V))
 | met (f x:Addr)
 | rng (lo hi:Int)
 | frz (o:Obj) (u:HO)
 | tbl (ps:Array Value)
 | ext (φ:Heap→Prop)
abbrev Hp:=Addr→Option HO
def upd (H:Hp) (a:Addr) (o:HO):Hp:=fun b => if b=a then some o else H b
theorem upd_same {H:Hp} {a:Addr} {o:HO} : upd H a o a=some o:=by unfold upd; rw [if_pos rfl]
theorem upd_ne {H:Hp} {a b:Addr} {o:HO} (h:b ≠ a):upd H a o b=H b:=by unfold upd; rw [if_neg h]
theorem ne_of {H:Hp} {a b:Addr} {o u:HO} (h:H a=some o) (h' : H b=some u) (d:o ≠ u):a ≠ b:=by
 intro e; subst e; rw [h] at h'; exact d (Option.some.inj h')
theorem ne_of_none {H:Hp} {a b:Addr} {o:HO} (h:H a=some o) (h' : H b=none):a ≠ b:=by
 intro e; subst e; rw [h] at h'; cases h'
section
variable (P:Program) (w:World)
def ObjOk (H:Hp) (h:Heap) (a:Addr):HO→Prop
 | .lst xs => xs.length ≤ sizeLine∧∃ (its:List Value) (n:Nat),Vals xs its∧h.get? a=some { cls:=.type "list",data:=.seq its.toArray n }
 | .tup xs => xs.length ≤ sizeLine∧∃ its:List Value,Vals xs its∧IsTup h a its.toArray
 | .dK kvs => kvs.length ≤ sizeLine∧(a == sysModules)=false∧∃ vs,KV kvs vs∧h.DictOf (mixKind P w) a vs
 | .dT kvs => kvs.length ≤ sizeLine∧(a == sysModules)=false∧∃ xs:List (List Key × Addr × Value),
   Paired (fun (p:List Key × V) (q:List Key × Addr × Value) => p.1=q.1∧H q.2.1=some (.tup (p.1.map kV))∧RelV p.2 q.2.2) kvs xs ∧
   ∃ o es ep,h.get? a=some o∧o.ExactDict∧o.data = .dict es ep∧es.toList=xs.map (entryOfKey (tupleKind (mixKind P w)))∧(xs.map (·.1)).Nodup
 | .set S n => h.SetOf (intKind P w) a S n
 | .ins C dx fs => H dx=some (.own a)∧fs.length ≤ 1000∧dx ≠ a∧h.get? a=some (PySem.W.instObj C dx) ∧
   ∃ mA,h.Ns1 dx mA∧(∀ f,RelO (fs.lookup f) (mA f))∧PySem.Within mA (fs.map (·.1))
 | .own _ => ∃ o,h.get? a=some o
 | .xd fs => ∃ mA,h.Ns1 a mA∧∀ f,RelO (fs.lookup f) (mA f)
 | .rng lo hi => ∃ t u v,h.get? a=some { cls:=.type "range",data:=.fields #[.int lo t,.int hi u,.int 1 v] }
 | .frz o u => h.get? a=some o∧ObjOk H h a u
 | .tbl ps => h.get? a=some { cls:=.none,data:=.fields ps }
 | .met f x => h.get? a=some (PySem.W.methodObj (.ref f) (.ref x))
 | .ext φ => φ h∧(∃ o,h.get? a=some o)∧∀ h1 h2:Heap,φ h1→(∀ o,h1.get? a=some o→h2.get? a=some o)→φ h2
def HOk (H:Hp) (h:Heap):Prop:=∀ a o,H a=some o→ObjOk P w H h a o
end
section
variable {P:Program} {w:World} {H H' : Hp} {h h' : Heap} {a:Addr} {o:HO}
theorem ObjOk.lt (x:ObjOk P w H h a o):a < h.objs.size:=by
 cases o with
 | lst xs => obtain ⟨_,_,_,_,e⟩:=x; exact Heap.lt_size e
 | tup xs => obtain ⟨_,_,_,p⟩:=x; exact p.lt
 | dK kvs => obtain ⟨_,_,_,_,o,_,_,e,_⟩:=x; exact Heap.lt_size e
 | dT kvs => obtain ⟨_,_,_,_,o,_,_,e,_⟩:=x; exact Heap.lt_size e
 | set S n => obtain ⟨o,_,_,_,e,_⟩:=x; exact Heap.lt_size e
 | ins C dx fs => obtain ⟨_,_,_,e,_⟩:=x; exact Heap.lt_size e
 | own y => obtain ⟨_,e⟩:=x; exact Heap.lt_size e
 | xd fs => obtain ⟨_,⟨_,_,_,e,_⟩,_⟩:=x; exact Heap.lt_size e
 | rng lo hi => obtain ⟨_,_,_,e⟩:=x; exact Heap.lt_size e
 | frz ob u => obtain ⟨e,_⟩:=x; exact Heap.lt_size e
 | tbl ps => exact Heap.lt_size (show h.get? a=some _ from x)
 | met f y => exact Heap.lt_size (show h.get? a=some _ from x)
 | ext φ => obtain ⟨_,⟨_,e⟩,_⟩:=x; exact Heap.lt_size e
theorem Paired.mapP {α β:Type} {F G:α→β→Prop} : ∀ {l₁:List α} {l₂:List β},Paired F l₁ l₂→(∀ a b,F a b→G a b)→Paired G l₁ l₂
 | _,_,.nil,_ => .nil
 | _,_,.cons r t,f => .cons (f _ _ r) (Paired.mapP t f)
theorem ObjOk.stay (x:ObjOk P w H h a o) (k:∀ b u,(b=a ∨ H b=some (.own a))→h.get? b=some u→h'.get? b=some u)
  (ho:∀ b,H b=some (.own a)→H' b=some (.own a)) (ht:∀ b xs,H b=some (.tup xs)→H' b=some (.tup xs)):ObjOk P w H' h' a o:=by
 induction o with
 | lst xs => obtain ⟨z,its,n,r,e⟩:=x; exact ⟨z,its,n,r,k _ _ (.inl rfl) e⟩
 | tup xs => obtain ⟨z,its,r,ob,e,c⟩:=x; exact ⟨z,its,r,ob,k _ _ (.inl rfl) e,c⟩
 | dK kvs => obtain ⟨z,y,vs,r,ob,es,ep,e,c⟩:=x; exact ⟨z,y,vs,r,ob,es,ep,k _ _ (.inl rfl) e,c⟩
 | dT kvs =>
  obtain ⟨z,y,xs,r,ob,es,ep,e,c⟩:=x
  exact ⟨z,y,xs,Paired.mapP r fun p q z => ⟨z.1,ht _ _ z.2.1,z.2.2⟩,ob,es,ep,k _ _ (.inl rfl) e,c⟩
 | set S n => obtain ⟨ob,es,ep,t,e,c⟩:=x; exact ⟨ob,es,ep,t,k _ _ (.inl rfl) e,c⟩
 | ins C dx fs =>
  obtain ⟨d,z,ne,e,mA,⟨od,es,ep,e2,c⟩,r⟩:=x
  exact ⟨ho _ d,z,ne,k _ _ (.inl rfl) e,mA,⟨od,es,ep,k _ _ (.inr d) e2,c⟩,r⟩
 | own y => obtain ⟨ob,e⟩:=x; exact ⟨ob,k _ _ (.inl rfl) e⟩
 | xd fs => obtain ⟨mA,⟨od,es,ep,e,c⟩,r⟩:=x; exact ⟨mA,⟨od,es,ep,k _ _ (.inl rfl) e,c⟩,r⟩
 | rng lo hi => obtain ⟨t,u,v,e⟩:=x; exact ⟨t,u,v,k _ _ (.inl rfl) e⟩
 | frz ob u ih => obtain ⟨e,q⟩:=x; exact ⟨k _ _ (.inl rfl) e,ih q⟩
 | tbl ps =>
  have e:h.get? a=some { cls:=.none,data:=.fields ps }:=x
  show h'.get? a=some { cls:=.none,data:=.fields ps }
  exact k a _ (.inl rfl) e
 | met f y =>
  have e:h.get? a=some (PySem.W.methodObj (.ref f) (.ref y)):=x
  show h'.get? a=some (PySem.W.methodObj (.ref f) (.ref y))
  exact k a _ (.inl rfl) e
 | ext φ => obtain ⟨p,⟨o,e⟩,st⟩:=x; exact ⟨st _ _ p fun o q => k _ _ (.inl rfl) q,⟨o,k _ _ (.inl rfl) e⟩,st⟩
theorem HOk.lt (x:HOk P w H h) (e:H a=some o):a < h.objs.size:=(x a o e).lt
theorem HOk.fresh (x:HOk P w H h) (e:h.objs.size ≤ a):H a=none:=by
 cases q:H a with
 | none => rfl
 | some u => exact absurd (Nat.lt_of_lt_of_le (x.lt q) e) (Nat.lt_irrefl _)
theorem HOk.kept (x:HOk P w H h) (k:∀ b u,h.get? b=some u→h'.get? b=some u):HOk P w H h':=fun a o e =>
 (x a o e).stay (fun b u _ q => k b u q) (fun _ q => q) fun _ _ q => q
theorem HOk.laid (x:HOk P w H h) (k:∀ b u,h.get? b=some u→h'.get? b=some u) (hp:h.objs.size ≤ a) (new:ObjOk P w (upd H a o) h' a o):HOk P w (upd H a o) h':=fun b u e => by
 have hn:=x.fresh hp
 by_cases hb:b=a
 ·subst hb; rw [upd_same] at e; cases e; exact new
 ·rw [upd_ne hb] at e
  exact (x b u e).stay (fun c v _ q => k c v q) (fun c q => by rw [upd_ne (ne_of_none q hn)]; exact q) fun c xs q => by rw [upd_ne (ne_of_none q hn)]; exact q
end
def Rd (H:Hp) (a:Addr) (u:HO):Prop:=H a=some u ∨ ∃ o,H a=some (.frz o u)
theorem Rd.ok {P:Program} {w:World} {H:Hp} {h:Heap} {a:Addr} {u:HO} (r:Rd H a u) (x:HOk P w H h):ObjOk P w H h a u:=by
 rcases r with r | ⟨o,r⟩
 ·exact x a u r
 ·obtain ⟨_,q⟩:=x a _ r
  exact q
def Mut:Option HO→Prop
 | some (.lst _) => True
 | some (.dK _) => True
 | some (.dT _) => True
 | some (.set _ _) => True
 | some (.ins _ _ _) => True
 | some (.ext _) => True
 | _ => False
section
variable {P:Program} {w:World} {H:Hp} {h h' : Heap} {x e:Addr} {o' : HO}
theorem HOk.write (ok:HOk P w H h) (mu:Mut (H x)) (he:e=x ∨ H e=some (.own x)) (k:∀ b u,b ≠ e→h.get? b=some u→h'.get? b=some u) (heo:∃ u,h'.get? e=some u)
  (new:ObjOk P w (upd H x o') h' x o'):HOk P w (upd H x o') h':=fun b u q => by
 have nown:∀ c y,H c=some (.own y)→c ≠ x:=fun c y r z => by subst z; rw [r] at mu; exact mu
 have ntup:∀ c xs,H c=some (.tup xs)→c ≠ x:=fun c xs r z => by subst z; rw [r] at mu; exact mu
 by_cases hb:b=x
 ·subst hb; rw [upd_same] at q; cases q; exact new
 ·rw [upd_ne hb] at q
  by_cases hbe:b=e
  ·have q' : H b=some (.own x):=by
    rcases he with z | z
    ·exact absurd (hbe.trans z) hb
    ·rw [hbe]; exact z
   rw [q] at q'; cases q'
   obtain ⟨v,hv⟩:=heo
   exact ⟨v,by rw [hbe]; exact hv⟩
  ·refine (ok b u q).stay (fun c v hc r => k c v ?_ r) (fun c r => by rw [upd_ne (nown c b r)]; exact r) fun c xs r => by rw [upd_ne (ntup c xs r)]; exact r
   rcases hc with rfl | hc
   ·exact hbe
   ·rintro rfl
    rcases he with z | z
    ·exact nown c b hc z
    ·rw [hc] at z; cases z; exact hb rfl
end
structure Un (fs ex:List Addr) (H H' : Hp) (h h' : Heap):Prop where
 keep:∀ b o,h.get? b=some o→H b=none→b ∉ fs→b ∉ ex→h'.get? b=some o
 slot:∀ b o,h.get? b=some o→H b=none→b ∈ fs→b ∉ ex→∃ sl,h'.get? b=some { o with slots:=sl }
 free:∀ b o,h.get? b=some o→H b=none→b ∉ ex→H' b=none
 there:∀ b o,h.get? b=some o→b ∉ ex→∃ o',h'.get? b=some o'
 tups:∀ b xs,H b=some (.tup xs)→H' b=some (.tup xs)
 frzs:∀ b o u,H b=some (.frz o u)→H' b=some (.frz o u)
 tbls:∀ b ps,H b=some (.tbl ps)→∃ more,H' b=some (.tbl (ps ++ more))
section
variable {fs fs' ex ex' : List Addr} {H H1 H2:Hp} {h h1 h2 h' : Heap} {a x e:Addr} {o:HO}
theorem Un.any (u:Un fs ex H H1 h h1) {b:Addr} {ob:Obj} (q:h.get? b=some ob) (n:H b=none) (hx:b ∉ ex):∃ sl,h1.get? b=some { ob with slots:=sl }:=by
 by_cases hb:b ∈ fs
 ·exact u.slot b ob q n hb hx
 ·exact ⟨ob.slots,u.keep b ob q n hb hx⟩
theorem Un.kept (k:∀ b u,h.get? b=some u→h'.get? b=some u):Un fs ex H H h h' :=
 ⟨fun b ob q _ _ _ => k b ob q,fun b ob q _ _ _ => ⟨ob.slots,k b ob q⟩,fun _ _ _ n _ => n,fun b ob q _ => ⟨ob,k b ob q⟩,fun _ _ q => q,fun _ _ _ q => q,fun _ ps q => ⟨#[],by rw [q]; simp⟩⟩
theorem Un.refl:Un fs ex H H h h:=Un.kept fun _ _ q => q
theorem Un.laid (k:∀ b u,h.get? b=some u→h'.get? b=some u) (hp:h.objs.size ≤ a) (hn:H a=none):Un fs ex H (upd H a o) h h' where
 keep:=fun b u q _ _ _ => k b u q
 slot:=fun b u q _ _ _ => ⟨u.slots,k b u q⟩
 free:=fun b u q n _ => by rw [upd_ne (Nat.ne_of_lt (Nat.lt_of_lt_of_le (Heap.lt_size q) hp))]; exact n
 there:=fun b u q _ => ⟨u,k b u q⟩
 tups:=fun b xs q => by rw [upd_ne (ne_of_none q hn)]; exact q
 frzs:=fun b u xs q => by rw [upd_ne (ne_of_none q hn)]; exact q
 tbls:=fun b ps q => ⟨#[],by rw [upd_ne (ne_of_none q hn),q]; simp⟩
theorem Un.write (mu:Mut (H x)) (he:e=x ∨ H e=some (.own x)) (k:∀ b u,b ≠ e→h.get? b=some u→h'.get? b=some u) (heo:∃ u,h'.get? e=some u):Un fs ex H (upd H x o) h h':=by
 have hx:∀ b,H b=none→b ≠ x:=fun b n z => by subst z; rw [n] at mu; exact mu
 have hb:∀ b,H b=none→b ≠ e:=fun b n z => by
  subst z
  rcases he with r | r
  ·exact hx b n r
  ·rw [n] at r; cases r
 have hm:∀ b u,H b=some u→¬ Mut (some u)→b ≠ x:=fun b u q nm z => by subst z; rw [q] at mu; exact nm mu
 refine ⟨fun b u q n _ _ => k b u (hb b n) q,fun b u q n _ _ => ⟨u.slots,k b u (hb b n) q⟩,fun b u q n _ => by rw [upd_ne (hx b n)]; exact n,fun b u q _ => ?_,
  fun b xs q => by rw [upd_ne (hm b _ q fun z => z)]; exact q,fun b u xs q => by rw [upd_ne (hm b _ q fun z => z)]; exact q,fun b ps q => ⟨#[],by rw [upd_ne (hm b _ q fun z => z),q]; simp⟩⟩
 by_cases hbe:b=e
 ·subst hbe; exact heo
 ·exact ⟨u,k b u hbe q⟩
end
def trk (h:Heap) (H:Hp):List Addr:=(List.range h.objs.size).filter fun a => (H a).isSome
def hidT (h:Heap) (H:Hp):Heap:=PySem.W.hideAll h (trk h H)
theorem hidT_size (h:Heap) (H:Hp):(hidT h H).objs.size=h.objs.size:=PySem.W.hideAll_size _ _
theorem hidT_get {h:Heap} {H:Hp} {b:Addr} {o:Obj} (e:h.get? b=some o) (n:H b=none):(hidT h H).get? b=some o :=
 PySem.W.hideAll_get _ e fun hm => by
  have q:(H b).isSome=true:=(List.mem_filter.mp hm).2
  rw [n] at q; simp at q
theorem of_hidT {h:Heap} {H:Hp} {b:Addr} {o:Obj} (e:(hidT h H).get? b=some o):h.get? b=some o∧H b=none:=by
 have e' : h.get? b=some o:=PySem.W.of_hideAll (trk h H) e
 refine ⟨e',?_⟩
 cases q:H b with
 | none => rfl
 | some x =>
  have hm:b ∈ trk h H:=List.mem_filter.mpr ⟨List.mem_range.mpr (Heap.lt_size e'),by simp [q]⟩
  have z:(hidT h H).get? b=none:=PySem.W.hideAll_none (trk h H) hm
  rw [z] at e; cases e
def allNews (g h:Heap) (L:Addr):List (Addr × Obj):=(List.range h.objs.size).filterMap fun a => if a=L ∨ (g.get? a).isSome=true then none else (h.get? a).map fun o => (a,o)
def rest (g h:Heap) (L d:Addr):List (Addr × Obj):=(allNews g h L).filter fun p => decide (p.1 ≠ d)
end L2
namespace L2
open PySem PySem.Spec PyProof.Rows
structure Mod (K:PySem.W.Frag) (mg:Str→Option Value) (base:Heap):Prop where
 kin:K.In base
 glob:base.Ns mainGlobals mg
 blt:∃ mb,base.Ns builtinsNs mb∧∀ x:Str,x ≠ "__name__" → mb x=bootBuiltins x
 nolimit:base.NoLimit
structure Cx where
 prog:Program
 w:World
 K:PySem.W.Frag
 mg:Str→Option Value
 base:Heap
 A:Around
 N:List Str
 s₀:Shared
 H₀:Hp
 env:Env
 outer:List Env
 stack:List Env
 ex:List Addr
 fn:Str→Bool
 calm:Bool
 pn:List (Addr × Obj)
 xe:Value→Shared→Prop
def frs (l:List Env):List Addr:=l.filterMap (·.frame)
abbrev Cx.fs (X:Cx):List Addr:=frs X.outer
def Vis (sc:Scope) (x:Str):Prop:=sc.names.lookup x=some .local ∨ sc.names.lookup x=some .cell ∨ sc.names.lookup x=some .free
def Loc (sc:Scope) (x:Str):Prop:=sc.names.lookup x=some .local ∨ sc.names.lookup x=some .cell
def Look (env:Env) (h:Heap) (m:Str→Option Value) (x:Str) (u:Value):Prop :=
 (env.kindOf x=some .local∧m x=some u) ∨ ((env.kindOf x=some .cell ∨ env.kindOf x=some .free)∧∃ c,env.cells.lookup x=some c∧h.IsCell c (some u))
structure Cx.Ok (X:Cx):Prop where
 mod:Mod X.K X.mg X.base
 kind:X.env.scope.kind = .function
 glob:X.env.globals=mainGlobals
 blt:X.env.builtins=builtinsNs
 above:X.s₀.heap.objs.size ≤ X.env.locals
 inj:∀ x y c,X.env.cells.lookup x=some c→X.env.cells.lookup y=some c→x=y
 has:∀ x,(X.env.kindOf x=some .cell ∨ X.env.kindOf x=some .free)→∃ c,X.env.cells.lookup x=some c
 cab:∀ x c,X.fn x=true→X.env.cells.lookup x=some c→X.s₀.heap.objs.size ≤ c
 hd:X.calm=true→X.A.handled=none
 frames:X.A.frames=some X.stack
 stk:X.stack=X.outer ∨ (X.stack=X.env :: X.outer∧X.env.frame=some X.env.locals)
 exf:∀ b ∈ X.ex,b ≠ X.env.locals∧∀ x c,X.env.cells.lookup x=some c→c ≠ b
 bs:∀ b o,X.base.get? b=some o→X.s₀.heap.get? b=some o∧X.H₀ b=none
 bsz:X.base.objs.size ≤ X.s₀.heap.objs.size
 noex:∀ b o,X.base.get? b=some o→b ∉ X.ex
 exfs:∀ b ∈ X.ex,b ∉ X.fs
 funs:X.s₀.heap.FunFrames X.base X.outer
 frf:∀ b ∈ X.fs,X.H₀ b=none
structure Inv (X:Cx) (pins:List (Addr × Obj)) (σ:List (Option V)) (H:Hp) (s:Shared):Prop where
 ok:X.Ok
 os:s.os=X.s₀.os
 bare:AllBare s.gens
 base:Un X.fs X.ex X.H₀ H X.s₀.heap s.heap
 loc:∃ m,s.heap.Ns X.env.locals m∧∀ (i:Nat) (x:Str) (v:V),X.N[i]? = some x→σ[i]? = some (some v)→Vis X.env.scope x→∃ u,RelV v u∧Look X.env s.heap m x u
 cell:∀ x c,X.env.cells.lookup x=some c→∃ v,s.heap.IsCell c v
 free:H X.env.locals=none
 freeC:∀ x c,X.env.cells.lookup x=some c→H c=none
 pin:∀ p ∈ X.pn ++ pins,s.heap.get? p.1=some p.2∧H p.1=none∧p.1 ≠ X.env.locals∧p.1 ∉ X.fs∧∀ v,p.2.data ≠ .cell v
 hok:HOk X.prog X.w H s.heap
 len:σ.length=X.N.length
section
variable {X:Cx} {pins:List (Addr × Obj)} {σ:List (Option V)} {H H' : Hp} {s:Shared} {h' : Heap}
theorem Cx.Ok.nofr (ok:X.Ok) {b:Addr} {o:Obj} (e:X.base.get? b=some o):b ∉ X.fs:=fun hb => by
 have:=(ok.funs.mem hb).1
 rw [e] at this; cases this
theorem Inv.bs (I:Inv X pins σ H s):∀ b o,X.base.get? b=some o→s.heap.get? b=some o∧H b=none:=fun b o e =>
 ⟨I.base.keep b o (I.ok.bs b o e).1 (I.ok.bs b o e).2 (I.ok.nofr e) (I.ok.noex b o e),I.base.free b o (I.ok.bs b o e).1 (I.ok.bs b o e).2 (I.ok.noex b o e)⟩
theorem Inv.bk (I:Inv X pins σ H s):∀ b o,X.base.get? b=some o→s.heap.get? b=some o:=fun b o e => (I.bs b o e).1
theorem Inv.mod (I:Inv X pins σ H s):Mod X.K X.mg X.base:=I.ok.mod
theorem Inv.kIn (I:Inv X pins σ H s):X.K.In s.heap:=I.ok.mod.kin.keeps I.bk
theorem Inv.lt (I:Inv X pins σ H s):X.env.locals < s.heap.objs.size:=let ⟨_,hn,_⟩:=I.loc; hn.lt
theorem Inv.sz (I:Inv X pins σ H s):X.s₀.heap.objs.size ≤ s.heap.objs.size:=Nat.le_trans I.ok.above (Nat.le_of_lt I.lt)
theorem Inv.nofs (I:Inv X pins σ H s) {a:Addr} (h:s.heap.objs.size ≤ a):a ∉ X.fs:=fun hb => by
 obtain ⟨_,o,ho,_⟩:=I.ok.funs.mem hb
 exact absurd (Nat.lt_of_lt_of_le (Heap.lt_size ho) (Nat.le_trans I.sz h)) (Nat.lt_irrefl _)
theorem Inv.cne (I:Inv X pins σ H s):∀ x c,X.env.cells.lookup x=some c→c ≠ X.env.locals:=fun x c e z => by
 obtain ⟨v,o,ho,hd⟩:=I.cell x c e
 obtain ⟨m,⟨o',es,ep,ho',hd',_⟩,_⟩:=I.loc
 rw [z,ho'] at ho; cases ho; rw [hd'] at hd; cases hd
theorem Inv.funs (I:Inv X pins σ H s):s.heap.FunFrames X.base X.outer:=by
 have all:∀ (l:List Env),(∀ b ∈ frs l,b ∈ X.fs)→X.s₀.heap.FunFrames X.base l→s.heap.FunFrames X.base l:=by
  intro l
  induction l with
  | nil => intro _ _; trivial
  | cons env r ih =>
   intro hs hl
   obtain ⟨hk,⟨L,o,hf,hn,ho,hd⟩,hr⟩:=hl
   have hL:L ∈ X.fs:=hs L (by unfold frs; rw [List.filterMap_cons,hf]; exact List.mem_cons_self)
   obtain ⟨sl,e⟩:=I.base.slot L o ho (I.ok.frf L hL) hL fun z => I.ok.exfs L z hL
   exact ⟨hk,⟨L,_,hf,hn,e,hd⟩,ih (fun b hb => hs b (by unfold frs; rw [List.filterMap_cons,hf]; exact List.mem_cons_of_mem _ hb)) hr⟩
 exact all X.outer (fun _ hb => hb) I.ok.funs
theorem Inv.stack (I:Inv X pins σ H s):s.heap.FunFrames X.base X.stack:=by
 rcases I.ok.stk with e | ⟨e,hf⟩
 ·rw [e]; exact I.funs
 ·rw [e]
  obtain ⟨m,hn,_⟩:=I.loc
  refine .cons (by rw [I.ok.kind]; decide) hf hn ?_ I.funs
  exact Heap.get?_none_of_le (Nat.le_trans I.ok.bsz I.ok.above)
theorem Inv.stkSub (I:Inv X pins σ H s):∀ b ∈ frs X.stack,b ∈ X.env.locals :: X.fs:=fun b hb => by
 rcases I.ok.stk with e | ⟨e,hf⟩
 ·rw [e] at hb; exact List.mem_cons_of_mem _ hb
 ·rw [e] at hb
  unfold frs at hb
  rw [List.filterMap_cons,hf] at hb
  exact hb
theorem Inv.stkFree (I:Inv X pins σ H s):∀ b ∈ frs X.stack,H b=none:=fun b hb => by
 rcases List.mem_cons.mp (I.stkSub b hb) with e | hb
 ·rw [e]; exact I.free
 ·obtain ⟨_,o,ho,_⟩:=I.ok.funs.mem hb
  exact I.base.free b o ho (I.ok.frf b hb) fun z => I.ok.exfs b z hb
theorem Inv.step {g' : Array GenState} {t' : Nat} {d' : Drawn} {ch:List Addr} (I:Inv X pins σ H s)
  (hch:∀ b ∈ ch,(b ∈ X.ex ∨ X.s₀.heap.objs.size ≤ b)∧b ≠ X.env.locals∧(∀ x c,X.env.cells.lookup x=some c→c ≠ b)∧∀ p ∈ X.pn ++ pins,p.1 ≠ b)
  (keep:∀ b o,b ≠ X.env.locals→b ∉ X.fs→b ∉ ch→s.heap.get? b=some o→H b=none→h'.get? b=some o)
  (slot:∀ b o,b ≠ X.env.locals→b ∈ X.fs→b ∉ ch→s.heap.get? b=some o→H b=none→∃ sl,h'.get? b=some { o with slots:=sl }) (free:∀ b o,b ∉ ch→s.heap.get? b=some o→H b=none→H' b=none)
  (there:∀ b o,b ∉ ch→s.heap.get? b=some o→∃ o',h'.get? b=some o')
  (tups:∀ b xs,H b=some (.tup xs)→H' b=some (.tup xs)) (frzs:∀ b o u,H b=some (.frz o u)→H' b=some (.frz o u)) (tbls:∀ b ps,H b=some (.tbl ps)→∃ more,H' b=some (.tbl (ps ++ more)))
  (ns:∀ m,s.heap.Ns X.env.locals m→h'.Ns X.env.locals m) (hok:HOk X.prog X.w H' h') (hg:AllBare g') :
  Inv X pins σ H' { s with heap:=h',gens:=g',drawn:=d',toks:=t' }:=by
 have neL:∀ b o,X.s₀.heap.get? b=some o→b ≠ X.env.locals:=fun b o e => Nat.ne_of_lt (Nat.lt_of_lt_of_le (Heap.lt_size e) I.ok.above)
 have neC:∀ b o,X.s₀.heap.get? b=some o→b ∉ X.ex→b ∉ ch:=fun b o e hx hb => by
  rcases (hch b hb).1 with z | z
  ·exact hx z
  ·exact absurd (Nat.lt_of_lt_of_le (Heap.lt_size e) z) (Nat.lt_irrefl _)
 have cellK:∀ x c,X.env.cells.lookup x=some c→∀ v,s.heap.IsCell c v→h'.IsCell c v:=fun x c e v ⟨o,ho,hd⟩ => by
  have nch:c ∉ ch:=fun z => (hch c z).2.2.1 x c e rfl
  by_cases hc:c ∈ X.fs
  ·obtain ⟨sl,q⟩:=slot c o (I.cne x c e) hc nch ho (I.freeC x c e)
   exact ⟨_,q,hd⟩
  ·exact ⟨o,keep c o (I.cne x c e) hc nch ho (I.freeC x c e),hd⟩
 refine ⟨I.ok,I.os,hg,⟨fun b o e n hb hx => ?_,fun b o e n hb hx => ?_,fun b o e n hx => ?_,fun b o e hx => ?_,fun b xs e => tups b xs (I.base.tups b xs e),fun b o xs e => frzs b o xs (I.base.frzs b o xs e),fun b ps e => ?_⟩,?_,fun x c e => ?_,?_,fun x c e => ?_,fun p hp => ?_,hok,I.len⟩
 ·exact keep b o (neL b o e) hb (neC b o e hx) (I.base.keep b o e n hb hx) (I.base.free b o e n hx)
 ·obtain ⟨sl,e1⟩:=I.base.slot b o e n hb hx
  obtain ⟨sl',e2⟩:=slot b _ (neL b o e) hb (neC b o e hx) e1 (I.base.free b o e n hx)
  exact ⟨sl',e2⟩
 ·obtain ⟨o',e1⟩:=I.base.there b o e hx
  exact free b o' (neC b o e hx) e1 (I.base.free b o e n hx)
 ·obtain ⟨o',e1⟩:=I.base.there b o e hx
  exact there b o' (neC b o e hx) e1
 ·obtain ⟨m1,e1⟩:=I.base.tbls b ps e
  obtain ⟨m2,e2⟩:=tbls b _ e1
  exact ⟨m1 ++ m2,by rw [e2,Array.append_assoc]⟩
 ·obtain ⟨m,hn,hl⟩:=I.loc
  refine ⟨m,ns m hn,fun i x v e1 e2 e3 => ?_⟩
  obtain ⟨u,r,l⟩:=hl i x v e1 e2 e3
  refine ⟨u,r,?_⟩
  rcases l with l | ⟨k,c,e,z⟩
  ·exact .inl l
  ·exact .inr ⟨k,c,e,cellK x c e _ z⟩
 ·obtain ⟨v,z⟩:=I.cell x c e
  exact ⟨v,cellK x c e v z⟩
 ·obtain ⟨m,⟨o,_,_,ho,_⟩,_⟩:=I.loc
  exact free _ o (fun z => (hch _ z).2.1 rfl) ho I.free
 ·obtain ⟨v,o,ho,hd⟩:=I.cell x c e
  exact free c o (fun z => (hch c z).2.2.1 x c e rfl) ho (I.freeC x c e)
 ·obtain ⟨e,n,ne,nf,d⟩:=I.pin p hp
  have nch:p.1 ∉ ch:=fun z => (hch p.1 z).2.2.2 p hp rfl
  exact ⟨keep p.1 p.2 ne nf nch e n,free p.1 p.2 nch e n,ne,nf,d⟩
theorem Inv.un {t' : Nat} (I:Inv X pins σ H s) (u:Un X.fs [] H H' s.heap h') (hok:HOk X.prog X.w H' h'):Inv X pins σ H' { s with heap:=h',toks:=t' }:=by
 obtain ⟨m,⟨o,es,ep,ho,r⟩,_⟩:=id I.loc
 obtain ⟨sl,hL⟩:=u.any ho I.free (by simp)
 exact I.step (g':=s.gens) (d':=s.drawn) (ch:=[]) (fun _ z => nomatch z) (fun b o _ hb _ e n => u.keep b o e n hb (by simp)) (fun b o _ hb _ e n => u.slot b o e n hb (by simp)) (fun b o _ e n => u.free b o e n (by simp)) (fun b o _ e => u.there b o e (by simp)) u.tups u.frzs u.tbls (fun m' hm => by
  obtain ⟨o',es',ep',ho',r'⟩:=hm
  rw [ho] at ho'; cases ho'
  exact ⟨_,es',ep',hL,r'⟩) hok I.bare
theorem Inv.call {g' : Array GenState} {t' : Nat} {d' : Drawn} {ch:List Addr} (I:Inv X pins σ H s) (u:Un (frs X.stack) ch H H' s.heap h') (hok:HOk X.prog X.w H' h') (hg:AllBare g')
  (hch:∀ b ∈ ch,(b ∈ X.ex ∨ X.s₀.heap.objs.size ≤ b)∧b ≠ X.env.locals∧(∀ x c,X.env.cells.lookup x=some c→c ≠ b)∧∀ p ∈ X.pn ++ pins,p.1 ≠ b) :
  Inv X pins σ H' { s with heap:=h',gens:=g',drawn:=d',toks:=t' }:=by
 obtain ⟨m,⟨o,es,ep,ho,r⟩,_⟩:=id I.loc
 obtain ⟨sl,hL⟩:=u.any ho I.free fun z => (hch _ z).2.1 rfl
 exact I.step (ch:=ch) hch (fun b o hL hb hc e n => u.keep b o e n (fun z => (List.mem_cons.mp (I.stkSub b z)).elim hL hb) hc) (fun b o _ _ hc e n => u.any e n hc) (fun b o hc e n => u.free b o e n hc) (fun b o hc e => u.there b o e hc) u.tups u.frzs u.tbls (fun m' hm => by
  obtain ⟨o',es',ep',ho',r'⟩:=hm
  rw [ho] at ho'; cases ho'
  exact ⟨_,es',ep',hL,r'⟩) hok hg
theorem Inv.turned {t' : Nat} {it:Addr} (I:Inv X pins σ H s) (k:∀ b o,b ≠ it→s.heap.get? b=some o→h'.get? b=some o) (hn:H it=none) (hL:it ≠ X.env.locals)
  (h1:it ∈ X.ex ∨ X.s₀.heap.objs.size ≤ it) (h2:∀ x c,X.env.cells.lookup x=some c→c ≠ it) (h3:∀ p ∈ X.pn ++ pins,p.1 ≠ it):Inv X pins σ H { s with heap:=h',toks:=t' }:=by
 have nit:∀ b u,H b=some u→b ≠ it:=fun b u e z => by rw [z,hn] at e; cases e
 refine I.step (g':=s.gens) (d':=s.drawn) (ch:=[it]) (fun b hb => ?_) (fun b o _ _ hc e _ => k b o (fun z => hc (by simp [z])) e) (fun b o _ _ hc e _ => ⟨o.slots,k b o (fun z => hc (by simp [z])) e⟩) (fun _ _ _ _ n => n)
  (fun b o hc e => ⟨o,k b o (fun z => hc (by simp [z])) e⟩) (fun _ _ e => e) (fun _ _ _ e => e) (fun b ps e => ⟨#[],by rw [e]; simp⟩) (fun m hm => ?_) (fun b u e => ?_) I.bare
 ·have e:b=it:=by simpa using hb
  subst e
  exact ⟨h1,hL,h2,h3⟩
 ·obtain ⟨o,es,ep,ho,r⟩:=hm
  exact ⟨o,es,ep,k _ o (Ne.symm hL) ho,r⟩
 ·refine (I.hok b u e).stay (fun c v hc q => k c v ?_ q) (fun _ q => q) fun _ _ q => q
  rcases hc with z | z
  ·rw [z]; exact nit b u e
  ·exact nit c _ z
theorem Inv.tok (I:Inv X pins σ H s) (t:Nat):Inv X pins σ H { s with toks:=t }:=I.un (h':=s.heap) (t':=t) Un.refl I.hok
theorem Inv.kept {t' : Nat} (I:Inv X pins σ H s) (k:∀ b u,s.heap.get? b=some u→h'.get? b=some u):Inv X pins σ H { s with heap:=h',toks:=t' }:=I.un (Un.kept k) (I.hok.kept k)
theorem Inv.laid {a:Addr} {o:HO} {t' : Nat} (I:Inv X pins σ H s) (k:∀ b u,s.heap.get? b=some u→h'.get? b=some u) (hp:s.heap.objs.size ≤ a) (new:ObjOk X.prog X.w (upd H a o) h' a o) :
  Inv X pins σ (upd H a o) { s with heap:=h',toks:=t' }:=I.un (Un.laid k hp (I.hok.fresh hp)) (I.hok.laid k hp new)
theorem Inv.write {x e:Addr} {o:HO} {t' : Nat} (I:Inv X pins σ H s) (mu:Mut (H x)) (he:e=x ∨ H e=some (.own x)) (k:∀ b u,b ≠ e→s.heap.get? b=some u→h'.get? b=some u) (heo:∃ u,h'.get? e=some u)
  (new:ObjOk X.prog X.w (upd H x o) h' x o):Inv X pins σ (upd H x o) { s with heap:=h',toks:=t' }:=I.un (Un.write mu he k heo) (I.hok.write mu he k heo new)
theorem Inv.pins_of {pins' : List (Addr × Obj)} (I:Inv X pins σ H s) (h:∀ p ∈ pins',s.heap.get? p.1=some p.2∧H p.1=none∧p.1 ≠ X.env.locals∧p.1 ∉ X.fs∧∀ v,p.2.data ≠ .cell v):Inv X pins' σ H s :=
 ⟨I.ok,I.os,I.bare,I.base,I.loc,I.cell,I.free,I.freeC,fun p hp => (List.mem_append.mp hp).elim (fun z => I.pin p (List.mem_append_left _ z)) (h p),I.hok,I.len⟩
theorem nodup_ix {N:List Str} (hN:N.Nodup) {i j:Nat} {x:Str} (a:N[i]? = some x) (b:N[j]? = some x):i=j:=by
 obtain ⟨h1,e1⟩:=List.getElem?_eq_some_iff.mp a
 obtain ⟨h2,e2⟩:=List.getElem?_eq_some_iff.mp b
 exact (List.getElem_inj hN).mp (e1.trans e2.symm)
theorem store_ok2 {M:Model} {A:Around} {E:Value→Shared→Prop} {i:Nat} {x:Str} {v:V} {u:Value} {Q:Unit→Shared→Prop} (I:Inv X pins σ H s) (hN:X.N.Nodup) (hi:X.N[i]? = some x) (hx:Loc X.env.scope x) (r:RelV v u)
  (h:∀ s',Inv X pins (σ.set i (some v)) H s'→(∃ a,Heap.SameBut a s.heap s'.heap∧(a=X.env.locals ∨ X.env.cells.lookup x=some a))→Q () s') (hf:X.fn x=true ∨ X.env.scope.names.lookup x=some .local:=by first | exact .inl rfl | exact .inr rfl | assumption):wpAny M A (storeName X.env x u) Q E s:=by
 obtain ⟨m,hn,hl⟩:=id I.loc
 have hcls:(X.env.scope.kind == .class || (X.env.scope.kind == .module && X.env.locals != X.env.globals))=false:=by rw [I.ok.kind]; rfl
 have hiσ:i < σ.length:=by rw [I.len]; exact (List.getElem?_eq_some_iff.mp hi).1
 have cne:=I.cne
 have tracked:∀ {a:Addr} {h' : Heap},(∃ o,s.heap.get? a=some o∧H a=none)→Heap.SameBut a s.heap h'→HOk X.prog X.w H h':=fun {a h'} ha hs b ob e => by
  obtain ⟨_,_,hfree⟩:=ha
  refine (I.hok b ob e).stay (fun c w' hc q => (hs.2 c ?_).trans q) (fun _ q => q) fun _ _ q => q
  rintro rfl
  rcases hc with rfl | hc
  ·rw [hfree] at e; cases e
  ·rw [hfree] at hc; cases hc
 rcases hx with hk | hk
 ·refine wpAny_storeName_local hk hn (fun h' hn' hs => ?_) hcls
  obtain ⟨oL,_,_,hoL,_⟩:=id hn
  refine h _ ⟨I.ok,I.os,I.bare,⟨fun b o e n hb hx => ?_,fun b o e n hb hx => ?_,I.base.free,fun b o e hx => ?_,I.base.tups,I.base.frzs,I.base.tbls⟩,⟨_,hn',fun j y v' e1 e2 e3 => ?_⟩,fun y c e => ?_,I.free,I.freeC,fun p hp => ?_,tracked ⟨oL,hoL,I.free⟩ hs,by simpa using I.len⟩ ⟨_,hs,.inl rfl⟩
  ·exact (hs.2 b (Nat.ne_of_lt (Nat.lt_of_lt_of_le (Heap.lt_size e) I.ok.above))).trans (I.base.keep b o e n hb hx)
  ·obtain ⟨sl,e1⟩:=I.base.slot b o e n hb hx
   exact ⟨sl,(hs.2 b (Nat.ne_of_lt (Nat.lt_of_lt_of_le (Heap.lt_size e) I.ok.above))).trans e1⟩
  ·obtain ⟨o',e1⟩:=I.base.there b o e hx
   exact ⟨o',(hs.2 b (Nat.ne_of_lt (Nat.lt_of_lt_of_le (Heap.lt_size e) I.ok.above))).trans e1⟩
  ·by_cases hj:j=i
   ·subst hj
    rw [hi] at e1; cases e1
    rw [List.getElem?_set_self hiσ] at e2
    cases e2
    exact ⟨u,r,.inl ⟨hk,by simp⟩⟩
   ·rw [List.getElem?_set_ne (Ne.symm hj)] at e2
    obtain ⟨u',r',q⟩:=hl j y v' e1 e2 e3
    refine ⟨u',r',?_⟩
    rcases q with ⟨k,e⟩ | ⟨k,c,e,z⟩
    ·refine .inl ⟨k,?_⟩
     have:y ≠ x:=fun e => hj (nodup_ix hN e1 (e ▸ hi))
     simp [this,e]
    ·exact .inr ⟨k,c,e,z.sameBut hs (cne y c e)⟩
  ·obtain ⟨w',z⟩:=I.cell y c e
   exact ⟨w',z.sameBut hs (cne y c e)⟩
  ·obtain ⟨e,n,ne,nf,d⟩:=I.pin p hp
   exact ⟨(hs.2 p.1 ne).trans e,n,ne,nf,d⟩
 ·have hfn:X.fn x=true:=by
   rcases hf with z | z
   ·exact z
   ·rw [z] at hk; cases hk
  obtain ⟨c,hc⟩:=I.ok.has x (.inl hk)
  obtain ⟨w',z⟩:=I.cell x c hc
  refine wpAny_storeName_cell I.ok.kind hk hc z (fun h' hc' hs => ?_)
  obtain ⟨oc,hoc,hocd⟩:=id z
  refine h { s with heap:=h' } ⟨I.ok,I.os,I.bare,⟨fun b o e n hb hx => ?_,fun b o e n hb hx => ?_,I.base.free,fun b o e hx => ?_,I.base.tups,I.base.frzs,I.base.tbls⟩,⟨m,hn.sameBut hs (Ne.symm (cne x c hc)),fun j y v' e1 e2 e3 => ?_⟩,fun y c' e => ?_,I.free,I.freeC,fun p hp => ?_,tracked ⟨oc,hoc,I.freeC x c hc⟩ hs,by simpa using I.len⟩ ⟨c,hs,.inr hc⟩
  ·exact (hs.2 b (Nat.ne_of_lt (Nat.lt_of_lt_of_le (Heap.lt_size e) (I.ok.cab x c hfn hc)))).trans (I.base.keep b o e n hb hx)
  ·obtain ⟨sl,e1⟩:=I.base.slot b o e n hb hx
   exact ⟨sl,(hs.2 b (Nat.ne_of_lt (Nat.lt_of_lt_of_le (Heap.lt_size e) (I.ok.cab x c hfn hc)))).trans e1⟩
  ·obtain ⟨o',e1⟩:=I.base.there b o e hx
   exact ⟨o',(hs.2 b (Nat.ne_of_lt (Nat.lt_of_lt_of_le (Heap.lt_size e) (I.ok.cab x c hfn hc)))).trans e1⟩
  ·by_cases hj:j=i
   ·subst hj
    rw [hi] at e1; cases e1
    rw [List.getElem?_set_self hiσ] at e2
    cases e2
    exact ⟨u,r,.inr ⟨.inl hk,c,hc,hc'⟩⟩
   ·rw [List.getElem?_set_ne (Ne.symm hj)] at e2
    obtain ⟨u',r',q⟩:=hl j y v' e1 e2 e3
    refine ⟨u',r',?_⟩
    rcases q with q | ⟨k,c',e,z'⟩
    ·exact .inl q
    ·refine .inr ⟨k,c',e,z'.sameBut hs ?_⟩
     rintro rfl
     exact hj (nodup_ix hN e1 (I.ok.inj _ _ _ e hc ▸ hi))
  ·by_cases hcc:c' = c
   ·subst hcc; exact ⟨_,hc'⟩
   ·obtain ⟨w2,z2⟩:=I.cell y c' e
    exact ⟨w2,z2.sameBut hs hcc⟩
  ·obtain ⟨e,n,ne,nf,d⟩:=I.pin p hp
   refine ⟨(hs.2 p.1 ?_).trans e,n,ne,nf,d⟩
   intro q
   rw [q,hoc] at e
   have q' : oc=p.2:=Option.some.inj e
   exact d w' (by rw [← q']; exact hocd)
theorem store_ok {M:Model} {A:Around} {E:Value→Shared→Prop} {i:Nat} {x:Str} {v:V} {u:Value} {Q:Unit→Shared→Prop} (I:Inv X pins σ H s) (hN:X.N.Nodup) (hi:X.N[i]? = some x) (hx:Loc X.env.scope x) (r:RelV v u)
  (h:∀ s',Inv X pins (σ.set i (some v)) H s'→Q () s') (hf:X.fn x=true ∨ X.env.scope.names.lookup x=some .local:=by first | exact .inl rfl | exact .inr rfl | assumption):wpAny M A (storeName X.env x u) Q E s :=
 store_ok2 I hN hi hx r (fun s' I' _ => h s' I') hf
theorem Inv.call' {s' : Shared} {ch:List Addr} (I:Inv X pins σ H s) (ho:s'.os=s.os) (u:Un (frs X.stack) ch H H' s.heap s'.heap) (hok:HOk X.prog X.w H' s'.heap) (hg:AllBare s'.gens)
  (hch:∀ b ∈ ch,(b ∈ X.ex ∨ X.s₀.heap.objs.size ≤ b)∧b ≠ X.env.locals∧(∀ x c,X.env.cells.lookup x=some c→c ≠ b)∧∀ p ∈ X.pn ++ pins,p.1 ≠ b):Inv X pins σ H' s':=by
 obtain ⟨h',g',d',t',o'⟩:=s'
 have e:o' = s.os:=ho
 subst e
 exact I.call (g':=g') (t':=t') (d':=d') u hok hg hch
end
abbrev XK:=Value→Option Addr→Hp→Prop
abbrev St:=List (Option V)
abbrev VK:=V→Hp→Prop
abbrev TE:=St→Hp→VK→Prop
abbrev TT:=St→Hp→(Bool→Hp→Prop)→Prop
abbrev TA:=St→Hp→(List V→Hp→Prop)→Prop
structure Ends where
 nx:St→Hp→Prop
 rt:VK
 bk:St→Hp→Prop:=fun _ _ => False
 ct:St→Hp→Prop:=fun _ _ => False
abbrev TS:=Ends→St→Hp→Prop
def EP (X:Cx) (pins:List (Addr × Obj)) (σ:St) (Q:VK) (u:Value) (s' : Shared):Prop:=∃ v H',Inv X pins σ H' s'∧RelV v u∧Q v H'
def TP (X:Cx) (pins:List (Addr × Obj)) (σ:St) (Q:Bool→Hp→Prop) (b:Bool) (s' : Shared):Prop:=∃ H',Inv X pins σ H' s'∧Q b H'
def AP (X:Cx) (pins:List (Addr × Obj)) (σ:St) (Q:List V→Hp→Prop) (us:List Value) (s' : Shared):Prop:=∃ vs H',Inv X pins σ H' s'∧Vals vs us∧Q vs H'
def SP (X:Cx) (pins:List (Addr × Obj)) (D:Ends) (f:Flow) (s' : Shared):Prop :=
 match f with
 | .next => ∃ σ' H',Inv X pins σ' H' s'∧D.nx σ' H'
 | .brk => ∃ σ' H',Inv X pins σ' H' s'∧D.bk σ' H'
 | .cont => ∃ σ' H',Inv X pins σ' H' s'∧D.ct σ' H'
 | .ret u => ∃ v σ' H',Inv X pins σ' H' s'∧RelV v u∧D.rt v H'
def PE (X:Cx) (e:Expr) (t:TE):Prop :=
 ∀ (pins:List (Addr × Obj)) (s:Shared) (σ:St) (H:Hp) (Q:VK),Inv X pins σ H s→t σ H Q→wpAny (model X.prog X.w) X.A (eval e X.env) (EP X pins σ Q) X.xe s
def PT (X:Cx) (e:Expr) (t:TT):Prop :=
 ∀ (pins:List (Addr × Obj)) (s:Shared) (σ:St) (H:Hp) (Q:Bool→Hp→Prop),Inv X pins σ H s→t σ H Q→wpAny (model X.prog X.w) X.A (isTrue e X.env (eval e X.env)) (TP X pins σ Q) X.xe s
def PW (X:Cx) (e:Expr) (t:TT):Prop :=
 ∀ (whole:Sem Value) (pins:List (Addr × Obj)) (s:Shared) (σ:St) (H:Hp) (Q:Bool→Hp→Prop),Inv X pins σ H s→t σ H Q→wpAny (model X.prog X.w) X.A (isTrue e X.env whole) (TP X pins σ Q) X.xe s
theorem PW.pt {X:Cx} {e:Expr} {t:TT} (h:PW X e t):PT X e t:=h _
def PA (X:Cx) (es:List Expr) (t:TA):Prop :=
 ∀ (pos:PySem.Pos) (pins:List (Addr × Obj)) (s:Shared) (σ:St) (H:Hp) (Q:List V→Hp→Prop),Inv X pins σ H s→t σ H Q→wpAny (model X.prog X.w) X.A (spliced (backTo pos (starEach es X.env))) (AP X pins σ Q) X.xe s
def PS (X:Cx) (st:Stmt) (t:TS):Prop :=
 ∀ (pins:List (Addr × Obj)) (s:Shared) (σ:St) (H:Hp) (D:Ends),Inv X pins σ H s→t D σ H→wpAny (model X.prog X.w) X.A (exec st X.env) (SP X pins D) X.xe s
def PSs (X:Cx) (st:List Stmt) (t:TS):Prop :=
 ∀ (pins:List (Addr × Obj)) (s:Shared) (σ:St) (H:Hp) (D:Ends),Inv X pins σ H s→t D σ H→wpAny (model X.prog X.w) X.A (execs st X.env) (SP X pins D) X.xe s
theorem thn {α:Type} {t:Sem α} {Q Q' : α→Shared→Prop} {M:Model} {A:Around} {E:Value→Shared→Prop} {s:Shared} (h:wpAny M A t Q E s) (hQ:∀ a s,Q a s→Q' a s):wpAny M A t Q' E s:=wpAny_mono h hQ fun _ _ x => x
end L2
namespace L2
open PySem PySem.Spec PyProof.Rows
section
variable {X:Cx}
def tVar (i:Nat):TE:=fun σ H Q => ∃ v,σ[i]? = some (some v)∧Q v H
def tC (v:V):TE:=fun _ H Q => Q v H
theorem pe_var {i:Nat} {x:Str} {pos:PySem.Pos} (hN:X.N[i]? = some x) (hv:Vis X.env.scope x) (hd:(x == ("__debug__" : Str))=false:=by decide) (hcd:(x == ("__classdict__" : Str))=false:=by decide):PE X (.Name x pos) (tVar i):=by
 intro pins s σ H Q I h
 obtain ⟨v,e,h⟩:=h
 obtain ⟨m,hn,hl⟩:=I.loc
 obtain ⟨u,r,l⟩:=hl i x v hN e hv
 have fin:EP X pins σ Q u s:=⟨v,H,I,r,h⟩
 rcases l with ⟨hk,hm⟩ | ⟨hk,c,hc,hcell⟩
 ·exact wpAny_Name (wpAny_loadName_local I.ok.kind hk hn hm fin) hd
 ·rcases hk with hk | hk
  ·exact wpAny_Name (wpAny_loadName_cell I.ok.kind hk hc hcell fin) hd
  ·exact wpAny_Name (wpAny_loadName_free I.ok.kind hk hc hcell fin hcd) hd
theorem pe_int {i j pos} : PE X (.Constant (.int i) j pos) (tC (.int i)):=fun _ _ _ H _ I h => wpAny_Constant_int ⟨.int i,H,I.tok _,⟨_,rfl⟩,h⟩
theorem pe_bl {b j pos} : PE X (.Constant (.bool b) j pos) (tC (.bl b)):=fun _ _ _ H _ I h => Constant_bool ⟨.bl b,H,I,rfl,h⟩
def Gl (X:Cx) (x:Str):Prop:=X.env.kindOf x=some .globalImplicit
theorem ld_glob {E:Value→Shared→Prop} {pins:List (Addr × Obj)} {s:Shared} {σ:St} {H:Hp} {x:Str} {u:Value} {pos:PySem.Pos} {Q:Value→Shared→Prop} (I:Inv X pins σ H s) (hg:Gl X x) (hm:X.mg x=some u) (h:Q u s)
  (hd:(x == ("__debug__" : Str))=false:=by decide):wpAny (model X.prog X.w) X.A (eval (.Name x pos) X.env) Q E s :=
 Calls.Name_function_global I.ok.kind hg (Calls.loadGlobal_global (by rw [I.ok.glob]; exact I.mod.glob.keeps I.bk) hm h) hd
theorem ld_blt {E:Value→Shared→Prop} {pins:List (Addr × Obj)} {s:Shared} {σ:St} {H:Hp} {x:Str} {u:Value} {pos:PySem.Pos} {Q:Value→Shared→Prop} (I:Inv X pins σ H s) (hg:Gl X x) (hm:X.mg x=none) (hv:bootBuiltins x=some u) (h:Q u s)
  (hn:x ≠ "__name__" := by decide) (hd:(x == ("__debug__" : Str))=false:=by decide):wpAny (model X.prog X.w) X.A (eval (.Name x pos) X.env) Q E s:=by
 obtain ⟨mb,h1,h2⟩:=I.mod.blt
 exact Calls.Name_function_global I.ok.kind hg (Calls.loadGlobal_builtin (by rw [I.ok.glob]; exact I.mod.glob.keeps I.bk) hm (by rw [I.ok.blt]; exact h1.keeps I.bk) ((h2 x hn).trans hv) h) hd
variable {a b:Expr} {ta tb:TE} {pos:PySem.Pos}
def PC (X:Cx) (op:CmpOp) (a b:Expr) (t:TE):Prop :=
 ∀ (pins:List (Addr × Obj)) (s:Shared) (σ:St) (H:Hp) (Q:VK),Inv X pins σ H s→t σ H Q →
  wpAny (model X.prog X.w) X.A (eval a X.env) (fun v s₁ => wpAny (model X.prog X.w) X.A (eval b X.env) (fun u s₂ => wpAny (model X.prog X.w) X.A (compareOp op v u) (EP X pins σ Q) X.xe s₂) X.xe s₁) X.xe s
def tB (t:TE):TT:=fun σ H Q => t σ H fun x H1 => ∃ c,x = .bl c∧Q c H1
theorem pt_val {e:Expr} {t:TE} (h:PE X e t) (he:∀ whole,isTrue e X.env whole=(do let v ← whole; standAt e.pos; holding [v] (truthy v)):=by intro _; rfl):PT X e (tB t):=by
 intro pins s σ H Q I hw
 refine isTrue_plain (thn (h pins s σ H _ I hw) fun v s1 ⟨x,H1,I1,r1,q1⟩ => ?_) (he _)
 obtain ⟨d,rfl,q⟩:=q1
 cases r1
 exact wpAny_truthy_bool ⟨H1,I1,q⟩
variable {tA tB' : TT} {rest:List Expr}
def tAnd (t u:TT):TT:=fun σ H Q => t σ H fun c H1 => if c=true then u σ H1 Q else Q false H1
def tOr (t u:TT):TT:=fun σ H Q => t σ H fun c H1 => if c=true then Q true H1 else u σ H1 Q
def tNot (t:TT):TT:=fun σ H Q => t σ H fun c H1 => Q (!c) H1
theorem pw_and1 (ha:PT X a tA):PW X (.BoolOp .And [a] pos) tA:=by
 intro wh pins s σ H Q I h
 refine isTrue_and (thn (ha pins s σ H Q I h) fun c s1 e => ?_)
 cases c with
 | true => exact isTrue_and_nil e
 | false => exact e
theorem pw_or1 (ha:PT X a tA):PW X (.BoolOp .Or [a] pos) tA:=by
 intro wh pins s σ H Q I h
 refine isTrue_or (thn (ha pins s σ H Q I h) fun c s1 e => ?_)
 cases c with
 | false => exact isTrue_or_nil e
 | true => exact e
theorem pw_and (ha:PT X a tA) (hb:PW X (.BoolOp .And (b :: rest) pos) tB'):PW X (.BoolOp .And (a :: b :: rest) pos) (tAnd tA tB'):=by
 intro wh pins s σ H Q I h
 refine isTrue_and (thn (ha pins s σ H _ I h) fun c s1 ⟨H1,I1,q1⟩ => ?_)
 cases c with
 | true => exact hb wh pins s1 σ H1 Q I1 q1
 | false => exact ⟨H1,I1,q1⟩
theorem pw_or (ha:PT X a tA) (hb:PW X (.BoolOp .Or (b :: rest) pos) tB'):PW X (.BoolOp .Or (a :: b :: rest) pos) (tOr tA tB'):=by
 intro wh pins s σ H Q I h
 refine isTrue_or (thn (ha pins s σ H _ I h) fun c s1 ⟨H1,I1,q1⟩ => ?_)
 cases c with
 | true => exact ⟨H1,I1,q1⟩
 | false => exact hb wh pins s1 σ H1 Q I1 q1
theorem pt_not (ha:PT X a tA):PT X (.UnaryOp .Not a pos) (tNot tA):=by
 intro pins s σ H Q I h
 exact isTrue_not (ha pins s σ H (fun c H1 => Q (!c) H1) I h)
def tAndV (ta tb:TE):TE:=fun σ H Q => ta σ H fun x H1 => ∃ c,x = .bl c∧if c=true then tb σ H1 Q else Q (.bl false) H1
theorem pe_one {op} {t:TE} (h:PE X a t):PE X (.BoolOp op [a] pos) t:=fun pins s σ H Q I hw => BoolOp_one (h pins s σ H Q I hw)
theorem pe_and (ha:PE X a ta) (hb:PE X (.BoolOp .And (b :: rest) pos) tb):PE X (.BoolOp .And (a :: b :: rest) pos) (tAndV ta tb):=by
 intro pins s σ H Q I h
 refine BoolOp_and (thn (ha pins s σ H _ I h) fun v s1 ⟨x,H1,I1,r1,q1⟩ => ?_)
 obtain ⟨c,rfl,q1⟩:=q1
 cases r1
 refine wpAny_truthy_bool ?_
 cases c with
 | true => exact hb pins s1 σ H1 Q I1 q1
 | false => exact ⟨.bl false,H1,I1,rfl,q1⟩
end
end L2
namespace L2
open PySem PySem.Spec PyProof.Rows
def SqL (K:PySem.W.Frag) (H:Hp) (a:Addr) (xs:List V):Prop :=
 Rd H a (.lst xs) ∨
  ∃ (o:Obj) (its:Array Value) (n:Nat),K.lookup a=some o∧o.cls = .type "list" ∧ o.dict=none∧o.data = .seq its n∧its.size ≤ sizeLine∧Vals xs its.toList
def SqT (K:PySem.W.Frag) (H:Hp) (a:Addr) (xs:List V):Prop :=
 Rd H a (.tup xs) ∨
  ∃ (o:Obj) (its:Array Value) (n:Nat),K.lookup a=some o∧o.cls = .type "tuple" ∧ o.data = .seq its n∧its.size ≤ sizeLine∧Vals xs its.toList
def absV:Value→Option V
 | .none => some .non
 | .bool b => some (.bl b)
 | .int i _ => some (.int i)
 | .str x _ => some (.str x)
 | .bytes b _ => some (.byt b)
 | .float b _ => some (.flt b)
 | .ref a => some (.ref a)
 | .type n => some (.ty n)
 | _ => none
theorem RelV.abs {x:V} {u:Value} (r:RelV x u):absV u=some x:=by
 cases x with
 | non => cases r; rfl
 | bl _ => cases r; rfl
 | int _ => obtain ⟨t,rfl⟩:=r; rfl
 | str _ => obtain ⟨t,rfl⟩:=r; rfl
 | byt _ => obtain ⟨t,rfl⟩:=r; rfl
 | flt _ => obtain ⟨t,rfl⟩:=r; rfl
 | ref _ => cases r; rfl
 | ty _ => cases r; rfl
theorem RelV.inj {x y:V} {u:Value} (r:RelV x u) (q:RelV y u):x=y:=Option.some.inj (r.abs.symm.trans q.abs)
theorem Vals.inj:∀ {xs ys:List V} {us:List Value},Vals xs us→Vals ys us→xs=ys
 | _,_,_,.nil,.nil => rfl
 | _,_,_,.cons r t,.cons r' t' => by rw [r.inj r',Vals.inj t t']
section
variable {X:Cx} {pins:List (Addr × Obj)} {σ:St} {H:Hp} {s:Shared} {a:Addr} {xs ys:List V}
theorem SqL.of {K:PySem.W.Frag} (h:H a=some (.lst xs)):SqL K H a xs:=.inl (.inl h)
theorem SqT.of {K:PySem.W.Frag} (h:H a=some (.tup xs)):SqT K H a xs:=.inl (.inl h)
theorem Inv.list (I:Inv X pins σ H s) (h:SqL X.K H a xs):∃ its:List Value,Vals xs its∧PlainL s.heap a its.toArray∧xs.length ≤ sizeLine:=by
 rcases h with h | ⟨o,its,n,hk,hc,hd,hs,hz,r⟩
 ·obtain ⟨z,its,n,r,e⟩:=h.ok I.hok
  exact ⟨its,r,⟨_,n,e,rfl,rfl,rfl⟩,z⟩
 ·refine ⟨its.toList,r,⟨o,n,I.kIn a o hk,hc,hd,by simpa using hs⟩,?_⟩
  have e:=r.length
  simp only [Array.length_toList] at e
  omega
theorem Inv.tuple (I:Inv X pins σ H s) (h:SqT X.K H a xs):∃ its:List Value,Vals xs its∧IsTup s.heap a its.toArray∧xs.length ≤ sizeLine:=by
 rcases h with h | ⟨o,its,n,hk,hc,hs,hz,r⟩
 ·obtain ⟨z,its,r,p⟩:=h.ok I.hok
  exact ⟨its,r,p,z⟩
 ·refine ⟨its.toList,r,⟨o,I.kIn a o hk,hc,n,by simpa using hs⟩,?_⟩
  have e:=r.length
  simp only [Array.length_toList] at e
  omega
theorem Inv.list_inj (I:Inv X pins σ H s) (h:SqL X.K H a xs) (h' : SqL X.K H a ys):xs=ys:=by
 obtain ⟨its,r,⟨o,n,e,_,_,d⟩,_⟩:=I.list h
 obtain ⟨its',r',⟨o',n',e',_,_,d'⟩,_⟩:=I.list h'
 rw [e] at e'; cases e'
 rw [d] at d'
 injection d' with d1 _
 have:its=its':=by simpa using congrArg Array.toList d1
 subst this
 exact r.inj r'
theorem Inv.tuple_inj (I:Inv X pins σ H s) (h:SqT X.K H a xs) (h' : SqT X.K H a ys):xs=ys:=by
 obtain ⟨its,r,⟨o,e,_,n,d⟩,_⟩:=I.tuple h
 obtain ⟨its',r',⟨o',e',_,n',d'⟩,_⟩:=I.tuple h'
 rw [e] at e'; cases e'
 rw [d] at d'
 injection d' with d1 _
 have:its=its':=by simpa using congrArg Array.toList d1
 subst this
 exact r.inj r'
end
abbrev Cx.wish (X:Cx) (E:Value→Shared→Prop):Cx:={ X with xe:=E }
abbrev Cx.nox (X:Cx):Cx:=X.wish fun _ _ => False
theorem Cx.Ok.wish {X:Cx} (ok:X.Ok) (E:Value→Shared→Prop):(X.wish E).Ok :=
 ⟨ok.mod,ok.kind,ok.glob,ok.blt,ok.above,ok.inj,ok.has,ok.cab,ok.hd,ok.frames,ok.stk,ok.exf,ok.bs,ok.bsz,ok.noex,ok.exfs,ok.funs,ok.frf⟩
theorem Cx.Ok.unwish {X:Cx} {E:Value→Shared→Prop} (ok:(X.wish E).Ok):X.Ok :=
 ⟨ok.mod,ok.kind,ok.glob,ok.blt,ok.above,ok.inj,ok.has,ok.cab,ok.hd,ok.frames,ok.stk,ok.exf,ok.bs,ok.bsz,ok.noex,ok.exfs,ok.funs,ok.frf⟩
section
variable {X:Cx} {pins:List (Addr × Obj)} {σ:St} {H:Hp} {s:Shared} {E:Value→Shared→Prop}
theorem Inv.wish (I:Inv X pins σ H s) (E:Value→Shared→Prop):Inv (X.wish E) pins σ H s:=⟨I.ok.wish E,I.os,I.bare,I.base,I.loc,I.cell,I.free,I.freeC,I.pin,I.hok,I.len⟩
theorem Inv.unwish (I:Inv (X.wish E) pins σ H s):Inv X pins σ H s:=⟨I.ok.unwish,I.os,I.bare,I.base,I.loc,I.cell,I.free,I.freeC,I.pin,I.hok,I.len⟩
theorem SP.unwish {D:Ends} {f:Flow} {s' : Shared} (h:SP (X.wish E) pins D f s'):SP X pins D f s':=by
 cases f with
 | next => obtain ⟨σ',H',I,q⟩:=h; exact ⟨σ',H',I.unwish,q⟩
 | brk => obtain ⟨σ',H',I,q⟩:=h; exact ⟨σ',H',I.unwish,q⟩
 | cont => obtain ⟨σ',H',I,q⟩:=h; exact ⟨σ',H',I.unwish,q⟩
 | ret u => obtain ⟨v,σ',H',I,r,q⟩:=h; exact ⟨v,σ',H',I.unwish,r,q⟩
theorem PSs.nox {st:List Stmt} {t:TS} (h:PSs X.nox st t):PSs X st t:=fun pins s σ H D I hw =>
 wpAny_mono (h pins s σ H D (I.wish _) hw) (fun _ _ q => q.unwish) fun _ _ z => False.elim z
end
section
variable {X:Cx} {st:Stmt} {rest:List Stmt} {t u:TS} {e:Expr} {te:TE} {pos:PySem.Pos}
def tNext:TS:=fun D σ H => D.nx σ H
def tSeq (t u:TS):TS:=fun D σ H => t { D with nx:=u D } σ H
theorem pss_nil:PSs X [] tNext:=fun _ _ σ H _ I h => wpAny_execs_nil ⟨σ,H,I,h⟩
theorem pss_cons (h1:PS X st t) (h2:PSs X rest u):PSs X (st :: rest) (tSeq t u):=by
 intro pins s σ H D I h
 refine wpAny_execs_cons (thn (h1 pins s σ H { D with nx:=u D } I h) fun f s1 q => ?_)
 cases f with
 | next =>
  obtain ⟨σ',H',I',q⟩:=q
  exact h2 pins s1 σ' H' D I' q
 | ret v => exact q
 | brk => exact q
 | cont => exact q
theorem pss_one (h1:PS X st t):PSs X [st] t:=by
 intro pins s σ H D I h
 refine wpAny_execs_cons (thn (h1 pins s σ H D I h) fun f s1 q => ?_)
 cases f with
 | next => exact wpAny_execs_nil q
 | ret v => exact q
 | brk => exact q
 | cont => exact q
def tCont:TS:=fun D σ H => D.ct σ H
theorem ps_continue:PS X (.Continue pos) tCont:=fun _ _ σ H _ I h => wpAny_Continue ⟨σ,H,I,h⟩
theorem Inv.quiet {pins:List (Addr × Obj)} {σ:St} {H:Hp} {s:Shared} (I:Inv X pins σ H s):interactive X.env=false:=by simp [interactive,I.ok.kind]
def tDrop (te:TE):TS:=fun D σ H => te σ H fun _ H1 => D.nx σ H1
theorem ps_expr (he:PE X e te) (hs:swapsWith e none pos.line X.env=pure false:=by rfl):PS X (.Expr e pos) (tDrop te):=by
 intro pins s σ H D I h
 exact wpAny_Expr_any (thn (he pins s σ H _ I h) fun v s1 ⟨x,H1,I1,r1,q1⟩ => ⟨σ,H1,I1,q1⟩) I.quiet hs
def tRet (te:TE):TS:=fun D σ H => te σ H D.rt
theorem ps_ret (he:PE X e te):PS X (.Return (some e) pos) (tRet te):=by
 intro pins s σ H D I h
 exact wpAny_Return_some (thn (he pins s σ H _ I h) fun v s1 ⟨x,H1,I1,r1,q1⟩ => ⟨x,σ,H1,I1,r1,q1⟩)
def tIfS (c:TT) (t u:TS):TS:=fun D σ H => c σ H fun b H1 => if b=true then t D σ H1 else u D σ H1
theorem ps_if {c:Expr} {a b:List Stmt} {tc:TT} (hc:PT X c tc) (ha:PSs X a t) (hb:PSs X b u):PS X (.If c a b pos) (tIfS tc t u):=by
 intro pins s σ H D I h
 refine wpAny_If (thn (hc pins s σ H _ I h) fun d s1 ⟨H1,I1,q1⟩ => ?_)
 cases d with
 | true => exact ha pins s1 σ H1 D I1 q1
 | false => exact hb pins s1 σ H1 D I1 q1
end
abbrev TG:=V→St→Hp→(St→Hp→Prop)→Prop
abbrev TGs:=List V→St→Hp→(St→Hp→Prop)→Prop
def PG (X:Cx) (target:Expr) (t:TG):Prop :=
 ∀ (pins:List (Addr × Obj)) (s:Shared) (σ:St) (H:Hp) (v:V) (u:Value) (Q:St→Hp→Prop),Inv X pins σ H s→RelV v u→t v σ H Q →
  wpAny (model X.prog X.w) X.A (assign target X.env u) (fun _ s' => ∃ σ' H',Inv X pins σ' H' s'∧Q σ' H') X.xe s
def PGs (X:Cx) (ts:List Expr) (t:TGs):Prop :=
 ∀ (pins:List (Addr × Obj)) (s:Shared) (σ:St) (H:Hp) (vs:List V) (us:List Value) (Q:St→Hp→Prop),Inv X pins σ H s→Vals vs us→t vs σ H Q →
  wpAny (model X.prog X.w) X.A (assignInOrder ((assignEach ts X.env).map (·.2)) us) (fun _ s' => ∃ σ' H',Inv X pins σ' H' s'∧Q σ' H') X.xe s
abbrev TSet:=V→V→V→Hp→(Hp→Prop)→Prop
def PSet (X:Cx) (t:TSet):Prop :=
 ∀ (pins:List (Addr × Obj)) (s:Shared) (σ:St) (H:Hp) (o i v:V) (ov iv u:Value) (Q:Hp→Prop),Inv X pins σ H s→RelV o ov→RelV i iv→RelV v u→t o i v H Q →
  wpAny (model X.prog X.w) X.A (setItem ov iv u) (fun _ s' => ∃ H',Inv X pins σ H' s'∧Q H') X.xe s
abbrev TIp:=V→V→Hp→VK→Prop
def PIp (X:Cx) (op:Operator) (t:TIp):Prop :=
 ∀ (pins:List (Addr × Obj)) (s:Shared) (σ:St) (H:Hp) (x y:V) (v u:Value) (Q:VK),Inv X pins σ H s→RelV x v→RelV y u→t x y H Q →
  wpAny (model X.prog X.w) X.A (inplaceOp op v u) (EP X pins σ Q) X.xe s
section
variable {X:Cx} {pos:PySem.Pos}
def gName (i:Nat):TG:=fun v σ H Q => Q (σ.set i (some v)) H
theorem pg_name {i:Nat} {x:Str} (hN:X.N.Nodup) (hi:X.N[i]? = some x) (hx:Loc X.env.scope x) (hf:X.fn x=true ∨ X.env.scope.names.lookup x=some .local:=by first | exact .inl rfl | exact .inr rfl | assumption):PG X (.Name x pos) (gName i):=by
 intro pins s σ H v u Q I r h
 exact wpAny_assign_Name (store_ok I hN hi hx r (fun s' I' => ⟨_,H,I',h⟩) hf)
def gNil:TGs:=fun vs σ H Q => vs=[]∧Q σ H
def gCons (t:TG) (u:TGs):TGs:=fun vs σ H Q => ∃ v r,vs=v :: r∧t v σ H fun σ' H' => u r σ' H' Q
theorem pgs_nil:PGs X [] gNil:=by
 intro pins s σ H vs us Q I r h
 obtain ⟨e,h⟩:=h
 subst e
 cases r
 exact assignInOrder_nil ⟨σ,H,I,h⟩
theorem pgs_cons {e:Expr} {es:List Expr} {t:TG} {u:TGs} (h1:PG X e t) (h2:PGs X es u)
  (hs:(assignEach (e :: es) X.env).map (·.2)=assign e X.env :: (assignEach es X.env).map (·.2):=by rfl):PGs X (e :: es) (gCons t u):=by
 intro pins s σ H vs us Q I r h
 obtain ⟨v,vr,e1,h⟩:=h
 subst e1
 cases r with
 | cons r rr =>
  rw [hs]
  refine assignInOrder_cons (thn (h1 pins s σ H _ _ _ I r h) fun _ s1 ⟨σ1,H1,I1,q1⟩ => ?_)
  exact h2 pins s1 σ1 H1 _ _ Q I1 rr q1
def gTup (K:PySem.W.Frag) (n:Nat) (t:TGs):TG:=fun v σ H Q => ∃ a xs,v = .ref a∧SqT K H a xs∧xs.length=n∧t xs σ H Q
theorem pg_tup {es:List Expr} {k:Nat} {t:TGs} {n:Nat} (hc:X.calm=true) (h:PGs X es t)
  (hn:(assignEach es X.env).length=n:=by rfl) (hst:(assignEach es X.env).findIdx? (·.1)=none:=by rfl):PG X (.Tuple es k pos) (gTup X.K n t):=by
 intro pins s σ H v u Q I r hw
 obtain ⟨a,xs,e1,hq,hl,hw⟩:=hw
 subst e1
 cases r
 obtain ⟨its,rv,ht,hz⟩:=I.tuple hq
 refine assign_Tuple_tuple (I.ok.hd hc) ht (by simp [hn,← hl,rv.length]) hst fun h' hx => ?_
 have I1:Inv X pins σ H { s with heap:=h' }:=I.kept (t':=s.toks) fun b o e => hx b o (Nat.ne_of_lt (Heap.lt_size e)) e
 exact h pins _ σ H xs _ Q I1 (by simpa using rv) hw
def gSub (to ti:TE) (t:TSet):TG:=fun v σ H Q => to σ H fun o H1 => ti σ H1 fun i H2 => t o i v H2 fun H3 => Q σ H3
theorem pg_sub {o i:Expr} {to ti:TE} {t:TSet} (ho:PE X o to) (hi:PE X i ti) (hs:PSet X t)
  (ha:∀ v,assign (.Subscript o i pos) X.env v=(do
   let ov ← holding [v] (eval o X.env)
   let iv ← holding [v,ov] (eval i X.env)
   standAt pos
   holding [v,ov,iv] (setItem ov iv v)
   release [v,ov,iv] []):=by intro _; rfl):PG X (.Subscript o i pos) (gSub to ti t):=by
 intro pins s σ H v u Q I r h
 rw [ha]
 refine wpAny_bind (wpAny_holding (thn (ho pins s σ H _ I h) fun ov s1 ⟨x,H1,I1,r1,q1⟩ => ?_))
 refine wpAny_bind (wpAny_holding (thn (hi pins s1 σ H1 _ I1 q1) fun iv s2 ⟨y,H2,I2,r2,q2⟩ => ?_))
 refine wpAny_bind (wpAny_standAt (wpAny_bind (wpAny_holding (thn (hs pins s2 σ H2 x y v ov iv u _ I2 r1 r2 r q2) fun _ s3 ⟨H3,I3,q3⟩ => ?_))))
 exact wpAny_release ⟨σ,H3,I3,q3⟩
def tAsg (te:TE) (g:TG):TS:=fun D σ H => te σ H fun x H1 => g x σ H1 D.nx
theorem ps_asg {tg e:Expr} {te:TE} {g:TG} (he:PE X e te) (hg:PG X tg g) (hs:swapsWithSole [tg] e pos.line X.env=pure false:=by rfl) (hw:swappedStores [tg] e X.env=pure none:=by rfl)
  (h1:(assignEach [tg] X.env).map (·.2)=[assign tg X.env]:=by rfl):PS X (.Assign [tg] e pos) (tAsg te g):=by
 intro pins s σ H D I h
 refine wpAny_Assign_stores (thn (he pins s σ H _ I h) fun v s1 ⟨x,H1,I1,r1,q1⟩ => ?_) hs hw
 rw [h1]
 exact thn (hg pins s1 σ H1 x v _ I1 r1 q1) fun _ s2 q => q
theorem ps_set {i:Nat} {x:Str} {e:Expr} {te:TE} {pos' : PySem.Pos} (hN:X.N.Nodup) (hi:X.N[i]? = some x) (hx:Loc X.env.scope x) (he:PE X e te) (hs:swapsWith e (some (.Name x pos')) pos.line X.env=pure false:=by rfl) (hf:X.fn x=true ∨ X.env.scope.names.lookup x=some .local:=by first | exact .inl rfl | exact .inr rfl | assumption) :
  PS X (.Assign [.Name x pos'] e pos) (tAsg te (gName i)):=by
 intro pins s σ H D I h
 refine wpAny_Assign_Name (thn (he pins s σ H _ I h) fun v s1 ⟨y,H1,I1,r1,q1⟩ => ?_) hs
 exact store_ok I1 hN hi hx r1 (fun s2 I2 => ⟨_,H1,I2,q1⟩) hf
def tAug (i:Nat) (te:TE) (ti:TIp):TS:=fun D σ H => ∃ x,σ[i]? = some (some x)∧te σ H fun y H1 => ti x y H1 fun z H2 => D.nx (σ.set i (some z)) H2
theorem ps_aug {i:Nat} {x:Str} {e:Expr} {te:TE} {op:Operator} {ti:TIp} {pos' : PySem.Pos} (hN:X.N.Nodup) (hi:X.N[i]? = some x) (hx:Loc X.env.scope x) (he:PE X e te) (ho:PIp X op ti) (hf:X.fn x=true ∨ X.env.scope.names.lookup x=some .local:=by first | exact .inl rfl | exact .inr rfl | assumption) :
  PS X (.AugAssign (.Name x pos') op e pos) (tAug i te ti):=by
 intro pins s σ H D I h
 obtain ⟨v,e1,h⟩:=h
 obtain ⟨m,hn,hl⟩:=I.loc
 have vis:Vis X.env.scope x:=by rcases hx with k | k; exact .inl k; exact .inr (.inl k)
 obtain ⟨u,r,l⟩:=hl i x v hi e1 vis
 refine wpAny_AugAssign_Name ?_
 have go:wpAny (model X.prog X.w) X.A (eval e X.env) (fun w s₂ => wpAny (model X.prog X.w) X.A (inplaceOp op u w) (fun r s₃ => wpAny (model X.prog X.w) X.A (storeName X.env x r) (fun _ => SP X pins D .next) X.xe s₃) X.xe s₂) X.xe s:=by
  refine thn (he pins s σ H _ I h) fun w s1 ⟨y,H1,I1,r1,q1⟩ => ?_
  refine thn (ho pins s1 σ H1 v y u w _ I1 r r1 q1) fun z s2 ⟨zv,H2,I2,r2,q2⟩ => ?_
  exact store_ok I2 hN hi hx r2 (fun s3 I3 => ⟨_,H2,I3,q2⟩) hf
 rcases l with ⟨hk,hm⟩ | ⟨hk,c,hc,hcell⟩
 ·exact wpAny_loadName_local I.ok.kind hk hn hm go
 ·rcases hk with hk | hk
  ·exact wpAny_loadName_cell I.ok.kind hk hc hcell go
  ·rcases hx with k | k
   ·have:X.env.scope.names.lookup x=some .free:=hk
    rw [k] at this; cases this
   ·have:X.env.scope.names.lookup x=some .free:=hk
    rw [k] at this; cases this
def ipI (f:Int→Int→Int):TIp:=fun x y H Q => ∃ i j,x = .int i∧y = .int j∧Q (.int (f i j)) H
theorem ip_add:PIp X .Add (ipI fun i j => i + j):=by
 intro pins s σ H x y v u Q I r1 r2 h
 obtain ⟨i,j,e1,e2,q⟩:=h
 subst e1; subst e2
 obtain ⟨t,rfl⟩:=r1
 obtain ⟨t',rfl⟩:=r2
 exact iadd_int ⟨.int _,H,I.tok _,⟨_,rfl⟩,q⟩
theorem ip_sub:PIp X .Sub (ipI fun i j => i - j):=by
 intro pins s σ H x y v u Q I r1 r2 h
 obtain ⟨i,j,e1,e2,q⟩:=h
 subst e1; subst e2
 obtain ⟨t,rfl⟩:=r1
 obtain ⟨t',rfl⟩:=r2
 exact isub_int ⟨.int _,H,I.tok _,⟨_,rfl⟩,q⟩
end
section
variable {X:Cx} {pos:PySem.Pos}
def tWhile (c:TT) (tb:TS):TS:=fun D σ H => ∃ W:Nat→St→Hp→Prop,(∃ m,W m σ H)∧∀ m σ H,W m σ H →
 c σ H fun b H1 => if b=true then ∃ N:St→Hp→Prop,(∀ σ' H',N σ' H'→∃ m',m' < m∧W m' σ' H')∧tb { D with nx:=N,ct:=N,bk:=D.nx } σ H1 else D.nx σ H1
theorem ps_while {c:Expr} {body:List Stmt} {tc:TT} {tb:TS} (hp:PassesOwn (model X.prog X.w) X.A X.env X.xe) (hc:PT X c tc) (hb:PSs X body tb):PS X (.While c body [] pos) (tWhile tc tb):=by
 intro pins s σ H D I h
 obtain ⟨W,⟨m0,w0⟩,turn⟩:=h
 refine wpAny_While (codeAny_whileLoop (fun n s' => ∃ σ' H',Inv X pins σ' H' s'∧W n σ' H') ?_ m0 ⟨σ,H,I,w0⟩)
 rintro n s1 ⟨σ1,H1,I1,w1⟩
 refine wpAny_passesOwn hp (thn (hc pins s1 σ1 H1 _ I1 (turn n σ1 H1 w1)) fun b s2 ⟨H2,I2,q2⟩ => ?_)
 cases b with
 | true =>
  obtain ⟨N,hN,q2⟩:=q2
  rw [if_pos rfl]
  refine wpAny_passesOwn hp (thn (hb pins s2 σ1 H2 _ I2 q2) fun f s3 q3 => ?_)
  cases f with
  | next =>
   obtain ⟨σ3,H3,I3,n3⟩:=q3
   obtain ⟨m',hm,w3⟩:=hN σ3 H3 n3
   exact ⟨m',hm,σ3,H3,I3,w3⟩
  | cont =>
   obtain ⟨σ3,H3,I3,n3⟩:=q3
   obtain ⟨m',hm,w3⟩:=hN σ3 H3 n3
   exact ⟨m',hm,σ3,H3,I3,w3⟩
  | brk => exact q3
  | ret v => exact q3
 | false =>
  rw [if_neg Bool.false_ne_true]
  exact wpAny_execs_nil ⟨σ1,H2,I2,q2⟩
end
structure It where
 go:Nat→Hp→Prop
 yld:Nat→Hp→V→Hp→Prop
 stop:Nat→Hp→Prop
def FpOk (X:Cx) (pins:List (Addr × Obj)) (H:Hp) (b:Addr):Prop :=
 H b=none∧b ≠ X.env.locals∧b ∉ X.fs∧(b ∈ X.ex ∨ X.s₀.heap.objs.size ≤ b)∧(∀ x c,X.env.cells.lookup x=some c→c ≠ b)∧∀ p ∈ X.pn ++ pins,p.1 ≠ b
theorem Inv.fpOk {X:Cx} {pins:List (Addr × Obj)} {σ:St} {H H' : Hp} {s:Shared} {b:Addr} (I:Inv X pins σ H s) (hb:s.heap.objs.size ≤ b) (hn:H' b=none):FpOk X pins H' b:=by
 refine ⟨hn,Nat.ne_of_gt (Nat.lt_of_lt_of_le I.lt hb),I.nofs hb,.inr (Nat.le_trans I.sz hb),fun x c e z => ?_,fun p hp z => ?_⟩
 ·obtain ⟨v,q⟩:=I.cell x c e
  exact absurd (Nat.lt_of_lt_of_le q.lt (by rw [z]; exact hb)) (Nat.lt_irrefl _)
 ·exact absurd (Nat.lt_of_lt_of_le (Heap.lt_size (I.pin p hp).1) (by rw [z]; exact hb)) (Nat.lt_irrefl _)
structure Turn (P:Program) (w:World) (K:PySem.W.Frag) (tg:Expr) (J:It) (fp:List Addr) (it:Addr) (tn:Nat→Heap→Prop):Prop where
 mem:it ∈ fp
 obj:∀ i h,tn i h→∀ b ∈ fp,∃ o,h.get? b=some o∧∀ v,o.data ≠ .cell v
 keep:∀ i h h',tn i h→(∀ b ∈ fp,∀ o,h.get? b=some o→h'.get? b=some o)→tn i h'
 item:∀ (X:Cx),X.prog=P→X.w=w→X.K=K→X.calm=true→∀ (i:Nat) (pins:List (Addr × Obj)) (s:Shared) (σ:St) (H:Hp) (E:Value→Shared→Prop),Inv X pins σ H s→(∀ b ∈ fp,FpOk X pins H b)→tn i s.heap→J.go i H →
  wpAny (model P w) X.A (pyNext (.ref it)) (fun r s1 => ∃ u,r=some u ∧
   wpAny (model P w) X.A (letOwnedTupleGo tg (.ref it) u) (fun _ s2 => ∃ x H',Inv X pins σ H' s2∧RelV x u∧J.yld i H x H'∧tn (i + 1) s2.heap∧∀ b ∈ fp,H' b=none) E s1) E s
 done:∀ (X:Cx),X.prog=P→X.w=w→X.K=K→X.calm=true→∀ (i:Nat) (pins:List (Addr × Obj)) (s:Shared) (σ:St) (H:Hp) (E:Value→Shared→Prop),Inv X pins σ H s→(∀ b ∈ fp,FpOk X pins H b)→tn i s.heap→J.stop i H →
  wpAny (model P w) X.A (pyNext (.ref it)) (fun r s1 => r=none∧Inv X pins σ H s1) E s
 self:∀ (A:Around) (i:Nat) (s:Shared) (Q:Value→Shared→Prop) (E:Value→Shared→Prop),tn i s.heap→Q (.ref it) s→wpAny (model P w) A (pyIter (.ref it)) Q E s
abbrev TI:=St→Hp→(It→Hp→Prop)→Prop
def PIE (X:Cx) (pins:List (Addr × Obj)) (σ:St) (tg:Expr) (R:It→Hp→Prop) (itv:Value) (s2:Shared):Prop :=
 ∃ (it:Addr) (fp:List Addr) (tn:Nat→Heap→Prop) (J:It) (H' : Hp),itv = .ref it∧Inv X pins σ H' s2∧Turn X.prog X.w X.K tg J fp it tn∧tn 0 s2.heap∧(∀ b ∈ fp,FpOk X pins H' b)∧R J H'
def PI (X:Cx) (tg iter:Expr) (wi:TI):Prop :=
 ∀ (pins:List (Addr × Obj)) (s:Shared) (σ:St) (H:Hp) (R:It→Hp→Prop),Inv X pins σ H s→wi σ H R →
  wpAny (model X.prog X.w) X.A (eval iter X.env) (fun v s1 => wpAny (model X.prog X.w) X.A (pyIter v) (PIE X pins σ tg R) X.xe s1) X.xe s
theorem go_of {M:Model} {A:Around} {E:Value→Shared→Prop} {s:Shared} {tg:Expr} {it:Addr} {u:Value} {o:Obj} {n:String} {vs:Array Value} {Q:Unit→Shared→Prop} (ho:s.heap.get? it=some o) (hc:o.cls = .type n) (hd:o.data = .fields vs)
  (hn:["enumerate", "zip", "dict_itemiterator", "dict_reverseitemiterator", "odict_iterator", "itertools.zip_longest", "itertools.pairwise"].contains n=false) (hQ:Q () s):wpAny M A (letOwnedTupleGo tg (.ref it) u) Q E s:=by
 unfold letOwnedTupleGo
 cases tg <;> first
  | exact wpAny_pure hQ
  | (cases u <;> first
    | exact wpAny_pure hQ
    | (refine wpAny_bind (wpAny_load ho ?_)
       rw [hc,hd]
       show wpAny M A (if (["enumerate", "zip", "dict_itemiterator", "dict_reverseitemiterator", "odict_iterator", "itertools.zip_longest", "itertools.pairwise"].contains n && vs[0]? == some (rawInt _))=true then _ else _) Q E s
       rw [if_neg (by intro h; rw [hn,Bool.false_and] at h; cases h)]
       exact wpAny_pure hQ))
def Itl (K:PySem.W.Frag) (a:Addr):It :=
 ⟨fun i H => ∃ xs x,SqL K H a xs∧xs[i]? = some x,fun i H x H' => H' = H∧∀ xs,SqL K H a xs→xs[i]? = some x,fun i H => ∃ xs,SqL K H a xs∧xs.length ≤ i⟩
def Itt (K:PySem.W.Frag) (a:Addr):It :=
 ⟨fun i H => ∃ xs x,SqT K H a xs∧xs[i]? = some x,fun i H x H' => H' = H∧∀ xs,SqT K H a xs→xs[i]? = some x,fun i H => ∃ xs,SqT K H a xs∧xs.length ≤ i⟩
def Itr (lo:Int) (n:Nat):It:=⟨fun i _ => i < n,fun i H x H' => H' = H∧x = .int (lo + i),fun i _ => n ≤ i⟩
theorem turn_list {P:Program} {w:World} {K:PySem.W.Frag} {tg:Expr} (a it:Addr):Turn P w K tg (Itl K a) [it] it (fun i h => h.IsListIter it a i) where
 mem:=by simp
 obj:=fun i h st b hb => by
  have e:b=it:=by simpa using hb
  subst e
  obtain ⟨o,e,c,d⟩:=st
  exact ⟨o,e,fun v z => by rw [d] at z; cases z⟩
 keep:=fun i h h' st k => st.at fun o e => k it (by simp) o e
 item:=by
  intro X hP hw hK hc i pins s σ H E I hf st hg
  subst hP hw hK
  obtain ⟨xs,x,hq,hx⟩:=hg
  obtain ⟨its,rv,p,hz⟩:=I.list hq
  obtain ⟨u,hu,ru⟩:=rv.get hx
  obtain ⟨f0,f1,f2,f3,f4,f5⟩:=hf it (by simp)
  refine wpAny_pyNext_list_item st p.isList (x:=u) (by simpa using hu) fun h' st' sb => ?_
  have I1:Inv X pins σ H { s with heap:=h' }:=I.turned (t':=s.toks) (fun b o hb e => (sb.2 b hb).trans e) f0 f1 f3 f4 f5
  obtain ⟨o,e,c,d⟩:=id st'
  exact ⟨u,rfl,go_of (s:={ s with heap:=h' }) e c d (by decide) ⟨x,H,I1,ru,⟨rfl,fun ys hy => by rw [I.list_inj hy hq]; exact hx⟩,st',fun b hb => (hf b hb).1⟩⟩
 done:=by
  intro X hP hw hK hc i pins s σ H E I hf st hg
  subst hP hw hK
  obtain ⟨xs,hq,hx⟩:=hg
  obtain ⟨its,rv,p,hz⟩:=I.list hq
  obtain ⟨f0,f1,f2,f3,f4,f5⟩:=hf it (by simp)
  have hl:=rv.length
  exact wpAny_pyNext_list_end (I.ok.hd hc) st p.isList (by simp; omega) fun h' eb => ⟨rfl,I.turned (t':=s.toks) (fun b o hb e => eb b o hb e) f0 f1 f3 f4 f5⟩
 self:=fun _ _ _ _ _ st h => wpAny_pyIter_listiter st h
theorem turn_tuple {P:Program} {w:World} {K:PySem.W.Frag} {tg:Expr} (a it:Addr):Turn P w K tg (Itt K a) [it] it (fun i h => h.IsTupleIter it a i) where
 mem:=by simp
 obj:=fun i h st b hb => by
  have e:b=it:=by simpa using hb
  subst e
  obtain ⟨o,e,c,d⟩:=st
  exact ⟨o,e,fun v z => by rw [d] at z; cases z⟩
 keep:=fun i h h' st k => st.at fun o e => k it (by simp) o e
 item:=by
  intro X hP hw hK hc i pins s σ H E I hf st hg
  subst hP hw hK
  obtain ⟨xs,x,hq,hx⟩:=hg
  obtain ⟨its,rv,p,hz⟩:=I.tuple hq
  obtain ⟨u,hu,ru⟩:=rv.get hx
  obtain ⟨f0,f1,f2,f3,f4,f5⟩:=hf it (by simp)
  refine wpAny_pyNext_tuple_item st (show s.heap.IsTuple a its.toArray from p) (x:=u) (by simpa using hu) fun h' st' sb => ?_
  have I1:Inv X pins σ H { s with heap:=h' }:=I.turned (t':=s.toks) (fun b o hb e => (sb.2 b hb).trans e) f0 f1 f3 f4 f5
  obtain ⟨o,e,c,d⟩:=id st'
  exact ⟨u,rfl,go_of (s:={ s with heap:=h' }) e c d (by decide) ⟨x,H,I1,ru,⟨rfl,fun ys hy => by rw [I.tuple_inj hy hq]; exact hx⟩,st',fun b hb => (hf b hb).1⟩⟩
 done:=by
  intro X hP hw hK hc i pins s σ H E I hf st hg
  subst hP hw hK
  obtain ⟨xs,hq,hx⟩:=hg
  obtain ⟨its,rv,p,hz⟩:=I.tuple hq
  obtain ⟨f0,f1,f2,f3,f4,f5⟩:=hf it (by simp)
  have hl:=rv.length
  exact wpAny_pyNext_tuple_end (I.ok.hd hc) st (show s.heap.IsTuple a its.toArray from p) (by simp; omega) fun h' eb => ⟨rfl,I.turned (t':=s.toks) (fun b o hb e => eb b o hb e) f0 f1 f3 f4 f5⟩
 self:=fun _ _ _ _ _ st h => wpAny_pyIter_tupleiter st h
theorem turn_range {P:Program} {w:World} {K:PySem.W.Frag} {tg:Expr} (it:Addr) (lo:Int) (n:Nat):Turn P w K tg (Itr lo n) [it] it (fun i h => IsRangeIter h it (lo + (i:Nat) * 1) ((n:Int) - (i:Nat)) 1) where
 mem:=by simp
 obj:=fun i h st b hb => by
  have e:b=it:=by simpa using hb
  subst e
  exact ⟨_,st,fun v z => by
   have z' : Data.fields _=Data.cell v:=z
   cases z'⟩
 keep:=fun i h h' st k => k it (by simp) _ st
 item:=by
  intro X hP hw hK hc i pins s σ H E I hf st hg
  subst hP hw hK
  obtain ⟨f0,f1,f2,f3,f4,f5⟩:=hf it (by simp)
  have W:=Walks.range (prog:=X.prog) (w:=X.w) (I.ok.hd hc) it lo 1 n
  refine W.item i s _ _ hg st fun v h' tk hv st' kk => ?_
  obtain ⟨t,rfl⟩:=hv
  have I1:Inv X pins σ H { s with heap:=h',toks:=tk }:=I.turned (fun b o hb e => kk b o (by simpa using hb) e) f0 f1 f3 f4 f5
  refine ⟨_,rfl,go_of (s:={ s with heap:=h',toks:=tk }) (n := "range_iterator") st' rfl rfl (by decide) ⟨.int (lo + i),H,I1,⟨t,?_⟩,⟨rfl,rfl⟩,st',fun b hb => (hf b hb).1⟩⟩
  rw [Int.mul_one]
 done:=by
  intro X hP hw hK hc i pins s σ H E I hf st hg
  subst hP hw hK
  obtain ⟨f0,f1,f2,f3,f4,f5⟩:=hf it (by simp)
  exact wpAny_pyNext_range_end (I.ok.hd hc) st (by have:n ≤ i:=hg; omega) fun h' eb => ⟨rfl,I.turned (t':=s.toks) (fun b o hb e => eb b o hb e) f0 f1 f3 f4 f5⟩
 self:=fun _ _ _ _ _ st h => wpAny_pyIter_rangeiter st h
end L2
namespace L2
open PySem PySem.Spec PyProof.Rows
section
variable {X:Cx} {tg:Expr}
def iList (K:PySem.W.Frag) (tl:TE):TI:=fun σ H R => tl σ H fun x H1 => ∃ a,x = .ref a∧(∃ xs,SqL K H1 a xs)∧R (Itl K a) H1
def iTup (K:PySem.W.Frag) (tl:TE):TI:=fun σ H R => tl σ H fun x H1 => ∃ a,x = .ref a∧(∃ xs,SqT K H1 a xs)∧R (Itt K a) H1
theorem pi_list {l:Expr} {tl:TE} (hl:PE X l tl):PI X tg l (iList X.K tl):=by
 intro pins s σ H R I h
 refine thn (hl pins s σ H _ I h) fun v s1 ⟨x,H1,I1,r1,q1⟩ => ?_
 obtain ⟨a,e,⟨xs,hq⟩,q⟩:=q1
 subst e
 cases r1
 obtain ⟨its,rv,p,hz⟩:=I1.list hq
 refine wpAny_pyIter_list p.isList ?_
 refine ⟨s1.heap.objs.size,[s1.heap.objs.size],_,_,H1,rfl,I1.kept (t':=s1.toks) fun b o e => Heap.get?_push_of_some _ e,turn_list a _,⟨_,Heap.get?_push_size _ rfl,rfl,rfl⟩,fun b hb => ?_,q⟩
 have e:b=s1.heap.objs.size:=by simpa using hb
 subst e
 exact I1.fpOk (Nat.le_refl _) (I1.hok.fresh (Nat.le_refl _))
theorem pi_tup {l:Expr} {tl:TE} (hl:PE X l tl):PI X tg l (iTup X.K tl):=by
 intro pins s σ H R I h
 refine thn (hl pins s σ H _ I h) fun v s1 ⟨x,H1,I1,r1,q1⟩ => ?_
 obtain ⟨a,e,⟨xs,hq⟩,q⟩:=q1
 subst e
 cases r1
 obtain ⟨its,rv,p,hz⟩:=I1.tuple hq
 refine wpAny_pyIter_tuple (show s1.heap.IsTuple a its.toArray from p) ?_
 refine ⟨s1.heap.objs.size,[s1.heap.objs.size],_,_,H1,rfl,I1.kept (t':=s1.toks) fun b o e => Heap.get?_push_of_some _ e,turn_tuple a _,⟨_,Heap.get?_push_size _ rfl,rfl,rfl⟩,fun b hb => ?_,q⟩
 have e:b=s1.heap.objs.size:=by simpa using hb
 subst e
 exact I1.fpOk (Nat.le_refl _) (I1.hok.fresh (Nat.le_refl _))
theorem range_it {pins:List (Addr × Obj)} {σ:St} {H:Hp} {s:Shared} {R:It→Hp→Prop} {E:Value→Shared→Prop} {lo hi:Int} {t u v:Tok} {tk:Nat} (I:Inv X pins σ H s) (h1 : -(2 ^ 62) ≤ lo) (h2:lo < 2 ^ 62) (h3 : -(2 ^ 62) ≤ hi) (h4:hi < 2 ^ 62)
  (q:R (Itr lo (hi - lo).toNat) H):wpAny (model X.prog X.w) X.A (pyIter (.ref s.heap.objs.size)) (PIE X pins σ tg R) E { s with heap:=s.heap.push { cls:=.type "range",data:=.fields #[.int lo t,.int hi u,.int 1 v] },toks:=tk }:=by
 refine wpAny_pyIter_range (IsRange.new ..) (small_one h1 h2 h3 h4) ?_
 have I1:Inv X pins σ H { s with heap:=s.heap.push { cls:=.type "range",data:=.fields #[.int lo t,.int hi u,.int 1 v] },toks:=tk }:=I.kept fun b o e => Heap.get?_push_of_some _ e
 refine ⟨(s.heap.push { cls:=.type "range",data:=.fields #[.int lo t,.int hi u,.int 1 v] }).objs.size,[(s.heap.push { cls:=.type "range",data:=.fields #[.int lo t,.int hi u,.int 1 v] }).objs.size],_,_,H,rfl,
  I1.kept (t':=tk) fun b o e => Heap.get?_push_of_some _ e,turn_range _ lo (hi - lo).toNat,?_,fun b hb => ?_,q⟩
 ·have e1:lo + ((0:Nat):Int) * 1=lo:=by simp
  have e2:(((hi - lo).toNat:Nat):Int) - ((0:Nat):Int)=Builtin.Range.rangeSize lo hi 1:=by rw [rangeSize_one]; split <;> omega
  show IsRangeIter _ _ (lo + ((0:Nat):Int) * 1) ((((hi - lo).toNat:Nat):Int) - ((0:Nat):Int)) 1
  rw [e1,e2]
  exact Heap.get?_push_size _ rfl
 ·have e:b=(s.heap.push { cls:=.type "range",data:=.fields #[.int lo t,.int hi u,.int 1 v] }).objs.size:=by simpa using hb
  subst e
  exact I1.fpOk (Nat.le_refl _) (I1.hok.fresh (Nat.le_refl _))
def iRng1 (ta:TA):TI:=fun σ H R => ta σ H fun vs H1 => ∃ j:Int,vs=[.int j]∧-(2 ^ 62) ≤ j∧j < 2 ^ 62∧R (Itr 0 j.toNat) H1
def iRng2 (ta:TA):TI:=fun σ H R => ta σ H fun vs H1 => ∃ i j:Int,vs=[.int i,.int j]∧(-(2 ^ 62) ≤ i∧i < 2 ^ 62∧-(2 ^ 62) ≤ j∧j < 2 ^ 62)∧R (Itr i (j - i).toNat) H1
theorem pi_range1 {a:Expr} {ta:TA} {p pos:PySem.Pos} (hg:Gl X "range") (hm:X.mg "range" = none) (ha:PA X [a] ta) (hs:starEach [a] X.env=[(false,eval a X.env)]:=by rfl):PI X tg (.Call (.Name "range" p) [a] [] pos) (iRng1 ta):=by
 intro pins s σ H R I h
 refine Call_ (ld_blt I hg hm boot_range (PyProof.Rows.callWith_type1 (thn (ha pos pins s σ H _ I h) fun us s1 ⟨vs,H1,I1,r1,q1⟩ => ?_) hs rfl))
 obtain ⟨j,e,q1,q2,q⟩:=q1
 subst e
 cases r1 with
 | cons r rr =>
  cases rr
  obtain ⟨t,rfl⟩:=r
  exact call_range_1 (range_it I1 (by omega) (by omega) q1 q2 (by simpa using q))
theorem pi_range2 {a b:Expr} {ta:TA} {p pos:PySem.Pos} (hg:Gl X "range") (hm:X.mg "range" = none) (ha:PA X [a,b] ta) (hs:starEach [a,b] X.env=[(false,eval a X.env),(false,eval b X.env)]:=by rfl) (hs2:starEach [b] X.env=[(false,eval b X.env)]:=by rfl) :
  PI X tg (.Call (.Name "range" p) [a,b] [] pos) (iRng2 ta):=by
 intro pins s σ H R I h
 refine Call_ (ld_blt I hg hm boot_range (PyProof.Rows.callWith_type1 (thn (ha pos pins s σ H _ I h) fun us s1 ⟨vs,H1,I1,r1,q1⟩ => ?_) (by rw [hs,hs2]) (by rw [hs2]; rfl)))
 obtain ⟨i,j,e,⟨q1,q2,q3,q4⟩,q⟩:=q1
 subst e
 cases r1 with
 | cons r rr =>
  cases rr with
  | cons r' rr =>
   cases rr
   obtain ⟨t,rfl⟩:=r
   obtain ⟨t',rfl⟩:=r'
   exact call_range_2 (range_it I1 q1 q2 q3 q4 q)
def tFor (wi:TI) (g:TG) (tb:TS):TS:=fun D σ H => wi σ H fun J H1 => ∃ W:Nat→Nat→St→Hp→Prop,(∃ m,W 0 m σ H1)∧∀ i m σ H,W i m σ H →
 (J.stop i H∧D.nx σ H) ∨ (J.go i H∧∃ N:St→Hp→Prop,(∀ σ' H',N σ' H'→∃ m',m' < m∧W (i + 1) m' σ' H')∧∀ x H',J.yld i H x H'→g x σ H' fun σ2 H2 => tb { D with nx:=N,ct:=N,bk:=D.nx } σ2 H2)
def pinsAt (fp:List Addr) (h:Heap):List (Addr × Obj):=fp.filterMap fun b => (h.get? b).map fun o => (b,o)
theorem mem_pinsAt {fp:List Addr} {h:Heap} {b:Addr} {o:Obj} (hb:b ∈ fp) (e:h.get? b=some o):(b,o) ∈ pinsAt fp h:=List.mem_filterMap.mpr ⟨b,hb,by rw [e]; rfl⟩
theorem of_pinsAt {fp:List Addr} {h:Heap} {p:Addr × Obj} (hp:p ∈ pinsAt fp h):p.1 ∈ fp∧h.get? p.1=some p.2:=by
 obtain ⟨b,hb,e⟩:=List.mem_filterMap.mp hp
 cases q:h.get? b with
 | none => rw [q] at e; cases e
 | some o =>
  rw [q] at e
  have e' : (b,o)=p:=Option.some.inj e
  subst e'
  exact ⟨hb,q⟩
theorem Inv.pinned {pins:List (Addr × Obj)} {σ:St} {H:Hp} {s:Shared} {fp:List Addr} (I:Inv X pins σ H s) (hf:∀ b ∈ fp,FpOk X pins H b) (ho:∀ b ∈ fp,∃ o,s.heap.get? b=some o∧∀ v,o.data ≠ .cell v):Inv X (pins ++ pinsAt fp s.heap) σ H s :=
 I.pins_of fun p hp => (List.mem_append.mp hp).elim (fun z => I.pin p (List.mem_append_right _ z)) fun z => by
  obtain ⟨hb,e⟩:=of_pinsAt z
  obtain ⟨f0,f1,f2,_⟩:=hf p.1 hb
  obtain ⟨o,e',d⟩:=ho p.1 hb
  rw [e] at e'; cases e'
  exact ⟨e,f0,f1,f2,d⟩
theorem Inv.unpinned {pins pl:List (Addr × Obj)} {σ:St} {H:Hp} {s:Shared} (I:Inv X (pins ++ pl) σ H s):Inv X pins σ H s:=I.pins_of fun p hp => I.pin p (List.mem_append_right _ (List.mem_append_left _ hp))
theorem ps_for {iter:Expr} {body:List Stmt} {wi:TI} {g:TG} {tb:TS} {pos:PySem.Pos} (hp:PassesOwn (model X.prog X.w) X.A X.env X.xe) (hc:X.calm=true) (hi:PI X tg iter wi) (hg:PG X tg g) (hb:PSs X body tb)
  (hs:∀ x,foldedSetIterable iter X.env x=pure x:=by intro _; rfl):PS X (.For tg iter body [] pos) (tFor wi g tb):=by
 intro pins s σ H D I h
 refine wpAny_For (thn (hi pins s σ H _ I h) fun v s1 h1 => thn h1 fun itv s2 h2 => ?_) hs
 obtain ⟨it,fp,tn,J,H2,e,I2,T,st2,f2,W,⟨m0,w0⟩,turn⟩:=h2
 subst e
 have stat:∀ {H' : Hp},(∀ b ∈ fp,H' b=none)→∀ b ∈ fp,FpOk X pins H' b:=fun hn b hb => ⟨hn b hb,(f2 b hb).2⟩
 refine codeAny_forLoop_any (fun n s' => ∃ i σ' H',Inv X pins σ' H' s'∧tn i s'.heap∧(∀ b ∈ fp,H' b=none)∧W i n σ' H') ?_ m0 ⟨0,σ,H2,I2,st2,fun b hb => (f2 b hb).1,w0⟩
 rintro n s3 ⟨i,σ3,H3,I3,st3,fr3,w3⟩
 rcases turn i n σ3 H3 w3 with ⟨stop,qn⟩ | ⟨go,N,hN,step⟩
 ·refine wpAny_passesOwn hp (thn (T.done X rfl rfl rfl hc i pins s3 σ3 H3 X.xe I3 (stat fr3) st3 stop) fun r s4 ⟨hr,I4⟩ => ?_)
  subst hr
  exact wpAny_execs_nil ⟨σ3,H3,I4,qn⟩
 ·refine wpAny_passesOwn hp (thn (T.item X rfl rfl rfl hc i pins s3 σ3 H3 X.xe I3 (stat fr3) st3 go) fun r s4 ⟨u,hr,h4⟩ => ?_)
  subst hr
  refine wpAny_passesOwn hp (thn h4 fun _ s5 ⟨x,H5,I5,r5,y5,st5,fr5⟩ => ?_)
  have I5':=I5.pinned (stat fr5) (T.obj _ _ st5)
  refine wpAny_passesOwn hp (thn (hg _ s5 σ3 H5 x u _ I5' r5 (step x H5 y5)) fun _ s6 ⟨σ6,H6,I6,q6⟩ => ?_)
  refine wpAny_passesOwn hp (thn (hb _ s6 σ6 H6 _ I6 q6) fun f s7 q7 => ?_)
  have again:∀ {σ7:St} {H7:Hp},Inv X (pins ++ pinsAt fp s5.heap) σ7 H7 s7→N σ7 H7→∃ m,m < n∧∃ i σ' H',Inv X pins σ' H' s7∧tn i s7.heap∧(∀ b ∈ fp,H' b=none)∧W i m σ' H':=fun {σ7 H7} I7 n7 => by
   obtain ⟨m',hm,w7⟩:=hN σ7 H7 n7
   refine ⟨m',hm,i + 1,σ7,H7,I7.unpinned,T.keep _ _ _ st5 fun b hb o e => (I7.pin (b,o) (List.mem_append_right _ (List.mem_append_right _ (mem_pinsAt hb e)))).1,fun b hb => ?_,w7⟩
   obtain ⟨o,e,d⟩:=T.obj _ _ st5 b hb
   exact (I7.pin (b,o) (List.mem_append_right _ (List.mem_append_right _ (mem_pinsAt hb e)))).2.1
  cases f with
  | next => obtain ⟨σ7,H7,I7,n7⟩:=q7; exact again I7 n7
  | cont => obtain ⟨σ7,H7,I7,n7⟩:=q7; exact again I7 n7
  | brk => obtain ⟨σ7,H7,I7,q7⟩:=q7; exact ⟨σ7,H7,I7.unpinned,q7⟩
  | ret v => obtain ⟨x7,σ7,H7,I7,r7,q7⟩:=q7; exact ⟨x7,σ7,H7,I7.unpinned,r7,q7⟩
end
theorem for_list {K:PySem.W.Frag} {a:Addr} {xs:List V} {g:TG} {tb:TS} {D:Ends} {σ:St} {H:Hp} (Pv:Nat→St→Hp→Prop) (h0:Pv 0 σ H) (hl:∀ i σ H,i ≤ xs.length→Pv i σ H→SqL K H a xs)
  (hs:∀ i x σ H,xs[i]? = some x→Pv i σ H→g x σ H fun σ2 H2 => tb { D with nx:=Pv (i + 1),ct:=Pv (i + 1),bk:=D.nx } σ2 H2) (hd:∀ σ H,Pv xs.length σ H→D.nx σ H) :
  ∃ W:Nat→Nat→St→Hp→Prop,(∃ m,W 0 m σ H)∧∀ i m σ H,W i m σ H →
   ((Itl K a).stop i H∧D.nx σ H) ∨ ((Itl K a).go i H∧∃ N:St→Hp→Prop,(∀ σ' H',N σ' H'→∃ m',m' < m∧W (i + 1) m' σ' H')∧∀ x H',(Itl K a).yld i H x H'→g x σ H' fun σ2 H2 => tb { D with nx:=N,ct:=N,bk:=D.nx } σ2 H2):=by
 refine ⟨fun i m σ H => m=xs.length - i∧i ≤ xs.length∧Pv i σ H,⟨xs.length,by simp,Nat.zero_le _,h0⟩,?_⟩
 rintro i m σ H ⟨rfl,hi,p⟩
 have q:=hl i σ H hi p
 by_cases hlt:i < xs.length
 ·refine .inr ⟨⟨xs,xs[i],q,by simp [hlt]⟩,Pv (i + 1),fun σ' H' p' => ⟨xs.length - (i + 1),by omega,rfl,hlt,p'⟩,fun x H' y => ?_⟩
  obtain ⟨e,y⟩:=y
  subst e
  exact hs i x σ _ (y xs q) p
 ·have e:i=xs.length:=by omega
  subst e
  exact .inl ⟨⟨xs,q,Nat.le_refl _⟩,hd σ H p⟩
theorem for_range {lo:Int} {n:Nat} {g:TG} {tb:TS} {D:Ends} {σ:St} {H:Hp} (Pv:Nat→St→Hp→Prop) (h0:Pv 0 σ H)
  (hs:∀ i σ H,i < n→Pv i σ H→g (.int (lo + i)) σ H fun σ2 H2 => tb { D with nx:=Pv (i + 1),ct:=Pv (i + 1),bk:=D.nx } σ2 H2) (hd:∀ σ H,Pv n σ H→D.nx σ H) :
  ∃ W:Nat→Nat→St→Hp→Prop,(∃ m,W 0 m σ H)∧∀ i m σ H,W i m σ H →
   ((Itr lo n).stop i H∧D.nx σ H) ∨ ((Itr lo n).go i H∧∃ N:St→Hp→Prop,(∀ σ' H',N σ' H'→∃ m',m' < m∧W (i + 1) m' σ' H')∧∀ x H',(Itr lo n).yld i H x H'→g x σ H' fun σ2 H2 => tb { D with nx:=N,ct:=N,bk:=D.nx } σ2 H2):=by
 refine ⟨fun i m σ H => m=n - i∧i ≤ n∧Pv i σ H,⟨n,by simp,Nat.zero_le _,h0⟩,?_⟩
 rintro i m σ H ⟨rfl,hi,p⟩
 by_cases hlt:i < n
 ·refine .inr ⟨hlt,Pv (i + 1),fun σ' H' p' => ⟨n - (i + 1),by omega,rfl,hlt,p'⟩,fun x H' y => ?_⟩
  obtain ⟨e,y⟩:=y
  subst e y
  exact hs i σ _ hlt p
 ·have e:i=n:=by omega
  subst e
  exact .inl ⟨Nat.le_refl _,hd σ H p⟩
theorem while_by {c:TT} {tb:TS} {D:Ends} {σ:St} {H:Hp} (Pv:St→Hp→Prop) (μ:St→Hp→Nat) (h0:Pv σ H)
  (hs:∀ σ H,Pv σ H→c σ H fun b H1 => if b=true then tb { D with nx:=fun σ' H' => Pv σ' H'∧μ σ' H' < μ σ H,ct:=fun σ' H' => Pv σ' H'∧μ σ' H' < μ σ H,bk:=D.nx } σ H1 else D.nx σ H1)
  (mono:∀ σ H Q Q',(∀ b H1,Q b H1→Q' b H1)→c σ H Q→c σ H Q'):tWhile c tb D σ H:=by
 refine ⟨fun m σ H => m=μ σ H∧Pv σ H,⟨_,rfl,h0⟩,?_⟩
 rintro m σ H ⟨rfl,p⟩
 refine mono σ H _ _ (fun b H1 q => ?_) (hs σ H p)
 cases b with
 | true => exact ⟨_,fun σ' H' ⟨p',l⟩ => ⟨_,l,rfl,p'⟩,q⟩
 | false => exact q
end L2
namespace L2
open PySem PySem.Spec PyProof.Rows
abbrev R2:=V→V→Hp→VK→Prop
def OpR (X:Cx) (f:Value→Value→Sem Value) (r:R2):Prop :=
 ∀ (pins:List (Addr × Obj)) (s:Shared) (σ:St) (H:Hp) (x y:V) (v u:Value) (Q:VK),Inv X pins σ H s→RelV x v→RelV y u→r x y H Q →
  wpAny (model X.prog X.w) X.A (f v u) (EP X pins σ Q) X.xe s
def UnR (X:Cx) (f:Value→Sem Value) (r:V→Hp→VK→Prop):Prop :=
 ∀ (pins:List (Addr × Obj)) (s:Shared) (σ:St) (H:Hp) (x:V) (v:Value) (Q:VK),Inv X pins σ H s→RelV x v→r x H Q →
  wpAny (model X.prog X.w) X.A (f v) (EP X pins σ Q) X.xe s
def CallR (X:Cx) (f:Value) (r:List V→Hp→VK→Prop):Prop :=
 ∀ (pins:List (Addr × Obj)) (s:Shared) (σ:St) (H:Hp) (xs:List V) (us:List Value) (Q:VK),Inv X pins σ H s→Vals xs us→r xs H Q →
  wpAny (model X.prog X.w) X.A (call f us) (EP X pins σ Q) X.xe s
def TruR (X:Cx) (r:V→Hp→(Bool→Hp→Prop)→Prop):Prop :=
 ∀ (pins:List (Addr × Obj)) (s:Shared) (σ:St) (H:Hp) (x:V) (v:Value) (Q:Bool→Hp→Prop),Inv X pins σ H s→RelV x v→r x H Q →
  wpAny (model X.prog X.w) X.A (truthy v) (TP X pins σ Q) X.xe s
def tOp (r:R2) (ta tb:TE):TE:=fun σ H Q => ta σ H fun x H1 => tb σ H1 fun y H2 => r x y H2 Q
def tUn (r:V→Hp→VK→Prop) (ta:TE):TE:=fun σ H Q => ta σ H fun x H1 => r x H1 Q
def rI (C:Int→Int→Prop) (g:Int→Int→V):R2:=fun x y H Q => ∃ i j,x = .int i∧y = .int j∧C i j∧Q (g i j) H
def rI0 (g:Int→Int→V):R2:=fun x y H Q => ∃ i j,x = .int i∧y = .int j∧Q (g i j) H
def rU (g:Int→V):V→Hp→VK→Prop:=fun x H Q => ∃ i,x = .int i∧Q (g i) H
section
variable {X:Cx} {a b c:Expr} {ta tb tc:TE} {pos:PySem.Pos}
theorem binT (ha:PE X a ta) (hb:PE X b tb) {pins:List (Addr × Obj)} {s:Shared} {σ:St} {H:Hp} {R:V→V→Hp→Prop} (I:Inv X pins σ H s)
  (h:ta σ H fun x H1 => tb σ H1 fun y H2 => R x y H2) {Q:Value→Shared→Prop} {f:Value→Value→Sem Value}
  (hf:∀ v u s2 x y H2,Inv X pins σ H2 s2→RelV x v→RelV y u→R x y H2→wpAny (model X.prog X.w) X.A (f v u) Q X.xe s2) :
  wpAny (model X.prog X.w) X.A (eval a X.env) (fun v s₁ => wpAny (model X.prog X.w) X.A (eval b X.env) (fun u s₂ => wpAny (model X.prog X.w) X.A (f v u) Q X.xe s₂) X.xe s₁) X.xe s:=by
 refine thn (ha pins s σ H _ I h) fun v s1 ⟨x,H1,I1,r1,q1⟩ => ?_
 refine thn (hb pins s1 σ H1 _ I1 q1) fun u s2 ⟨y,H2,I2,r2,q2⟩ => ?_
 exact hf v u s2 x y H2 I2 r1 r2 q2
theorem pe_op {op:Operator} {r:R2} (ho:OpR X (binaryOp op) r) (ha:PE X a ta) (hb:PE X b tb):PE X (.BinOp a op b pos) (tOp r ta tb):=by
 intro pins s σ H Q I h
 exact wpAny_BinOp (binT ha hb I h fun v u s2 x y H2 I2 rx ry q => ho pins s2 σ H2 x y v u Q I2 rx ry q)
theorem pe_un {op:UnaryOp} {r:V→Hp→VK→Prop} (ho:UnR X (unaryOp op) r) (ha:PE X a ta):PE X (.UnaryOp op a pos) (tUn r ta):=by
 intro pins s σ H Q I h
 exact UnaryOp_ (thn (ha pins s σ H _ I h) fun v s1 ⟨x,H1,I1,r1,q1⟩ => ho pins s1 σ H1 x v Q I1 r1 q1)
theorem opI {f:Value→Value→Sem Value} {C:Int→Int→Prop} {g:Int→Int→Int}
  (rule:∀ (i j:Int) (t u:Tok) (s:Shared) (Q:Value→Shared→Prop) (E:Value→Shared→Prop),C i j→Q (.int (g i j) s.toks) { s with toks:=s.toks + 1 }→wpAny (model X.prog X.w) X.A (f (.int i t) (.int j u)) Q E s) :
  OpR X f (rI C fun i j => .int (g i j)):=by
 intro pins s σ H x y v u Q I rx ry h
 obtain ⟨i,j,rfl,rfl,hc,q⟩:=h
 obtain ⟨t,rfl⟩:=rx
 obtain ⟨t',rfl⟩:=ry
 exact rule i j t t' s _ _ hc ⟨.int (g i j),H,I.tok _,⟨_,rfl⟩,q⟩
theorem opI0 {f:Value→Value→Sem Value} {g:Int→Int→Int}
  (rule:∀ (i j:Int) (t u:Tok) (s:Shared) (Q:Value→Shared→Prop) (E:Value→Shared→Prop),Q (.int (g i j) s.toks) { s with toks:=s.toks + 1 }→wpAny (model X.prog X.w) X.A (f (.int i t) (.int j u)) Q E s) :
  OpR X f (rI0 fun i j => .int (g i j)):=by
 intro pins s σ H x y v u Q I rx ry h
 obtain ⟨i,j,rfl,rfl,q⟩:=h
 obtain ⟨t,rfl⟩:=rx
 obtain ⟨t',rfl⟩:=ry
 exact rule i j t t' s _ _ ⟨.int (g i j),H,I.tok _,⟨_,rfl⟩,q⟩
theorem opB0 {f:Value→Value→Sem Value} {g:Int→Int→Bool}
  (rule:∀ (i j:Int) (t u:Tok) (s:Shared) (Q:Value→Shared→Prop) (E:Value→Shared→Prop),Q (.bool (g i j)) s→wpAny (model X.prog X.w) X.A (f (.int i t) (.int j u)) Q E s) :
  OpR X f (rI0 fun i j => .bl (g i j)):=by
 intro pins s σ H x y v u Q I rx ry h
 obtain ⟨i,j,rfl,rfl,q⟩:=h
 obtain ⟨t,rfl⟩:=rx
 obtain ⟨t',rfl⟩:=ry
 exact rule i j t t' s _ _ ⟨.bl (g i j),H,I,rfl,q⟩
def CPow (i j:Int):Prop:=0 ≤ j∧j ≤ 1000000∧i.natAbs < 2 ^ 64
def CMul (i j:Int):Prop:=(-(2 ^ 64) < i∧i < 2 ^ 64) ∨ (-(2 ^ 64) < j∧j < 2 ^ 64)
theorem CMul.ok {i j:Int} (h:CMul i j):IntMulOk i j:=by
 rcases h with ⟨h1,h2⟩ | ⟨h1,h2⟩
 ·exact .of_left (intBits_le_64 h1 h2)
 ·exact .of_right (intBits_le_64 h1 h2)
theorem op_add:OpR X (binaryOp .Add) (rI0 fun i j => .int (i + j)):=opI0 fun _ _ _ _ _ _ _ q => add_int q
theorem op_sub:OpR X (binaryOp .Sub) (rI0 fun i j => .int (i - j)):=opI0 fun _ _ _ _ _ _ _ q => sub_int q
theorem op_mul:OpR X (binaryOp .Mult) (rI CMul fun i j => .int (i * j)):=opI fun _ _ _ _ _ _ _ hc q => mul_int q hc.ok
theorem op_mod:OpR X (binaryOp .Mod) (rI (fun _ j => 0 < j) fun i j => .int (i % j)):=opI fun i j _ _ _ _ _ hc q => by
 have h1:(0:Int) < j:=hc
 exact mod_int' (by omega) (by rw [Int.fmod_eq_emod_of_nonneg i (by omega)]; exact q)
theorem op_pow:OpR X (binaryOp .Pow) (rI CPow fun i j => .int (i ^ j.toNat)):=opI fun _ _ _ _ _ _ _ hc q => pow_int_small hc.1 hc.2.1 hc.2.2 q
theorem unI {f:Value→Sem Value} {g:Int→Int}
  (rule:∀ (i:Int) (t:Tok) (s:Shared) (Q:Value→Shared→Prop) (E:Value→Shared→Prop),Q (.int (g i) s.toks) { s with toks:=s.toks + 1 }→wpAny (model X.prog X.w) X.A (f (.int i t)) Q E s) :
  UnR X f (rU fun i => .int (g i)):=by
 intro pins s σ H x v Q I rx h
 obtain ⟨i,rfl,q⟩:=h
 obtain ⟨t,rfl⟩:=rx
 exact rule i t s _ _ ⟨.int (g i),H,I.tok _,⟨_,rfl⟩,q⟩
theorem un_neg:UnR X (unaryOp .USub) (rU fun i => .int (-i)):=unI fun _ _ _ _ _ q => neg_int q
end
def scal:V→V→Bool
 | .non,.non => true | .non,.int _ => true | .int _,.non => true | .non,.bl _ => true | .bl _,.non => true | .non,.str _ => true | .str _,.non => true
 | .int _,.int _ => true | .bl _,.bl _ => true | .str _,.str _ => true | .byt _,.byt _ => true
 | .int _,.str _ => true | .str _,.int _ => true | .bl _,.str _ => true | .str _,.bl _ => true
 | _,_ => false
def rEq:R2:=fun x y H Q => scal x y=true∧Q (.bl (decide (x=y))) H
def rNe:R2:=fun x y H Q => scal x y=true∧Q (.bl (!decide (x=y))) H
theorem dec_int {i j:Int} : decide (V.int i=V.int j)=(i == j):=by
 rw [Bool.eq_iff_iff]
 simp
theorem dec_bl {i j:Bool} : decide (V.bl i=V.bl j)=(i == j):=by
 rw [Bool.eq_iff_iff]
 simp
theorem dec_str {i j:Str} : decide (V.str i=V.str j)=(i == j):=by
 rw [Bool.eq_iff_iff]
 simp
theorem dec_byt {i j:Array UInt8} : decide (V.byt i=V.byt j)=(i.toList == j.toList):=by
 rw [Bool.eq_iff_iff]
 cases i
 cases j
 simp
section
variable {X:Cx} {a b c:Expr} {ta tb tc:TE} {pos:PySem.Pos}
theorem fin_bl {pins:List (Addr × Obj)} {σ:St} {H:Hp} {s:Shared} {Q:VK} {k k' : Bool} (I:Inv X pins σ H s) (q:Q (.bl k) H) (e:k=k'):EP X pins σ Q (.bool k') s:=by
 subst e
 exact ⟨.bl k,H,I,rfl,q⟩
theorem op_eq:OpR X (compareOp .Eq) rEq:=by
 intro pins s σ H x y v u Q I rx ry h
 obtain ⟨hs,q⟩:=h
 cases x with
 | non =>
  cases rx
  cases y with
  | non => cases ry; exact PySem.EqNone.eq_none_none (fin_bl I q (by simp))
  | bl j => cases ry; exact PySem.EqNone.eq_none_bool (fin_bl I q (by simp))
  | int j => obtain ⟨t',rfl⟩:=ry; exact PySem.EqNone.eq_none_int (fin_bl I q (by simp))
  | str j => obtain ⟨t',rfl⟩:=ry; exact PySem.EqNone.eq_none_str (fin_bl I q (by simp))
  | _ => exact absurd (show false=true from hs) Bool.false_ne_true
 | bl i =>
  cases rx
  cases y with
  | non => cases ry; exact PySem.EqNone.eq_bool_none (fin_bl I q (by simp))
  | bl j => cases ry; exact eq_bool (fin_bl I q dec_bl)
  | str j => obtain ⟨t',rfl⟩:=ry; exact PySem.EqMixed.eq_bool_str (fin_bl I q (by simp))
  | _ => exact absurd (show false=true from hs) Bool.false_ne_true
 | int i =>
  obtain ⟨t,rfl⟩:=rx
  cases y with
  | non => cases ry; exact PySem.EqNone.eq_int_none (fin_bl I q (by simp))
  | int j => obtain ⟨t',rfl⟩:=ry; exact eq_int (fin_bl I q dec_int)
  | str j => obtain ⟨t',rfl⟩:=ry; exact PySem.EqMixed.eq_int_str (fin_bl I q (by simp))
  | _ => exact absurd (show false=true from hs) Bool.false_ne_true
 | str i =>
  obtain ⟨t,rfl⟩:=rx
  cases y with
  | non => cases ry; exact PySem.EqNone.eq_str_none (fin_bl I q (by simp))
  | bl j => cases ry; exact PySem.EqMixed.eq_str_bool (fin_bl I q (by simp))
  | int j => obtain ⟨t',rfl⟩:=ry; exact PySem.EqMixed.eq_str_int (fin_bl I q (by simp))
  | str j => obtain ⟨t',rfl⟩:=ry; exact eq_str (fin_bl I q dec_str)
  | _ => exact absurd (show false=true from hs) Bool.false_ne_true
 | byt i =>
  obtain ⟨t,rfl⟩:=rx
  cases y with
  | byt j => obtain ⟨t',rfl⟩:=ry; exact PySem.W.eq_bytes (fin_bl I q dec_byt)
  | _ => exact absurd (show false=true from hs) Bool.false_ne_true
 | _ => cases y <;> exact absurd (show false=true from hs) Bool.false_ne_true
theorem op_ne:OpR X (compareOp .NotEq) rNe:=by
 intro pins s σ H x y v u Q I rx ry h
 obtain ⟨hs,q⟩:=h
 cases x with
 | non =>
  cases rx
  cases y with
  | non => cases ry; exact PySem.EqNone.ne_none_none (fin_bl I q (by simp))
  | bl j => cases ry; exact PySem.EqNone.ne_none_bool (fin_bl I q (by simp))
  | int j => obtain ⟨t',rfl⟩:=ry; exact PySem.EqNone.ne_none_int (fin_bl I q (by simp))
  | str j => obtain ⟨t',rfl⟩:=ry; exact PySem.EqNone.ne_none_str (fin_bl I q (by simp))
  | _ => exact absurd (show false=true from hs) Bool.false_ne_true
 | bl i =>
  cases rx
  cases y with
  | non => cases ry; exact PySem.EqNone.ne_bool_none (fin_bl I q (by simp))
  | bl j => cases ry; exact ne_bool (fin_bl I q (congrArg not dec_bl))
  | str j => obtain ⟨t',rfl⟩:=ry; exact PySem.EqMixed.ne_bool_str (fin_bl I q (by simp))
  | _ => exact absurd (show false=true from hs) Bool.false_ne_true
 | int i =>
  obtain ⟨t,rfl⟩:=rx
  cases y with
  | non => cases ry; exact PySem.EqNone.ne_int_none (fin_bl I q (by simp))
  | int j => obtain ⟨t',rfl⟩:=ry; exact ne_int (fin_bl I q (congrArg not dec_int))
  | str j => obtain ⟨t',rfl⟩:=ry; exact PySem.EqMixed.ne_int_str (fin_bl I q (by simp))
  | _ => exact absurd (show false=true from hs) Bool.false_ne_true
 | str i =>
  obtain ⟨t,rfl⟩:=rx
  cases y with
  | non => cases ry; exact PySem.EqNone.ne_str_none (fin_bl I q (by simp))
  | bl j => cases ry; exact PySem.EqMixed.ne_str_bool (fin_bl I q (by simp))
  | int j => obtain ⟨t',rfl⟩:=ry; exact PySem.EqMixed.ne_str_int (fin_bl I q (by simp))
  | str j => obtain ⟨t',rfl⟩:=ry; exact ne_str (fin_bl I q (congrArg not dec_str))
  | _ => exact absurd (show false=true from hs) Bool.false_ne_true
 | byt i =>
  obtain ⟨t,rfl⟩:=rx
  cases y with
  | byt j => obtain ⟨t',rfl⟩:=ry; exact PySem.W.ne_bytes (fin_bl I q (congrArg not dec_byt))
  | _ => exact absurd (show false=true from hs) Bool.false_ne_true
 | _ => cases y <;> exact absurd (show false=true from hs) Bool.false_ne_true
theorem op_lt:OpR X (compareOp .Lt) (rI0 fun i j => .bl (decide (i < j))):=opB0 fun _ _ _ _ _ _ _ q => lt_int q
theorem op_gt:OpR X (compareOp .Gt) (rI0 fun i j => .bl (decide (j < i))):=opB0 fun _ _ _ _ _ _ _ q => gt_int q
theorem op_ge:OpR X (compareOp .GtE) (rI0 fun i j => .bl (decide (j ≤ i))):=opB0 fun _ _ _ _ _ _ _ q => ge_int q
theorem nomark (b:Expr) {op:CmpOp} (h:op ≠ .In:=by decide) (h2:op ≠ .NotIn:=by decide):behindInMarks op b=false:=by
 have e1:(op == CmpOp.In)=false:=by cases op <;> first | rfl | exact absurd rfl h
 have e2:(op == CmpOp.NotIn)=false:=by cases op <;> first | rfl | exact absurd rfl h2
 cases b <;> simp [behindInMarks,e1,e2]
theorem pe_cmpR {op:CmpOp} {r:R2} (ho:OpR X (compareOp op) r) (ha:PE X a ta) (hb:PE X b tb) (hm:behindInMarks op b=false):PE X (.Compare a [op] [b] pos) (tOp r ta tb):=by
 intro pins s σ H Q I h
 exact wpAny_Compare1 (binT ha hb I h fun v u s2 x y H2 I2 rx ry q => ho pins s2 σ H2 x y v u Q I2 rx ry q) hm
def tTest (t:TE):TT:=fun σ H Q => t σ H fun x H' => ∃ k,x = .bl k∧Q k H'
theorem pt_cmpR {op:CmpOp} {r:R2} (ho:OpR X (compareOp op) r) (ha:PE X a ta) (hb:PE X b tb) (hm:behindInMarks op b=false):PT X (.Compare a [op] [b] pos) (tTest (tOp r ta tb)):=by
 intro pins s σ H Q I h
 refine wpAny_isTrue_Compare1 (thn (ha pins s σ H _ I h) fun v s1 ⟨x,H1,I1,r1,q1⟩ => thn (hb pins s1 σ H1 _ I1 q1) fun u s2 ⟨y,H2,I2,r2,q2⟩ =>
  thn (ho pins s2 σ H2 x y v u _ I2 r1 r2 q2) fun c s3 ⟨z,H3,I3,r3,k,e,q3⟩ => ?_) hm
 subst e
 cases r3
 exact wpAny_truthy_bool ⟨H3,I3,q3⟩
def TruV (K:PySem.W.Frag) (x:V) (H:Hp) (k:Bool):Prop :=
 match x with
 | .non => k=false
 | .bl b => k=b
 | .int i => k=(i != 0)
 | .str y => y.length ≤ sizeLine∧k=((y.length:Int) != 0)
 | .byt y => y.size ≤ sizeLine∧k=((y.size:Int) != 0)
 | .ref p => (∃ xs,SqL K H p xs∧k = !xs.isEmpty) ∨ (∃ xs,SqT K H p xs∧k = !xs.isEmpty) ∨ ∃ kvs,H p=some (.dK kvs)∧k = !kvs.isEmpty
 | _ => False
theorem isEmpty_kv {κ:Type} {kvs:List (κ × V)} {vs:List (κ × Value)} (r:KV kvs vs):(!vs.isEmpty) = !kvs.isEmpty:=by
 cases r <;> rfl
theorem isEmpty_of {xs:List V} {its:List Value} (r:Vals xs its):(!its.toArray.isEmpty) = !xs.isEmpty:=by
 cases r <;> simp
theorem line63:(sizeLine:Nat) < 2 ^ 63:=by rw [sizeLine_eq]; decide
theorem tru_ok:TruR X (fun x H Q => ∃ k,TruV X.K x H k∧Q k H):=by
 intro pins s σ H x v Q I rx h
 obtain ⟨k,e,q⟩:=h
 have hl:=line63
 have hs:sizeLine=16777216:=sizeLine_eq
 cases x with
 | non =>
  cases rx
  have e' : k=false:=e
  subst e'
  exact truthy_none ⟨H,I,q⟩
 | bl b =>
  cases rx
  have e' : k=b:=e
  subst e'
  exact wpAny_truthy_bool ⟨H,I,q⟩
 | int i =>
  obtain ⟨t,rfl⟩:=rx
  have e' : k=(i != 0):=e
  subst e'
  exact PySem.P.truthy_int ⟨H,I,q⟩
 | str y =>
  obtain ⟨t,rfl⟩:=rx
  obtain ⟨hy,e'⟩:y.length ≤ sizeLine∧k=((y.length:Int) != 0):=e
  subst e'
  exact PySem.P.truthy_str (by omega) ⟨H,I.tok _,q⟩
 | byt y =>
  obtain ⟨t,rfl⟩:=rx
  obtain ⟨hy,e'⟩:y.size ≤ sizeLine∧k=((y.size:Int) != 0):=e
  subst e'
  exact PySem.W.truthy_bytes (by omega) ⟨H,I.tok _,q⟩
 | ref p =>
  cases rx
  have e' : (∃ xs,SqL X.K H p xs∧k = !xs.isEmpty) ∨ (∃ xs,SqT X.K H p xs∧k = !xs.isEmpty) ∨ ∃ kvs,H p=some (.dK kvs)∧k = !kvs.isEmpty:=e
  rcases e' with ⟨xs,hx,e'⟩ | ⟨xs,hx,e'⟩ | ⟨kvs,hx,e'⟩
  ·subst e'
   obtain ⟨its,r,pl,hz⟩:=I.list hx
   have hlen:=r.length
   exact wpAny_truthy_list pl.isList (by simp only [List.size_toArray]; omega) ⟨H,I.tok _,by rw [isEmpty_of r]; exact q⟩
  ·subst e'
   obtain ⟨its,r,pl,hz⟩:=I.tuple hx
   have hlen:=r.length
   exact truthy_tuple pl (by simp only [List.size_toArray]; omega) ⟨H,I.tok _,by rw [isEmpty_of r]; exact q⟩
  ·subst e'
   obtain ⟨hz,hS,vs,r,m⟩:kvs.length ≤ sizeLine∧(p == sysModules)=false∧∃ vs,KV kvs vs∧s.heap.DictOf (mixKind X.prog X.w) p vs:=I.hok p _ hx
   have hlen:kvs.length=vs.length:=Paired.length r
   exact wpAny_truthy_dict hS m (by omega) ⟨H,I.tok _,by rw [isEmpty_kv r]; exact q⟩
 | _ => exact (show False from e).elim
theorem pt_truth (ha:PE X a ta) (he:∀ whole,isTrue a X.env whole=(do let v ← whole; standAt a.pos; holding [v] (truthy v))) :
  PT X a (fun σ H Q => ta σ H fun x H' => ∃ k,TruV X.K x H' k∧Q k H'):=by
 intro pins s σ H Q I h
 exact isTrue_plain (thn (ha pins s σ H _ I h) fun v s1 ⟨x,H1,I1,r1,q1⟩ => tru_ok pins s1 σ H1 x v Q I1 r1 q1) (he _)
theorem vals1 {x:V} {us:List Value} (r:Vals [x] us):∃ u,us=[u]∧RelV x u:=by
 cases r with
 | cons r1 r2 => cases r2; exact ⟨_,rfl,r1⟩
theorem vals2 {x y:V} {us:List Value} (r:Vals [x,y] us):∃ u w',us=[u,w']∧RelV x u∧RelV y w':=by
 cases r with
 | cons r1 r2 =>
  cases r2 with
  | cons r3 r4 => cases r4; exact ⟨_,_,rfl,r1,r3⟩
theorem call_max2 (hc:X.calm=true):CallR X (.builtin "max") (fun xs H Q => ∃ i j,xs=[.int i,.int j]∧Q (.int (if j > i then j else i)) H):=by
 intro pins s σ H xs us Q I r h
 obtain ⟨i,j,rfl,q⟩:=h
 obtain ⟨u,w',rfl,⟨t,rfl⟩,⟨t',rfl⟩⟩:=vals2 r
 refine max_two_ints (I.ok.hd hc) fun h' tk k => ⟨_,H,I.kept k,?_,q⟩
 by_cases hj:j > i
 ·rw [if_pos hj,if_pos hj]; exact ⟨_,rfl⟩
 ·rw [if_neg hj,if_neg hj]; exact ⟨_,rfl⟩
theorem call_min2 (hc:X.calm=true):CallR X (.builtin "min") (fun xs H Q => ∃ i j,xs=[.int i,.int j]∧Q (.int (if j < i then j else i)) H):=by
 intro pins s σ H xs us Q I r h
 obtain ⟨i,j,rfl,q⟩:=h
 obtain ⟨u,w',rfl,⟨t,rfl⟩,⟨t',rfl⟩⟩:=vals2 r
 refine min_two_ints (I.ok.hd hc) fun h' tk k => ⟨_,H,I.kept k,?_,q⟩
 by_cases hj:j < i
 ·rw [if_pos hj,if_pos hj]; exact ⟨_,rfl⟩
 ·rw [if_neg hj,if_neg hj]; exact ⟨_,rfl⟩
theorem call_int1:CallR X (.type "int") (fun xs H Q => (∃ i,xs=[.int i]∧Q (.int i) H) ∨ ∃ k,xs=[.bl k]∧Q (.int (if k then 1 else 0)) H):=by
 intro pins s σ H xs us Q I r h
 rcases h with ⟨i,rfl,q⟩ | ⟨k,rfl,q⟩
 ·obtain ⟨u,rfl,t,rfl⟩:=vals1 r
  exact call_int_int ⟨.int i,H,I,⟨_,rfl⟩,q⟩
 ·obtain ⟨u,rfl,r1⟩:=vals1 r
  cases r1
  exact call_int_bool ⟨.int (if k then 1 else 0),H,I.tok _,⟨_,rfl⟩,q⟩
end
end L2
namespace L2
open PySem PySem.Spec PyProof.Rows
theorem RelO.some_of {v:V} {o:Option Value} (r:RelO (some v) o):∃ u,o=some u∧RelV v u:=by
 cases o with
 | none => exact (show False from r).elim
 | some u => exact ⟨u,rfl,r⟩
end L2
namespace L2
open PySem PySem.Spec PyProof.Rows
structure Room (k:Nat) (A:Around):Prop where
 hd:A.handled=none
 dp:A.depth + 3 * k + 5 < recursionLimit
 un:A.units + 16 * k + 200 < cLine
 gd:A.guards=some []
theorem Room.mono {j k:Nat} {A:Around} (r:Room k A) (h:j ≤ k):Room j A:=⟨r.hd,by have:=r.dp; omega,by have:=r.un; omega,r.gd⟩
theorem Room.deeper {k:Nat} {A:Around} (r:Room (k + 1) A) (env:Env):Room k (A.deeper env) :=
 ⟨r.hd,by have:=r.dp; show A.depth + 1 + 3 * k + 5 < _; omega,by have:=r.un; show A.units + 3 + 16 * k + 200 < _; omega,r.gd⟩
theorem Room.depth {k:Nat} {A:Around} (r:Room k A):A.depth < recursionLimit:=by have:=r.dp; omega
theorem Room.units {k:Nat} {A:Around} (r:Room k A):A.units + 64 < cLine:=by have:=r.un; omega
def tNil:TA:=fun _ H Q => Q [] H
def tCons (ta:TE) (tr:TA):TA:=fun σ H Q => ta σ H fun x H1 => tr σ H1 fun xs H2 => Q (x :: xs) H2
section
variable {X:Cx} {e:Expr} {es:List Expr} {te:TE} {t:TA} {pos:PySem.Pos}
theorem pa_nil:PA X [] tNil:=fun _ _ _ _ H Q I h => Calls.spliced_nil ⟨[],H,I,.nil,h⟩
theorem pa_cons (ha:PE X e te) (hr:PA X es t) (hs:starEach (e :: es) X.env=(false,eval e X.env) :: starEach es X.env:=by rfl):PA X (e :: es) (tCons te t):=by
 intro pos pins s σ H Q I h
 rw [hs]
 show wpAny _ _ (spliced ((false,eval e X.env) :: backTo pos (starEach es X.env))) _ _ s
 refine Calls.spliced_cons (thn (ha pins s σ H _ I h) fun u s1 ⟨x,H1,I1,r1,q1⟩ => ?_)
 exact thn (hr pos pins s1 σ H1 _ I1 q1) fun us s2 ⟨xs,H2,I2,r2,q2⟩ => ⟨x :: xs,H2,I2,.cons r1 r2,q2⟩
def tTup (t:TA):TE:=fun σ H Q => t σ H fun xs H1 => xs.length ≤ sizeLine∧∀ p,H1 p=none→Q (.ref p) (upd H1 p (.tup xs))
def tLst (t:TA):TE:=fun σ H Q => t σ H fun xs H1 => xs.length ≤ sizeLine∧∀ p,H1 p=none→Q (.ref p) (upd H1 p (.lst xs))
theorem pe_tup {x1} (h:PA X es t):PE X (.Tuple es x1 pos) (tTup t):=by
 intro pins s σ H Q I hq
 refine wpAny_Tuple_spliced (thn (h pos pins s σ H _ I hq) fun us s1 ⟨xs,H1,I1,r,z,q⟩ => ⟨by rw [← r.length]; exact z,?_⟩)
 have hf:H1 s1.heap.objs.size=none:=I1.hok.fresh (Nat.le_refl _)
 refine ⟨.ref s1.heap.objs.size,upd H1 s1.heap.objs.size (.tup xs),I1.laid (t':=s1.toks) (fun b u e => Heap.get?_push_of_some _ e) (Nat.le_refl _) ?_,rfl,q _ hf⟩
 exact ⟨z,us,r,⟨_,Heap.get?_push_size _ rfl,rfl,_,rfl⟩⟩
theorem pe_lst (h:PA X es t):PE X (.List es pos) (tLst t):=by
 intro pins s σ H Q I hq
 refine wpAny_List_spliced (thn (h pos pins s σ H _ I hq) fun us s1 ⟨xs,H1,I1,r,z,q⟩ => ⟨by rw [← r.length]; exact z,?_⟩)
 have hf:H1 s1.heap.objs.size=none:=I1.hok.fresh (Nat.le_refl _)
 refine ⟨.ref s1.heap.objs.size,upd H1 s1.heap.objs.size (.lst xs),I1.laid (t':=s1.toks) (fun b u e => Heap.get?_push_of_some _ e) (Nat.le_refl _) ?_,rfl,q _ hf⟩
 exact ⟨z,us,0,r,Heap.get?_push_size _ rfl⟩
end
abbrev Sp:=List V→Hp→VK→XK→Prop
abbrev CXT:=List Env→Hp→Shared→XK→Value→Shared→Prop
structure Env0 (P:Program) (w:World) (K:PySem.W.Frag) (mg:Str→Option Value) (base:Heap) (A:Around) (outer:List Env) (s:Shared) (H:Hp):Prop where
 frames:A.frames=some outer
 mod:Mod K mg base
 bs:∀ b o,base.get? b=some o→s.heap.get? b=some o∧H b=none
 bsz:base.objs.size ≤ s.heap.objs.size
 funs:s.heap.FunFrames base outer
 frf:∀ b ∈ frs outer,H b=none
 hok:HOk P w H s.heap
 bare:AllBare s.gens
def CE (outer:List Env) (P:Program) (w:World) (H:Hp) (s:Shared) (Q:VK) (u:Value) (s' : Shared):Prop :=
 ∃ v H',s'.os=s.os∧AllBare s'.gens∧Un (frs outer) [] H H' s.heap s'.heap∧HOk P w H' s'.heap∧RelV v u∧Q v H'
def CR (CX:CXT) (outer:List Env) (P:Program) (w:World) (H:Hp) (s:Shared) (Q:VK) (E:XK) (r:Result) (s' : Shared):Prop :=
 match r with
 | .ok (.ret u) => CE outer P w H s Q u s'
 | .ok _ => False
 | .error e => CX outer H s E e s'
structure FnOk (P:Program) (w:World) (K:PySem.W.Frag) (mg:Str→Option Value) (base:Heap) (CX:CXT) (k:Nat) (f:Addr) (fd:FuncData) (ps:List Str) (sp:Sp):Prop where
 len:∀ vs H Q E,sp vs H Q E→vs.length=ps.length
 run:∀ (A:Around) (outer:List Env) (s:Shared) (H:Hp) (args:Args) (us:List Value) (vs:List V) (Q:VK) (E:XK),Room k A→Env0 P w K mg base A outer s H→BindsTo s fd args (ps.zip us)→Vals vs us→sp vs H Q E →
  codeAny (model P w) A (.call (.ref f) args) (CR CX outer P w H s Q E) s
section
variable {X:Cx} {pins:List (Addr × Obj)} {σ:St} {H:Hp} {s s' : Shared}
theorem Inv.env0 (I:Inv X pins σ H s):Env0 X.prog X.w X.K X.mg X.base X.A X.stack s H :=
 ⟨I.ok.frames,I.ok.mod,I.bs,Nat.le_trans I.ok.bsz I.sz,I.stack,I.stkFree,I.hok,I.bare⟩
theorem Inv.after {Q:VK} {u:Value} (I:Inv X pins σ H s) (h:CE X.stack X.prog X.w H s Q u s'):EP X pins σ Q u s':=by
 obtain ⟨v,H',os,bare,un,hok,r,q⟩:=h
 obtain ⟨hh,g,d,t,os'⟩:=s'
 obtain rfl:os' = s.os:=os
 exact ⟨v,H',I.call (h':=hh) (g':=g) (d':=d) (t':=t) (ch:=[]) un hok bare (fun b z => absurd z (by simp)),r,q⟩
end
def tCall (sp:Sp) (dvs:List V) (E:XK) (t:TA):TE:=fun σ H Q => t σ H fun vs H1 => sp (vs ++ dvs) H1 Q E
def Binds (K:PySem.W.Frag) (fd:FuncData) (ps:List Str) (ds:List Value):Prop :=
 ∀ (s:Shared) (us:List Value),K.In s.heap→(us ++ ds).length=ps.length→BindsTo s fd ⟨us,[]⟩ (ps.zip (us ++ ds))
theorem Binds.all {K:PySem.W.Frag} {fd:FuncData} {ps:List Str} (h:∀ us:List Value,us.length=ps.length→bindArgs fd ⟨us,[]⟩=pure (ps.zip us)):Binds K fd ps []:=fun s us _ hl => by
 rw [List.append_nil] at hl ⊢
 exact .of_eq (h us hl)
def Passes (CX:CXT) (X:Cx) (E:XK):Prop:=∀ (pins:List (Addr × Obj)) (σ:St) (H:Hp) (s:Shared) (e:Value) (s' : Shared),Inv X pins σ H s→CX X.stack H s E e s'→X.xe e s'
section
variable {X:Cx} {CX:CXT} {k:Nat} {f C:Addr} {fd:FuncData} {ps:List Str} {sp:Sp} {dvs:List V} {ds:List Value} {E:XK} {x m:Str} {p pos apos:PySem.Pos} {e o:Expr} {es:List Expr} {ta:TE} {t:TA}
theorem run_fn {pins:List (Addr × Obj)} {σ:St} {H:Hp} {s:Shared} {Q:VK} {us:List Value} {vs:List V} (F:FnOk X.prog X.w X.K X.mg X.base CX k f fd ps sp) (hr:Room k X.A) (hb:Binds X.K fd ps ds) (hd:Vals dvs ds) (hx:Passes CX X E)
  (I:Inv X pins σ H s) (r:Vals vs us) (h:sp (vs ++ dvs) H Q E):wpAny (model X.prog X.w) X.A (call (.ref f) us) (EP X pins σ Q) X.xe s:=by
 have r2:Vals (vs ++ dvs) (us ++ ds):=r.append hd
 have hl:(us ++ ds).length=ps.length:=by rw [← r2.length]; exact F.len _ _ _ _ h
 refine wpAny_call (codeAny_mono (F.run X.A X.stack s H ⟨us,[]⟩ (us ++ ds) (vs ++ dvs) Q E hr I.env0 (hb s us I.kIn hl) r2 h) fun r s' hq => ?_)
 cases r with
 | error e => exact hx pins σ H s e s' I hq
 | ok fl =>
  cases fl with
  | ret u => exact I.after hq
  | next => exact False.elim hq
  | brk => exact False.elim hq
  | cont => exact False.elim hq
theorem pe_call (F:FnOk X.prog X.w X.K X.mg X.base CX k f fd ps sp) (hr:Room k X.A) (hg:Gl X x) (hm:X.mg x=some (.ref f)) (hk:PySem.W.keepIn X.K (.ref f)=true) (hb:Binds X.K fd ps ds) (hd:Vals dvs ds) (hx:Passes CX X E)
  (ha:PA X (e :: es) t) (hdb:(x == ("__debug__" : Str))=false:=by decide) (he:starEach (e :: es) X.env=(false,eval e X.env) :: starEach es X.env:=by rfl) (hpl:(backTo pos (starEach es X.env)).any (·.1)=false:=by rfl) :
  PE X (.Call (.Name x p) (e :: es) [] pos) (tCall sp dvs E t):=by
 intro pins s σ H Q I h
 refine wpAny_Call_Name_kw (ld_glob I hg hm ?_ hdb)
 refine PySem.W.callWith_K (h₀:=X.base) I.ok.mod.kin hk (thn (ha pos pins s σ H _ I h) fun us s1 ⟨vs,H1,I1,r,q⟩ => ⟨I1.kIn,?_⟩) he hpl
 exact run_fn F hr hb hd hx I1 r q
end
structure FnScope (N P:List Str) (sc:Scope):Prop where
 kind:sc.kind = .function
 co:sc.isCoroutine=false
 gen:sc.isGenerator=false
 nd:N.Nodup
 pre:N.take P.length=P
 par:∀ x ∈ P,sc.names.lookup x=some .local ∨ sc.names.lookup x=some .cell
 nofree:∀ y ∈ sc.names,y.2 ≠ .free
theorem bindL_out {kindOf:Str→Option NameKind} {x:Str} : ∀ {binds:List (Str × Value)} {m:Str→Option Value},(∀ v,(x,v) ∉ binds)→bindL kindOf binds m x=m x
 | [],_,_ => rfl
 | (n,v) :: r,m,h => by
  unfold bindL
  rw [bindL_out fun w hw => h w (List.mem_cons_of_mem _ hw)]
  split
  ·have:x ≠ n:=by rintro rfl; exact h v List.mem_cons_self
   simp [this]
  ·rfl
theorem bindC_out {kindOf:Str→Option NameKind} {x:Str} : ∀ {binds:List (Str × Value)} {m:Str→Option Value},(∀ v,(x,v) ∉ binds)→bindC kindOf binds m x=m x
 | [],_,_ => rfl
 | (n,v) :: r,m,h => by
  unfold bindC
  rw [bindC_out fun w hw => h w (List.mem_cons_of_mem _ hw)]
  split
  ·rfl
  ·have:x ≠ n:=by rintro rfl; exact h v List.mem_cons_self
   simp [this]
theorem bindL_get {kindOf:Str→Option NameKind} {x:Str} {v:Value} : ∀ {P:List Str} {vs:List Value} {i:Nat} {m:Str→Option Value},P.Nodup→P[i]? = some x→vs[i]? = some v→kindOf x=some .local →
  bindL kindOf (P.zip vs) m x=some v
 | [],_,_,_,_,h,_,_ => by simp at h
 | _ :: _,[],_,_,_,_,h,_ => by simp at h
 | p :: P,w :: vs,0,m,nd,h1,h2,hk => by
  simp at h1 h2; subst h1; subst h2
  show bindL kindOf ((p,w) :: P.zip vs) m p=_
  unfold bindL
  rw [bindL_out fun v hv => (List.nodup_cons.mp nd).1 (List.of_mem_zip hv).1,if_pos hk]
  simp
 | p :: P,w :: vs,i + 1,m,nd,h1,h2,hk => by
  show bindL kindOf ((p,w) :: P.zip vs) m x=_
  unfold bindL
  exact bindL_get (i:=i) (List.nodup_cons.mp nd).2 (by simpa using h1) (by simpa using h2) hk
theorem bindC_get {kindOf:Str→Option NameKind} {x:Str} {v:Value} : ∀ {P:List Str} {vs:List Value} {i:Nat} {m:Str→Option Value},P.Nodup→P[i]? = some x→vs[i]? = some v→kindOf x ≠ some .local →
  bindC kindOf (P.zip vs) m x=some v
 | [],_,_,_,_,h,_,_ => by simp at h
 | _ :: _,[],_,_,_,_,h,_ => by simp at h
 | p :: P,w :: vs,0,m,nd,h1,h2,hk => by
  simp at h1 h2; subst h1; subst h2
  show bindC kindOf ((p,w) :: P.zip vs) m p=_
  unfold bindC
  rw [bindC_out fun v hv => (List.nodup_cons.mp nd).1 (List.of_mem_zip hv).1,if_neg hk]
  simp
 | p :: P,w :: vs,i + 1,m,nd,h1,h2,hk => by
  show bindC kindOf ((p,w) :: P.zip vs) m x=_
  unfold bindC
  exact bindC_get (i:=i) (List.nodup_cons.mp nd).2 (by simpa using h1) (by simpa using h2) hk
def start (N:List Str) (vs:List V):St:=vs.map some ++ List.replicate (N.length - vs.length) none
def cxOf (CX:CXT) (P:Program) (w:World) (K:PySem.W.Frag) (mg:Str→Option Value) (base:Heap) (N:List Str) (qual:Str) (scope:Scope) (f:Addr) (cd:Value) (A:Around) (outer:List Env) (s:Shared) (H:Hp) (E:XK):Cx where
 prog:=P
 w:=w
 K:=K
 mg:=mg
 base:=base
 A:=A.deeper (envOfC qual scope s.heap.objs.size f cd)
 N:=N
 s₀:=s
 H₀:=H
 env:=envOfC qual scope s.heap.objs.size f cd
 outer:=outer
 stack:=envOfC qual scope s.heap.objs.size f cd :: outer
 ex:=[]
 calm:=true
 fn:=fun _ => true
 pn:=[]
 xe:=fun e s' => wpAny (model P w) (A.deeper (envOfC qual scope s.heap.objs.size f cd)) (leaving (envOfC qual scope s.heap.objs.size f cd) e) (fun _ s'' => CX outer H s E e s'') (fun e' s'' => CX outer H s E e' s'') s'
theorem cell_has {sc:Scope} {n:Nat} {x:Str} (h:sc.names.lookup x=some .cell):∃ c,(cellsFrom n sc.names []).lookup x=some c:=by
 have q:=PySem.W.cellsFrom_some sc.names n [] (.inl h)
 exact Option.isSome_iff_exists.mp q
theorem inv_start {CX:CXT} {P:Program} {w:World} {K:PySem.W.Frag} {mg:Str→Option Value} {base:Heap} {N ps:List Str} {qual:Str} {scope:Scope} {f:Addr} {cd:Value} {A:Around} {outer:List Env} {s s1:Shared} {H:Hp} {E:XK} {us:List Value} {vs:List V}
  (S:FnScope N ps scope) (hd:A.handled=none) (e0:Env0 P w K mg base A outer s H) (hl:vs.length=ps.length) (r:Vals vs us)
  (x:InCallC s s.heap.objs.size (bindL (envOfC qual scope s.heap.objs.size f cd).kindOf (ps.zip us) fun _ => none) (cellsFrom (s.heap.objs.size + 1) scope.names []) (bindC (envOfC qual scope s.heap.objs.size f cd).kindOf (ps.zip us) fun _ => none) s1) :
  Inv (cxOf CX P w K mg base N qual scope f cd A outer s H E) [] (start N vs) H s1:=by
 have hpl:ps.length ≤ N.length:=by have:=congrArg List.length S.pre; rw [List.length_take] at this; omega
 obtain ⟨h1,tk,rfl,hk⟩:=x.done
 have noA:∀ b:Addr,b ∉ (cxOf CX P w K mg base N qual scope f cd A outer s H E).ex:=fun b z => absurd (show b ∈ ([]:List Addr) from z) (by simp)
 refine ⟨⟨e0.mod,S.kind,rfl,rfl,Nat.le_refl _,fun y z c h1 h2 => ?_,fun y hy => ?_,fun y c _ h => ?_,fun _ => hd,Around.frames_deeper e0.frames,.inr ⟨rfl,rfl⟩,fun b z => absurd z (noA b),e0.bs,e0.bsz,fun b _ _ => noA b,fun b z => absurd z (noA b),e0.funs,e0.frf⟩,
  rfl,e0.bare,Un.kept hk,⟨_,x.toInCall.ns,fun i y v h1 h2 h3 => ?_⟩,fun y c h => ⟨_,x.cell y c h⟩,e0.hok.fresh (Nat.le_refl _),fun y c h => ?_,fun p hp => absurd (show p ∈ ([]:List (Addr × Obj)) from hp) (by simp),e0.hok.kept hk,?_⟩
 ·exact name_of_addr x.apart (PySem.mem_of_lookup h1) (PySem.mem_of_lookup h2)
 ·have hy:scope.names.lookup y=some .cell ∨ scope.names.lookup y=some .free:=hy
  rcases hy with hy | hy
  ·exact cell_has hy
  ·exact absurd rfl (S.nofree _ (PySem.mem_of_lookup hy))
 ·exact Nat.le_of_lt (x.above y c (PySem.mem_of_lookup h))
 ·have hi:i < vs.length:=by
   unfold start at h2
   by_cases hi:i < vs.length
   ·exact hi
   ·rw [List.getElem?_append_right (by simpa using hi)] at h2
    rw [List.getElem?_replicate] at h2
    split at h2 <;> cases h2
  have ha:vs[i]? = some v:=by
   unfold start at h2
   rw [List.getElem?_append_left (by simpa using hi),List.getElem?_map] at h2
   cases e:vs[i]? with
   | none => rw [e] at h2; cases h2
   | some a => rw [e] at h2; cases h2; rfl
  obtain ⟨u,hu,rv⟩:=r.get ha
  have hp:ps[i]? = some y:=by
   rw [← S.pre,List.getElem?_take_of_lt (by omega)]; exact h1
  have ndP:ps.Nodup:=by rw [← S.pre]; exact S.nd.sublist (List.take_sublist _ _)
  refine ⟨u,rv,?_⟩
  rcases S.par y (List.mem_of_getElem? hp) with k | k
  ·exact .inl ⟨k,bindL_get ndP hp hu k⟩
  ·obtain ⟨c,e⟩:=cell_has (n:=s.heap.objs.size + 1) k
   refine .inr ⟨.inl k,c,e,?_⟩
   have q:=x.cell y c e
   rw [bindC_get ndP hp hu (by show scope.names.lookup y ≠ _; rw [k]; decide)] at q
   exact q
 ·exact e0.hok.fresh (Nat.le_of_lt (x.above y c (PySem.mem_of_lookup h)))
 ·unfold start
  show _=N.length
  rw [List.length_append,List.length_map,List.length_replicate]
  omega
theorem fn_of {CX:CXT} {P:Program} {w:World} {K:PySem.W.Frag} {mg:Str→Option Value} {base:Heap} {k:Nat} {f:Addr} {name qual:Str} {params:Arguments} {body:List Stmt} {scope:Scope} {dV kV doc pm cdv ct oc:Value} {an od:Option Addr}
  {osl:Array (Option Value)} {N ps:List Str} {sp:Sp} (lk:K.lookup f=some ⟨oc,od,.func (PySem.W.fnOf name qual params body scope dV kV doc pm an cdv ct),osl⟩) (hcd:PySem.W.codeIn K cdv qual=true) (S:FnScope N ps scope)
  (len:∀ vs H Q E,sp vs H Q E→vs.length=ps.length)
  (hbody:∀ (A:Around) (outer:List Env) (s:Shared) (H:Hp) (vs:List V) (Q:VK) (E:XK),Room k (A.deeper (envOfC qual scope s.heap.objs.size f cdv))→sp vs H Q E →
   ∃ t,PSs (cxOf CX P w K mg base N qual scope f cdv A outer s H E) body t∧t { nx:=fun _ H' => Q .non H',rt:=Q } (start N vs) H) :
  FnOk P w K mg base CX (k + 1) f (PySem.W.fnOf name qual params body scope dV kV doc pm an cdv ct) ps sp:=by
 refine ⟨len,fun A outer s H args us vs Q E hr e0 hb r hsp => ?_⟩
 have hl:=len _ _ _ _ hsp
 have KX:K.In s.heap:=e0.mod.kin.keeps fun b o e => (e0.bs b o e).1
 have lim:s.heap.NoLimit:=e0.mod.nolimit.keeps fun b o e => (e0.bs b o e).1
 have hkind:∀ y ∈ ps.zip us,scope.names.lookup y.1=some .local ∨ (scope.names.lookup y.1=some .cell∧((cellsFrom (s.heap.objs.size + 1) scope.names []).lookup y.1).isSome=true):=fun ⟨n,v⟩ hy => by
  rcases S.par n (List.of_mem_zip hy).1 with q | q
  ·exact .inl q
  ·exact .inr ⟨q,PySem.W.cellsFrom_some _ _ _ (.inl q)⟩
 refine codeAny_call_function hr.depth (KX _ _ lk) rfl S.co S.gen rfl (PySem.W.codeRec_of KX hcd) (hb _ _ _ _ ?_)
 refine wpAny_newFunctionEnv_cells S.kind hkind fun env he s1 x => ?_
 subst he
 refine ⟨lim.keeps x.toInCall.keep,codeAny_func ?_⟩
 obtain ⟨t,ht,hq⟩:=hbody A outer s H vs Q E (hr.deeper _) hsp
 have I:Inv (cxOf CX P w K mg base N qual scope f cdv A outer s H E) [] (start N vs) H s1:=inv_start S hr.hd e0 hl r x
 refine wpAny_mono (ht [] s1 (start N vs) H _ I hq) (fun fl s' hs => ?_) fun e s' hs => hs
 have fin:∀ {σ' : St} {H' : Hp} {v:V} {u:Value},Inv (cxOf CX P w K mg base N qual scope f cdv A outer s H E) [] σ' H' s'→RelV v u→Q v H'→CE outer P w H s Q u s' :=
  fun {σ' H' v u} J rv q => ⟨v,H',J.os,J.bare,J.base,J.hok,rv,q⟩
 cases fl with
 | ret u =>
  obtain ⟨v,σ',H',J,rv,q⟩:=hs
  exact fin J rv q
 | next =>
  obtain ⟨σ',H',J,q⟩:=hs
  exact fin (v:=V.non) (u:=Value.none) J rfl q
 | brk =>
  obtain ⟨_,_,_,q⟩:=hs
  exact False.elim q
 | cont =>
  obtain ⟨_,_,_,q⟩:=hs
  exact False.elim q
end L2
namespace L2
open PySem PySem.Spec PyProof.Rows
section
variable {X:Cx} {x:Str} {p pos:PySem.Pos} {e:Expr} {es:List Expr} {t:TA} {id T:String} {r:List V→Hp→VK→Prop}
def tCB (r:List V→Hp→VK→Prop) (t:TA):TE:=fun σ H Q => t σ H fun vs H1 => r vs H1 Q
theorem pe_callB (hc:CallR X (.builtin id) r) (hg:Gl X x) (hm:X.mg x=none) (hv:bootBuiltins x=some (.builtin id)) (ha:PA X (e :: es) t) (hn:x ≠ "__name__" := by decide) (hdb:(x == ("__debug__" : Str))=false:=by decide)
  (he:starEach (e :: es) X.env=(false,eval e X.env) :: starEach es X.env:=by rfl) (hpl:(backTo pos (starEach es X.env)).any (·.1)=false:=by rfl):PE X (.Call (.Name x p) (e :: es) [] pos) (tCB r t):=by
 intro pins s σ H Q I h
 refine wpAny_Call_Name_kw (ld_blt I hg hm hv ?_ hn hdb)
 exact PyProof.Rows.callWith_builtin1 (thn (ha pos pins s σ H _ I h) fun us s1 ⟨vs,H1,I1,r1,q1⟩ => hc pins s1 σ H1 vs us Q I1 r1 q1) he hpl
theorem pe_callTy (hc:CallR X (.type T) r) (hg:Gl X x) (hm:X.mg x=none) (hv:bootBuiltins x=some (.type T)) (ha:PA X (e :: es) t) (hn:x ≠ "__name__" := by decide) (hdb:(x == ("__debug__" : Str))=false:=by decide)
  (he:starEach (e :: es) X.env=(false,eval e X.env) :: starEach es X.env:=by rfl) (hpl:(backTo pos (starEach es X.env)).any (·.1)=false:=by rfl):PE X (.Call (.Name x p) (e :: es) [] pos) (tCB r t):=by
 intro pins s σ H Q I h
 refine wpAny_Call_Name_kw (ld_blt I hg hm hv ?_ hn hdb)
 exact PyProof.Rows.callWith_type1 (thn (ha pos pins s σ H _ I h) fun us s1 ⟨vs,H1,I1,r1,q1⟩ => hc pins s1 σ H1 vs us Q I1 r1 q1) he hpl
end
end L2
namespace HT
open PySem PyProof.Rows
def lexLt:List Int→List Int→Bool
 | [],[] => false
 | [],_ :: _ => true
 | _ :: _,[] => false
 | x :: xs,y :: ys => if x=y then lexLt xs ys else decide (x < y)
theorem lexLt_cons (x y:Int) (xs ys:List Int):lexLt (x :: xs) (y :: ys)=if x=y then lexLt xs ys else decide (x < y):=rfl
theorem lexLt_nil_nil:lexLt [] []=false:=rfl
theorem lexLt_nil_cons (y:Int) (ys:List Int):lexLt [] (y :: ys)=true:=rfl
theorem lexLt_cons_nil (x:Int) (xs:List Int):lexLt (x :: xs) []=false:=rfl
theorem eqAt_int (A:Around) (s:Shared) (a:Int) (t:Tok) (c:Int) (u:Tok):∃ e,SeqAt.EqAt A s (.int a t) (.int c u) e∧(e=true ↔ a=c) :=
 ⟨(a == c),SeqAt.EqAt.int_int a t c u,by simp⟩
theorem rcLt_int (A:Around) (s:Shared) (a:Int) (t:Tok) (c:Int) (u:Tok) (prog:Program) (w:World) (E:Value→Shared→Prop) (Q:Value→Shared→Prop) (h:Q (.bool (decide (a < c))) s) :
  wpAny (model prog w) A (richCompare .Lt (.int a t) (.int c u)) Q E s :=
 (PyProof.Rows.lt_int h:wpAny (model prog w) A (compareOp .Lt (.int a t) (.int c u)) Q E s)
section
open PySem.SeqAt
open PySem.AutoSeq1 (wpAny_loadPart')
open PySem.MeetsSeq PySem.MeetsSeq2 PySem.MeetsSeq3
theorem tuple_lt_ints (l b:Addr) (items items2:Array Value) (n n2:Nat) (dd dd2:Option Addr) (sl sl2:Array (Option Value)) (ns ms:List Int) (hi:IntsAre items.toList ns) (hj:IntsAre items2.toList ms) :
  Meets (Builtin.«tuple.__lt__» ⟨[.ref l,.ref b],[]⟩)
   (fun _ R s => s.heap.get? l=some { cls:=.type "tuple",dict:=dd,data:=.seq items n,slots:=sl }∧s.heap.get? b=some { cls:=.type "tuple",dict:=dd2,data:=.seq items2 n2,slots:=sl2 } ∧
    R (.ok (.ret (.bool (lexLt ns ms)))) s) :=
 .of_wp fun prog w A R s h => by
  obtain ⟨hp,g,d,tk,os⟩:=s; obtain ⟨hl,hb,h⟩:=h
  have f2:=AutoSeq1.sub_tuple_tuple
  have z1:items.size=ns.length:=by rw [← hi.length]; simp
  have z2:items2.size=ms.length:=by rw [← hj.length]; simp
  wp_walk using wpAny_loadPart' hl,wpAny_loadPart' hb,wpAny_forIn_list _ (fun rest b s' => b.1=none∧s' = ⟨hp,g,d,tk,os⟩∧∃ (vs ws:List Value) (ns' ms' : List Int),rest=vs.zip ws ∧
   IntsAre vs ns'∧IntsAre ws ms'∧ns'.length + items2.size=ms'.length + items.size∧R (.ok (.ret (.bool (lexLt ns' ms')))) ⟨hp,g,d,tk,os⟩) _
  case turn =>
   rintro ⟨y,x⟩ rest b s' ⟨hb',rfl,vs,ws,ns',ms',hz,hvi,hwi,hlen,hR⟩
   cases hvi with
   | nil => rw [List.zip_nil_left] at hz; cases hz
   | cons a t hvi' =>
    cases hwi with
    | nil => rw [List.zip_nil_right] at hz; cases hz
    | cons c u hwi' =>
     rw [List.zip_cons_cons] at hz
     injection hz with hyx hrest
     injection hyx with hy hx
     subst hy hx
     rw [lexLt_cons] at hR
     simp only [List.length_cons] at hlen
     obtain ⟨e,he,hiff⟩:=eqAt_int A.in1 ⟨hp,g,d,tk,os⟩ a t c u
     refine wpAny_bind (he prog w _ _ ?_)
     cases e with
     | true =>
      rw [if_pos (hiff.mp rfl)] at hR
      wp_walk
      exact ⟨rfl,rfl,_,_,_,_,hrest,hvi',hwi',by omega,hR⟩
     | false =>
      rw [if_neg (fun q => absurd (hiff.mpr q) Bool.false_ne_true)] at hR
      have hri:=rcLt_int A.in1 ⟨hp,g,d,tk,os⟩ a t c u prog w
      wp_walk using hri
      exact ⟨_,rfl,by simpa using hR⟩
  case fin =>
   rintro ⟨b1,b2⟩ s' ⟨hb',rfl,vs,ws,ns',ms',hz,hvi,hwi,hlen,hR⟩
   simp only at hb'
   subst hb'
   have hv:lexLt ns' ms' = decide (items.size < items2.size):=by
    cases hvi with
    | nil =>
     cases hwi with
     | nil =>
      simp only [List.length_nil] at hlen
      rw [lexLt_nil_nil]
      exact (decide_eq_false (by omega)).symm
     | cons c u hw =>
      simp only [List.length_nil,List.length_cons] at hlen
      rw [lexLt_nil_cons]
      exact (decide_eq_true (by omega)).symm
    | cons a t hv =>
     cases hwi with
     | nil =>
      simp only [List.length_nil,List.length_cons] at hlen
      rw [lexLt_cons_nil]
      exact (decide_eq_false (by omega)).symm
     | cons c u hw =>
      rw [List.zip_cons_cons] at hz
      cases hz
   rw [hv] at hR
   wp_walk
   exact ⟨_,rfl,by simpa [Builtin.Tuple.tupleCompareSizes] using hR⟩
  case h =>
   exact ⟨rfl,rfl,items.toList,items2.toList,ns,ms,rfl,hi,hj,by omega,h⟩
end
section
variable {prog:Program} {w:World} {A:Around} {E:Value→Shared→Prop} {s:Shared}
theorem lt_tupInts {l b:Addr} {items items2:Array Value} {ns ms:List Int} {Q:Value→Shared→Prop} (hl:IsTup s.heap l items) (hb:IsTup s.heap b items2) (hi:IntsAre items.toList ns) (hj:IntsAre items2.toList ms)
  (hu:A.units < cLine) (h:Q (.bool (lexLt ns ms)) s):wpAny (model prog w) A (compareOp .Lt (.ref l) (.ref b)) Q E s:=by
 obtain ⟨⟨cls,dd,data,sl⟩,ho,hc,n,hd⟩:=id hl
 obtain ⟨⟨cls2,dd2,data2,sl2⟩,ho2,hc2,n2,hd2⟩:=id hb
 simp only at hc hd hc2 hd2
 subst hc hd hc2 hd2
 exact richCompare_meets_room (op:=.Lt) ⟨_,ho,rfl⟩ ⟨_,ho2,rfl⟩ PySem.F.slot_tuple_lt PySem.F.entry_tuple_lt (PySem.F.args_tuple_lt_2 _ _) (tuple_lt_ints l b items items2 n n2 dd dd2 sl sl2 ns ms hi hj)
  ⟨ho,ho2,show Value.bool (lexLt ns ms) ≠ Value.notImplemented∧Q (.bool (lexLt ns ms)) s from ⟨(fun x => nomatch x),h⟩⟩ hu
def sIx (n d:Nat):Option Int→Nat
 | none => d
 | some v => if v < 0 then (v + (n:Int)).toNat else min v.toNat n
end
end HT
namespace L2
open PySem PySem.Spec PyProof.Rows
abbrev TO:=St→Hp→(Option Int→Hp→Prop)→Prop
def PO (X:Cx) (e:Option Expr) (t:TO):Prop :=
 ∀ (pins:List (Addr × Obj)) (s:Shared) (σ:St) (H:Hp) (Q:Option Int→Hp→Prop),Inv X pins σ H s→t σ H Q →
  wpAny (model X.prog X.w) X.A (evalPart e X.env) (fun u s' => ∃ o H',Inv X pins σ H' s'∧IsPart u o∧Q o H') X.xe s
def tNoPart:TO:=fun _ H Q => Q none H
def tPart (t:TE):TO:=fun σ H Q => t σ H fun x H1 => ∃ i,x = .int i∧Q (some i) H1
theorem intsAre_of {ns:List Int} : ∀ {us:List Value},Vals (ns.map V.int) us→IntsAre us ns:=by
 induction ns with
 | nil => intro us r; rw [List.map_nil] at r; cases r; exact .nil
 | cons n ns ih =>
  intro us r
  rw [List.map_cons] at r
  cases r with
  | cons r1 r2 =>
   obtain ⟨t,e⟩:=r1
   subst e
   exact .cons n t (ih r2)
section
variable {X:Cx} {e:Expr} {te:TE} {lo hi:Option Expr} {tl th:TO} {pos p2:PySem.Pos}
theorem po_none:PO X none tNoPart:=by
 intro pins s σ H Q I h
 rw [evalPart_none]
 exact wpAny_pure ⟨none,H,I,.none,h⟩
theorem po_some (h:PE X e te):PO X (some e) (tPart te):=by
 intro pins s σ H Q I hw
 rw [evalPart_some]
 refine thn (h pins s σ H _ I hw) fun u s1 ⟨x,H1,I1,r1,q1⟩ => ?_
 obtain ⟨i,rfl,q⟩:=q1
 obtain ⟨t,rfl⟩:=r1
 exact ⟨some i,H1,I1,.int i t,q⟩
def SlR (X:Cx) (r:V→Option Int→Option Int→Hp→VK→Prop):Prop :=
 ∀ (pins:List (Addr × Obj)) (s:Shared) (σ:St) (H:Hp) (x:V) (v vl vu:Value) (lo hi:Option Int) (sl:Addr) (Q:VK),Inv X pins σ H s→RelV x v→s.heap.IsSliceOf sl vl vu .none→IsPart vl lo→IsPart vu hi→r x lo hi H Q →
  ∃ T id,typeLookup (.type T) "__getitem__" = pure (some (.builtin id))∧s.TypeIs v T∧wpAny (model X.prog X.w) X.A (getItem v (.ref sl)) (EP X pins σ Q) X.xe s
def tSl (r:V→Option Int→Option Int→Hp→VK→Prop) (te:TE) (tl th:TO):TE:=fun σ H Q => te σ H fun x H1 => tl σ H1 fun l H2 => th σ H2 fun u H3 => r x l u H3 Q
theorem pe_slice {r:V→Option Int→Option Int→Hp→VK→Prop} (hr:SlR X r) (he:PE X e te) (hl:PO X lo tl) (hu:PO X hi th):PE X (.Subscript e (.Slice lo hi none p2) pos) (tSl r te tl th):=by
 intro pins s σ H Q I h
 refine Subscript_ (thn (he pins s σ H _ I h) fun v s1 ⟨x,H1,I1,r1,q1⟩ => ?_)
 refine wpAny_Slice (thn (hl pins s1 σ H1 _ I1 q1) fun vl s2 ⟨l,H2,I2,pl,q2⟩ => thn (hu pins s2 σ H2 _ I2 q2) fun vu s3 ⟨u,H3,I3,pu,q3⟩ => ?_)
 rw [evalPart_none]
 refine wpAny_pure ?_
 have I4:Inv X pins σ H3 { s3 with heap:=s3.heap.push { cls:=.type "slice",data:=.fields #[vl,vu,.none] } }:=I3.kept (t':=s3.toks) fun b ob q => Heap.get?_push_of_some _ q
 obtain ⟨T,id,hT,ht,hg⟩:=hr pins { s3 with heap:=s3.heap.push { cls:=.type "slice",data:=.fields #[vl,vu,.none] } } σ H3 x v vl vu l u s3.heap.objs.size Q I4 r1 (Heap.IsSliceOf.new ..) pl pu q3
 show wpAny (model X.prog X.w) X.A (subscriptTail e (.Slice lo hi none p2) v (.ref s3.heap.objs.size)) (EP X pins σ Q) X.xe { s3 with heap:=s3.heap.push { cls:=.type "slice",data:=.fields #[vl,vu,.none] } }
 exact tail_any (ops:=[.ref s3.heap.objs.size,v]) ht hT hg (by with_unfolding_all rfl)
def cutV (xs:List V) (lo hi:Option Int):List V:=(xs.drop (HT.sIx xs.length 0 lo)).take (HT.sIx xs.length xs.length hi - HT.sIx xs.length 0 lo)
theorem cutV_length (xs:List V) (lo hi:Option Int):(cutV xs lo hi).length ≤ xs.length:=by
 unfold cutV
 rw [List.length_take,List.length_drop]
 omega
end
end L2
namespace L2
open PySem PySem.Spec PyProof.Rows
def ixN (n:Nat) (i:Int):Option Nat:=if 0 ≤ i then (if i < n then some i.toNat else none) else if -(n:Int) ≤ i then some (i + n).toNat else none
def atI {α:Type} (xs:List α) (i:Int):Option α:=(ixN xs.length i).bind fun j => xs[j]?
theorem ixN_seq {n:Nat} {i:Int} {j:Nat} (h:ixN n i=some j):seqIndex? i n=some j∧j < n∧-(n:Int) ≤ i∧i < n:=by
 unfold ixN at h
 by_cases h0:0 ≤ i
 ·rw [if_pos h0] at h
  by_cases h1:i < n
  ·rw [if_pos h1] at h
   have e:i.toNat=j:=Option.some.inj h
   exact ⟨by rw [seqIndex_of h0 h1,e],by omega,by omega,h1⟩
  ·rw [if_neg h1] at h; cases h
 ·rw [if_neg h0] at h
  by_cases h1 : -(n:Int) ≤ i
  ·rw [if_pos h1] at h
   have e:(i + n).toNat=j:=Option.some.inj h
   exact ⟨by rw [seqIndex_neg (by omega) h1,e],by omega,h1,by omega⟩
  ·rw [if_neg h1] at h; cases h
theorem atI_get {α:Type} {xs:List α} {i:Int} {v:α} (h:atI xs i=some v):∃ j,seqIndex? i xs.length=some j∧xs[j]? = some v∧j < xs.length∧-(xs.length:Int) ≤ i∧i < xs.length:=by
 unfold atI at h
 cases e:ixN xs.length i with
 | none => rw [e] at h; cases h
 | some j =>
  rw [e] at h
  obtain ⟨h1,h2,h3,h4⟩:=ixN_seq e
  exact ⟨j,h1,h,h2,h3,h4⟩
theorem atI_nat {α:Type} {xs:List α} {j:Nat} {v:α} (h:xs[j]? = some v):atI xs (j:Int)=some v:=by
 have hj:j < xs.length:=(List.getElem?_eq_some_iff.mp h).1
 have e:ixN xs.length (j:Int)=some j:=by
  unfold ixN
  rw [if_pos (by omega),if_pos (by omega)]; simp
 unfold atI; rw [e]; exact h
theorem atI_last {α:Type} (xs:List α) (v:α):atI (xs ++ [v]) (-1)=some v:=by
 have hl:(xs ++ [v]).length=xs.length + 1:=by simp
 have e:ixN (xs ++ [v]).length (-1)=some xs.length:=by
  unfold ixN
  rw [hl,if_neg (by decide),if_pos (by omega)]
  congr 1
  omega
 unfold atI
 rw [e]
 show (xs ++ [v])[xs.length]? = some v
 simp
def PlainIx (b:Expr):Prop:=∀ o i,subscripted b false o i=operate [o,i] (getItem o i)
def IxR (X:Cx) (r:R2):Prop :=
 ∀ (value slice:Expr) (pins:List (Addr × Obj)) (s:Shared) (σ:St) (H:Hp) (x y:V) (v u:Value) (Q:VK),Inv X pins σ H s→RelV x v→RelV y u→r x y H Q →
  subscripted slice false v u=operate [v,u] (getItem v u)→wpAny (model X.prog X.w) X.A (subscriptTail value slice v u) (EP X pins σ Q) X.xe s
def MtR (X:Cx) (id:String) (r:V→List V→Hp→VK→Prop):Prop :=
 ∀ (pins:List (Addr × Obj)) (s:Shared) (σ:St) (H:Hp) (x:V) (xs:List V) (v:Value) (us:List Value) (Q:VK),Inv X pins σ H s→RelV x v→Vals xs us→r x xs H Q →
  wpAny (model X.prog X.w) X.A (call (.builtin id) (v :: us)) (EP X pins σ Q) X.xe s
section
variable {X:Cx} {a b:Expr} {ta tb:TE} {pos:PySem.Pos}
theorem pe_ix {r:R2} (hr:IxR X r) (ha:PE X a ta) (hb:PE X b tb) (hs:PlainIx b):PE X (.Subscript a b pos) (tOp r ta tb):=by
 intro pins s σ H Q I h
 exact Subscript_ (binT ha hb I h fun v u s2 x y H2 I2 rx ry q => hr a b pins s2 σ H2 x y v u Q I2 rx ry q (hs _ _))
def rIxL (K:PySem.W.Frag):R2:=fun x y H Q => ∃ p xs i v,x = .ref p∧y = .int i∧SqL K H p xs∧atI xs i=some v∧Q v H
def rIxT (K:PySem.W.Frag):R2:=fun x y H Q => ∃ p xs i v,x = .ref p∧y = .int i∧SqT K H p xs∧atI xs i=some v∧Q v H
theorem ix_list:IxR X (rIxL X.K):=by
 intro value slice pins s σ H x y v u Q I rx ry h hs
 obtain ⟨p,xs,i,z,rfl,rfl,hq,he,q⟩:=h
 cases rx
 obtain ⟨t,rfl⟩:=ry
 obtain ⟨its,r,pl,hz⟩:=I.list hq
 obtain ⟨j,h1,h2,h3,h4,h5⟩:=atI_get he
 obtain ⟨w,ew,rw'⟩:=r.get h2
 have hl:=r.length
 have hn:=line63
 have fin:EP X pins σ Q w s:=⟨z,H,I,rw',q⟩
 by_cases h0:0 ≤ i
 ·have hj:i.toNat=j:=by
   rw [seqIndex_of h0 h5] at h1
   exact Option.some.inj h1
  exact item_listR pl.isList h0 (by omega) (by rw [hj]; simpa using ew) fin hs
 ·have hj:(i + (its.toArray.size:Int)).toNat=j:=by
   rw [seqIndex_neg (by omega) h4] at h1
   rw [List.size_toArray,← hl]
   exact Option.some.inj h1
  exact subscriptTail_builtinR (x:=w) pl.isList.typeIs slot_list_getitem.lookup
   (wpAny_getItem_list_neg (Q:=fun r s' => r=w∧EP X pins σ Q r s') pl.isList (by omega) (by rw [List.size_toArray] <;> omega) (by omega) (by rw [hj]; simpa using ew) ⟨rfl,fin⟩) hs
theorem ix_tup:IxR X (rIxT X.K):=by
 intro value slice pins s σ H x y v u Q I rx ry h hs
 obtain ⟨p,xs,i,z,rfl,rfl,hq,he,q⟩:=h
 cases rx
 obtain ⟨t,rfl⟩:=ry
 obtain ⟨its,r,pl,hz⟩:=I.tuple hq
 obtain ⟨j,h1,h2,h3,h4,h5⟩:=atI_get he
 obtain ⟨w,ew,rw'⟩:=r.get h2
 have hl:=r.length
 have hn:=line63
 have fin:EP X pins σ Q w s:=⟨z,H,I,rw',q⟩
 exact subscriptTail_builtinR (x:=w) pl.typeIs slot_tuple_getitem.lookup
  (getItem_tuple (j:=j) (Q:=fun r s' => r=w∧EP X pins σ Q r s') pl (by omega) (by omega) (by rw [List.size_toArray,← hl]; exact h1) (by simpa using ew) ⟨rfl,fin⟩) hs
theorem mapSeq_set (its:List Value) (n j:Nat) (u:Value):Obj.mapSeq (·.setIfInBounds j u) { cls:=.type "list",data:=.seq its.toArray n } = { cls:=.type "list",data:=.seq (its.set j u).toArray n }:=by
 simp [Obj.mapSeq]
theorem Inv.lst {pins:List (Addr × Obj)} {σ:St} {H:Hp} {s:Shared} {p:Addr} {xs:List V} (I:Inv X pins σ H s) (h:H p=some (.lst xs)) :
  ∃ (its:List Value) (n:Nat),Vals xs its∧s.heap.get? p=some { cls:=.type "list",data:=.seq its.toArray n }∧xs.length ≤ sizeLine:=by
 obtain ⟨z,its,n,r,e⟩:=I.hok p _ h
 exact ⟨its,n,r,e,z⟩
theorem Inv.lstUpd {pins:List (Addr × Obj)} {σ:St} {H:Hp} {s:Shared} {p:Addr} {xs ys:List V} {its its' : List Value} {n n' : Nat} {f:Obj→Obj} (I:Inv X pins σ H s) (h:H p=some (.lst xs))
  (ho:s.heap.get? p=some { cls:=.type "list",data:=.seq its.toArray n }) (hf:f { cls:=.type "list",data:=.seq its.toArray n } = { cls:=.type "list",data:=.seq its'.toArray n' }) (r:Vals ys its') (hz:ys.length ≤ sizeLine) (t:Nat) :
  Inv X pins σ (upd H p (.lst ys)) { s with heap:=s.heap.update p f,toks:=t }:=by
 have e:(s.heap.update p f).get? p=some { cls:=.type "list",data:=.seq its'.toArray n' }:=by
  rw [Heap.get?_update_self f ho (by rw [hf] <;> rfl),hf]
 refine I.write (x:=p) (e:=p) (by rw [h]; trivial) (.inl rfl) (fun b u hb q => (Heap.get?_update_other _ _ (Ne.symm hb)).trans q) ⟨_,e⟩ ?_
 exact ⟨hz,its',n',r,e⟩
def rSetL:V→V→V→Hp→(Hp→Prop)→Prop:=fun o i v H Q => ∃ p xs k j,o = .ref p∧i = .int k∧H p=some (.lst xs)∧ixN xs.length k=some j∧Q (upd H p (.lst (xs.set j v)))
theorem set_list:PSet X rSetL:=by
 intro pins s σ H o i v ov iv u Q I ro ri rv h
 obtain ⟨p,xs,k,j,rfl,rfl,hp,hj,q⟩:=h
 cases ro
 obtain ⟨t,rfl⟩:=ri
 obtain ⟨its,n,r,ho,hz⟩:=I.lst hp
 obtain ⟨h1,h2,h3,h4⟩:=ixN_seq hj
 have hl:=r.length
 have hn:=line63
 have I' : Inv X pins σ (upd H p (.lst (xs.set j v))) { s with heap:=s.heap.update p (Obj.mapSeq (·.setIfInBounds j u)) } :=
  I.lstUpd hp ho (mapSeq_set its n j u) (r.set rv j) (by rw [List.length_set]; exact hz) s.toks
 by_cases h0:0 ≤ k
 ·have hk:k.toNat=j:=by
   rw [seqIndex_of h0 h4] at h1
   exact Option.some.inj h1
  exact PySem.W.ki_setAt ho h0 (by omega) (by rw [List.size_toArray,← hl]; exact h4) (by rw [hk]; exact ⟨_,I',q⟩)
 ·have hk:(k + (its.toArray.size:Int)).toNat=j:=by
   rw [seqIndex_neg (by omega) h3] at h1
   rw [List.size_toArray,← hl]
   exact Option.some.inj h1
  exact PySem.W.ki_setBack ho (by omega) (by rw [List.size_toArray,← hl]; exact h3) (by omega) (by rw [hk]; exact ⟨_,I',q⟩)
theorem slice_bounds (lo hi:Option Int) (n:Nat):(sliceBounds lo hi none n).1=((HT.sIx n 0 lo:Nat):Int)∧(sliceBounds lo hi none n).2.1=((HT.sIx n n hi:Nat):Int)∧(sliceBounds lo hi none n).2.2=1:=by
 refine ⟨?_,?_,rfl⟩
 ·cases lo with
  | none => simp [sliceBounds,HT.sIx]
  | some i =>
   simp only [sliceBounds,HT.sIx,Option.getD_none,show (1:Int) > 0 by decide,if_true]
   by_cases h:i < 0
   ·simp only [h,if_true] <;> omega
   ·simp only [h,if_false] <;> omega
 ·cases hi with
  | none => simp [sliceBounds,HT.sIx]
  | some i =>
   simp only [sliceBounds,HT.sIx,Option.getD_none,show (1:Int) > 0 by decide,if_true]
   by_cases h:i < 0
   ·simp only [h,if_true] <;> omega
   ·simp only [h,if_false] <;> omega
theorem slicePick_cut (its:List Value) (lo hi:Option Int):slicePick its.toArray lo hi none=((its.drop (HT.sIx its.length 0 lo)).take (HT.sIx its.length its.length hi - HT.sIx its.length 0 lo)).toArray:=by
 obtain ⟨h1,h2,h3⟩:=slice_bounds lo hi its.toArray.size
 unfold slicePick
 rw [h1,h2,h3]
 simp only [sliceRange_one,pick_run,List.size_toArray] <;> rfl
def rSlL (K:PySem.W.Frag):V→Option Int→Option Int→Hp→VK→Prop:=fun x lo hi H Q => ∃ a xs,x = .ref a∧SqL K H a xs∧∀ p,H p=none→Q (.ref p) (upd H p (.lst (cutV xs lo hi)))
theorem sl_list:SlR X (rSlL X.K):=by
 intro pins s σ H x v vl vu lo hi sl Q I rx hs pl pu h
 obtain ⟨a,xs,rfl,hx,q⟩:=h
 cases rx
 obtain ⟨its,r,ht,hz⟩:=I.list hx
 have hlen:=r.length
 refine ⟨"list",_,slot_list_getitem.lookup,ht.isList.typeIs,?_⟩
 refine wpAny_getItem_list_slice ht.isList hs pl pu .none (by simp) ?_ (by rw [List.size_toArray] <;> omega)
 rw [slicePick_cut,← hlen]
 refine ⟨.ref s.heap.objs.size,_,I.laid (t':=s.toks) (o:=.lst (cutV xs lo hi)) (fun b ob q => Heap.get?_push_of_some _ q) (Nat.le_refl _) ?_,rfl,q _ (I.hok.fresh (Nat.le_refl _))⟩
 exact ⟨Nat.le_trans (cutV_length xs lo hi) hz,_,0,(r.drop (HT.sIx xs.length 0 lo)).take (HT.sIx xs.length xs.length hi - HT.sIx xs.length 0 lo),Heap.get?_push_size _ rfl⟩
theorem call_len_seq:CallR X (.builtin "len") (fun xs H Q => ∃ p ys,xs=[.ref p]∧(SqL X.K H p ys ∨ SqT X.K H p ys)∧Q (.int ys.length) H):=by
 intro pins s σ H xs us Q I r h
 obtain ⟨p,ys,rfl,hq,q⟩:=h
 obtain ⟨u,rfl,rx⟩:=vals1 r
 cases rx
 have hn:=line63
 rcases hq with hq | hq
 ·obtain ⟨its,r',pl,hz⟩:=I.list hq
  have hlen:=r'.length
  exact Calls.call_len_list pl.isList (by simp only [List.size_toArray] <;> omega) ⟨.int ys.length,H,I.tok _,⟨s.toks + 1,by rw [List.size_toArray,hlen]⟩,q⟩
 ·obtain ⟨its,r',pl,hz⟩:=I.tuple hq
  have hlen:=r'.length
  exact len_tuple pl (by simp only [List.size_toArray] <;> omega) ⟨.int ys.length,H,I.tok _,⟨s.toks + 1,by rw [List.size_toArray,hlen]⟩,q⟩
theorem call_tuple_of:CallR X (.type "tuple") (fun xs H Q => ∃ p ys,xs=[.ref p]∧((SqL X.K H p ys∧∀ l,H l=none→Q (.ref l) (upd H l (.tup ys))) ∨ (SqT X.K H p ys∧Q (.ref p) H))):=by
 intro pins s σ H xs us Q I r h
 obtain ⟨p,ys,rfl,h⟩:=h
 obtain ⟨u,rfl,rx⟩:=vals1 r
 cases rx
 rcases h with ⟨hq,q⟩ | ⟨hq,q⟩
 ·obtain ⟨its,r',pl,hz⟩:=I.list hq
  have hlen:=r'.length
  refine call_tuple_list pl.isList (fun h' kp => ?_) (by simp only [List.size_toArray] <;> omega)
  have I1:Inv X pins σ H { s with heap:=h' }:=I.kept (t':=s.toks) kp
  have I2:Inv X pins σ (upd H h'.objs.size (.tup ys)) { s with heap:=h'.push { cls:=.type "tuple",data:=.seq its.toArray } } :=
   I1.laid (t':=s.toks) (fun b o e => Heap.get?_push_of_some _ e) (Nat.le_refl _) (show ObjOk X.prog X.w _ _ _ (.tup ys) from ⟨hz,its,r',IsTup.new _ _⟩)
  exact ⟨.ref h'.objs.size,_,I2,rfl,q _ (I1.hok.fresh (Nat.le_refl _))⟩
 ·obtain ⟨its,r',pl,hz⟩:=I.tuple hq
  exact call_tuple_same pl ⟨.ref p,H,I,rfl,q⟩
def tyV (K:PySem.W.Frag) (T:String) (x:V) (H:Hp):Prop:=match x with
 | .str _ => T = "str"
 | .int _ => T = "int"
 | .ref p => (T = "list" ∧ ∃ xs,SqL K H p xs) ∨ (T = "tuple" ∧ ∃ o,K.lookup p=some o∧o.cls = .type "tuple" ∧ o.dict=none) ∨
   (T = "dict" ∧ ((∃ kvs,H p=some (.dK kvs)) ∨ ∃ kvs,H p=some (.dT kvs))) ∨ (T = "set" ∧ ∃ S n,H p=some (.set S n))
 | _ => False
theorem tyV_is {pins:List (Addr × Obj)} {σ:St} {H:Hp} {s:Shared} {T:String} {x:V} {v:Value} (I:Inv X pins σ H s) (r:RelV x v) (ty:tyV X.K T x H) :
  s.TypeIs v T∧∀ a,v = .ref a→∃ ob,s.heap.get? a=some ob∧ob.dict=none:=by
 cases x with
 | str z =>
  obtain ⟨t,rfl⟩:=r
  cases (show T = "str" from ty)
  exact ⟨typeIs_str s z t,fun _ e => nomatch e⟩
 | int i =>
  obtain ⟨t,rfl⟩:=r
  cases (show T = "int" from ty)
  exact ⟨typeIs_int s i t,fun _ e => nomatch e⟩
 | ref p =>
  cases r
  rcases ty with ⟨rfl,xs,hq⟩ | ⟨rfl,o,hk,hc,hd⟩ | ⟨rfl,hk⟩ | ⟨rfl,S,n,hk⟩
  ·obtain ⟨its,_,pl,_⟩:=I.list hq
   refine ⟨pl.isList.typeIs,fun a e => ?_⟩
   cases e
   obtain ⟨o,n,e,c,hd,_⟩:=pl
   exact ⟨o,e,hd⟩
  ·refine ⟨⟨o,I.kIn p o hk,hc⟩,fun a e => ?_⟩
   cases e
   exact ⟨o,I.kIn _ o hk,hd⟩
  ·have z:∃ o,s.heap.get? p=some o∧o.ExactDict:=by
    rcases hk with ⟨kvs,hk⟩ | ⟨kvs,hk⟩
    ·obtain ⟨_,_,_,_,o,_,_,e,ex,_⟩:=I.hok p _ hk
     exact ⟨o,e,ex⟩
    ·obtain ⟨_,_,_,_,o,_,_,e,ex,_⟩:=I.hok p _ hk
     exact ⟨o,e,ex⟩
   obtain ⟨o,e,ex⟩:=z
   refine ⟨⟨o,e,ex.1⟩,fun a e2 => ?_⟩
   cases e2
   exact ⟨o,e,ex.2.1⟩
  ·obtain ⟨o,_,_,_,e,ex,_⟩:=I.hok p _ hk
   refine ⟨⟨o,e,ex.1⟩,fun a e2 => ?_⟩
   cases e2
   exact ⟨o,e,ex.2.1⟩
 | _ => exact False.elim ty
def tBM0 (K:PySem.W.Frag) (T:String) (r:V→List V→Hp→VK→Prop) (to:TE):TE:=fun σ H Q => to σ H fun x H1 => tyV K T x H1∧r x [] H1 Q
def tBM (K:PySem.W.Frag) (T:String) (r:V→List V→Hp→VK→Prop) (to:TE) (t:TA):TE:=fun σ H Q => to σ H fun x H1 => tyV K T x H1∧t σ H1 fun xs H2 => r x xs H2 Q
variable {o e:Expr} {es:List Expr} {to:TE} {t:TA} {name:Str} {apos cpos:PySem.Pos} {T id:String} {r:V→List V→Hp→VK→Prop}
theorem pe_bm0 (pa:PlainAttrs T) (slot:Slot T name id) (hty:typeOf (.builtin id)=pure (.type "method_descriptor")) (hm:MtR X id r) (ho:PE X o to)
  (hbase:attributeBase o name X.env (eval o X.env)=eval o X.env:=by rfl) (hline:(apos.endLine == cpos.line)=true:=by rfl):PE X (.Call (.Attribute o name apos) [] [] cpos) (tBM0 X.K T r to):=by
 intro pins s σ H Q I h
 refine wpAny_Call_method0_late hbase hline (thn (ho pins s σ H _ I h) fun v s1 ⟨x,H1,I1,r1,ty,q1⟩ => ?_)
 obtain ⟨h1,h2⟩:=tyV_is I1 r1 ty
 exact ⟨T,id,pa,slot,hty,h1,h2,Calls.callWith_builtin rfl (PySem.evalArgs_none (hm pins s1 σ H1 x [] v [] Q I1 r1 .nil q1))⟩
theorem pe_bm (pa:PlainAttrs T) (slot:Slot T name id) (hty:typeOf (.builtin id)=pure (.type "method_descriptor")) (hm:MtR X id r) (ho:PE X o to) (ha:PA X (e :: es) t)
  (hbase:attributeBase o name X.env (eval o X.env)=eval o X.env:=by rfl)
  (hfew:((backTo cpos (starEach (e :: es) X.env)).all (fun x => !x.1) && (backToKw cpos (keywordEach [] X.env)).all (fun x => x.1.isSome)
   && decide ((e :: es).length + ([]:List Keyword).length + (if ([]:List Keyword).isEmpty then 0 else 1) < 30))=true:=by rfl)
  (hline:(apos.endLine == cpos.line)=true:=by rfl) (hs:starEach (e :: es) X.env=(false,eval e X.env) :: starEach es X.env:=by rfl) (hplain:(backTo cpos (starEach es X.env)).any (·.1)=false:=by rfl) :
  PE X (.Call (.Attribute o name apos) (e :: es) [] cpos) (tBM X.K T r to t):=by
 intro pins s σ H Q I h
 refine wpAny_Call_method_late hbase hfew hline rfl (thn (ho pins s σ H _ I h) fun v s1 ⟨x,H1,I1,r1,ty,q1⟩ => ?_)
 obtain ⟨h1,h2⟩:=tyV_is I1 r1 ty
 refine ⟨T,id,pa,slot,hty,h1,h2,?_⟩
 have hA:=ha cpos pins s1 σ H1 _ I1 q1
 rw [hs] at hA ⊢
 refine Calls.callWith_builtin (by show (false || (backTo cpos (starEach es X.env)).any (·.1))=false; rw [hplain] <;> rfl) (Calls.evalArgs_plain ?_)
 exact thn hA fun us s2 ⟨vs,H2,I2,r2,q2⟩ => hm pins s2 σ H2 x vs v us Q I2 r1 r2 q2
end
end L2
namespace L2
open PySem PySem.Spec PyProof.Rows
def MtM (X:Cx) (id:String) (r:V→List V→Hp→VK→Prop):Prop :=
 ∀ (pins:List (Addr × Obj)) (s:Shared) (σ:St) (H:Hp) (x:V) (xs:List V) (v:Value) (us:List Value) (Q:VK),Inv X pins σ H s→RelV x v→Vals xs us→r x xs H Q →
  wpAny (model X.prog X.w) X.A (call (.builtin id) (v :: us)) (EP X pins σ Q) X.xe s
theorem Vals.one:∀ {x:V} {us:List Value},Vals [x] us→∃ u,us=[u]∧RelV x u
 | _,_,.cons r .nil => ⟨_,rfl,r⟩
theorem Vals.zero:∀ {us:List Value},Vals [] us→us=[]
 | _,.nil => rfl
theorem Vals.dropLast {xs:List V} {us:List Value} (h:Vals xs us):Vals xs.dropLast us.dropLast:=by
 induction h with
 | nil => exact .nil
 | cons r t ih =>
  cases t with
  | nil => exact .nil
  | cons q t' => exact .cons r ih
theorem erase_last {α:Type} (l:List α):l.eraseIdx (l.length - 1)=l.dropLast:=by
 induction l with
 | nil => rfl
 | cons a r ih =>
  cases r with
  | nil => rfl
  | cons b r =>
   have e:(a :: b :: r).length - 1=((b :: r).length - 1) + 1:=by
    have h1:(a :: b :: r).length=r.length + 2:=rfl
    have h2:(b :: r).length=r.length + 1:=rfl
    omega
   rw [e,List.eraseIdx_cons_succ,ih]
   all_goals rfl
section
variable {X:Cx} {pins:List (Addr × Obj)} {σ:St} {H:Hp} {s:Shared} {l b:Addr} {xs ys zs:List V}
theorem Inv.lset {its its' : List Value} {n:Nat} {f:Array Value→Array Value} {t' : Nat} (I:Inv X pins σ H s) (hH:H l=some (.lst xs))
  (e:s.heap.get? l=some { cls:=.type "list",data:=.seq its.toArray n }) (hf:f its.toArray=its'.toArray) (hv:Vals ys its') (hz:ys.length ≤ sizeLine) :
  Inv X pins σ (upd H l (.lst ys)) { s with heap:=s.heap.update l (Obj.mapSeq f),toks:=t' }:=by
 have q:=PySem.IsL.update e f
 rw [hf] at q
 refine I.write (x:=l) (e:=l) (by rw [hH]; exact trivial) (.inl rfl) (fun b' u hb hu => (Heap.get?_update_other s.heap (Obj.mapSeq f) (Ne.symm hb)).trans hu) ⟨_,q⟩ ?_
 exact ⟨hz,its',_,hv,q⟩
theorem Inv.lnew {its:List Value} {t' : Nat} (I:Inv X pins σ H s) (hv:Vals ys its) (hz:ys.length ≤ sizeLine) :
  Inv X pins σ (upd H s.heap.objs.size (.lst ys)) { s with heap:=s.heap.push { cls:=.type "list",data:=.seq its.toArray },toks:=t' } :=
 I.laid (fun _ _ q => Heap.get?_push_of_some _ q) (Nat.le_refl _) ⟨hz,its,0,hv,Heap.get?_push_size _ rfl⟩
theorem Inv.fresh (I:Inv X pins σ H s):H s.heap.objs.size=none:=I.hok.fresh (Nat.le_refl _)
theorem Inv.lstM (I:Inv X pins σ H s) (hH:H l=some (.lst xs)):xs.length ≤ sizeLine∧∃ (its:List Value) (n:Nat),Vals xs its∧xs.length=its.length∧s.heap.get? l=some { cls:=.type "list",data:=.seq its.toArray n }:=by
 obtain ⟨z,its,n,r,e⟩:=I.hok l _ hH
 exact ⟨z,its,n,r,r.length,e⟩
end
section
variable {X:Cx}
def rAppend:V→List V→Hp→VK→Prop:=fun x vs H Q => ∃ l xs y,x = .ref l∧vs=[y]∧H l=some (.lst xs)∧xs.length < sizeLine∧Q .non (upd H l (.lst (xs ++ [y])))
theorem mt_append:MtM X "list.append" rAppend:=by
 intro pins s σ H x vs v us Q I rx rv h
 obtain ⟨l,xs,y,rfl,rfl,hH,hz,q⟩:=h
 cases rx
 obtain ⟨u,rfl,ru⟩:=rv.one
 obtain ⟨z,its,n,r,hl,e⟩:=I.lstM hH
 refine call_meets F.slot_list_append ⟨_,e,rfl⟩ F.entry_list_append (F.args_list_append_2 _ _) (PySem.list_append l its.toArray n u (by rw [List.size_toArray]; omega)) ⟨e,?_⟩
 refine ⟨.non,_,I.lset (its':=its ++ [u]) hH e (by simp) (r.append (.cons ru .nil)) ?_,rfl,q⟩
 rw [List.length_append,List.length_singleton]
 omega
def rPop:V→List V→Hp→VK→Prop:=fun x vs H Q => ∃ l xs y,x = .ref l∧vs=[]∧H l=some (.lst xs)∧xs[xs.length - 1]? = some y∧Q y (upd H l (.lst xs.dropLast))
theorem mt_pop:MtM X "list.pop" rPop:=by
 intro pins s σ H x vs v us Q I rx rv h
 obtain ⟨l,xs,y,rfl,rfl,hH,hy,q⟩:=h
 cases rx
 have hus:=rv.zero
 subst hus
 obtain ⟨z,its,n,r,hl,e⟩:=I.lstM hH
 obtain ⟨u,hu,ru⟩:=r.get hy
 have hy' : its.toArray[its.toArray.size - 1]? = some u:=by
  show its.toArray[its.length - 1]? = some u
  rw [← Array.getElem?_toList,← hl]
  exact hu
 refine call_meets F.slot_list_pop ⟨_,e,rfl⟩ F.entry_list_pop (F.args_list_pop_1 _) (MeetsSeq.list_pop_last l its.toArray n u hy' (by rw [List.size_toArray]; omega)) ⟨e,?_⟩
 refine ⟨y,_,I.lset (its':=its.dropLast) hH e ?_ r.dropLast ?_,ru,q⟩
 ·show its.toArray.eraseIdxIfInBounds (its.toArray.size - 1)=its.dropLast.toArray
  rw [List.size_toArray,List.eraseIdxIfInBounds_toArray,erase_last]
 ·rw [List.length_dropLast]
  omega
def rCat:R2:=fun x y H Q => ∃ l b xs zs,x = .ref l∧y = .ref b∧H l=some (.lst xs)∧H b=some (.lst zs)∧xs.length + zs.length ≤ sizeLine∧∀ p,H p=none→Q (.ref p) (upd H p (.lst (xs ++ zs)))
theorem op_cat:OpR X (binaryOp .Add) rCat:=by
 intro pins s σ H x y v u Q I rx ry h
 obtain ⟨l,b,xs,zs,rfl,rfl,hH,hB,hz,q⟩:=h
 cases rx
 cases ry
 obtain ⟨z,its,n,r,hl,e⟩:=I.lstM hH
 obtain ⟨z2,its2,n2,r2,hl2,e2⟩:=I.lstM hB
 refine PySem.P.add_list e e2 ?_ (by rw [List.size_toArray,List.size_toArray]; omega)
 have ea:its.toArray ++ its2.toArray=(its ++ its2).toArray:=by simp
 rw [ea]
 exact ⟨.ref _,_,I.lnew (t':=s.toks) (r.append r2) (by rw [List.length_append]; omega),rfl,q _ I.fresh⟩
end
end L2
namespace Att
open PySem PySem.W PySem.Calls PyProof.Rows
theorem ints_of_wellAll {P:Params} {h:Heap} : ∀ (ns:List Int) (vs:List Value),WellAll P h vs (ns.map WData.int)→IntsAre vs ns:=by
 intro ns
 induction ns with
 | nil =>
  intro vs w
  rw [List.map_nil] at w
  cases w
  exact .nil
 | cons n ns ih =>
  intro vs w
  rw [List.map_cons] at w
  cases w with
  | cons a b =>
   cases a
   exact .cons _ _ (ih _ b)
theorem script_of {l:OpenLaw} {n:Nat} (hn:l.most=some n) {P:Params} {h:Heap} {args:List WData} {vals:List Value}
  (hpre:l.row.toRowW.claim.pre args=true) (hwl:WellAll P h vals args) :
  ∃ a vs ns,vals=[Value.ref a]∧args=[WData.list (ns.map WData.int)]∧h.get? a=some { cls:=.type "list",data:=.seq vs.toArray }∧IntsAre vs ns∧ns.length ≤ n:=by
 have hsh:WShape.hasAll [] args [.list .int]=true:=(pre_splitW hpre).1
 have hc:l.pre.holds [] { args:=args } = true:=(pre_splitW hpre).2
 obtain ⟨d,r,rfl,h1,h2⟩:=hasAllW_cons hsh
 obtain rfl:=hasAllW_nil h2
 obtain ⟨xs,rfl,h3⟩:=hasW_list h1
 obtain ⟨ns,rfl⟩:=items_int h3
 have hlen:ns.length ≤ n:=by
  unfold OpenLaw.pre at hc
  have h4:(WTm.not (.lt (.lit (.int (n:Int))) (.len (.arg 0)))).holds [] { args:=[.list (ns.map .int)] } = true:=by
   have h4:=(holds_andW hc).1
   rw [hn] at h4
   exact h4
  have h5:=condW_of h4 (w_not (w_lt w_lit (w_len_list (w_arg rfl))))
  rw [List.length_map] at h5
  refine Nat.le_of_not_lt fun q => ?_
  have q' : (n:Int) < ((ns.length:Nat):Int):=by omega
  first
   | (rw [decide_eq_true q'] at h5; exact absurd h5 (by decide))
   | (simp at h5; omega)
 cases hwl with
 | cons w1 w2 =>
  cases w2
  cases w1 with
  | list ho hall => exact ⟨_,_,ns,rfl,rfl,ho,ints_of_wellAll ns _ hall,hlen⟩
theorem post_true (l:OpenLaw) (args:List WData):l.row.toRowW.claim.post args (.bool true) args=true :=
 postW_of (r:=l.row.toRowW) (X:=(true == true))
  (show WShape.has [] (.bool true) .bool=true by first | rfl | decide | simp [WShape.has,WShape.arms,WShape.armsAll])
  (show (WTm.eq .res (.lit (.bool true))).value [] { args:=args,res:=some (.bool true),after:=args } = some (.bool (true == true)) from w_eq_bool (w_res rfl) w_lit) rfl
theorem attach_call {l:OpenLaw} {n:Nat} {q:Program} {loose:List Str} {XP:(Str→Option Value)→Heap→Prop} {YP:World→Heap→Prop} {d:DefRec}
  (hn:l.most=some n) (hdf:d.params.defaults=[])
  (call:∀ (w:World) (s₀ s₁:Shared) (mg mb:Str→Option Value) (fa:Addr) (o:Obj) (pm cd doc:Value) (a:Addr) (vs:List Value) (ns:List Int),
   Ground q loose [] XP w s₀ mg mb s₁.heap→YP w s₁.heap →
   s₁.heap.get? fa=some o→o.data = .func (docDef d.name d.params d.body d.scope pm cd doc)→s₁.heap.CodeRec cd d.name→mg d.name=some (.ref fa) →
   s₁.heap.get? a=some { cls:=.type "list",data:=.seq vs.toArray }→IntsAre vs ns→ns.length ≤ n→s₁.gens = #[] →
   codeAny (model l.prog w) callerA (.call (.ref fa) ⟨[.ref a],[]⟩) (fun r s' => r = .ok (.ret (.bool true))∧OldK s₁.heap s'.heap∧s'.os=s₁.os∧AllBare s'.gens) s₁) :
  WalkO q loose XP YP l.row.toRowW d [] (fun f vs => PySem.call f vs):=by
 intro w s₀ s₁ mg mb G Y fa o pm cd doc dV kV ho hd hcd hD hmg hg args vals as hpre hlay hrd hwl hlo
 obtain rfl:dV = .none:=Dflts.none hD hdf
 obtain rfl:kV = .none:=Dflts.noKw hD
 obtain ⟨a,vs,ns,rfl,rfl,hobj,hints,hlen⟩:=script_of hn hpre hwl
 refine enter_call (codeAny_mono (call w s₀ s₁ mg mb fa o pm cd doc a vs ns G Y ho (fd_plain hd) hcd hmg hobj hints hlen hg) fun r s' hq => ?_)
 obtain ⟨rfl,h2,h3,h4⟩:=hq
 exact ⟨.inl ⟨.bool true,.bool true,[],rfl,fun _ => rfl,.bool true,post_true l _,fun _ => ⟨List.Pairwise.nil,fun _ hm => (nomatch hm)⟩⟩,h2,h3,h4⟩
end Att
namespace L2
open PySem PySem.Spec PyProof.Rows
theorem vals_ints:∀ {vs:List Value} {ns:List Int},IntsAre vs ns→Vals (ns.map V.int) vs
 | _,_,.nil => .nil
 | _,_,.cons n t h => .cons ⟨t,rfl⟩ (vals_ints h)
def Only (H:Hp):Prop:=∀ b,H b=none ∨ ∃ o xs,H b=some (.frz o (.lst xs))
theorem law_call {P:Program} {w:World} {K:PySem.W.Frag} {mg mb:Str→Option Value} {CX:CXT} {k:Nat} {fa a:Addr} {fd:FuncData} {x:Str} {sp:Sp} {s₁:Shared} {vs:List Value} {ns:List Int}
  (KX:K.In s₁.heap) (hns:s₁.heap.Ns mainGlobals mg) (hb:s₁.heap.Ns builtinsNs mb) (hbb:∀ x:Str,x ≠ "__name__" → mb x=bootBuiltins x) (hlim:s₁.heap.NoLimit) (hg:s₁.gens = #[])
  (ha:s₁.heap.get? a=some { cls:=.type "list",data:=.seq vs.toArray }) (hi:IntsAre vs ns) (hl:ns.length ≤ sizeLine) (hr:Room k callerA)
  (F:∀ base:Heap,K.In base→base.Ns mainGlobals mg→FnOk P w K mg base CX k fa fd [x] sp) (hbind:∀ (s:Shared) (u:Value),BindsTo s fd ⟨[u],[]⟩ [(x,u)])
  (hsp:∀ H:Hp,Only H→SqL K H a (ns.map V.int)→sp [.ref a] H (fun v _ => v = .bl true) fun _ _ _ => False)
  (hCX:∀ H e s',CX [] H s₁ (fun _ _ _ => False) e s'→False) :
  codeAny (model P w) callerA (.call (.ref fa) ⟨[.ref a],[]⟩) (fun r s' => r = .ok (.ret (.bool true))∧OldK s₁.heap s'.heap∧s'.os=s₁.os∧AllBare s'.gens) s₁:=by
 have rv:=vals_ints hi
 have lenV:=hi.length
 have core:∀ H:Hp,Only H→SqL K H a (ns.map V.int)→HOk P w H s₁.heap→(∀ b,H b ≠ none→b=a)→(H a ≠ none→K.lookup a=none) →
   codeAny (model P w) callerA (.call (.ref fa) ⟨[.ref a],[]⟩) (fun r s' => r = .ok (.ret (.bool true))∧OldK s₁.heap s'.heap∧s'.os=s₁.os∧AllBare s'.gens) s₁:=by
  intro H hO hS hok hA hK
  have base_of:∀ {b:Addr} {o:Obj},s₁.heap.get? b=some o→H b=none→(hidT s₁.heap H).get? b=some o:=fun e n => hidT_get e n
  have noA:∀ {b:Addr} {o:Obj} {es:Array DictEntry} {ep:Nat},s₁.heap.get? b=some o→o.data = .dict es ep→H b=none:=fun {b o es ep} e d => by
   cases q:H b with
   | none => rfl
   | some u =>
    have e' : b=a:=hA b (by rw [q]; simp)
    subst e'
    rw [ha] at e; cases e
    have d' : Data.seq vs.toArray _=Data.dict es ep:=d
    cases d'
  have nsK:∀ {b:Addr} {m:Str→Option Value},s₁.heap.Ns b m→(hidT s₁.heap H).Ns b m:=fun {b m} ⟨o,es,ep,e,d,r⟩ => ⟨o,es,ep,base_of e (noA e d),d,r⟩
  have hKb:K.In (hidT s₁.heap H):=fun b o e => base_of (KX b o e) (by
   cases q:H b with
   | none => rfl
   | some u =>
    have e' : b=a:=hA b (by rw [q]; simp)
    subst e'
    rw [hK (by rw [q]; simp)] at e; cases e)
  have hM:Mod K mg (hidT s₁.heap H):=⟨hKb,nsK hns,⟨mb,nsK hb,hbb⟩,let ⟨mc,h1,h2⟩:=hlim; ⟨mc,nsK h1,h2⟩⟩
  have e0:Env0 P w K mg (hidT s₁.heap H) callerA [] s₁ H:=⟨rfl,hM,fun b o e => of_hidT e,Nat.le_of_eq (hidT_size _ _),trivial,fun b hb => absurd (show b ∈ ([]:List Addr) from hb) (by simp),hok,.of_eq hg⟩
  refine codeAny_mono ((F _ hKb (nsK hns)).run callerA [] s₁ H ⟨[.ref a],[]⟩ [.ref a] [.ref a] _ _ hr e0 (hbind s₁ (.ref a)) (.cons rfl .nil) (hsp H hO hS)) fun r s' h => ?_
  cases r with
  | error e => exact (hCX H e s' h).elim
  | ok fl =>
   cases fl with
   | next => exact False.elim h
   | brk => exact False.elim h
   | cont => exact False.elim h
   | ret u =>
    obtain ⟨v,H',os,bare,un,hok',r',q⟩:=h
    have q' : v = .bl true:=q
    subst q'
    obtain rfl:u=Value.bool true:=r'
    refine ⟨rfl,OldK.of_keep fun b o e => ?_,os,bare⟩
    cases q:H b with
    | none => exact un.keep b o e q (by intro z; exact absurd (show b ∈ ([]:List Addr) from z) (by simp)) (by simp)
    | some u =>
     rcases hO b with z | ⟨ob,xs,z⟩
     ·rw [q] at z; cases z
     ·have z2:=un.frzs b ob _ z
      obtain ⟨e1,_⟩:=hok b _ z
      obtain ⟨e2,_⟩:=hok' b _ z2
      rw [e] at e1; cases e1
      exact e2
 cases hk:K.lookup a with
 | some o =>
  have e:=KX a o hk
  rw [ha] at e
  cases e
  refine core (fun _ => none) (fun _ => .inl rfl) (.inr ⟨_,vs.toArray,_,hk,rfl,rfl,rfl,by rw [List.size_toArray,lenV]; exact hl,by simpa using rv⟩) (fun b u z => by have z' : (none:Option HO)=some u:=z; cases z') (fun b z => absurd rfl z) fun z => absurd rfl z
 | none =>
  refine core (fun b => if b=a then some (.frz { cls:=.type "list",data:=.seq vs.toArray } (.lst (ns.map V.int))) else none) (fun b => ?_) (.inl (.inr ⟨{ cls:=.type "list",data:=.seq vs.toArray },if_pos rfl⟩)) (fun b u z => ?_) (fun b z => ?_) fun _ => hk
  ·by_cases hb:b=a
   ·exact .inr ⟨_,_,if_pos hb⟩
   ·exact .inl (if_neg hb)
  ·by_cases hb:b=a
   ·have z':=(if_pos hb).symm.trans z
    cases z'
    subst hb
    exact ⟨ha,by rw [List.length_map]; exact hl,vs,_,rv,ha⟩
   ·have z':=(if_neg hb).symm.trans z
    cases z'
  ·by_cases hb:b=a
   ·exact hb
   ·exact absurd (if_neg hb) z
end L2
namespace L2
open PySem PySem.Spec PyProof.Rows
theorem walk_of {l:PySem.W.OpenLaw} {n k:Nat} {q:Program} {loose:List Str} {XP:(Str→Option Value)→Heap→Prop} {YP:World→Heap→Prop} {d:DefRec} {K:Params→PySem.W.Frag} {CX:World→CXT} {sp:World→Sp} {x:Str}
  (hn:l.most=some n) (hn2:n ≤ sizeLine) (hdf:d.params.defaults=[]) (hr:Room k callerA)
  (hY:∀ (w:World) (h:Heap),YP w h→(K w.params).In h)
  (F:∀ (w:World) (mg:Str→Option Value) (fa:Addr) (h:Heap),(K w.params).In h→h.Ns mainGlobals mg→mg d.name=some (.ref fa) →
   ∃ fd:FuncData,(∀ (s:Shared) (u:Value),BindsTo s fd ⟨[u],[]⟩ [(x,u)]) ∧
    ∀ base:Heap,(K w.params).In base→base.Ns mainGlobals mg→FnOk l.prog w (K w.params) mg base (CX w) k fa fd [x] (sp w))
  (hsp:∀ (w:World) (H:Hp) (a:Addr) (ns:List Int),ns.length ≤ n→Only H→SqL (K w.params) H a (ns.map V.int)→sp w [.ref a] H (fun v _ => v = .bl true) fun _ _ _ => False)
  (hCX:∀ (w:World) (H:Hp) (s:Shared) (e:Value) (s' : Shared),CX w [] H s (fun _ _ _ => False) e s'→False) :
  PySem.W.WalkO q loose XP YP l.row.toRowW d [] (fun f vs => PySem.call f vs):=by
 refine Att.attach_call hn hdf fun w s₀ s₁ mg mb fa o pm cd doc a vs ns G Y ho hd hcd hmg hobj hints hlen hg => ?_
 have KX:=hY w _ Y
 obtain ⟨fd,hb,hF⟩:=F w mg fa _ KX G.T.g hmg
 exact law_call KX G.T.g G.T.b G.T.builtins G.T.nolimit hg hobj hints (Nat.le_trans hlen hn2) hr hF hb (fun H hO hS => hsp w H a ns hlen hO hS) fun H e s' => hCX w H s₁ e s'
end L2
namespace L2
open PySem PySem.Spec PyProof.Rows
def defArgs (s:Stmt):Arguments:=match s with
 | .FunctionDef _ a _ _ _ _ _ _ _ _ => a
 | _ => { posonlyargs:=[],args:=[],vararg:=none,kwonlyargs:=[],kw_defaults:=[],kwarg:=none,defaults:=[] }
def defBody (s:Stmt):List Stmt:=match s with
 | .FunctionDef _ _ b _ _ _ _ _ _ _ => b
 | _ => []
def defScope (s:Stmt):Scope:=match s with
 | .FunctionDef _ _ _ _ _ _ sc _ _ _ => sc
 | _ => { kind:=.function,names:=[],isGenerator:=false,isCoroutine:=false }
abbrev CX0:CXT:=fun _ _ _ _ _ _ => False
abbrev E0:XK:=fun _ _ _ => False
theorem pass0 {X:Cx} : Passes CX0 X E0:=fun _ _ _ _ _ _ _ h => h.elim
structure Fun (K:PySem.W.Frag) (x qual:Str) (st:Stmt) (f:Addr) (fd:FuncData):Prop where
 ex:∃ (oc:Value) (od:Option Addr) (kV doc pm:Value) (an:Option Addr) (cdv ct:Value) (osl:Array (Option Value)),
  fd=PySem.W.fnOf x qual (defArgs st) (defBody st) (defScope st) .none kV doc pm an cdv ct∧K.lookup f=some ⟨oc,od,.func fd,osl⟩∧PySem.W.codeIn K cdv qual=true
 kp:PySem.W.keepIn K (.ref f)=true
section
variable {P:Program} {w:World} {K:PySem.W.Frag} {mg:Str→Option Value} {base:Heap}
theorem Fun.ok {x qual:Str} {st:Stmt} {f:Addr} {fd:FuncData} {N ps:List Str} {k:Nat} {sp:Sp} (F:Fun K x qual st f fd) (S:FnScope N ps (defScope st)) (len:∀ vs H Q E,sp vs H Q E→vs.length=ps.length)
  (hbody:∀ (cdv:Value) (A:Around) (outer:List Env) (s:Shared) (H:Hp) (vs:List V) (Q:VK) (E:XK),Room k (A.deeper (envOfC qual (defScope st) s.heap.objs.size f cdv))→sp vs H Q E →
   ∃ t,PSs (cxOf CX0 P w K mg base N qual (defScope st) f cdv A outer s H E).nox (defBody st) t∧t { nx:=fun _ H' => Q .non H',rt:=Q } (start N vs) H):FnOk P w K mg base CX0 (k + 1) f fd ps sp:=by
 obtain ⟨oc,od,kV,doc,pm,an,cdv,ct,osl,rfl,lk,hcd⟩:=F.ex
 refine fn_of lk hcd S len fun A outer s H vs Q E hr hsp => ?_
 obtain ⟨t,h,q⟩:=hbody cdv A outer s H vs Q E hr hsp
 exact ⟨t,h.nox,q⟩
theorem Fun.binds {x qual:Str} {st:Stmt} {f:Addr} {fd:FuncData} {ps:List Str} (F:Fun K x qual st f fd)
  (h:∀ (kV doc pm:Value) (an:Option Addr) (cdv ct:Value) (us:List Value),us.length=ps.length→bindArgs (PySem.W.fnOf x qual (defArgs st) (defBody st) (defScope st) .none kV doc pm an cdv ct) ⟨us,[]⟩=pure (ps.zip us)):Binds K fd ps []:=by
 obtain ⟨oc,od,kV,doc,pm,an,cdv,ct,osl,rfl,lk,hcd⟩:=F.ex
 exact .all (h kV doc pm an cdv ct)
theorem fun_mk {x qual:Str} {st:Stmt} {f:Addr} {oc:Value} {od an:Option Addr} {osl:Array (Option Value)} {kV doc pm cdv ct:Value} (l:K.lookup f=some ⟨oc,od,.func (PySem.W.fnOf x qual (defArgs st) (defBody st) (defScope st) .none kV doc pm an cdv ct),osl⟩)
  (c:PySem.W.codeIn K cdv qual=true) (k:PySem.W.keepIn K (.ref f)=true):Fun K x qual st f (PySem.W.fnOf x qual (defArgs st) (defBody st) (defScope st) .none kV doc pm an cdv ct):=⟨⟨oc,od,kV,doc,pm,an,cdv,ct,osl,rfl,l,c⟩,k⟩
end
theorem hu_of {A:Around} {k:Nat} (hr:Room k A):A.units + 1 < cLine:=Nat.lt_of_le_of_lt (Nat.add_le_add_left (by decide:1 ≤ 64) _) hr.units
theorem small1000 {n:Nat} (h:n ≤ 1000):n < sizeLine:=Nat.lt_of_le_of_lt h (by decide)
section
variable {X:Cx}
theorem pv (i:Nat) {x:Str} {pos:PySem.Pos} (hN:X.N[i]? = some x:=by rfl) (hv:Vis X.env.scope x:=by first | exact Or.inl rfl | exact Or.inr (Or.inl rfl) | exact Or.inr (Or.inr rfl)) (hd:(x == ("__debug__" : Str))=false:=by decide)
  (hcd:(x == ("__classdict__" : Str))=false:=by decide):PE X (.Name x pos) (tVar i):=pe_var hN hv hd hcd
end
theorem iteF {A B:Prop} (h:B):if false=true then A else B:=by
 rw [if_neg Bool.false_ne_true]
 exact h
theorem iteT {A B:Prop} (h:A):if true=true then A else B:=by
 rw [if_pos rfl]
 exact h
theorem ite2 {c A B:Prop} [Decidable c] (h1:c→A) (h2 : ¬ c→B):if c then A else B:=by
 by_cases h:c
 ·rw [if_pos h]
  exact h1 h
 ·rw [if_neg h]
  exact h2 h
def Same (H H' : Hp):Prop:=∀ b o,H b=some o→H' b=some o
theorem Same.refl (H:Hp):Same H H:=fun _ _ h => h
theorem Same.trans {H H1 H2:Hp} (a:Same H H1) (b:Same H1 H2):Same H H2:=fun c o h => b c o (a c o h)
theorem Same.free {H H' : Hp} (e:Same H H') {l:Addr} (h:H' l=Option.none):H l=Option.none:=by
 cases q:H l with
 | none => rfl
 | some o =>
  rw [e l o q] at h
  cases h
theorem Same.seq {K:PySem.W.Frag} {H H' : Hp} {a:Addr} {xs:List V} (e:Same H H') (h:SqL K H a xs):SqL K H' a xs:=by
 rcases h with (h | ⟨o,h⟩) | h
 ·exact .inl (.inl (e _ _ h))
 ·exact .inl (.inr ⟨o,e _ _ h⟩)
 ·exact .inr h
end L2
set_option maxHeartbeats 4000000
namespace L2
open PySem PySem.Spec PyProof.Rows
section
variable {X:Cx}
def CDivL (i j:Int):Prop:=0 < j∧j.natAbs.log2 < 9000
theorem op_fdivL:OpR X (binaryOp .FloorDiv) (rI CDivL fun i j => .int (i / j)):=opI fun i j _ _ _ _ _ hc q => by
 have h1:(0:Int) < j:=hc.1
 exact floordiv_int (by omega) (by rw [Int.fdiv_eq_ediv_of_nonneg i (by omega)]; exact q) (.inl (PyProof.noPylong_of_log2 hc.2))
theorem mt_bits:MtR X "int.bit_length" (fun x vs H Q => ∃ i,x = .int i∧vs=[]∧Q (.int (Builtin.Int.intBits i:Nat)) H):=by
 intro pins s σ H x xs v us Q I r rv h
 obtain ⟨i,rfl,rfl,q⟩:=h
 obtain ⟨t,rfl⟩:=r
 cases rv.zero
 exact call_gives F.slot_int_bit_length (typeIs_int _ _ _) F.entry_int_bit_length (F.args_int_bit_length_1 _) (AutoIntG2.int_bit_length_int_0 _ _) (show EP X pins σ Q _ _ from ⟨.int _,H,I.tok _,⟨_,rfl⟩,q⟩)
end
end L2
namespace L2
open PySem PySem.Spec PyProof.Rows
section
variable {X:Cx}
theorem clos_go (env:Env):∀ (names:List (Str × NameKind)) (acc:List (Str × Addr)),(∀ y ∈ names,y.2 = .free→∃ c,env.cells.lookup y.1=some c)→(∀ y c,acc.lookup y=some c→env.cells.lookup y=some c) →
  ∃ cl,(forIn names acc fun (x:Str × NameKind) (r:List (Str × Addr)) => if (x.2 == NameKind.free)=true then (do let c ← cellOf env x.1; pure (ForInStep.yield ((x.1,c) :: r))) else pure (ForInStep.yield r):Sem _)=pure cl ∧
   (∀ y c,cl.lookup y=some c→env.cells.lookup y=some c)∧(∀ y,(y,NameKind.free) ∈ names→(cl.lookup y).isSome=true)∧(∀ y,(acc.lookup y).isSome=true→(cl.lookup y).isSome=true)
 | [],acc,_,h => ⟨acc,by simp,h,fun y z => absurd z (by simp),fun _ z => z⟩
 | (n,k) :: r,acc,hf,h => by
  by_cases hk:k = .free
  ·subst hk
   obtain ⟨c,hc⟩:=hf (n,.free) List.mem_cons_self rfl
   obtain ⟨cl,e,h1,h2,h3⟩:=clos_go env r ((n,c) :: acc) (fun y hy => hf y (List.mem_cons_of_mem _ hy)) (fun y d hd => by
    rw [List.lookup_cons] at hd
    cases z:y == n with
    | true =>
     rw [z] at hd
     have:y=n:=by simpa using z
     subst this
     cases hd
     exact hc
    | false => rw [z] at hd; exact h y d hd)
   have hin:∀ y,(((n,c) :: acc).lookup y).isSome=true ∨ True:=fun _ => .inr trivial
   refine ⟨cl,?_,h1,fun y hy => ?_,fun y hy => h3 y ?_⟩
   ·rw [List.forIn_cons]
    have e0:cellOf env n=pure c:=by unfold cellOf; rw [hc]
    simp only [beq_self_eq_true,if_true,e0,pure_bind]
    exact e
   ·rcases List.mem_cons.mp hy with z | z
    ·cases z
     exact h3 _ (by rw [List.lookup_cons]; simp)
    ·exact h2 y z
   ·rw [List.lookup_cons]
    cases y == n with
    | true => rfl
    | false => exact hy
  ·obtain ⟨cl,e,h1,h2,h3⟩:=clos_go env r acc (fun y hy => hf y (List.mem_cons_of_mem _ hy)) h
   refine ⟨cl,?_,h1,fun y hy => ?_,h3⟩
   ·rw [List.forIn_cons]
    have hb:(k == NameKind.free)=false:=by simpa using hk
    simp only [hb,Bool.false_eq_true,if_false,pure_bind]
    exact e
   ·rcases List.mem_cons.mp hy with z | z
    ·cases z; exact absurd rfl hk
    ·exact h2 y z
theorem clos_ok {scope:Scope} {env:Env} (hf:∀ y ∈ scope.names,y.2 = .free→∃ c,env.cells.lookup y.1=some c):∃ cl,closureFor scope env=pure cl∧(∀ y c,cl.lookup y=some c→env.cells.lookup y=some c)∧(∀ y,(y,NameKind.free) ∈ scope.names→(cl.lookup y).isSome=true):=by
 obtain ⟨cl,e,h1,h2,_⟩:=clos_go env scope.names [] hf (fun y c h => by cases h)
 refine ⟨cl,?_,h1,h2⟩
 unfold closureFor
 simp only [bind_pure]
 exact e
end
end L2
namespace L2
open PySem PySem.Spec PyProof.Rows
section
variable {X:Cx}
def tYes:TT:=fun _ H Q => Q true H
def PIf (X:Cx) (ifs:List Expr) (t:TT):Prop :=
 ∀ (pins:List (Addr × Obj)) (s:Shared) (σ:St) (H:Hp) (Q:Bool→Hp→Prop),Inv X pins σ H s→t σ H Q →
  wpAny (model X.prog X.w) X.A (forIn ifs true fun c r => if r=true then do let ok ← isTrue c X.env (eval c X.env); pure (ForInStep.yield ok) else pure (ForInStep.yield r)) (TP X pins σ Q) X.xe s
theorem pif_nil:PIf X [] tYes:=fun pins s σ H Q I h => wpAny_tests_nil ⟨H,I,h⟩
theorem relabel_kind {names:List (Str × NameKind)} {env:Env} {x:Str} {k:NameKind} (hc:∀ y ∈ names,y.2 ≠ .cell) (h:(names.map fun (n,k) => if (k == NameKind.free && env.scope.kind == .function && env.kindOf n == some .cell) then (n,NameKind.cell) else (n,k)).lookup x=some k) :
  (k = .cell ∨ k = .free)→names.lookup x=some .free∧(k = .cell→env.kindOf x=some .cell):=by
 induction names with
 | nil => cases h
 | cons p r ih =>
  obtain ⟨n,k0⟩:=p
  intro hk
  have h:List.lookup x ((if (k0 == NameKind.free && env.scope.kind == .function && env.kindOf n == some .cell)=true then (n,NameKind.cell) else (n,k0)) :: _)=some k:=h
  by_cases c:(k0 == NameKind.free && env.scope.kind == .function && env.kindOf n == some .cell)=true
  ·rw [if_pos c] at h
   rw [List.lookup_cons] at h ⊢
   cases z:x == n with
   | true =>
    have e:x=n:=by simpa using z
    subst e
    simp only [Bool.and_eq_true,beq_iff_eq] at c
    exact ⟨by rw [c.1.1],fun _ => c.2⟩
   | false => rw [z] at h; exact ih (fun y hy => hc y (List.mem_cons_of_mem _ hy)) h hk
  ·rw [if_neg c] at h
   rw [List.lookup_cons] at h ⊢
   cases z:x == n with
   | true =>
    rw [z] at h
    have e:k0=k:=Option.some.inj h
    subst e
    rcases hk with rfl | rfl
    ·exact absurd rfl (hc (n,.cell) List.mem_cons_self)
    ·exact ⟨rfl,fun z => by cases z⟩
   | false => rw [z] at h; exact ih (fun y hy => hc y (List.mem_cons_of_mem _ hy)) h hk
end
end L2
namespace L2
open PySem PySem.Spec PyProof.Rows
section
variable {X:Cx}
theorem relabel_local {names:List (Str × NameKind)} {env:Env} {x:Str} (h:(names.map fun (n,k) => if (k == NameKind.free && env.scope.kind == .function && env.kindOf n == some .cell) then (n,NameKind.cell) else (n,k)).lookup x=some .local) :
  names.lookup x=some .local:=by
 induction names with
 | nil => cases h
 | cons p r ih =>
  obtain ⟨n,k0⟩:=p
  have h:List.lookup x ((if (k0 == NameKind.free && env.scope.kind == .function && env.kindOf n == some .cell)=true then (n,NameKind.cell) else (n,k0)) :: _)=some .local:=h
  by_cases c:(k0 == NameKind.free && env.scope.kind == .function && env.kindOf n == some .cell)=true
  ·rw [if_pos c] at h
   rw [List.lookup_cons] at h ⊢
   cases z:x == n with
   | true => rw [z] at h; cases h
   | false => rw [z] at h; exact ih h
  ·rw [if_neg c] at h
   rw [List.lookup_cons] at h ⊢
   cases z:x == n with
   | true => rw [z] at h; exact h
   | false => rw [z] at h; exact ih h
end
end L2
namespace L2
open PySem PySem.Spec PyProof.Rows
inductive DI (K:PySem.W.Frag) (H:Hp):V→PyData→Prop where
 | non:DI K H .non .none
 | bl (b:Bool):DI K H (.bl b) (.bool b)
 | int (i:Int):DI K H (.int i) (.int i)
 | str (x:Str):DI K H (.str x) (.str x)
 | tup {a:Addr} {xs:List V} {ds:List PyData} : SqT K H a xs→xs.length=ds.length→(∀ (i:Nat) (x:V) (d:PyData),xs[i]? = some x→ds[i]? = some d→DI K H x d)→DI K H (.ref a) (.tuple ds)
 | lst {a:Addr} {xs:List V} {ds:List PyData} : SqL K H a xs→xs.length=ds.length→(∀ (i:Nat) (x:V) (d:PyData),xs[i]? = some x→ds[i]? = some d→DI K H x d)→DI K H (.ref a) (.list ds)
section
variable {X:Cx} {pins:List (Addr × Obj)} {σ:St} {H:Hp} {s:Shared}
theorem readsAll_of:∀ {us:List Value} {ds:List PyData} {xs:List V},Vals xs us→xs.length=ds.length→(∀ (i:Nat) (x:V) (d:PyData) (u:Value),xs[i]? = some x→ds[i]? = some d→RelV x u→∃ as,Reads s.heap u d as)→∃ as,ReadsAll s.heap us ds as
 | _,ds,_,.nil,hl,_ => by
  cases ds with
  | nil => exact ⟨_,.nil⟩
  | cons d r => cases hl
 | _,ds,_,.cons (a:=x) r t,hl,h => by
  cases ds with
  | nil => cases hl
  | cons d rest =>
   obtain ⟨as,ra⟩:=h 0 x d _ rfl rfl r
   obtain ⟨bs,rb⟩:=readsAll_of t (by simpa using hl) (fun i y e u h1 h2 h3 => h (i + 1) y e u (by simpa using h1) (by simpa using h2) h3)
   exact ⟨_,.cons ra rb⟩
theorem DI.reads (I:Inv X pins σ H s) {x:V} {d:PyData} (h:DI X.K H x d):∀ {u:Value},RelV x u→∃ as,Reads s.heap u d as:=by
 induction h with
 | non => intro u r; cases r; exact ⟨_,.none⟩
 | bl b => intro u r; cases r; exact ⟨_,.bool b⟩
 | int i => intro u r; obtain ⟨t,rfl⟩:=r; exact ⟨_,.int i t⟩
 | str x => intro u r; obtain ⟨t,rfl⟩:=r; exact ⟨_,.str x t⟩
 | tup hq hl _ ih =>
  intro u r
  cases r
  obtain ⟨its,rv,⟨o,e,c,n,hd⟩,_⟩:=I.tuple hq
  obtain ⟨as,ra⟩:=readsAll_of (s:=s) rv hl (fun i y d u h1 h2 h3 => ih i y d h1 h2 h3)
  exact ⟨_,.tuple e c hd (by simpa using ra)⟩
 | lst hq hl _ ih =>
  intro u r
  cases r
  obtain ⟨its,rv,pl,_⟩:=I.list hq
  obtain ⟨o,e,c,n,hd⟩:=pl.isList
  obtain ⟨as,ra⟩:=readsAll_of (s:=s) rv hl (fun i y d u h1 h2 h3 => ih i y d h1 h2 h3)
  exact ⟨_,.list e c hd (by simpa using ra)⟩
def rEqD (K:PySem.W.Frag) (g:Bool→Bool):R2:=fun x y H Q => ∃ dx dy,DI K H x dx∧DI K H y dy∧dx.canLay0=true∧dy.canLay0=true∧dx.depth ≤ 60∧Q (.bl (g (PyData.eqv dx dy))) H
theorem op_eqD {k:Nat} (hr:Room k X.A):OpR X (compareOp .Eq) (rEqD X.K fun b => b):=by
 intro pins s σ H x y v u Q I rx ry h
 obtain ⟨dx,dy,hx,hy,cx,cy,hd,q⟩:=h
 obtain ⟨as,ra⟩:=hx.reads I rx
 obtain ⟨bs,rb⟩:=hy.reads I ry
 have hu:=hr.units
 exact SeqAt.compareEq_reads ra rb cx cy (by omega) ⟨.bl _,H,I,rfl,q⟩
theorem op_neD {k:Nat} (hr:Room k X.A):OpR X (compareOp .NotEq) (rEqD X.K fun b => !b):=by
 intro pins s σ H x y v u Q I rx ry h
 obtain ⟨dx,dy,hx,hy,cx,cy,hd,q⟩:=h
 obtain ⟨as,ra⟩:=hx.reads I rx
 obtain ⟨bs,rb⟩:=hy.reads I ry
 have hu:=hr.units
 exact SeqAt.compareNe_reads ra rb cx cy (by omega) ⟨.bl _,H,I,rfl,q⟩
end
end L2
namespace L2
open PySem PySem.Spec PyProof.Rows
section
variable {X:Cx}
theorem ix_listK {K:PySem.W.Frag} (hK:X.K=K:=by rfl):IxR X (rIxL K):=by subst hK; exact ix_list
theorem ix_tupK {K:PySem.W.Frag} (hK:X.K=K:=by rfl):IxR X (rIxT K):=by subst hK; exact ix_tup
theorem call_lenK {K:PySem.W.Frag} (hK:X.K=K:=by rfl):CallR X (.builtin "len") (fun xs H Q => ∃ p ys,xs=[.ref p]∧(SqL K H p ys ∨ SqT K H p ys)∧Q (.int ys.length) H):=by subst hK; exact call_len_seq
end
end L2
namespace L2
open PySem PySem.Spec PyProof.Rows
section
variable {X:Cx}
section
variable {prog:Program} {w:World} {A:Around} {R:Result→Shared→Prop} {s:Shared}
theorem loop_turns {elt tg iter:Expr} {ifs:List Expr} {scope:Scope} {pos:PySem.Pos} {it acc:Value} {env:Env} {EE:Value→Shared→Prop} (hE:EE=notedBy (model prog w) A env fun e s' => R (.error e) s') (I:Nat→Shared→Prop)
  (turn:∀ n s,I n s→wpAny (model prog w) A (pyNext it) (fun r z1 => match r with
   | none => R (.ok .next) z1
   | some v => wpAny (model prog w) A (letOwnedTupleGo tg it v) (fun _ y1 => wpAny (model prog w) A (assign tg env v) (fun _ z2 =>
     wpAny (model prog w) A (forIn ifs true fun c r => if r=true then do let ok ← isTrue c env (eval c env); pure (ForInStep.yield ok) else pure (ForInStep.yield r)) (fun ok z3 =>
      if ok=true then wpAny (model prog w) A (eval elt env) (fun x z4 => wpAny (model prog w) A (call (.builtin "list.append") [acc,x]) (fun _ z5 => ∃ m,m < n∧I m z5) EE z4) EE z3 else ∃ m,m < n∧I m z3) EE z2) EE y1) EE z1) EE s)
  (n:Nat) (h:I n s):codeAny (model prog w) A (.compLoop (.ListComp elt [⟨tg,iter,ifs,0⟩] scope pos) 0 it acc env) R s:=by
 subst hE
 refine codeAny_loop rfl I (fun n s hI => ?_) n h
 show wpAny _ A ((compTurn (.ListComp elt [⟨tg,iter,ifs,0⟩] scope pos) 0 it acc env).onRaise (fun x => do noteFrame x env; theTreesLotGoes x)) _ _ s
 refine wpAny_noted ?_
 rw [compTurn_list]
 refine wpAny_bind (wpAny_standAt (wpAny_bind (wpAny_mono (turn n s hI) (fun r z1 q1 => ?_) fun _ _ z => z)))
 cases r with
 | none => exact wpAny_pure q1
 | some v =>
  refine wpAny_bind (wpAny_mono q1 (fun _ y1 q1 => ?_) fun _ _ z => z)
  refine wpAny_bind (wpAny_mono q1 (fun _ z2 q2 => wpAny_bind (wpAny_mono q2 (fun ok z3 q3 => ?_) fun _ _ z => z)) fun _ _ z => z)
  cases ok with
  | false => exact wpAny_pure ⟨rfl,q3⟩
  | true => exact wpAny_bind (wpAny_bind (wpAny_mono q3 (fun x z4 q4 => wpAny_bind (wpAny_mono q4 (fun _ z5 q5 => wpAny_pure (wpAny_pure ⟨rfl,q5⟩)) fun _ _ z => z)) fun _ _ z => z))
end
def cxC (X:Cx) (xs Nb:List Str) (scope:Scope) (cl:List (Str × Addr)) (C:Addr) (s₂:Shared) (H₂:Hp) (fp:List Addr):Cx :=
 { X with N:=xs ++ Nb,s₀:=s₂,H₀:=H₂,env:=compEnvC scope cl C X.env,outer:=X.stack,stack:=X.stack,ex:=fp,fn:=fun _ => false,pn:=[],xe:=fun _ _ => False }
def InB (X:Cx) (xs Nb:List Str) (scope:Scope) (φ:Cx→Prop):Prop:=∀ (cl:List (Str × Addr)) (C:Addr) (s₂:Shared) (H₂:Hp) (fp:List Addr),φ (cxC X xs Nb scope cl C s₂ H₂ fp)
def CGo (k:Nat) (J:It) (g:TG) (tt:TT) (te:TE) (Q:VK) (σ:St) (H1:Hp):Prop:=∃ W:Nat→Nat→List V→Hp→Prop,(∃ m,W 0 m [] H1)∧∀ i m ys H,W i m ys H →
 (J.stop i H∧∀ D,H D=none→Q (.ref D) (upd H D (.lst ys))) ∨ (J.go i H∧ys.length < sizeLine∧∃ N:List V→Hp→Prop,(∀ zs H',N zs H'→∃ m',m' < m∧W (i + 1) m' zs H')∧∀ v H' (pre:St),pre.length=k→J.yld i H v H'→g v (pre ++ σ) H' fun σ' H2 => (∃ pre' : St,σ' = pre' ++ σ∧pre'.length=k)∧tt σ' H2 fun ok H3 => if ok=true then te σ' H3 fun y H4 => N (ys ++ [y]) H4 else N ys H3)
def tCompG (k:Nat) (wi:TI) (g:TG) (tt:TT) (te:TE):TE:=fun σ H Q => wi σ H fun J H1 => CGo k J g tt te Q σ H1
theorem comp_core {elt iter tg:Expr} {xs Nb:List Str} {ifs:List Expr} {scope:Scope} {pos:PySem.Pos} {wi:TI} {g:TG} {tt:TT} {te:TE}
  (hc:X.calm=true) (hi:PI X tg iter wi) (hlen:Nb.length=X.N.length) (hNb:∀ p ∈ Nb.zip X.N,p.1=p.2 ∨ scope.names.lookup p.1=none) (hxN:∀ y ∈ Nb,scope.names.lookup y ≠ some .local)
  (hg:InB X xs Nb scope fun Y => PG Y tg g) (ht:InB X xs Nb scope fun Y => PIf Y ifs tt) (he:InB X xs Nb scope fun Y => PE Y elt te)
  (hcell:∀ y ∈ scope.names,y.2 ≠ .cell) (hkind:scope.kind = .function) (hnames:∀ y ∈ scope.names,y.2 = .local→scope.names.lookup y.1=some .local)
  (hfree:∀ y ∈ scope.names,y.2 = .free→X.env.kindOf y.1=some .cell)
  (hs:∀ x,foldedSetIterable iter X.env x=pure x) {pos2:PySem.Pos} {use:Option (Value→Sem Unit)} {QQ:Value→Shared→Prop} {pins:List (Addr × Obj)} {s:Shared} {σ:St} {H:Hp} {Q:VK} (I:Inv X pins σ H s) (h:tCompG xs.length wi g tt te σ H Q)
  (post:∀ (s2 s4:Shared) (H2 H4:Hp) (C D:Addr) (m4:Str→Option Value),Inv X pins σ H2 s2→s2.heap.objs.size ≤ C→s4.heap.Ns C m4→H4 C=none→(∀ h',Heap.SameBut C s4.heap h'→Inv X pins σ H4 { s4 with heap:=h' })→Q (.ref D) H4→compPost (model X.prog X.w) X.A X.xe use QQ (.ref D) C (.ok .next) s4) :
  wpAny (model X.prog X.w) X.A (comprehension (.ListComp elt [⟨tg,iter,ifs,0⟩] scope pos) scope X.env pos2 (newList []) false (eval iter X.env) use) QQ X.xe s:=by
 obtain ⟨cl,hcl,cl1,cl2⟩:=clos_ok (scope:=scope) (env:=X.env) (fun y hy hf => I.ok.has y.1 (.inl (hfree y hy hf)))
 refine wpAny_comprehension_free rfl hs hcl hkind hnames (thn (hi pins s σ H _ I h) fun v s1 h1 => thn h1 fun itv s2 h2 => ?_)
 obtain ⟨it,fp,tn,J,H2,e,I2,T,st2,f2,W,⟨m0,w0⟩,turn⟩:=h2
 subst e
 refine wpAny_newObj_type (wpAny_newFunctionEnv hcell (by intro y hy; simp at hy) (fun h₁ hns₁ hsb₁ => ?_) hkind)
 dsimp only at hns₁ hsb₁ ⊢
 generalize hHp:s2.heap.push { cls:=.type "list",dict:=none,data:=.seq ([]:List Value).toArray } = Hp2 at hns₁ hsb₁ ⊢
 have hC:Hp2.objs.size=s2.heap.objs.size + 1:=by rw [← hHp,Heap.size_push]
 have hDC:s2.heap.objs.size ≠ Hp2.objs.size:=by rw [hC]; exact Nat.ne_of_lt (Nat.lt_succ_self _)
 have below:∀ b,b < s2.heap.objs.size→b ≠ Hp2.objs.size∧b ≠ s2.heap.objs.size:=fun b hb => ⟨by rw [hC]; exact Nat.ne_of_lt (Nat.lt_succ_of_lt hb),Nat.ne_of_lt hb⟩
 have old:∀ b o,s2.heap.get? b=some o→h₁.get? b=some o:=fun b o e => hsb₁.extBut b o (below b (Heap.lt_size e)).1 (Heap.get?_push_of_some _ (hHp ▸ Heap.get?_push_of_some _ e))
 have hacc:h₁.PlainList s2.heap.objs.size #[]:=⟨_,hsb₁.extBut _ _ hDC (Heap.get?_push_of_some _ (hHp ▸ Heap.get?_push_size _ rfl))⟩
 generalize hY:cxC X xs Nb scope cl Hp2.objs.size s2 H2 fp=Y
 have Yprog:Y.prog=X.prog:=by rw [← hY]; rfl
 have fpLt:∀ b ∈ fp,b < s2.heap.objs.size:=fun b hb => by
  obtain ⟨o,e,_⟩:=T.obj _ _ st2 b hb
  exact Heap.lt_size e
 have cellLt:∀ y c,cl.lookup y=some c→c < s2.heap.objs.size:=fun y c hc => by
  obtain ⟨v,q⟩:=I2.cell y c (cl1 y c hc)
  exact q.lt
 have frSub:∀ b ∈ frs X.stack,b < s2.heap.objs.size:=fun b hb => by
  rcases List.mem_cons.mp (I2.stkSub b hb) with z | z
  ·rw [z]; exact I2.lt
  ·by_cases hlt:b < s2.heap.objs.size
   ·exact hlt
   ·exact absurd z (I2.nofs (Nat.le_of_not_lt hlt))
 have ok:(cxC X xs Nb scope cl Hp2.objs.size s2 H2 fp).Ok:=by
  refine ⟨I2.ok.mod,hkind,I2.ok.glob,I2.ok.blt,(by show s2.heap.objs.size ≤ Hp2.objs.size; omega),fun y z c h1 h2 => I2.ok.inj y z c (cl1 y c h1) (cl1 z c h2),fun y hy => ?_,fun y c hf _ => absurd hf (by intro z; cases z),I2.ok.hd,I2.ok.frames,.inl rfl,fun b hb => ⟨?_,fun y c h1 h2 => ?_⟩,I2.bs,Nat.le_trans I2.ok.bsz I2.sz,fun b o e hb => ?_,fun b hb hm => ?_,I2.stack,I2.stkFree⟩
  ·have hy:(scope.names.map fun (n,k) => if (k == NameKind.free && X.env.scope.kind == .function && X.env.kindOf n == some .cell) then (n,NameKind.cell) else (n,k)).lookup y=some .cell ∨ (scope.names.map fun (n,k) => if (k == NameKind.free && X.env.scope.kind == .function && X.env.kindOf n == some .cell) then (n,NameKind.cell) else (n,k)).lookup y=some .free:=hy
   have q:scope.names.lookup y=some .free:=by
    rcases hy with z | z
    ·exact (relabel_kind hcell z (.inl rfl)).1
    ·exact (relabel_kind hcell z (.inr rfl)).1
   exact Option.isSome_iff_exists.mp (cl2 y (PySem.mem_of_lookup q))
  ·exact (below b (fpLt b hb)).1
  ·exact (f2 b hb).2.2.2.2.1 y c (cl1 y c h1) h2
  ·rcases (f2 b hb).2.2.2.1 with z | z
   ·exact I2.ok.noex b o e z
   ·exact absurd (Nat.lt_of_lt_of_le (Heap.lt_size e) (Nat.le_trans I2.ok.bsz z)) (Nat.lt_irrefl _)
  ·rcases List.mem_cons.mp (I2.stkSub b hm) with z | z
   ·exact (f2 b hb).2.1 z
   ·exact (f2 b hb).2.2.1 z
 have fpY:∀ {H' : Hp} {pl:List (Addr × Obj)},(∀ b ∈ fp,H' b=none)→(∀ p ∈ pl,p.1=s2.heap.objs.size)→∀ b ∈ fp,FpOk Y pl H' b:=fun {H' pl} hn hp b hb => by
  rw [← hY]
  refine ⟨hn b hb,(below b (fpLt b hb)).1,fun hm => ?_,.inl hb,fun y c h1 h2 => (f2 b hb).2.2.2.2.1 y c (cl1 y c h1) h2,fun p hm z => ?_⟩
  ·rcases List.mem_cons.mp (I2.stkSub b hm) with z | z
   ·exact (f2 b hb).2.1 z
   ·exact (f2 b hb).2.2.1 z
  ·have hm:p ∈ pl:=hm
   rw [hp p hm] at z
   exact (below b (fpLt b hb)).2 z.symm
 have HD:H2 s2.heap.objs.size=none:=I2.hok.fresh (Nat.le_refl _)
 have HC:H2 Hp2.objs.size=none:=I2.hok.fresh (by omega)
 obtain ⟨m2,hns2,hloc2⟩:=I2.loc
 have IY:∀ tk,Inv (cxC X xs Nb scope cl Hp2.objs.size s2 H2 fp) [] (List.replicate xs.length none ++ σ) H2 { s2 with heap:=h₁,toks:=tk }:=fun tk => by
  refine ⟨ok,rfl,I2.bare,Un.kept old,⟨_,hns₁,fun i y v h1 h2 h3 => ?_⟩,fun y c h1 => ?_,HC,fun y c h1 => I2.freeC y c (cl1 y c h1),fun p hp => absurd (show p ∈ ([]:List (Addr × Obj)) from hp) (by simp),I2.hok.kept old,(by show (List.replicate xs.length (none:Option V) ++ σ).length=(xs ++ Nb).length; rw [List.length_append,List.length_append,List.length_replicate,hlen,I2.len])⟩
  ·have h1:(xs ++ Nb)[i]? = some y:=h1
   by_cases hik:i < xs.length
   ·rw [List.getElem?_append_left (by rw [List.length_replicate]; exact hik),List.getElem?_replicate,if_pos hik] at h2
    cases h2
   ·rw [List.getElem?_append_right (by omega)] at h1
    rw [List.getElem?_append_right (by rw [List.length_replicate]; omega),List.length_replicate] at h2
    generalize i - xs.length=i at h1 h2
    have h3:Vis (relabel scope X.env) y:=h3
    have key:∀ k,(k=NameKind.cell ∨ k=NameKind.free)→(relabel scope X.env).names.lookup y=some k→∃ u,RelV v u∧Look (compEnvC scope cl Hp2.objs.size X.env) h₁ (fun x => ([]:List (Str × Value)).reverse.lookup x) y u:=fun k hk hl => by
     obtain ⟨q1,_⟩:=relabel_kind hcell hl hk
     have q2:=hfree (y,.free) (PySem.mem_of_lookup q1) rfl
     have h1' : X.N[i]? = some y:=by
      have hi' : i < X.N.length:=by rw [← hlen]; exact (List.getElem?_eq_some_iff.mp h1).1
      have hz:(Nb.zip X.N)[i]? = some (y,X.N[i]):=by rw [List.getElem?_zip_eq_some]; exact ⟨h1,List.getElem?_eq_getElem hi'⟩
      rcases hNb _ (List.mem_of_getElem? hz) with z | z
      ·have z:y=X.N[i]:=z
       rw [z]; exact List.getElem?_eq_getElem hi'
      ·have z:scope.names.lookup y=none:=z
       rw [q1] at z; cases z
     obtain ⟨u,r,l⟩:=hloc2 i y v h1' h2 (.inr (.inl q2))
     refine ⟨u,r,.inr ⟨?_,?_⟩⟩
     ·rcases hk with rfl | rfl
      ·exact .inl hl
      ·exact .inr hl
     ·rcases l with ⟨k1,_⟩ | ⟨_,c,e1,z⟩
      ·rw [q2] at k1; cases k1
      ·obtain ⟨c',e2⟩:=Option.isSome_iff_exists.mp (cl2 y (PySem.mem_of_lookup q1))
       have e3:=cl1 y c' e2
       rw [e1] at e3
       cases e3
       obtain ⟨o,ho,hd⟩:=z
       exact ⟨c,e2,o,old c o ho,hd⟩
    rcases h3 with h3 | h3 | h3
    ·
     exfalso
     exact hxN y (List.mem_of_getElem? h1) (relabel_local h3)
    ·exact key _ (.inl rfl) h3
    ·exact key _ (.inr rfl) h3
  ·obtain ⟨v,o,ho,hd⟩:=I2.cell y c (cl1 y c h1)
   exact ⟨v,o,old c o ho,hd⟩
 have noErr:∀ {α:Type} {m:Sem α} {G:α→Shared→Prop} {E' : Value→Shared→Prop} {s' : Shared},wpAny (model X.prog X.w) X.A m G (fun _ _ => False) s'→wpAny (model X.prog X.w) X.A m G E' s':=fun h => wpAny_mono h (fun _ _ q => q) fun _ _ q => q.elim
 have loop:∀ (tk:Nat) (R:Result→Shared→Prop),R=compPost (model X.prog X.w) X.A X.xe use QQ (.ref s2.heap.objs.size) Hp2.objs.size →
   codeAny (model X.prog X.w) X.A (.compLoop (.ListComp elt [⟨tg,iter,ifs,0⟩] scope pos) 0 (.ref it) (.ref s2.heap.objs.size) (compEnvC scope cl Hp2.objs.size X.env)) R { s2 with heap:=h₁,toks:=tk }:=by
  rintro tk R rfl
  refine loop_turns rfl (fun n s' => ∃ i σv H' ys its,σv.length=xs.length∧Inv Y [] (σv ++ σ) H' s'∧tn i s'.heap∧(∀ b ∈ fp,H' b=none)∧Vals ys its∧ys.length ≤ sizeLine∧s'.heap.PlainList s2.heap.objs.size its.toArray∧H' s2.heap.objs.size=none∧W i n ys H') ?_ m0
   ⟨0,List.replicate xs.length none,H2,[],[],List.length_replicate,hY ▸ IY tk,T.keep _ _ _ st2 fun b _ o e => old b o e,fun b hb => (f2 b hb).1,.nil,Nat.zero_le _,hacc,HD,w0⟩
  rintro n s3 ⟨i,σv,H3,ys,its,lv,I3,st3,fr3,rv,hz,⟨nn,pl3⟩,HD3,w3⟩
  have I3p:Inv Y [(s2.heap.objs.size,{ cls:=.type "list",data:=.seq its.toArray nn })] (σv ++ σ) H3 s3:=I3.pins_of fun p hp => by
   rw [List.mem_singleton] at hp
   subst hp
   refine ⟨pl3,HD3,?_,fun hm => ?_,fun v z => by cases z⟩
   ·rw [← hY]; exact hDC
   ·rw [← hY] at hm
    exact absurd (frSub _ hm) (Nat.lt_irrefl _)
  have pinD:∀ p ∈ [((s2.heap.objs.size:Addr),({ cls:=.type "list",data:=.seq its.toArray nn } : Obj))],p.1=s2.heap.objs.size:=fun p hp => by
   rw [List.mem_singleton] at hp
   rw [hp]
  subst hY
  rcases turn i n ys H3 w3 with ⟨stop,qn⟩ | ⟨go,hlt,NN,hNN,step⟩
  ·refine noErr (thn (T.done (cxC X xs Nb scope cl Hp2.objs.size s2 H2 fp) rfl rfl rfl hc i _ s3 _ H3 (fun _ _ => False) I3p (fpY fr3 pinD) st3 stop) fun r s4 ⟨hr,I4⟩ => ?_)
   subst hr
   obtain ⟨m4,hns4,_⟩:=I4.loc
   refine post s2 s4 H2 (upd H3 s2.heap.objs.size (.lst ys)) Hp2.objs.size s2.heap.objs.size m4 I2 (by omega) hns4 (by rw [upd_ne (Ne.symm hDC)]; exact I4.free) (fun h' sb => ?_) (qn _ HD3)
   have pl4:=(I4.pin _ (List.mem_append_right _ List.mem_cons_self)).1
   have up:∀ b o,b ≠ Hp2.objs.size→s4.heap.get? b=some o→h'.get? b=some o:=fun b o hb e => sb.extBut b o hb e
   have base:=I4.base
   have HC4:H3 Hp2.objs.size=none:=I4.free
   have neC:∀ b o,s2.heap.get? b=some o→b ≠ Hp2.objs.size:=fun b o e => (below b (Heap.lt_size e)).1
   have neD:∀ b o,s2.heap.get? b=some o→b ≠ s2.heap.objs.size:=fun b o e => (below b (Heap.lt_size e)).2
   have hokN:HOk X.prog X.w (upd H3 s2.heap.objs.size (.lst ys)) h':=fun b u e => by
    by_cases hb:b=s2.heap.objs.size
    ·subst hb
     rw [upd_same] at e
     cases e
     exact ⟨hz,its,nn,rv,up _ _ hDC pl4⟩
    ·rw [upd_ne hb] at e
     refine (I4.hok b u e).stay (fun c v hc q => up c v ?_ q) (fun c q => by rw [upd_ne (ne_of_none q HD3)]; exact q) fun c xs q => by rw [upd_ne (ne_of_none q HD3)]; exact q
     rcases hc with z | z
     ·rw [z]; exact ne_of_none e HC4
     ·exact ne_of_none z HC4
   refine I2.call' (s':={ s4 with heap:=h' }) (ch:=fp) I4.os ⟨fun b o e n hb hx' => up b o (neC b o e) (base.keep b o e n hb hx'),fun b o e n hb hx' => ?_,fun b o e n hx' => ?_,fun b o e hx' => ?_,fun b xs e => ?_,fun b o u e => ?_,fun b ps e => ?_⟩ hokN I4.bare (fun b hb => ?_)
   ·obtain ⟨sl,q⟩:=base.slot b o e n hb hx'
    exact ⟨sl,up b _ (neC b o e) q⟩
   ·rw [upd_ne (neD b o e)]
    exact base.free b o e n hx'
   ·obtain ⟨o',q⟩:=base.there b o e hx'
    exact ⟨o',up b o' (neC b o e) q⟩
   ·have q:=base.tups b xs e
    rw [upd_ne (ne_of_none q HD3)]; exact q
   ·have q:=base.frzs b o u e
    rw [upd_ne (ne_of_none q HD3)]; exact q
   ·obtain ⟨more,q⟩:=base.tbls b ps e
    exact ⟨more,by rw [upd_ne (ne_of_none q HD3)]; exact q⟩
   ·obtain ⟨_,g1,_,g3,g4,g5⟩:=f2 b hb
    exact ⟨g3,g1,g4,g5⟩
  ·refine noErr (thn (T.item (cxC X xs Nb scope cl Hp2.objs.size s2 H2 fp) rfl rfl rfl hc i _ s3 _ H3 (fun _ _ => False) I3p (fpY fr3 pinD) st3 go) fun r s4 ⟨u,hr,h4⟩ => ?_)
   subst hr
   refine noErr (thn h4 fun _ s5 ⟨v,H5,I5,r5,y5,st5,fr5⟩ => ?_)
   have I5':=I5.pinned (fpY fr5 pinD) (T.obj _ _ st5)
   have stp:=step v H5 σv lv y5
   refine noErr (thn (hg cl Hp2.objs.size s2 H2 fp _ s5 _ H5 v u _ I5' r5 stp) fun _ s6 ⟨σ6,H6,I6,⟨pre',e6,l6⟩,stp⟩ => ?_)
   subst e6
   have again:∀ {s7 s8:Shared} {H7:Hp} {zs:List V} {ws:List Value} {m' : Nat},Inv (cxC X xs Nb scope cl Hp2.objs.size s2 H2 fp) ([((s2.heap.objs.size:Addr),({ cls:=.type "list",data:=.seq its.toArray nn } : Obj))] ++ pinsAt fp s5.heap) (pre' ++ σ) H7 s7 →
     (∃ h',s8 = { s7 with heap:=h' }∧(∀ b o,b ≠ s2.heap.objs.size→s7.heap.get? b=some o→h'.get? b=some o)∧h'.PlainList s2.heap.objs.size ws.toArray)→Vals zs ws→zs.length ≤ sizeLine→m' < n→W (i + 1) m' zs H7 →
     ∃ m,m < n∧∃ i σv H' ys its,σv.length=xs.length∧Inv (cxC X xs Nb scope cl Hp2.objs.size s2 H2 fp) [] (σv ++ σ) H' s8∧tn i s8.heap∧(∀ b ∈ fp,H' b=none)∧Vals ys its∧ys.length ≤ sizeLine∧s8.heap.PlainList s2.heap.objs.size its.toArray∧H' s2.heap.objs.size=none∧W i m ys H':=by
    rintro s7 s8 H7 zs ws m' I7 ⟨h',rfl,up,plw⟩ rz hzz hm w7
    have HD7:H7 s2.heap.objs.size=none:=(I7.pin _ (List.mem_append_right _ (List.mem_append_left _ List.mem_cons_self))).2.1
    have fr7:∀ b ∈ fp,H7 b=none:=fun b hb => by
     obtain ⟨o,e,d⟩:=T.obj _ _ st5 b hb
     exact (I7.pin (b,o) (List.mem_append_right _ (List.mem_append_right _ (mem_pinsAt hb e)))).2.1
    have I7' : Inv (cxC X xs Nb scope cl Hp2.objs.size s2 H2 fp) [] (pre' ++ σ) H7 s7:=I7.pins_of fun p hp => absurd hp (by simp)
    refine ⟨m',hm,i + 1,pre',H7,zs,ws,l6,?_,?_,fr7,rz,hzz,plw,HD7,w7⟩
    ·have:=I7'.turned (it:=s2.heap.objs.size) (h':=h') (t':=s7.toks) up HD7 hDC (.inr (Nat.le_refl _)) (fun y c h1 h2 => absurd (cellLt y c h1) (by rw [h2]; exact Nat.lt_irrefl _)) (fun p hp => absurd (show p ∈ ([]:List (Addr × Obj)) from hp) (by simp))
     exact this
    ·refine T.keep _ _ _ st5 fun b hb o e => up b o (below b (fpLt b hb)).2 ?_
     exact (I7.pin (b,o) (List.mem_append_right _ (List.mem_append_right _ (mem_pinsAt hb e)))).1
   refine noErr (thn (ht cl Hp2.objs.size s2 H2 fp _ s6 _ H6 _ I6 stp) fun okb s7 ⟨H7,I7,q7⟩ => ?_)
   have pl7:=(I7.pin _ (List.mem_append_right _ (List.mem_append_left _ List.mem_cons_self))).1
   cases okb with
   | false =>
    rw [if_neg Bool.false_ne_true] at q7 ⊢
    obtain ⟨m',hm,w7⟩:=hNN _ _ q7
    exact again I7 ⟨s7.heap,rfl,fun _ _ _ e => e,nn,pl7⟩ rv hz hm w7
   | true =>
    rw [if_pos rfl] at q7 ⊢
    refine noErr (thn (he cl Hp2.objs.size s2 H2 fp _ s7 _ H7 _ I7 q7) fun w' s8 ⟨y,H8,I8,r8,q8⟩ => ?_)
    obtain ⟨m',hm,w8⟩:=hNN _ _ q8
    have pl8:=(I8.pin _ (List.mem_append_right _ (List.mem_append_left _ List.mem_cons_self))).1
    refine wpAny_list_append_plain (hsz:=by have:=rv.length; simp only [List.size_toArray]; omega) ⟨nn,pl8⟩ fun h9 pl9 sb9 => ?_
    refine again I8 ⟨h9,rfl,fun b o hb e => sb9.extBut b o hb e,?_⟩ (rv.append (.cons r8 .nil)) (by rw [List.length_append,List.length_singleton]; omega) hm w8
    have e9:its.toArray.push w' = (its ++ [w']).toArray:=by simp
    rw [← e9]
    exact pl9
 refine codeAny_compStart_list (loop _ _ rfl) (noErr (T.self _ 0 _ _ _ (T.keep _ _ _ st2 fun b _ o e => old b o e) (loop _ _ rfl)))
theorem pe_compG {elt iter tg:Expr} {xs Nb:List Str} {ifs:List Expr} {scope:Scope} {pos:PySem.Pos} {wi:TI} {g:TG} {tt:TT} {te:TE}
  (hc:X.calm=true) (hi:PI X tg iter wi) (hlen:Nb.length=X.N.length) (hNb:∀ p ∈ Nb.zip X.N,p.1=p.2 ∨ scope.names.lookup p.1=none) (hxN:∀ y ∈ Nb,scope.names.lookup y ≠ some .local)
  (hg:InB X xs Nb scope fun Y => PG Y tg g) (ht:InB X xs Nb scope fun Y => PIf Y ifs tt) (he:InB X xs Nb scope fun Y => PE Y elt te)
  (hcell:∀ y ∈ scope.names,y.2 ≠ .cell) (hkind:scope.kind = .function) (hnames:∀ y ∈ scope.names,y.2 = .local→scope.names.lookup y.1=some .local)
  (hfree:∀ y ∈ scope.names,y.2 = .free→X.env.kindOf y.1=some .cell)
  (hs:∀ x,foldedSetIterable iter X.env x=pure x:=by intro _; rfl) :
  PE X (.ListComp elt [⟨tg,iter,ifs,0⟩] scope pos) (tCompG xs.length wi g tt te):=by
 intro pins s σ H Q I h
 rw [eval_ListComp]
 exact comp_core (use:=none) (QQ:=EP X pins σ Q) hc hi hlen hNb hxN hg ht he hcell hkind hnames hfree hs I h fun s2 s4 H2 H4 C D m4 _ _ hn _ IX q => ⟨m4,hn,fun h' sb => ⟨.ref D,H4,IX h' sb,rfl,q⟩⟩
theorem ps_compG {elt iter tg:Expr} {xs Nb:List Str} {ifs:List Expr} {scope:Scope} {pos spos py:PySem.Pos} {wi:TI} {g g2:TG} {tt:TT} {te:TE} {y:Str}
  (hg2:PG X (.Name y py) g2) (hsw:swapsWith (.ListComp elt [⟨tg,iter,ifs,0⟩] scope pos) (some (.Name y py)) spos.line X.env=pure true)
  (hc:X.calm=true) (hi:PI X tg iter wi) (hlen:Nb.length=X.N.length) (hNb:∀ p ∈ Nb.zip X.N,p.1=p.2 ∨ scope.names.lookup p.1=none) (hxN:∀ y ∈ Nb,scope.names.lookup y ≠ some .local)
  (hg:InB X xs Nb scope fun Y => PG Y tg g) (ht:InB X xs Nb scope fun Y => PIf Y ifs tt) (he:InB X xs Nb scope fun Y => PE Y elt te)
  (hcell:∀ y ∈ scope.names,y.2 ≠ .cell) (hkind:scope.kind = .function) (hnames:∀ y ∈ scope.names,y.2 = .local→scope.names.lookup y.1=some .local)
  (hfree:∀ y ∈ scope.names,y.2 = .free→X.env.kindOf y.1=some .cell)
  (hs:∀ x,foldedSetIterable iter X.env x=pure x:=by intro _; rfl) :
  PS X (.Assign [.Name y py] (.ListComp elt [⟨tg,iter,ifs,0⟩] scope pos) spos) (tAsg (tCompG xs.length wi g tt te) g2):=by
 intro pins s σ H D I h
 rw [exec_Assign_Name_used _ _ _ _ hsw]
 refine wpAny_bind (wpAny_standAt (wpAny_bind ?_))
 show wpAny (model X.prog X.w) X.A (comprehension (.ListComp elt [⟨tg,iter,ifs,0⟩] scope pos) scope X.env _ (newList []) false (eval iter X.env) (some (assign (.Name y py) X.env)) >>= fun _ => pure ()) _ _ s
 refine wpAny_bind (wpAny_mono (comp_core (use:=some (assign (.Name y py) X.env)) (QQ:=fun _ s' => SP X pins D .next s') hc hi hlen hNb hxN hg ht he hcell hkind hnames hfree hs I h ?_) (fun _ s' hq => wpAny_pure (wpAny_pure hq)) fun _ _ e => e)
 intro s2 s4 H2 H4 C R m4 I2 hC hn HC IX q
 have I4:Inv X pins σ H4 s4:=IX s4.heap (Heap.SameBut.refl _ _)
 obtain ⟨o,es,ep,ho,hd,hn'⟩:=id hn
 have hLC:C ≠ X.env.locals:=fun z => absurd (Nat.lt_of_lt_of_le I2.lt hC) (by rw [z]; exact Nat.lt_irrefl _)
 have hfsC:C ∉ X.fs:=I2.nofs hC
 have I4p:Inv X ((C,o) :: pins) σ H4 s4:=I4.pins_of fun p hp => by
  rcases List.mem_cons.mp hp with rfl | z
  ·exact ⟨ho,HC,hLC,hfsC,fun v z => by rw [hd] at z; cases z⟩
  ·exact I4.pin p (List.mem_append_right _ z)
 show wpAny _ X.A (assign (.Name y py) X.env (.ref R)) _ _ s4
 refine thn (hg2 _ s4 σ H4 (.ref R) (.ref R) _ I4p rfl q) fun _ s5 ⟨σ5,H5,I5,q5⟩ => ?_
 have pC:=I5.pin (C,o) (List.mem_append_right _ List.mem_cons_self)
 refine ⟨m4,⟨o,es,ep,pC.1,hd,hn'⟩,fun h' sb => ⟨σ5,H5,?_,q5⟩⟩
 have I6:Inv X pins σ5 H5 s5:=I5.pins_of fun p hp => I5.pin p (List.mem_append_right _ (List.mem_cons_of_mem _ hp))
 exact I6.turned (it:=C) (h':=h') (t':=s5.toks) (fun b o hb e => sb.extBut b o hb e) pC.2.1 hLC (.inr (Nat.le_trans I2.sz hC)) (fun y c e z => by
   obtain ⟨v,qq⟩:=I2.cell y c e
   exact absurd (Nat.lt_of_lt_of_le qq.lt hC) (by rw [z]; exact Nat.lt_irrefl _)) (fun p hp z => by
   exact absurd (Nat.lt_of_lt_of_le (Heap.lt_size (I2.pin p hp).1) hC) (by rw [z]; exact Nat.lt_irrefl _))
theorem compL {K:PySem.W.Frag} {k:Nat} {a:Addr} {xs:List V} {g:TG} {tt:TT} {te:TE} {Q:VK} {σ:St} {H:Hp} (Pv:Nat→List V→Hp→Prop) (h0:Pv 0 [] H) (hb:xs.length ≤ 1000) (hz:∀ i ys H,Pv i ys H→ys.length ≤ i) (hl:∀ i ys H,i ≤ xs.length→Pv i ys H→SqL K H a xs)
  (hs:∀ i x ys H (pre:St),pre.length=k→xs[i]? = some x→Pv i ys H→g x (pre ++ σ) H fun σ' H2 => (∃ pre' : St,σ' = pre' ++ σ∧pre'.length=k)∧tt σ' H2 fun ok H3 => if ok=true then te σ' H3 fun y H4 => Pv (i + 1) (ys ++ [y]) H4 else Pv (i + 1) ys H3) (hd:∀ ys H,Pv xs.length ys H→∀ D,H D=none→Q (.ref D) (upd H D (.lst ys))):CGo k (Itl K a) g tt te Q σ H:=by
 refine ⟨fun i m ys H => m=xs.length - i∧i ≤ xs.length∧Pv i ys H,⟨xs.length,by simp,Nat.zero_le _,h0⟩,?_⟩
 rintro i m ys H ⟨rfl,hi,p⟩
 have q:=hl i ys H hi p
 by_cases hlt:i < xs.length
 ·refine .inr ⟨⟨xs,xs[i],q,by simp [hlt]⟩,Nat.lt_of_le_of_lt (hz i ys H p) (small1000 (by omega)),Pv (i + 1),fun zs H' p' => ⟨xs.length - (i + 1),by omega,rfl,hlt,p'⟩,fun x H' pre hp y => ?_⟩
  obtain ⟨e,y⟩:=y
  subst e
  exact hs i x ys _ pre hp (y xs q) p
 ·have e:i=xs.length:=by omega
  subst e
  exact .inl ⟨⟨xs,q,Nat.le_refl _⟩,hd ys H p⟩
theorem compT {K:PySem.W.Frag} {k:Nat} {a:Addr} {xs:List V} {g:TG} {tt:TT} {te:TE} {Q:VK} {σ:St} {H:Hp} (Pv:Nat→List V→Hp→Prop) (h0:Pv 0 [] H) (hb:xs.length ≤ 1000) (hz:∀ i ys H,Pv i ys H→ys.length ≤ i) (hl:∀ i ys H,i ≤ xs.length→Pv i ys H→SqT K H a xs)
  (hs:∀ i x ys H (pre:St),pre.length=k→xs[i]? = some x→Pv i ys H→g x (pre ++ σ) H fun σ' H2 => (∃ pre' : St,σ' = pre' ++ σ∧pre'.length=k)∧tt σ' H2 fun ok H3 => if ok=true then te σ' H3 fun y H4 => Pv (i + 1) (ys ++ [y]) H4 else Pv (i + 1) ys H3) (hd:∀ ys H,Pv xs.length ys H→∀ D,H D=none→Q (.ref D) (upd H D (.lst ys))):CGo k (Itt K a) g tt te Q σ H:=by
 refine ⟨fun i m ys H => m=xs.length - i∧i ≤ xs.length∧Pv i ys H,⟨xs.length,by simp,Nat.zero_le _,h0⟩,?_⟩
 rintro i m ys H ⟨rfl,hi,p⟩
 have q:=hl i ys H hi p
 by_cases hlt:i < xs.length
 ·refine .inr ⟨⟨xs,xs[i],q,by simp [hlt]⟩,Nat.lt_of_le_of_lt (hz i ys H p) (small1000 (by omega)),Pv (i + 1),fun zs H' p' => ⟨xs.length - (i + 1),by omega,rfl,hlt,p'⟩,fun x H' pre hp y => ?_⟩
  obtain ⟨e,y⟩:=y
  subst e
  exact hs i x ys _ pre hp (y xs q) p
 ·have e:i=xs.length:=by omega
  subst e
  exact .inl ⟨⟨xs,q,Nat.le_refl _⟩,hd ys H p⟩
theorem compR {k:Nat} {lo:Int} {n:Nat} {g:TG} {tt:TT} {te:TE} {Q:VK} {σ:St} {H:Hp} (Pv:Nat→List V→Hp→Prop) (h0:Pv 0 [] H) (hb:n ≤ 1000) (hz:∀ i ys H,Pv i ys H→ys.length ≤ i)
  (hs:∀ (i:Nat) ys H (pre:St),pre.length=k→i < n→Pv i ys H→g (.int (lo + i)) (pre ++ σ) H fun σ' H2 => (∃ pre' : St,σ' = pre' ++ σ∧pre'.length=k)∧tt σ' H2 fun ok H3 => if ok=true then te σ' H3 fun y H4 => Pv (i + 1) (ys ++ [y]) H4 else Pv (i + 1) ys H3) (hd:∀ ys H,Pv n ys H→∀ D,H D=none→Q (.ref D) (upd H D (.lst ys))):CGo k (Itr lo n) g tt te Q σ H:=by
 refine ⟨fun i m ys H => m=n - i∧i ≤ n∧Pv i ys H,⟨n,by simp,Nat.zero_le _,h0⟩,?_⟩
 rintro i m ys H ⟨rfl,hi,p⟩
 by_cases hlt:i < n
 ·refine .inr ⟨hlt,Nat.lt_of_le_of_lt (hz i ys H p) (small1000 (by omega)),Pv (i + 1),fun zs H' p' => ⟨n - (i + 1),by omega,rfl,hlt,p'⟩,fun x H' pre hp y => ?_⟩
  obtain ⟨e,y⟩:=y
  subst e y
  exact hs i ys _ pre hp hlt p
 ·have e:i=n:=by omega
  subst e
  exact .inl ⟨Nat.le_refl _,hd ys H p⟩
end
end L2
namespace L2
open PySem PySem.Spec PyProof.Rows
section
variable {X:Cx}
theorem pg_tupK {K:PySem.W.Frag} {es:List Expr} {k:Nat} {t:TGs} {n:Nat} {pos:PySem.Pos} (hc:X.calm=true) (h:PGs X es t) (hK:X.K=K:=by rfl)
  (hn:(assignEach es X.env).length=n:=by rfl) (hst:(assignEach es X.env).findIdx? (·.1)=none:=by rfl):PG X (.Tuple es k pos) (gTup K n t):=by
 subst hK; exact pg_tup hc h hn hst
end
def dT (ns:List Int):PyData:=.tuple (ns.map .int)
def dE (e:Int × List Int):PyData:=.tuple [.int e.1,dT e.2]
def dL (L:List (Int × List Int)):PyData:=.list (L.map dE)
theorem eqvAll_ints:∀ ns ms:List Int,PyData.eqvAll (ns.map .int) (ms.map .int)=decide (ns=ms)
 | [],[] => rfl
 | [],_ :: _ => rfl
 | _ :: _,[] => rfl
 | n :: ns,m :: ms => by
  show (PyData.eqv (.int n) (.int m) && PyData.eqvAll (ns.map .int) (ms.map .int))=_
  rw [eqvAll_ints ns ms]
  show ((n == m) && _)=_
  by_cases h:n=m
  ·subst h; by_cases h2:ns=ms <;> simp [h2]
  ·simp [h]
theorem eqv_dT (ns ms:List Int):PyData.eqv (dT ns) (dT ms)=decide (ns=ms):=eqvAll_ints ns ms
theorem eqv_dE (a b:Int × List Int):PyData.eqv (dE a) (dE b)=decide (a=b):=by
 show ((a.1 == b.1) && (PyData.eqv (dT a.2) (dT b.2) && true))=_
 rw [eqv_dT]
 obtain ⟨a1,a2⟩:=a
 obtain ⟨b1,b2⟩:=b
 by_cases h:a1=b1
 ·subst h; by_cases h2:a2=b2 <;> simp [h2]
 ·simp [h]
theorem eqvAll_dE:∀ L M:List (Int × List Int),PyData.eqvAll (L.map dE) (M.map dE)=decide (L=M)
 | [],[] => rfl
 | [],_ :: _ => rfl
 | _ :: _,[] => rfl
 | a :: L,b :: M => by
  show (PyData.eqv (dE a) (dE b) && PyData.eqvAll (L.map dE) (M.map dE))=_
  rw [eqvAll_dE L M,eqv_dE]
  by_cases h:a=b
  ·subst h; by_cases h2:L=M <;> simp [h2]
  ·simp [h]
theorem eqv_dL (L M:List (Int × List Int)):PyData.eqv (dL L) (dL M)=decide (L=M):=eqvAll_dE L M
theorem lay_ints:∀ ns:List Int,PyData.canLayAll0 (ns.map .int)=true
 | [] => rfl
 | _ :: ns => by show (true && _)=true; rw [lay_ints ns]; rfl
theorem lay_dT (ns:List Int):(dT ns).canLay0=true:=lay_ints ns
theorem lay_dE (e:Int × List Int):(dE e).canLay0=true:=by show (true && ((dT e.2).canLay0 && true))=true; rw [lay_dT]; rfl
theorem lay_dEs:∀ L:List (Int × List Int),PyData.canLayAll0 (L.map dE)=true
 | [] => rfl
 | e :: L => by show ((dE e).canLay0 && _)=true; rw [lay_dE,lay_dEs L]; rfl
theorem lay_dL (L:List (Int × List Int)):(dL L).canLay0=true:=lay_dEs L
theorem dep_ints:∀ ns:List Int,PyData.depthAll (ns.map .int)=0
 | [] => rfl
 | _ :: ns => by show max 0 _=0; rw [dep_ints ns]; rfl
theorem dep_dT (ns:List Int):(dT ns).depth=1:=by show PyData.depthAll _ + 1=1; rw [dep_ints]
theorem dep_dE (e:Int × List Int):(dE e).depth=2:=by show max 0 (max (dT e.2).depth 0) + 1=2; rw [dep_dT]; rfl
theorem dep_dEs:∀ L:List (Int × List Int),PyData.depthAll (L.map dE) ≤ 2
 | [] => Nat.zero_le _
 | e :: L => by show max (dE e).depth _ ≤ 2; rw [dep_dE]; have:=dep_dEs L; omega
theorem dep_dL (L:List (Int × List Int)):(dL L).depth ≤ 60:=by show PyData.depthAll _ + 1 ≤ 60; have:=dep_dEs L; omega
def Tups (H H' : Hp):Prop:=∀ b ys,H b=some (.tup ys)→H' b=some (.tup ys)
theorem Tups.refl (H:Hp):Tups H H:=fun _ _ h => h
theorem Tups.trans {H H1 H2:Hp} (a:Tups H H1) (b:Tups H1 H2):Tups H H2:=fun c y h => b c y (a c y h)
theorem Tups.new {H H1:Hp} {p:Addr} {o:HO} (a:Tups H H1) (h:H1 p=none):Tups H (upd H1 p o):=fun c y e => by
 have:=a c y e
 rw [upd_ne (ne_of_none this h)]; exact this
theorem Tups.lst {H H1:Hp} {p:Addr} {xs ys:List V} (a:Tups H H1) (h:H1 p=some (.lst xs)):Tups H (upd H1 p (.lst ys)):=fun c y e => by
 have:=a c y e
 have hn:c ≠ p:=fun z => by rw [z,h] at this; cases this
 rw [upd_ne hn]; exact this
theorem Same.tups {H H' : Hp} (s:Same H H'):Tups H H':=fun b ys e => s b _ e
def Sh (H:Hp) (x:V) (e:Int × List Int):Prop:=∃ p w,x = .ref p∧H p=some (.tup [.int e.1,.ref w])∧H w=some (.tup (e.2.map V.int))
def Wg (H:Hp) (xs:List V) (L:List (Int × List Int)):Prop:=xs.length=L.length∧∀ (i:Nat) (x:V) (e:Int × List Int),xs[i]? = some x→L[i]? = some e→Sh H x e
theorem Sh.up {H H' : Hp} {x:V} {e:Int × List Int} (h:Sh H x e) (t:Tups H H'):Sh H' x e:=by
 obtain ⟨p,w,rfl,h1,h2⟩:=h
 exact ⟨p,w,rfl,t _ _ h1,t _ _ h2⟩
theorem Wg.up {H H' : Hp} {xs:List V} {L:List (Int × List Int)} (h:Wg H xs L) (t:Tups H H'):Wg H' xs L:=⟨h.1,fun i x e h1 h2 => (h.2 i x e h1 h2).up t⟩
theorem Wg.nil (H:Hp):Wg H [] []:=⟨rfl,fun i x e h _ => by cases h⟩
theorem Wg.snoc {H:Hp} {xs:List V} {L:List (Int × List Int)} {x:V} {e:Int × List Int} (h:Wg H xs L) (s:Sh H x e):Wg H (xs ++ [x]) (L ++ [e]):=by
 refine ⟨by simp [h.1],fun i y d h1 h2 => ?_⟩
 by_cases hi:i < xs.length
 ·rw [List.getElem?_append_left hi] at h1
  rw [List.getElem?_append_left (by rw [← h.1]; exact hi)] at h2
  exact h.2 i y d h1 h2
 ·have hl:i < (xs ++ [x]).length:=(List.getElem?_eq_some_iff.mp h1).1
  rw [List.length_append,List.length_singleton] at hl
  have e0:i=xs.length:=by omega
  subst e0
  rw [List.getElem?_append_right (Nat.le_refl _),Nat.sub_self] at h1
  rw [List.getElem?_append_right (by rw [h.1]; exact Nat.le_refl _),h.1,Nat.sub_self] at h2
  cases h1
  cases h2
  exact s
theorem Wg.get {H:Hp} {xs:List V} {L:List (Int × List Int)} {i:Nat} {e:Int × List Int} (h:Wg H xs L) (he:L[i]? = some e):∃ x,xs[i]? = some x∧Sh H x e:=by
 have hi:i < xs.length:=by rw [h.1]; exact (List.getElem?_eq_some_iff.mp he).1
 exact ⟨xs[i],List.getElem?_eq_getElem hi,h.2 i _ e (List.getElem?_eq_getElem hi) he⟩
theorem Wg.at' {H:Hp} {xs:List V} {L:List (Int × List Int)} {i:Nat} {x:V} (h:Wg H xs L) (he:xs[i]? = some x):∃ e,L[i]? = some e∧Sh H x e:=by
 have hi:i < L.length:=by rw [← h.1]; exact (List.getElem?_eq_some_iff.mp he).1
 exact ⟨L[i],List.getElem?_eq_getElem hi,h.2 i _ _ he (List.getElem?_eq_getElem hi)⟩
theorem Wg.pop {H:Hp} {xs:List V} {L:List (Int × List Int)} (h:Wg H xs L):Wg H xs.dropLast L.dropLast:=by
 refine ⟨by rw [List.length_dropLast,List.length_dropLast,h.1],fun i x e h1 h2 => ?_⟩
 rw [List.getElem?_dropLast] at h1 h2
 split at h1
 ·split at h2
  ·exact h.2 i x e h1 h2
  ·cases h2
 ·cases h1
theorem di_ints {K:PySem.W.Frag} {H:Hp} {w:Addr} {ns:List Int} (h:H w=some (.tup (ns.map V.int))):DI K H (.ref w) (dT ns):=by
 refine .tup (SqT.of h) (by simp) fun i x d h1 h2 => ?_
 rw [List.getElem?_map] at h1 h2
 cases z:ns[i]? with
 | none => rw [z] at h1; cases h1
 | some n =>
  rw [z] at h1 h2
  cases h1
  cases h2
  exact .int _
theorem Sh.di {K:PySem.W.Frag} {H:Hp} {x:V} {e:Int × List Int} (h:Sh H x e):DI K H x (dE e):=by
 obtain ⟨p,w,rfl,h1,h2⟩:=h
 refine .tup (SqT.of h1) rfl fun i y d a b => ?_
 rcases i with _ | _ | i
 ·cases a; cases b; exact .int _
 ·cases a; cases b; exact di_ints h2
 ·cases a
theorem Wg.di {K:PySem.W.Frag} {H:Hp} {a:Addr} {xs:List V} {L:List (Int × List Int)} (h:Wg H xs L) (ha:SqL K H a xs):DI K H (.ref a) (dL L):=by
 refine .lst ha (by rw [List.length_map]; exact h.1) fun i x d h1 h2 => ?_
 rw [List.getElem?_map] at h2
 cases z:L[i]? with
 | none => rw [z] at h2; cases h2
 | some e =>
  rw [z] at h2
  cases h2
  exact (h.2 i x e h1 z).di
theorem di_nil {K:PySem.W.Frag} {H:Hp} {a:Addr} (ha:SqL K H a []):DI K H (.ref a) (dL []):=.lst ha rfl fun i x d h1 _ => by cases h1
def shStep (acc:List (Int × List Int)) (e:Int × List Int):List (Int × List Int) :=
 if 0 < e.1 then match acc.getLast? with
  | some l => if l.2=e.2 then acc.dropLast ++ [(e.1 + l.1,e.2)] else acc ++ [e]
  | none => acc ++ [e]
 else acc
def shape (L:List (Int × List Int)):List (Int × List Int):=L.foldl shStep []
def tot (L:List (Int × List Int)):Int:=(L.map (·.1)).sum
theorem tot_nil:tot []=0:=rfl
theorem tot_cons (e:Int × List Int) (L:List (Int × List Int)):tot (e :: L)=e.1 + tot L:=by unfold tot; simp
theorem tot_append (L M:List (Int × List Int)):tot (L ++ M)=tot L + tot M:=by unfold tot; simp
theorem take_succ' {α:Type} {L:List α} {i:Nat} {e:α} (h:L[i]? = some e):L.take (i + 1)=L.take i ++ [e]:=by
 rw [List.take_add_one,h]; rfl
theorem tot_succ {L:List (Int × List Int)} {i:Nat} {e:Int × List Int} (h:L[i]? = some e):tot (L.take (i + 1))=tot (L.take i) + e.1:=by
 rw [take_succ' h,tot_append,tot_cons,tot_nil]; omega
theorem shape_succ {L:List (Int × List Int)} {i:Nat} {e:Int × List Int} (h:L[i]? = some e):shape (L.take (i + 1))=shStep (shape (L.take i)) e:=by
 unfold shape
 rw [take_succ' h,List.foldl_append]; rfl
theorem drop_get {α:Type} {L:List α} {l:α} (h:L.getLast? = some l):L=L.dropLast ++ [l]:=by
 have hne:L ≠ []:=by intro z; rw [z] at h; cases h
 rw [List.getLast?_eq_some_getLast hne] at h
 cases h
 exact (List.dropLast_concat_getLast hne).symm
structure Good (n:Nat) (B:Int) (L:List (Int × List Int)):Prop where
 len:L.length ≤ n
 pos:∀ e ∈ L,0 < e.1
 sum:tot L ≤ B
theorem shStep_good {n:Nat} {B C:Int} {acc:List (Int × List Int)} {e:Int × List Int} (h:Good n B acc) (h0:0 ≤ C) (he:e.1 ≤ C):Good (n + 1) (B + C) (shStep acc e):=by
 have snoc:0 < e.1→Good (n + 1) (B + C) (acc ++ [e]):=fun hp => ⟨by have:=h.len; simp; omega,fun d hd => by
  rcases List.mem_append.mp hd with z | z
  ·exact h.pos d z
  ·rw [List.mem_singleton] at z; subst z; exact hp,by rw [tot_append,tot_cons,tot_nil]; have:=h.sum; omega⟩
 unfold shStep
 split
 ·rename_i hp
  split
  ·rename_i l hl
   split
   ·have e0:=drop_get hl
    have hlm:l ∈ acc:=List.mem_of_getLast? hl
    refine ⟨?_,fun d hd => ?_,?_⟩
    ·rw [List.length_append,List.length_dropLast,List.length_singleton]; have:=h.len; omega
    ·rcases List.mem_append.mp hd with z | z
     ·exact h.pos d (List.dropLast_subset _ z)
     ·rw [List.mem_singleton] at z; subst z
      have:=h.pos l hlm
      show 0 < e.1 + l.1
      omega
    ·have hs:=h.sum
     rw [e0] at hs
     rw [tot_append,tot_cons,tot_nil] at hs ⊢
     show tot acc.dropLast + (e.1 + l.1 + 0) ≤ _
     omega
   ·exact snoc hp
  ·exact snoc hp
 ·exact ⟨Nat.le_succ_of_le h.len,h.pos,by have:=h.sum; omega⟩
theorem shape_good {C:Int} (h0:0 ≤ C):∀ {L:List (Int × List Int)},(∀ e ∈ L,e.1 ≤ C)→Good L.length (L.length * C) (shape L):=by
 intro L h
 have key:∀ i,i ≤ L.length→Good i (i * C) (shape (L.take i)):=by
  intro i
  induction i with
  | zero => intro _; exact ⟨Nat.le_refl _,fun e he => by simp [shape] at he,by simp [shape,tot]⟩
  | succ i ih =>
   intro hi
   have g:=ih (by omega)
   have hi' : i < L.length:=by omega
   have e1:L[i]? = some (L[i]):=List.getElem?_eq_getElem hi'
   rw [shape_succ e1]
   have:=shStep_good g h0 (h _ (List.getElem_mem hi'))
   have e2:((i + 1:Nat):Int) * C=i * C + C:=by rw [Int.natCast_add,Int.add_mul]; simp
   rw [e2]; exact this
 have:=key L.length (Nat.le_refl _)
 rw [List.take_length] at this
 exact this
theorem tot_mono {L:List (Int × List Int)} (h:∀ e ∈ L,0 < e.1):∀ {i j:Nat},i ≤ j→tot (L.take i) ≤ tot (L.take j):=by
 intro i j hij
 induction hij with
 | refl => exact Int.le_refl _
 | step _ ih =>
  rename_i m _
  cases z:L[m]? with
  | none =>
   rw [List.take_of_length_le (Nat.le_trans (List.getElem?_eq_none_iff.mp z) (Nat.le_succ m))]
   rw [List.take_of_length_le (List.getElem?_eq_none_iff.mp z)] at ih
   exact ih
  | some e =>
   rw [tot_succ z]
   have:=h e (List.mem_of_getElem? z)
   omega
end L2
namespace L2
open PySem PySem.Spec PyProof.Rows
section
variable {X:Cx}
theorem preSum_take (ns:List Int):∀ n,preSum (fun i => ns.getD i 0) n=(ns.take n).sum
 | 0 => rfl
 | n + 1 => by
  show preSum _ n + ns.getD n 0=_
  rw [preSum_take ns n,List.take_add_one,List.getD_eq_getElem?_getD]
  cases ns[n]? with
  | none => simp
  | some z => simp
theorem call_sum (hc:X.calm=true):CallR X (.builtin "sum") (fun xs H Q => ∃ (p:Addr) (ns:List Int),xs=[.ref p]∧SqL X.K H p (ns.map V.int)∧Q (.int ns.sum) H):=by
 intro pins s σ H xs us Q I r h
 obtain ⟨p,ns,rfl,hq,q⟩:=h
 obtain ⟨u,rfl,rx⟩:=vals1 r
 cases rx
 obtain ⟨its,rv,pl,hz⟩:=I.list hq
 have hlt:p < s.heap.objs.size:=by
  obtain ⟨o,e,_⟩:=pl.isList
  exact Heap.lt_size e
 have hlen:its.length=ns.length:=by have:=rv.length; rw [List.length_map] at this; exact this.symm
 refine call_sum_walkAnyS (wpAny_pyIter_list pl.isList ?_)
 refine ⟨_,_,_,_,_,_,_,fun i => ns.getD i 0,rfl,(Walks.list (A:=X.A.in1) (I.ok.hd hc) s.heap.objs.size p (Nat.ne_of_lt hlt) its.toArray).toS,?_,?_,?_,fun s' t' hm => ?_⟩
 ·exact ⟨⟨_,Heap.get?_push_size _ rfl,rfl,rfl⟩,(let ⟨o,e,c⟩:=pl.isList; ⟨o,Heap.get?_push_of_some _ e,c⟩)⟩
 ·intro b hb
  simp at hb
  rcases hb with rfl | rfl
  ·simp [Heap.size_push]
  ·rw [Heap.size_push]; exact Nat.lt_succ_of_lt hlt
 ·intro i v hP
  have hv:its[i]? = some v:=by simpa using hP
  have hil:i < ns.length:=by rw [← hlen]; exact (List.getElem?_eq_some_iff.mp hv).1
  obtain ⟨u,e,ru⟩:=rv.get (x:=V.int (ns.getD i 0)) (i:=i) (by rw [List.getElem?_map,List.getElem?_eq_getElem hil,List.getD_eq_getElem?_getD,List.getElem?_eq_getElem hil]; rfl)
  rw [hv] at e
  cases e
  exact ru
 ·have e:preSum (fun i => ns.getD i 0) its.toArray.size=ns.sum:=by
   rw [List.size_toArray,hlen,preSum_take,List.take_length]
  rw [e]
  obtain ⟨hk,hg,hd,ho,ht⟩:=hm
  refine ⟨.int _,H,?_,⟨t',rfl⟩,q⟩
  have es:s' = { s with heap:=s'.heap,toks:=s'.toks }:=by
   cases s'; simp_all
  rw [es]
  exact I.kept fun b o eb => hk b o (by simp; exact Nat.ne_of_lt (Heap.lt_size eb)) (Heap.get?_push_of_some _ eb)
end
def Norm:List (Int × List Int)→Prop
 | [] => True
 | [e] => 0 < e.1
 | e :: d :: r => 0 < e.1∧e.2 ≠ d.2∧Norm (d :: r)
theorem Norm.snoc:∀ {L:List (Int × List Int)} {e:Int × List Int},Norm L→0 < e.1→(∀ l,L.getLast? = some l→l.2 ≠ e.2)→Norm (L ++ [e])
 | [],e,_,h,_ => h
 | [d],e,hd,h,k => ⟨hd,k d rfl,h⟩
 | d :: d' :: r,e,hd,h,k => by
  refine ⟨hd.1,hd.2.1,?_⟩
  exact Norm.snoc (L:=d' :: r) hd.2.2 h fun l hl => k l (by rw [List.getLast?_cons_cons]; exact hl)
theorem Norm.init:∀ {L:List (Int × List Int)} {e:Int × List Int},Norm (L ++ [e])→Norm L∧0 < e.1∧∀ l,L.getLast? = some l→l.2 ≠ e.2
 | [],e,h => ⟨trivial,h,fun l z => by cases z⟩
 | [d],e,h => ⟨h.1,h.2.2,fun l z => by cases z; exact h.2.1⟩
 | d :: d' :: r,e,h => by
  obtain ⟨a,b,c⟩:=Norm.init (L:=d' :: r) h.2.2
  exact ⟨⟨h.1,h.2.1,a⟩,b,fun l z => c l (by rw [List.getLast?_cons_cons] at z; exact z)⟩
theorem Norm.pos:∀ {L:List (Int × List Int)},Norm L→∀ e ∈ L,0 < e.1
 | [],_,e,h => by cases h
 | [d],hd,e,h => by rw [List.mem_singleton] at h; subst h; exact hd
 | d :: d' :: r,hd,e,h => by
  rcases List.mem_cons.mp h with z | z
  ·subst z; exact hd.1
  ·exact Norm.pos (L:=d' :: r) hd.2.2 e z
theorem shStep_norm {acc:List (Int × List Int)} {e:Int × List Int} (h:Norm acc):Norm (shStep acc e):=by
 unfold shStep
 split
 ·rename_i hp
  split
  ·rename_i l hl
   have e0:=drop_get hl
   split
   ·rename_i he
    rw [e0] at h
    obtain ⟨a,b,c⟩:=h.init
    refine a.snoc (by show 0 < e.1 + l.1; omega) fun d hd => ?_
    have:=c d hd
    rw [he] at this; exact this
   ·rename_i he
    exact h.snoc hp fun d hd => by rw [hl] at hd; cases hd; exact he
  ·rename_i hl
   exact h.snoc hp fun d hd => by rw [hl] at hd; cases hd
 ·exact h
theorem shape_norm (L:List (Int × List Int)):Norm (shape L):=by
 have key:∀ (L acc:List (Int × List Int)),Norm acc→Norm (L.foldl shStep acc):=by
  intro L
  induction L with
  | nil => intro acc h; exact h
  | cons e L ih => intro acc h; rw [List.foldl_cons]; exact ih _ (shStep_norm h)
 exact key L [] trivial
theorem shape_of_norm {L:List (Int × List Int)} (h:Norm L):shape L=L:=by
 have key:∀ n,n ≤ L.length→shape (L.take n)=L.take n∧Norm (L.take n):=by
  have dec:∀ m,m ≤ L.length→Norm (L.take (L.length - m)):=by
   intro m
   induction m with
   | zero => intro _; rw [Nat.sub_zero,List.take_length]; exact h
   | succ m ih =>
    intro hm
    have h1:=ih (by omega)
    have e:L.length - m=(L.length - (m + 1)) + 1:=by omega
    rw [e,take_succ' (List.getElem?_eq_getElem (by omega:L.length - (m + 1) < L.length))] at h1
    exact h1.init.1
  intro n hn
  have nm:Norm (L.take n):=by have:=dec (L.length - n) (by omega); rwa [show L.length - (L.length - n)=n by omega] at this
  refine ⟨?_,nm⟩
  induction n with
  | zero => rfl
  | succ n ih =>
   have hlt:n < L.length:=by omega
   have e1:=List.getElem?_eq_getElem hlt
   have nm2:=nm
   rw [take_succ' e1] at nm2
   obtain ⟨a,b,c⟩:=nm2.init
   rw [shape_succ e1,ih (by omega) a,take_succ' e1]
   unfold shStep
   rw [if_pos b]
   cases hl:(L.take n).getLast? with
   | none => rfl
   | some l => dsimp only; rw [if_neg (c l hl)]
 have:=(key L.length (Nat.le_refl _)).1
 rw [List.take_length] at this
 exact this
theorem set_last {α:Type} {L:List α} {l v:α} (h:L.getLast? = some l):L.set (L.length - 1) v=L.dropLast ++ [v]:=by
 have e:=drop_get h
 have hl:L.length - 1=L.dropLast.length:=by rw [List.length_dropLast]
 rw [hl]
 conv => lhs; rw [e]
 rw [List.dropLast_concat,List.set_append_right _ _ (Nat.le_refl _),Nat.sub_self]
 rfl
end L2
namespace L2
open PySem PySem.Spec PyProof.Rows
section
variable {X:Cx}
theorem Vals.rev {xs:List V} {us:List Value} (r:Vals xs us):Vals xs.reverse us.reverse:=by
 induction r with
 | nil => exact .nil
 | cons a b ih => rw [List.reverse_cons,List.reverse_cons]; exact ih.append (.cons a .nil)
def tRev (K:PySem.W.Frag) (te:TE) (tk:TO):TE:=fun σ H Q => te σ H fun x H1 => tk σ H1 fun k H2 => k=some (-1)∧∃ a xs,x = .ref a∧SqL K H2 a xs∧∀ p,H2 p=none→Q (.ref p) (upd H2 p (.lst xs.reverse))
theorem pe_rev {e:Expr} {te:TE} {st:Option Expr} {tk:TO} {pos p2:PySem.Pos} (he:PE X e te) (hk:PO X st tk) (hsub:∀ a b:Addr,subscripted (.Slice none none st p2) false (.ref a) (.ref b)=operate [.ref a,.ref b] (getItem (.ref a) (.ref b)):=by intro _ _; with_unfolding_all rfl):PE X (.Subscript e (.Slice none none st p2) pos) (tRev X.K te tk):=by
 intro pins s σ H Q I h
 refine Subscript_ (thn (he pins s σ H _ I h) fun v s1 ⟨x,H1,I1,r1,q1⟩ => ?_)
 refine wpAny_Slice ?_
 rw [evalPart_none]
 refine wpAny_pure (wpAny_pure (thn (hk pins s1 σ H1 _ I1 q1) fun vk s3 ⟨k,H3,I3,pk,q3⟩ => ?_))
 obtain ⟨rfl,a,xs,rfl,hx,q⟩:=q3
 cases r1
 have I4:Inv X pins σ H3 { s3 with heap:=s3.heap.push { cls:=.type "slice",data:=.fields #[.none,.none,vk] } }:=I3.kept (t':=s3.toks) fun b ob z => Heap.get?_push_of_some _ z
 obtain ⟨its,r,ht,hz⟩:=I4.list hx
 have hlen:=r.length
 show wpAny (model X.prog X.w) X.A (subscriptTail e (.Slice none none st p2) (.ref a) (.ref s3.heap.objs.size)) (EP X pins σ Q) X.xe { s3 with heap:=s3.heap.push { cls:=.type "slice",data:=.fields #[.none,.none,vk] } }
 refine tail_any (ops:=[.ref a,.ref s3.heap.objs.size]) ht.isList.typeIs slot_list_getitem.lookup ?_ (hsub _ _)
 refine wpAny_getItem_list_slice ht.isList (Heap.IsSliceOf.new ..) .none .none pk (by simp) ?_ (by rw [List.size_toArray] <;> omega)
 rw [PySem.W.krv_pick]
 refine ⟨.ref _,_,I4.laid (t':=s3.toks) (o:=.lst xs.reverse) (fun b ob z => Heap.get?_push_of_some _ z) (Nat.le_refl _) ?_,rfl,q _ (I4.hok.fresh (Nat.le_refl _))⟩
 exact ⟨by rw [List.length_reverse]; exact hz,its.reverse,0,Vals.rev r,Heap.get?_push_size _ rfl⟩
end
end L2
namespace L2
abbrev WL:=List (Int × List Int)
def mn (i j:Int):Int:=if j < i then j else i
def mx (i j:Int):Int:=if j > i then j else i
theorem mn_le (i j:Int):mn i j ≤ i∧mn i j ≤ j∧(mn i j=i ∨ mn i j=j):=by unfold mn; split <;> omega
theorem mx_ge (i j:Int):i ≤ mx i j∧j ≤ mx i j∧(mx i j=i ∨ mx i j=j):=by unfold mx; split <;> omega
def piece (b e o m:Int) (w:List Int):WL:=if o < e∧b < o + m then [(mn (o + m) e - mx o b,w)] else []
def cutP (b e:Int):Int→WL→WL
 | _,[] => []
 | o,x :: r => piece b e o x.1 x.2 ++ cutP b e (o + x.1) r
def takeF:Int→WL→WL
 | _,[] => []
 | rm,x :: r => (if 0 < rm then [(mn x.1 rm,x.2)] else []) ++ takeF (rm - mn x.1 rm) r
def dropF:Int→WL→WL
 | _,[] => []
 | a,x :: r => if a ≤ 0 then x :: r else if a < x.1 then (x.1 - a,x.2) :: r else dropF (a - x.1) r
def Pos (L:WL):Prop:=∀ e ∈ L,0 < e.1
theorem Pos.tail {x:Int × List Int} {r:WL} (h:Pos (x :: r)):0 < x.1∧Pos r:=⟨h x List.mem_cons_self,fun e he => h e (List.mem_cons_of_mem _ he)⟩
theorem cutP_snoc (b e:Int):∀ (M:WL) (o:Int) (x:Int × List Int),cutP b e o (M ++ [x])=cutP b e o M ++ piece b e (o + tot M) x.1 x.2
 | [],o,x => by
  show piece b e o x.1 x.2 ++ []=[] ++ piece b e (o + tot []) x.1 x.2
  rw [tot_nil,Int.add_zero,List.append_nil,List.nil_append]
 | y :: M,o,x => by
  show piece b e o y.1 y.2 ++ cutP b e (o + y.1) (M ++ [x])=(piece b e o y.1 y.2 ++ cutP b e (o + y.1) M) ++ piece b e (o + tot (y :: M)) x.1 x.2
  rw [cutP_snoc b e M (o + y.1) x,tot_cons,List.append_assoc,Int.add_assoc]
theorem piece_len (b e o m:Int) (w:List Int):(piece b e o m w).length ≤ 1:=by unfold piece; split <;> simp
theorem cutP_len (b e:Int):∀ (L:WL) (o:Int),(cutP b e o L).length ≤ L.length
 | [],_ => Nat.le_refl _
 | x :: r,o => by
  show (piece b e o x.1 x.2 ++ cutP b e (o + x.1) r).length ≤ r.length + 1
  rw [List.length_append]
  have:=piece_len b e o x.1 x.2
  have:=cutP_len b e r (o + x.1)
  omega
theorem takeF_neg:∀ {R:WL} {rm:Int},Pos R→rm ≤ 0→takeF rm R=[]
 | [],_,_,_ => rfl
 | x :: r,rm,h,h0 => by
  obtain ⟨hx,hr⟩:=h.tail
  show (if 0 < rm then [(mn x.1 rm,x.2)] else []) ++ takeF (rm - mn x.1 rm) r=[]
  rw [if_neg (by omega),List.nil_append]
  have:=mn_le x.1 rm
  exact takeF_neg hr (by omega)
theorem cutP_take {b e:Int} : ∀ {R:WL} {o:Int},Pos R→b ≤ o→cutP b e o R=takeF (e - o) R
 | [],_,_,_ => rfl
 | x :: r,o,h,hb => by
  obtain ⟨hx,hr⟩:=h.tail
  show piece b e o x.1 x.2 ++ cutP b e (o + x.1) r=(if 0 < e - o then [(mn x.1 (e - o),x.2)] else []) ++ takeF (e - o - mn x.1 (e - o)) r
  rw [cutP_take hr (by omega)]
  unfold piece mn mx
  by_cases h1:o < e
  ·rw [if_pos (show o < e∧b < o + x.1 from ⟨h1,by omega⟩),if_pos (show 0 < e - o by omega),if_neg (show ¬ b > o by omega)]
   by_cases h2:e < o + x.1
   ·rw [if_pos h2,if_pos (show e - o < x.1 by omega),takeF_neg hr (by omega),takeF_neg hr (by omega)]
   ·rw [if_neg h2,if_neg (show ¬ e - o < x.1 by omega)]
    rw [show o + x.1 - o=x.1 by omega,show e - (o + x.1)=e - o - x.1 by omega]
  ·rw [if_neg (show ¬ (o < e∧b < o + x.1) by omega),if_neg (show ¬ 0 < e - o by omega),if_pos (show e - o < x.1 by omega),takeF_neg hr (by omega),takeF_neg hr (by omega)]
def posB (e:Int × List Int):Bool:=decide (0 < e.1)
theorem takeF_pos:∀ {R:WL} {rm:Int},Pos R→Pos (takeF rm R)
 | [],_,_ => fun e he => by cases he
 | x :: r,rm,h => by
  obtain ⟨hx,hr⟩:=h.tail
  intro e he
  have he:e ∈ (if 0 < rm then [(mn x.1 rm,x.2)] else []) ++ takeF (rm - mn x.1 rm) r:=he
  rcases List.mem_append.mp he with z | z
  ·split at z
   ·rw [List.mem_singleton] at z
    subst z
    have:=mn_le x.1 rm
    show 0 < mn x.1 rm
    omega
   ·cases z
  ·exact takeF_pos hr e z
theorem filter_pos {L:WL} (h:Pos L):L.filter posB=L:=List.filter_eq_self.mpr fun e he => decide_eq_true (h e he)
theorem cutP_drop {b e:Int} (hbe:b ≤ e):∀ {R:WL} {o:Int},Pos R→o ≤ b→(cutP b e o R).filter posB=takeF (e - b) (dropF (b - o) R)
 | [],_,_,_ => rfl
 | x :: r,o,h,hb => by
  obtain ⟨hx,hr⟩:=h.tail
  by_cases h0:o=b
  ·subst h0
   rw [cutP_take h (Int.le_refl _),filter_pos (takeF_pos h)]
   show _=takeF (e - o) (if o - o ≤ 0 then x :: r else _)
   rw [if_pos (by omega)]
  ·show (piece b e o x.1 x.2 ++ cutP b e (o + x.1) r).filter posB=takeF (e - b) (if b - o ≤ 0 then x :: r else if b - o < x.1 then (x.1 - (b - o),x.2) :: r else dropF (b - o - x.1) r)
   rw [if_neg (by omega)]
   by_cases h1:b - o < x.1
   ·rw [if_pos h1,List.filter_append,cutP_take hr (by omega),filter_pos (takeF_pos hr)]
    show _=(if 0 < e - b then [(mn (x.1 - (b - o)) (e - b),x.2)] else []) ++ takeF (e - b - mn (x.1 - (b - o)) (e - b)) r
    unfold piece mn mx
    rw [if_pos (show o < e∧b < o + x.1 from ⟨by omega,by omega⟩),if_pos (show b > o by omega)]
    by_cases h2:b < e
    ·rw [if_pos (show 0 < e - b by omega)]
     by_cases h3:e < o + x.1
     ·rw [if_pos h3,if_pos (show e - b < x.1 - (b - o) by omega),takeF_neg hr (by omega),takeF_neg hr (by omega)]
      rw [List.filter_cons_of_pos (by unfold posB; exact decide_eq_true (by show 0 < e - b; omega))]
      rfl
     ·rw [if_neg h3,if_neg (show ¬ e - b < x.1 - (b - o) by omega)]
      rw [List.filter_cons_of_pos (by unfold posB; exact decide_eq_true (by show 0 < o + x.1 - b; omega))]
      rw [show o + x.1 - b=x.1 - (b - o) by omega,show e - (o + x.1)=e - b - (x.1 - (b - o)) by omega]
      rfl
    ·rw [if_neg (show ¬ 0 < e - b by omega),if_pos (show e < o + x.1 by omega),if_pos (show e - b < x.1 - (b - o) by omega),takeF_neg hr (by omega),takeF_neg hr (by omega)]
     rw [List.filter_cons_of_neg (by unfold posB; simp; omega)]
     rfl
   ·rw [if_neg h1]
    have hp:piece b e o x.1 x.2=[]:=by unfold piece; rw [if_neg (by omega)]
    rw [hp,List.nil_append,cutP_drop hbe hr (by omega),show b - (o + x.1)=b - o - x.1 by omega]
theorem shape_filter (L:WL):shape (L.filter posB)=shape L:=by
 have key:∀ (L acc:WL),(L.filter posB).foldl shStep acc=L.foldl shStep acc:=by
  intro L
  induction L with
  | nil => intro acc; rfl
  | cons x L ih =>
   intro acc
   by_cases h:0 < x.1
   ·rw [List.filter_cons_of_pos (p:=posB) (decide_eq_true h),List.foldl_cons,List.foldl_cons,ih]
   ·rw [List.filter_cons_of_neg (p:=posB) (by unfold posB; simpa using h),List.foldl_cons,ih]
    have:shStep acc x=acc:=by unfold shStep; rw [if_neg h]
    rw [this]
 exact key L []
theorem Norm.tl {x:Int × List Int} {r:WL} (h:Norm (x :: r)):0 < x.1∧Norm r∧∀ y r',r=y :: r'→x.2 ≠ y.2:=by
 cases r with
 | nil => exact ⟨h,trivial,fun y r' z => by cases z⟩
 | cons y r => exact ⟨h.1,h.2.2,fun z r' e => by cases e; exact h.2.1⟩
theorem Norm.mk {x:Int × List Int} {r:WL} (h0:0 < x.1) (h1:Norm r) (h2:∀ y r',r=y :: r'→x.2 ≠ y.2):Norm (x :: r):=by
 cases r with
 | nil => exact h0
 | cons y r => exact ⟨h0,h2 y r rfl,h1⟩
theorem dropF_norm:∀ {L:WL} {a:Int},Norm L→Norm (dropF a L)
 | [],_,_ => trivial
 | x :: r,a,h => by
  show Norm (if a ≤ 0 then x :: r else if a < x.1 then (x.1 - a,x.2) :: r else dropF (a - x.1) r)
  obtain ⟨h0,h1,h2⟩:=h.tl
  split
  ·exact h
  ·split
   ·exact Norm.mk (by show 0 < x.1 - a; omega) h1 h2
   ·exact dropF_norm h1
theorem takeF_head {R:WL} {rm:Int} {y:Int × List Int} {t:WL} (hp:Pos R) (h:takeF rm R=y :: t):∃ x r,R=x :: r∧x.2=y.2:=by
 cases R with
 | nil => cases h
 | cons x r =>
  obtain ⟨hx,hr⟩:=hp.tail
  refine ⟨x,r,rfl,?_⟩
  have h:(if 0 < rm then [(mn x.1 rm,x.2)] else []) ++ takeF (rm - mn x.1 rm) r=y :: t:=h
  by_cases h0:0 < rm
  ·rw [if_pos h0] at h
   cases h; rfl
  ·have:=mn_le x.1 rm
   rw [if_neg h0,List.nil_append,takeF_neg hr (by omega)] at h
   cases h
theorem takeF_norm:∀ {R:WL} {rm:Int},Norm R→Norm (takeF rm R)
 | [],_,_ => trivial
 | x :: r,rm,h => by
  obtain ⟨h0,h1,h2⟩:=h.tl
  have hp:Pos r:=h1.pos
  show Norm ((if 0 < rm then [(mn x.1 rm,x.2)] else []) ++ takeF (rm - mn x.1 rm) r)
  by_cases h3:0 < rm
  ·rw [if_pos h3]
   have:=mn_le x.1 rm
   refine Norm.mk (x:=(mn x.1 rm,x.2)) (r:=takeF (rm - mn x.1 rm) r) (by show 0 < mn x.1 rm; omega) (takeF_norm h1) fun y t e => ?_
   obtain ⟨x',r',e1,e2⟩:=takeF_head hp e
   have:=h2 x' r' e1
   rw [e2] at this
   exact this
  ·rw [if_neg h3]
   exact takeF_norm h1
theorem part_eq {L:WL} {b e:Int} (h:Norm L) (h0:0 ≤ b) (hbe:b ≤ e):shape (cutP b e 0 L)=takeF (e - b) (dropF b L):=by
 rw [← shape_filter,cutP_drop hbe h.pos h0,Int.sub_zero]
 exact shape_of_norm (takeF_norm (dropF_norm h))
theorem cutP_nn {b e:Int} (hbe:b ≤ e):∀ {L:WL} {o:Int},Pos L→∀ d ∈ cutP b e o L,0 ≤ d.1
 | [],_,_,d,hd => by cases hd
 | x :: r,o,h,d,hd => by
  obtain ⟨hx,hr⟩:=h.tail
  have hd:d ∈ piece b e o x.1 x.2 ++ cutP b e (o + x.1) r:=hd
  rcases List.mem_append.mp hd with z | z
  ·unfold piece at z
   split at z
   ·rename_i hc
    rw [List.mem_singleton] at z
    subst z
    have:=mn_le (o + x.1) e
    have:=mx_ge o b
    show 0 ≤ mn (o + x.1) e - mx o b
    omega
   ·cases z
  ·exact cutP_nn hbe hr d z
theorem cutP_all {p:List Int→Prop} {b e:Int} : ∀ {L:WL} {o:Int},(∀ d ∈ L,p d.2)→∀ d ∈ cutP b e o L,p d.2
 | [],_,_,d,hd => by cases hd
 | x :: r,o,h,d,hd => by
  have hd:d ∈ piece b e o x.1 x.2 ++ cutP b e (o + x.1) r:=hd
  rcases List.mem_append.mp hd with z | z
  ·unfold piece at z
   split at z
   ·rw [List.mem_singleton] at z; subst z; exact h x List.mem_cons_self
   ·cases z
  ·exact cutP_all (fun d hd => h d (List.mem_cons_of_mem _ hd)) d z
end L2
namespace L2
open PySem PySem.Spec PyProof.Rows
def isInt:PyData→Bool
 | .int _ | .bool _ => true
 | _ => false
section
variable {X:Cx} {es:List Expr} {te:TE} {t:TA}
theorem pa_Constant {c:Const} {j:Nat} {p:PySem.Pos} (ha:PE X (.Constant c j p) te) (hr:PA X es t):PA X (.Constant c j p :: es) (tCons te t):=pa_cons ha hr rfl
theorem pa_Name {x:Str} {p:PySem.Pos} (ha:PE X (.Name x p) te) (hr:PA X es t):PA X (.Name x p :: es) (tCons te t):=pa_cons ha hr rfl
theorem pa_Tuple {l:List Expr} {k:Nat} {p:PySem.Pos} (ha:PE X (.Tuple l k p) te) (hr:PA X es t):PA X (.Tuple l k p :: es) (tCons te t):=pa_cons ha hr rfl
theorem pa_UnaryOp {o:UnaryOp} {e:Expr} {p:PySem.Pos} (ha:PE X (.UnaryOp o e p) te) (hr:PA X es t):PA X (.UnaryOp o e p :: es) (tCons te t):=pa_cons ha hr rfl
theorem pa_BinOp {a b:Expr} {o:Operator} {p:PySem.Pos} (ha:PE X (.BinOp a o b p) te) (hr:PA X es t):PA X (.BinOp a o b p :: es) (tCons te t):=pa_cons ha hr rfl
theorem pa_Subscript {a b:Expr} {p:PySem.Pos} (ha:PE X (.Subscript a b p) te) (hr:PA X es t):PA X (.Subscript a b p :: es) (tCons te t):=pa_cons ha hr rfl
theorem pa_Call {f:Expr} {l:List Expr} {kw:List Keyword} {p:PySem.Pos} (ha:PE X (.Call f l kw p) te) (hr:PA X es t):PA X (.Call f l kw p :: es) (tCons te t):=pa_cons ha hr rfl
end
theorem pa_o2 {X:Cx} {e1 e2:Expr} {t1 t2:TE} {es:List Expr} {t:TA} (h1:PE X e1 t1) (h2:PE X e2 t2) (hr:PA X es t) (s1:∀ l,starEach (e1 :: l) X.env=(false,eval e1 X.env) :: starEach l X.env:=by intro _; rfl) (s2:∀ l,starEach (e2 :: l) X.env=(false,eval e2 X.env) :: starEach l X.env:=by intro _; rfl):PA X (e1 :: e2 :: es) (tCons t1 (tCons t2 t)):=(pa_cons h1 (pa_cons h2 hr (s2 _)) (s1 _))
theorem pa_o3 {X:Cx} {e1 e2 e3:Expr} {t1 t2 t3:TE} {es:List Expr} {t:TA} (h1:PE X e1 t1) (h2:PE X e2 t2) (h3:PE X e3 t3) (hr:PA X es t) (s1:∀ l,starEach (e1 :: l) X.env=(false,eval e1 X.env) :: starEach l X.env:=by intro _; rfl) (s2:∀ l,starEach (e2 :: l) X.env=(false,eval e2 X.env) :: starEach l X.env:=by intro _; rfl) (s3:∀ l,starEach (e3 :: l) X.env=(false,eval e3 X.env) :: starEach l X.env:=by intro _; rfl):PA X (e1 :: e2 :: e3 :: es) (tCons t1 (tCons t2 (tCons t3 t))):=(pa_cons h1 (pa_cons h2 (pa_cons h3 hr (s3 _)) (s2 _)) (s1 _))
theorem pa_o4 {X:Cx} {e1 e2 e3 e4:Expr} {t1 t2 t3 t4:TE} {es:List Expr} {t:TA} (h1:PE X e1 t1) (h2:PE X e2 t2) (h3:PE X e3 t3) (h4:PE X e4 t4) (hr:PA X es t) (s1:∀ l,starEach (e1 :: l) X.env=(false,eval e1 X.env) :: starEach l X.env:=by intro _; rfl) (s2:∀ l,starEach (e2 :: l) X.env=(false,eval e2 X.env) :: starEach l X.env:=by intro _; rfl) (s3:∀ l,starEach (e3 :: l) X.env=(false,eval e3 X.env) :: starEach l X.env:=by intro _; rfl) (s4:∀ l,starEach (e4 :: l) X.env=(false,eval e4 X.env) :: starEach l X.env:=by intro _; rfl):PA X (e1 :: e2 :: e3 :: e4 :: es) (tCons t1 (tCons t2 (tCons t3 (tCons t4 t)))):=(pa_cons h1 (pa_cons h2 (pa_cons h3 (pa_cons h4 hr (s4 _)) (s3 _)) (s2 _)) (s1 _))
theorem sw_sub {a b:Expr} {p:PySem.Pos} {t:Option Expr} {l:Nat} {env:Env} : swapsWith (.Subscript a b p) t l env=pure false:=rfl
end L2
set_option maxHeartbeats 1000000
namespace L2
open PySem PySem.Spec PyProof.Rows
section
variable {X:Cx} {pins:List (Addr × Obj)} {σ:St} {H:Hp} {s:Shared} {h' : Heap}
theorem Inv.turnedNew {t' : Nat} {ch:List Addr} {p:Addr} {xs:List V} (I:Inv X pins σ H s) (k:∀ b o,b ∉ ch→s.heap.get? b=some o→h'.get? b=some o) (hf:∀ b ∈ ch,FpOk X pins H b) (hp:s.heap.objs.size ≤ p)
  (new:ObjOk X.prog X.w (upd H p (.tup xs)) h' p (.tup xs)):Inv X pins σ (upd H p (.tup xs)) { s with heap:=h',toks:=t' }:=by
 have hn:H p=none:=I.hok.fresh hp
 have nit:∀ b u,H b=some u→b ∉ ch:=fun b u e z => by rw [(hf b z).1] at e; cases e
 have nL:X.env.locals ∉ ch:=fun z => (hf _ z).2.1 rfl
 refine I.step (g':=s.gens) (d':=s.drawn) (ch:=ch) (fun b hb => ?_) (fun b o _ _ hc e _ => k b o hc e) (fun b o _ _ hc e _ => ⟨o.slots,k b o hc e⟩) (fun b o _ e n => ?_)
  (fun b o hc e => ⟨o,k b o hc e⟩) (fun b xs e => ?_) (fun b o u e => ?_) (fun b ps e => ⟨#[],?_⟩) (fun m hm => ?_) (fun b u e => ?_) I.bare
 ·obtain ⟨f0,f1,f2,f3,f4,f5⟩:=hf b hb
  exact ⟨f3,f1,f4,f5⟩
 ·rw [upd_ne (fun z => by rw [z] at e; exact absurd (Nat.lt_of_lt_of_le (Heap.lt_size e) hp) (Nat.lt_irrefl _))]
  exact n
 ·rw [upd_ne (ne_of_none e hn)]; exact e
 ·rw [upd_ne (ne_of_none e hn)]; exact e
 ·rw [upd_ne (ne_of_none e hn),e]; simp
 ·obtain ⟨o,es,ep,ho,r⟩:=hm
  exact ⟨o,es,ep,k _ o nL ho,r⟩
 ·by_cases hb:b=p
  ·subst hb; rw [upd_same] at e; cases e; exact new
  ·rw [upd_ne hb] at e
   refine (I.hok b u e).stay (fun c v hc q => k c v ?_ q) (fun c q => by rw [upd_ne (ne_of_none q hn)]; exact q) fun c xs q => by rw [upd_ne (ne_of_none q hn)]; exact q
   rcases hc with z | z
   ·rw [z]; exact nit b u e
   ·exact nit c _ z
theorem Inv.turnedL {t' : Nat} {ch:List Addr} (I:Inv X pins σ H s) (k:∀ b o,b ∉ ch→s.heap.get? b=some o→h'.get? b=some o) (hf:∀ b ∈ ch,FpOk X pins H b):Inv X pins σ H { s with heap:=h',toks:=t' }:=by
 have nit:∀ b u,H b=some u→b ∉ ch:=fun b u e z => by rw [(hf b z).1] at e; cases e
 have nL:X.env.locals ∉ ch:=fun z => (hf _ z).2.1 rfl
 refine I.step (g':=s.gens) (d':=s.drawn) (ch:=ch) (fun b hb => ?_) (fun b o _ _ hc e _ => k b o hc e) (fun b o _ _ hc e _ => ⟨o.slots,k b o hc e⟩) (fun b o _ e n => n)
  (fun b o hc e => ⟨o,k b o hc e⟩) (fun b xs e => e) (fun b o u e => e) (fun b ps e => ⟨#[],by rw [e]; simp⟩) (fun m hm => ?_) (fun b u e => ?_) I.bare
 ·obtain ⟨f0,f1,f2,f3,f4,f5⟩:=hf b hb
  exact ⟨f3,f1,f4,f5⟩
 ·obtain ⟨o,es,ep,ho,r⟩:=hm
  exact ⟨o,es,ep,k _ o nL ho,r⟩
 ·refine (I.hok b u e).stay (fun c v hc q => k c v ?_ q) (fun _ q => q) fun _ _ q => q
  rcases hc with z | z
  ·rw [z]; exact nit b u e
  ·exact nit c _ z
end
def Itz (K:PySem.W.Frag) (a b:Addr):It :=
 ⟨fun i H => ∃ xs ys x y,SqL K H a xs∧SqL K H b ys∧xs[i]? = some x∧ys[i]? = some y,
  fun i H v H' => ∃ p x y,v = .ref p∧H p=none∧H' = upd H p (.tup [x,y])∧(∀ xs,SqL K H a xs→xs[i]? = some x)∧(∀ ys,SqL K H b ys→ys[i]? = some y),
  fun i H => ∃ xs ys,SqL K H a xs∧SqL K H b ys∧(xs[i]? = none ∨ ys[i]? = none)⟩
def ZipAt (z TI TO i1 i2 a b:Addr) (i:Nat) (h:Heap):Prop:=IsZip h z TI TO .none∧IsPair h TI (.ref i1) (.ref i2)∧(∃ u v,IsPair h TO u v)∧h.IsListIter i1 a i∧h.IsListIter i2 b i
theorem turn_zip {P:Program} {w:World} {K:PySem.W.Frag} {es:List Expr} {k:Nat} {pos:PySem.Pos} (a b z TI TO i1 i2:Addr) (D:ZipApart z TI TO i1 i2 a b):Turn P w K (.Tuple es k pos) (Itz K a b) [z,TI,TO,i1,i2] z (ZipAt z TI TO i1 i2 a b) where
 mem:=by simp
 obj:=fun i h st c hc => by
  obtain ⟨hz,hTI,⟨u,v,hTO⟩,⟨o1,e1,c1,d1⟩,⟨o2,e2,c2,d2⟩⟩:=st
  simp only [List.mem_cons,List.not_mem_nil,or_false] at hc
  rcases hc with rfl | rfl | rfl | rfl | rfl
  ·exact ⟨_,hz,fun v q => by cases q⟩
  ·exact ⟨_,hTI,fun v q => by cases q⟩
  ·exact ⟨_,hTO,fun v q => by cases q⟩
  ·exact ⟨o1,e1,fun v q => by rw [d1] at q; cases q⟩
  ·exact ⟨o2,e2,fun v q => by rw [d2] at q; cases q⟩
 keep:=fun i h h' st q => by
  obtain ⟨hz,hTI,⟨u,v,hTO⟩,l1,l2⟩:=st
  exact ⟨q _ (by simp) _ hz,q _ (by simp) _ hTI,⟨u,v,q _ (by simp) _ hTO⟩,l1.at fun o e => q _ (by simp) o e,l2.at fun o e => q _ (by simp) o e⟩
 item:=by
  intro X hP hw hK hc i pins s σ H E I hf st hg
  subst hP hw hK
  obtain ⟨xs,ys,x,y,hq1,hq2,hx,hy⟩:=hg
  obtain ⟨hz,hTI,⟨u,v,hTO⟩,l1,l2⟩:=st
  obtain ⟨its1,rv1,p1,_⟩:=I.list hq1
  obtain ⟨its2,rv2,p2,_⟩:=I.list hq2
  obtain ⟨ux,hux,rux⟩:=rv1.get hx
  obtain ⟨uy,huy,ruy⟩:=rv2.get hy
  refine wpAny_pyNext_zip_item D hz hTI hTO l1 l2 p1.isList p2.isList (x:=ux) (y:=uy) (by simpa using hux) (by simpa using huy) fun h' z1 TO1 j1 j2 T1 sz kp => ?_
  refine ⟨_,rfl,wpAny_letOwnedTupleGo_zip z1 fun h2 z2 sb => ?_⟩
  have hzlt:z < s.heap.objs.size:=Heap.lt_size hz
  have hpz:s.heap.objs.size ≠ z:=Nat.ne_of_gt hzlt
  have T2:IsPair h2 s.heap.objs.size ux uy:=sb.extBut _ _ hpz T1
  have kp2:∀ c o,c ∉ [z,TI,TO,i1,i2]→s.heap.get? c=some o→h2.get? c=some o:=fun c o hc e => by
   simp only [List.mem_cons,List.not_mem_nil,or_false,not_or] at hc
   exact sb.extBut _ _ hc.1 (kp c o hc.1 hc.2.2.1 hc.2.2.2.1 hc.2.2.2.2 e)
  have I2:Inv X pins σ (upd H s.heap.objs.size (.tup [x,y])) { s with heap:=h2,toks:=s.toks }:=I.turnedNew kp2 hf (Nat.le_refl _) ⟨by show 2 ≤ sizeLine; decide,[ux,uy],.cons rux (.cons ruy .nil),⟨_,T2,rfl,_,rfl⟩⟩
  refine ⟨.ref s.heap.objs.size,_,I2,rfl,⟨_,x,y,rfl,I.hok.fresh (Nat.le_refl _),rfl,fun xs' h => ?_,fun ys' h => ?_⟩,⟨z2,?_,⟨ux,uy,?_⟩,?_,?_⟩,fun c hc => ?_⟩
  ·rw [I.list_inj h hq1]; exact hx
  ·rw [I.list_inj h hq2]; exact hy
  ·exact sb.extBut _ _ D.TIz (kp _ _ D.TIz D.TITO D.TIi1 D.TIi2 hTI)
  ·exact sb.extBut _ _ D.TOz TO1
  ·exact j1.at fun o e => sb.extBut _ _ D.i1z e
  ·exact j2.at fun o e => sb.extBut _ _ D.i2z e
  ·have hlt:c < s.heap.objs.size:=by
    simp only [List.mem_cons,List.not_mem_nil,or_false] at hc
    rcases hc with rfl | rfl | rfl | rfl | rfl
    ·exact hzlt
    ·exact Heap.lt_size hTI
    ·exact Heap.lt_size hTO
    ·obtain ⟨_,e,_⟩:=l1; exact Heap.lt_size e
    ·obtain ⟨_,e,_⟩:=l2; exact Heap.lt_size e
   rw [upd_ne (Nat.ne_of_lt hlt)]
   exact (hf c hc).1
 done:=by
  intro X hP hw hK hc i pins s σ H E I hf st hg
  subst hP hw hK
  obtain ⟨xs,ys,hq1,hq2,hend⟩:=hg
  obtain ⟨hz,hTI,⟨u,v,hTO⟩,l1,l2⟩:=st
  obtain ⟨its1,rv1,p1,_⟩:=I.list hq1
  obtain ⟨its2,rv2,p2,_⟩:=I.list hq2
  have e1:=rv1.length
  have e2:=rv2.length
  refine wpAny_pyNext_zip_end (I.ok.hd hc) D hz hTI hTO l1 l2 p1.isList p2.isList (hend.imp (fun q => ?_) (fun q => ?_)) fun h' kp => ⟨rfl,I.turnedL (t':=s.toks) (ch:=[z,TI,TO,i1,i2]) (fun c o hc e => ?_) hf⟩
  ·rw [List.getElem?_eq_none_iff] at q
   simp
   omega
  ·rw [List.getElem?_eq_none_iff] at q
   simp
   omega
  ·simp only [List.mem_cons,List.not_mem_nil,or_false,not_or] at hc
   exact kp c o hc.1 hc.2.2.1 hc.2.2.2.1 hc.2.2.2.2 e
 self:=fun _ _ _ _ _ st h => wpAny_pyIter_zip st.1 h
section
variable {X:Cx}
def iZip (K:PySem.W.Frag) (ta:TA):TI:=fun σ H R => ta σ H fun vs H1 => ∃ a b,vs=[.ref a,.ref b]∧(∃ xs,SqL K H1 a xs)∧(∃ ys,SqL K H1 b ys)∧R (Itz K a b) H1
theorem pi_zip {tes:List Expr} {tk:Nat} {tpos p pos:PySem.Pos} {a b:Expr} {ta:TA} (hg:Gl X "zip") (hm:X.mg "zip" = none) (ha:PA X [a,b] ta)
  (hs:starEach [a,b] X.env=[(false,eval a X.env),(false,eval b X.env)]:=by rfl) (hs2:starEach [b] X.env=[(false,eval b X.env)]:=by rfl):PI X (.Tuple tes tk tpos) (.Call (.Name "zip" p) [a,b] [] pos) (iZip X.K ta):=by
 intro pins s σ H R I h
 refine wpAny_Call_Name_kw (ld_blt I hg hm boot_zip ?_)
 refine PyProof.Rows.callWith_type1 (thn (ha pos pins s σ H _ I h) fun us s1 ⟨vs,H1,I1,r1,l1,l2,e,⟨xs,hx⟩,⟨ys,hy⟩,q⟩ => ?_) (by rw [hs,hs2]) (by rw [hs2]; rfl)
 subst e
 obtain ⟨u1,u2,rfl,rfl,rfl⟩:=vals2 r1
 obtain ⟨its1,rv1,p1,_⟩:=I1.list hx
 obtain ⟨its2,rv2,p2,_⟩:=I1.list hy
 have a1:l1 < s1.heap.objs.size:=by obtain ⟨_,e,_⟩:=p1.isList; exact Heap.lt_size e
 have a2:l2 < s1.heap.objs.size:=by obtain ⟨_,e,_⟩:=p2.isList; exact Heap.lt_size e
 refine call_zip_2 p1.isList p2.isList fun h' hz hTI hTO hi1 hi2 sz kp => ?_
 refine wpAny_pyIter_zip hz ?_
 refine ⟨_,[_,_,_,_,_],_,_,H1,rfl,I1.kept (t':=s1.toks) kp,turn_zip l1 l2 _ _ _ _ _ (zipApart_new a1 a2),⟨hz,hTI,⟨_,_,hTO⟩,hi1,hi2⟩,fun c hc => ?_,q⟩
 have hge:s1.heap.objs.size ≤ c:=by
  simp only [List.mem_cons,List.not_mem_nil,or_false] at hc
  rcases hc with rfl | rfl | rfl | rfl | rfl
  ·exact Nat.le_add_right _ _
  ·exact Nat.le_add_right _ _
  ·exact Nat.le_add_right _ _
  ·exact Nat.le_refl _
  ·exact Nat.le_add_right _ _
 exact I1.fpOk hge (I1.hok.fresh hge)
end
end L2
namespace L2
open PySem PySem.Spec PyProof.Rows
structure TB (t:SetTable) (led:Bool):Prop where
 led:t.led=led
 dum:t.dummies = #[]
 up:t.place.toList.Pairwise (· < ·)
theorem below_go {xs:Array Nat} (h:xs.toList.Pairwise (· < ·)) (j:Nat):∀ (fuel lo hi:Nat),hi ≤ xs.size→lo ≤ hi→hi - lo ≤ fuel→(∀ i,i < lo→xs.getD i 0 < j)→(∀ i,hi ≤ i→i < xs.size→j ≤ xs.getD i 0) →
  SetTable.below.go xs j fuel lo hi ≤ xs.size∧(∀ i,i < SetTable.below.go xs j fuel lo hi→xs.getD i 0 < j)∧(∀ i,SetTable.below.go xs j fuel lo hi ≤ i→i < xs.size→j ≤ xs.getD i 0):=by
 have inc:∀ a b,a ≤ b→b < xs.size→xs.getD a 0 ≤ xs.getD b 0:=fun a b hab hb => by
  rcases Nat.lt_or_eq_of_le hab with z | z
  ·have:=List.pairwise_iff_getElem.mp h a b (by simpa using Nat.lt_trans z hb) (by simpa using hb) z
   simp only [Array.getElem_toList] at this
   rw [Array.getD_eq_getD_getElem?,Array.getD_eq_getD_getElem?,Array.getElem?_eq_getElem (Nat.lt_trans z hb),Array.getElem?_eq_getElem hb]
   exact Nat.le_of_lt this
  ·rw [z]; exact Nat.le_refl _
 intro fuel
 induction fuel with
 | zero =>
  intro lo hi h1 h2 h3 h4 h5
  have e:lo=hi:=by omega
  subst e
  exact ⟨h1,h4,h5⟩
 | succ fuel ih =>
  intro lo hi h1 h2 h3 h4 h5
  unfold SetTable.below.go
  by_cases hlt:lo < hi
  ·rw [if_pos hlt]
   have hm:(lo + hi) / 2 < hi:=by omega
   have hm0:lo ≤ (lo + hi) / 2:=by omega
   have hms:(lo + hi) / 2 < xs.size:=by omega
   have eg:xs.getD ((lo + hi) / 2) j=xs.getD ((lo + hi) / 2) 0:=by
    rw [Array.getD_eq_getD_getElem?,Array.getD_eq_getD_getElem?,Array.getElem?_eq_getElem hms]; rfl
   dsimp only
   rw [eg]
   by_cases hc:xs.getD ((lo + hi) / 2) 0 < j
   ·rw [if_pos hc]
    refine ih _ _ h1 (by omega) (by omega) (fun i hi' => ?_) h5
    exact Nat.lt_of_le_of_lt (inc i _ (by omega) hms) hc
   ·rw [if_neg hc]
    refine ih _ _ (by omega) (by omega) (by omega) h4 (fun i hi' hs => ?_)
    exact Nat.le_trans (Nat.not_lt.mp hc) (inc _ i hi' hs)
  ·rw [if_neg hlt]
   have e:lo=hi:=by omega
   subst e
   exact ⟨h1,h4,h5⟩
theorem below_ok {xs:Array Nat} (h:xs.toList.Pairwise (· < ·)) (j:Nat):SetTable.below xs j ≤ xs.size∧(∀ i,i < SetTable.below xs j→xs.getD i 0 < j)∧(∀ i,SetTable.below xs j ≤ i→i < xs.size→j ≤ xs.getD i 0) :=
 below_go h j xs.size 0 xs.size (Nat.le_refl _) (Nat.zero_le _) (Nat.le_refl _) (fun i hi => by omega) (fun i h1 h2 => by omega)
theorem below_next {xs:Array Nat} (h:xs.toList.Pairwise (· < ·)) {i:Nat} (hi:i ≤ xs.size) {s:Nat} (hs:s=if i=0 then 0 else xs.getD (i - 1) 0 + 1):SetTable.below xs s=i:=by
 obtain ⟨b1,b2,b3⟩:=below_ok h s
 have lt:∀ a b,a < b→b < xs.size→xs.getD a 0 < xs.getD b 0:=fun a b hab hb => by
  have:=List.pairwise_iff_getElem.mp h a b (by simpa using Nat.lt_trans hab hb) (by simpa using hb) hab
  simp only [Array.getElem_toList] at this
  rw [Array.getD_eq_getD_getElem?,Array.getD_eq_getD_getElem?,Array.getElem?_eq_getElem (Nat.lt_trans hab hb),Array.getElem?_eq_getElem hb]
  exact this
 rcases Nat.lt_trichotomy (SetTable.below xs s) i with z | z | z
 ·exfalso
  have i0:i ≠ 0:=by omega
  rw [if_neg i0] at hs
  have h1:=b3 (i - 1) (by omega) (by omega)
  omega
 ·exact z
 ·exfalso
  have h1:=b2 i z
  by_cases i0:i=0
  ·rw [if_pos i0] at hs; omega
  ·rw [if_neg i0] at hs
   have h2:=lt (i - 1) i (by omega) (by omega)
   omega
theorem put_tb {t:SetTable} {led:Bool} (h:TB t led) {j:Nat} (he:t.slot j = .empty):TB (t.put j).1 led:=by
 have hd:SetTable.has t.dummies j=false:=by rw [h.dum]; rfl
 refine ⟨h.led,?_,?_⟩
 ·show (if SetTable.has t.dummies j=true then _ else t.dummies) = #[]
  rw [hd]
  exact h.dum
 ·show (SetTable.insertAt t.place (SetTable.below t.place j) j).toList.Pairwise (· < ·)
  rw [SetTable.toList_insertAt]
  obtain ⟨b1,b2,b3⟩:=below_ok h.up j
  have hne:t.place[SetTable.below t.place j]? ≠ some j:=fun z => by
   unfold SetTable.slot at he
   dsimp only at he
   rw [z] at he
   simp at he
  rw [List.pairwise_append]
  refine ⟨h.up.sublist (List.take_sublist _ _),?_,?_⟩
  ·rw [List.pairwise_cons]
   refine ⟨fun b hb => ?_,h.up.sublist (List.drop_sublist _ _)⟩
   obtain ⟨i,hi⟩:=List.mem_iff_getElem?.mp hb
   rw [List.getElem?_drop,Array.getElem?_toList] at hi
   obtain ⟨hlt,hg⟩:=Array.getElem?_eq_some_iff.mp hi
   have h1:=b3 _ (Nat.le_add_right _ i) hlt
   rw [Array.getD_eq_getD_getElem?,hi] at h1
   rcases Nat.lt_or_eq_of_le h1 with z | z
   ·exact z
   ·exfalso
    have z:j=b:=z
    cases i with
    | zero => exact hne (by rw [← z] at hi; simpa using hi)
    | succ i =>
     have hlt0:SetTable.below t.place j < t.place.size:=by omega
     have h2:=b3 _ (Nat.le_refl _) hlt0
     have h3:=List.pairwise_iff_getElem.mp h.up (SetTable.below t.place j) (SetTable.below t.place j + (i + 1)) (by simpa using hlt0) (by simpa using hlt) (by omega)
     simp only [Array.getElem_toList] at h3
     rw [Array.getD_eq_getD_getElem?,Array.getElem?_eq_getElem hlt0] at h2
     have h2:j ≤ t.place[SetTable.below t.place j]:=h2
     omega
  ·intro a ha b hb
   have haj:a < j:=by
    obtain ⟨i,hi⟩:=List.mem_iff_getElem?.mp ha
    rw [List.getElem?_take] at hi
    split at hi
    ·rename_i hir
     rw [Array.getElem?_toList] at hi
     have:=b2 i hir
     rw [Array.getD_eq_getD_getElem?,hi] at this
     exact this
    ·cases hi
   rcases List.mem_cons.mp hb with rfl | hb
   ·exact haj
   ·obtain ⟨i,hi⟩:=List.mem_iff_getElem?.mp hb
    rw [List.getElem?_drop,Array.getElem?_toList] at hi
    obtain ⟨hlt,hg⟩:=Array.getElem?_eq_some_iff.mp hi
    have h1:=b3 _ (Nat.le_add_right _ i) hlt
    rw [Array.getD_eq_getD_getElem?,hi] at h1
    exact Nat.lt_of_lt_of_le haj h1
theorem probe_go {t:SetTable} (hd:t.dummies = #[]) {f:Nat→Int} {h:Int} : ∀ (fuel:Nat) (p:SetTable.Probe),p.dummy=none→∀ {j:Nat} {d:Option Nat},SetTable.probe.go t f h fuel p=some (.empty j d)→t.slot j = .empty∧d=none:=by
 have nd:∀ j,t.slot j ≠ .dummy:=fun j z => by
  unfold SetTable.slot at z
  dsimp only at z
  rw [hd] at z
  split at z
  ·cases z
  ·have e:SetTable.has #[] j=false:=rfl
   rw [e] at z
   cases z
 intro fuel
 induction fuel with
 | zero => intro p _ j d e; unfold SetTable.probe.go at e; cases e
 | succ fuel ih =>
  intro p hp j d e
  unfold SetTable.probe.go at e
  cases hs:t.slot p.j with
  | empty => rw [hs] at e; cases e; exact ⟨hs,hp⟩
  | dummy => exact absurd hs (nd _)
  | live i =>
   rw [hs] at e
   dsimp only at e
   split at e
   ·cases e
   ·refine ih _ ?_ e
    unfold SetTable.advance
    split <;> exact hp
theorem free_empty {t:SetTable} (hd:t.dummies = #[]) {h:Int} {slot:Nat} {wd:Bool} (e:t.freeSlot h=some (slot,wd)):t.slot slot = .empty:=by
 unfold SetTable.freeSlot at e
 cases hp:t.probe (fun _ => h + 1) h (t.probeStart h) with
 | none => rw [hp] at e; cases e
 | some m =>
  cases m with
  | empty j d =>
   rw [hp] at e
   obtain ⟨h1,h2⟩:=probe_go hd _ _ rfl hp
   subst h2
   cases e
   exact h1
  | candidate a b c => rw [hp] at e; cases e
theorem standIn_tb {t:SetTable} {led:Bool} (h:t.led=led) (n:Nat):TB (t.standIn n) led:=by
 refine ⟨h,rfl,?_⟩
 show (Array.range n).toList.Pairwise (· < ·)
 rw [Array.toList_range]
 exact List.pairwise_lt_range
theorem layNew_tb {t:SetTable} {led:Bool} (h:TB t led) (es:Array (Int × Value)) (hh:Int) (x:Value):TB (layNew t es hh x).2.1 led:=by
 unfold layNew
 split
 ·rename_i slot wd e
  have p:=put_tb h (free_empty h.dum e)
  dsimp only
  unfold SetTable.orStandIn
  split
  ·exact p
  ·exact standIn_tb p.led _
 ·exact standIn_tb h.led _
theorem filter_fst {α β:Type} (f:α→Option β):∀ l:List α,((l.filterMap fun j => (f j).map (j,·)).map (·.1))=l.filter fun j => (f j).isSome
 | [] => rfl
 | a :: l => by
  cases h:f a with
  | none => simp [h,filter_fst f l]
  | some b => simp [h,filter_fst f l]
theorem relayAll_tb {t:SetTable} {led:Bool} (h:TB t led) (es:Array (Int × Value)) (wanted:Nat):TB (relayAll t es wanted).2.1 led:=by
 unfold relayAll
 split
 ·rename_i t' order e
  dsimp only
  split
  ·unfold SetTable.relaid SetTable.laid at e
   simp only [Option.bind_eq_bind,Option.bind_eq_some_iff,Option.pure_def,Option.some.injEq,Prod.mk.injEq] at e
   obtain ⟨owner,_,e1,_⟩:=e
   subst e1
   refine ⟨h.led,rfl,?_⟩
   show ((((List.range _).filterMap fun j => (owner.getD j none).map (j,·)).map (·.1)).toArray).toList.Pairwise (· < ·)
   rw [filter_fst (fun j => owner.getD j none)]
   exact List.pairwise_lt_range.sublist List.filter_sublist
  ·exact standIn_tb h.led _
 ·exact standIn_tb h.led _
end L2
set_option maxHeartbeats 2000000
namespace L2
open PySem PySem.Spec PyProof.Rows
def SetJ (prog:Program) (w:World) (h:Heap) (a:Addr) (ns:List Int):Prop :=
 ∃ o es ep t,h.get? a=some o∧o.ExactSet∧o.data = .set es ep t∧ElemsOf (intKind prog w) es.toList∧(∃ ms,IntsAre (es.toList.map (·.2)) ms∧ms.Perm ns)∧es.size < scanBound∧t.fits es.size=true∧TB t (!w.params.followText "set-order")
theorem SetJ.size {prog:Program} {w:World} {o:Obj} {es:Array (Int × Value)} {ns:List Int} (h:∃ ms,IntsAre (es.toList.map (·.2)) ms∧ms.Perm ns):es.size=ns.length:=by
 obtain ⟨ms,h1,h2⟩:=h
 have:=h1.length
 rw [List.length_map,Array.length_toList] at this
 rw [this,h2.length_eq]
theorem intsAre_mem:∀ {us:List Value} {ms:List Int},IntsAre us ms→∀ k:Int,k ∈ ms ↔ ∃ u ∈ us,u.isInt k=true
 | _,_,.nil,k => by simp
 | _,_,.cons n t h,k => by
  have ih:=intsAre_mem h k
  constructor
  ·intro hk
   rcases List.mem_cons.mp hk with rfl | hk
   ·exact ⟨_,List.mem_cons_self,by simp [Value.isInt]⟩
   ·obtain ⟨u,hu,e⟩:=ih.mp hk
    exact ⟨u,List.mem_cons_of_mem _ hu,e⟩
  ·rintro ⟨u,hu,e⟩
   rcases List.mem_cons.mp hu with rfl | hu
   ·simp [Value.isInt] at e
    rw [e]; exact List.mem_cons_self
   ·exact List.mem_cons_of_mem _ (ih.mpr ⟨u,hu,e⟩)
theorem intsAre_perm:∀ {us vs:List Value},us.Perm vs→∀ {ms:List Int},IntsAre vs ms→∃ ms',IntsAre us ms'∧ms'.Perm ms:=by
 intro us vs p
 induction p with
 | nil => intro ms h; exact ⟨ms,h,.refl _⟩
 | cons x _ ih =>
  intro ms h
  cases h with
  | cons n t h => obtain ⟨m,h1,h2⟩:=ih h; exact ⟨_,.cons n t h1,h2.cons n⟩
 | swap x y l =>
  intro ms h
  cases h with
  | cons n t h => cases h with | cons n' t' h => exact ⟨_,.cons n' t' (.cons n t h),.swap ..⟩
 | trans _ _ ih1 ih2 =>
  intro ms h
  obtain ⟨m2,h3,h4⟩:=ih2 h
  obtain ⟨m1,h1,h2⟩:=ih1 h3
  exact ⟨m1,h1,h2.trans h4⟩
theorem intsAre_append:∀ {us vs:List Value} {ms ns:List Int},IntsAre us ms→IntsAre vs ns→IntsAre (us ++ vs) (ms ++ ns)
 | _,_,_,_,.nil,h => h
 | _,_,_,_,.cons n t h,k => .cons n t (intsAre_append h k)
section
variable {prog:Program} {w:World} {A:Around} {E:Value→Shared→Prop} {s:Shared}
theorem stored_at {h:Heap} {a:Addr} {o:Obj} {es:Array (Int × Value)} {ep:Nat} {t:SetTable} (ho:h.get? a=some o) (hd:o.data = .set es ep t) (es' : Array (Int × Value)) (t' : SetTable) :
  (h.update a (Obj.putSet es' t')).get? a=some { o with data:=.set es' (ep + 1) t' }:=by
 have z:=Heap.get?_update_self (Obj.putSet es' t') ho (by rw [putSet_of es' t' hd]; rfl)
 rw [putSet_of es' t' hd] at z
 exact z
theorem add_end {g:Bool→Sem Unit} (hg:∀ (b:Bool) (s1:Shared) (R:Unit→Shared→Prop),R () s1→wpAny (model prog w) A (g b) R E s1) {a:Addr} {o:Obj} {es:Array (Int × Value)} {ep:Nat} {t:SetTable}
  (ho:s.heap.get? a=some o) (hx:o.ExactSet) (hd:o.data = .set es ep t) {es1:Array (Int × Value)} {t2:SetTable} {ns:List Int} (he:ElemsOf (intKind prog w) es1.toList) (hi:∃ ms,IntsAre (es1.toList.map (·.2)) ms∧ms.Perm ns)
  (hb:es1.size < scanBound) (hf:t2.fits es1.size=true) (tb:TB t2 (!w.params.followText "set-order")) {wd:Bool} {R:Option Bool→Shared→Prop} (h:∀ h',Heap.SameBut a s.heap h'→SetJ prog w h' a ns→R (some true) { s with heap:=h' }) :
  wpAny (model prog w) A (do
    storeSet a es1 t2
    if (!wd && t2.tooFull)=true then do
      g (relayAll t2 es1 (SetTable.grown es1.size)).2.2
      storeSet a (relayAll t2 es1 (SetTable.grown es1.size)).1 (relayAll t2 es1 (SetTable.grown es1.size)).2.1
      pure (some true)
     else pure (some true)) R E s:=by
 refine wpAny_bind (wpAny_storeSet_of ho hd ?_ (fits_of_scanBound hb))
 have o1:=stored_at ho hd es1 t2
 have b1:=Heap.SameBut.update s.heap a (Obj.putSet es1 t2)
 split
 ·have q1:=relayAll_perm t2 es1 (SetTable.grown es1.size)
  have q2:=relayAll_fits t2 es1 (SetTable.grown es1.size)
  have q3:=relayAll_tb tb es1 (SetTable.grown es1.size)
  generalize relayAll t2 es1 (SetTable.grown es1.size)=Z at q1 q2 q3 ⊢
  obtain ⟨es2,t3,gv⟩:=Z
  dsimp only at q1 q2 q3 ⊢
  have sz:es2.size=es1.size:=by rw [← Array.length_toList,q1.length_eq,Array.length_toList]
  refine wpAny_bind (hg _ _ _ (wpAny_bind (wpAny_storeSet_of o1 rfl (wpAny_pure (h _ (b1.trans (Heap.SameBut.update _ a _)) ?_)) (fits_of_scanBound (by rw [sz]; exact hb)))))
  obtain ⟨ms,i1,i2⟩:=hi
  obtain ⟨ms',i3,i4⟩:=intsAre_perm (q1.map (·.2)) i1
  exact ⟨_,es2,_,t3,stored_at o1 rfl es2 t3,hx,rfl,he.perm q1,⟨ms',i3,i4.trans i2⟩,by rw [sz]; exact hb,q2,q3⟩
 ·exact wpAny_pure (h _ b1 ⟨_,es1,_,t2,o1,hx,rfl,he,hi,hb,hf,tb⟩)
theorem tb_plain {t:SetTable} {led:Bool} (h:TB t led):TB { t with plain:=false } led:=⟨h.led,h.dum,h.up⟩
theorem setAdd_j {a:Addr} {ns:List Int} {k:Int} {tk:Tok} {Q:Bool→Shared→Prop} (hS:SetJ prog w s.heap a ns) (hroom:ns.length + 1 < scanBound)
  (h:∀ h',Heap.SameBut a s.heap h'→SetJ prog w h' a (if k ∈ ns then ns else ns ++ [k])→Q (!decide (k ∈ ns)) { s with heap:=h' }):wpAny (model prog w) A (setAddHashed a (.int k tk) ((intKind prog w).hash k)) Q E s:=by
 have hkey:=intKind_is prog w k tk
 have hsc:(Value.int k tk).scannable=true:=rfl
 obtain ⟨o,es,ep,t,ho,hx,hd,he,hi,hb,hf,tb⟩:=id hS
 have hn:=SetJ.size (prog:=prog) (w:=w) (o:=o) hi
 have hmem:k ∈ ns ↔ ∃ e ∈ es.toList,(intKind prog w).is k e.2=true:=by
  obtain ⟨ms,i1,i2⟩:=hi
  rw [← i2.mem_iff,intsAre_mem i1 k]
  constructor
  ·rintro ⟨u,hu,e⟩
   obtain ⟨z,hz,rfl⟩:=List.mem_map.mp hu
   exact ⟨z,hz,e⟩
  ·rintro ⟨z,hz,e⟩
   exact ⟨z.2,List.mem_map.mpr ⟨z,hz,rfl⟩,e⟩
 unfold setAddHashed setAddHashedIn
 refine wpAny_holding (wpAny_bind (wpAny_setState_of ho hd hf ?_))
 dsimp only
 rw [byScan_of hsc hb he]
 simp only [↓reduceIte]
 unfold setAddByScan
 refine wpAny_bind (wpAny_bind (wpAny_rule (wpAny_bind (wpAny_setScan_of hkey ho hd hf he ?_))))
 cases hr:List.findIdx? (fun e => (intKind prog w).is k e.2) es.toList with
 | some j =>
  dsimp only
  obtain ⟨hj,hpj,_⟩:=List.findIdx?_eq_some_iff_getElem.mp hr
  have hk:k ∈ ns:=hmem.mpr ⟨es.toList[j],List.getElem_mem hj,hpj⟩
  refine wpAny_pure (wpAny_pure ?_)
  have z:=h s.heap (Heap.SameBut.refl a s.heap) (by rw [if_pos hk]; exact hS)
  rw [decide_eq_true hk] at z
  exact z
 | none =>
  dsimp only
  have hk : ¬ k ∈ ns:=fun hk => by
   obtain ⟨e,hee,hp⟩:=hmem.mp hk
   have z:=List.findIdx?_eq_none_iff.mp hr e hee
   rw [hp] at z
   exact Bool.noConfusion z
  have hgw:∀ (b:Bool) {s1:Shared} {R:Unit→Shared→Prop},R () s1→wpAny (model prog w) A (match b with | true => rule "set.scan.the-table-gave-way" | false => pure ()) R E s1 :=
   fun b s1 R hq => by cases b <;> first | exact wpAny_pure hq | exact wpAny_rule hq
  have q1:=layNew_perm t es ((intKind prog w).hash k) (.int k tk)
  have q2:=layNew_fits t es ((intKind prog w).hash k) (.int k tk)
  have q3:=layNew_tb tb es ((intKind prog w).hash k) (.int k tk)
  generalize layNew t es ((intKind prog w).hash k) (.int k tk)=Z at q1 q2 q3 ⊢
  obtain ⟨es1,t1,wd,gv⟩:=Z
  dsimp only at q1 q2 q3 ⊢
  rw [Array.toList_push] at q1
  have he1:ElemsOf (intKind prog w) es1.toList:=(he.push hkey hsc).perm q1
  have sz:es1.size=es.size + 1:=by rw [← Array.length_toList,q1.length_eq,List.length_append,Array.length_toList]; rfl
  have hb1:es1.size < scanBound:=by rw [sz,hn]; exact hroom
  have hi1:∃ ms,IntsAre (es1.toList.map (·.2)) ms∧ms.Perm (ns ++ [k]):=by
   obtain ⟨ms,i1,i2⟩:=hi
   have i5:IntsAre ((es.toList ++ [((intKind prog w).hash k,Value.int k tk)]).map (·.2)) (ms ++ [k]):=by
    rw [List.map_append]
    exact intsAre_append i1 (.cons k tk .nil)
   obtain ⟨ms',i3,i4⟩:=intsAre_perm (q1.map (·.2)) i5
   exact ⟨ms',i3,i4.trans (i2.append_right _)⟩
  refine wpAny_bind (hgw _ ?_)
  have fin:∀ h',Heap.SameBut a s.heap h'→SetJ prog w h' a (ns ++ [k])→Q true { s with heap:=h' }:=fun h' sb j => by
   have z:=h h' sb (by rw [if_neg hk]; exact j)
   rw [decide_eq_false hk] at z
   exact z
  split
  ·refine wpAny_bind ?_
   rw [hashByValue_scannable 8 hsc]
   refine wpAny_pure (add_end ?_ ho hx hd he1 hi1 hb1 ?_ ?_ ?_)
   ·intro b s1 R hq; cases b <;> first | exact wpAny_pure hq | exact wpAny_rule hq
   ·split
    ·exact q2
    ·exact SetTable.fits_plain_off q2
   ·split
    ·exact q3
    ·exact tb_plain q3
   ·intro h' sb j; dsimp only; exact wpAny_pure (fin h' sb j)
  ·refine wpAny_bind (wpAny_pure ?_)
   simp only [↓reduceIte]
   refine add_end ?_ ho hx hd he1 hi1 hb1 q2 q3 ?_
   ·intro b s1 R hq; cases b <;> first | exact wpAny_pure hq | exact wpAny_rule hq
   ·intro h' sb j; dsimp only; exact wpAny_pure (fin h' sb j)
end
end L2
set_option maxHeartbeats 4000000
namespace L2
open PySem PySem.Spec PyProof.Rows
def ddStep (acc:List Int) (k:Int):List Int:=if k ∈ acc then acc else acc ++ [k]
def dd (ns:List Int):List Int:=ns.foldl ddStep []
theorem dd_snoc (ns:List Int) (k:Int):dd (ns ++ [k])=ddStep (dd ns) k:=by unfold dd; rw [List.foldl_append]; rfl
theorem dd_len:∀ ns:List Int,(dd ns).length ≤ ns.length:=by
 have:∀ (ns acc:List Int),(ns.foldl ddStep acc).length ≤ acc.length + ns.length:=by
  intro ns
  induction ns with
  | nil => intro acc; exact Nat.le_refl _
  | cons k ns ih =>
   intro acc
   have h:=ih (ddStep acc k)
   have h2:(ddStep acc k).length ≤ acc.length + 1:=by unfold ddStep; split <;> simp
   show (ns.foldl ddStep (ddStep acc k)).length ≤ acc.length + (ns.length + 1)
   omega
 intro ns
 have:=this ns []
 unfold dd
 simpa using this
theorem dd_mem (ns:List Int) (k:Int):k ∈ dd ns ↔ k ∈ ns:=by
 have:∀ (ns acc:List Int),k ∈ ns.foldl ddStep acc ↔ k ∈ acc ∨ k ∈ ns:=by
  intro ns
  induction ns with
  | nil => intro acc; simp
  | cons j ns ih =>
   intro acc
   show k ∈ ns.foldl ddStep (ddStep acc j) ↔ _
   rw [ih]
   unfold ddStep
   split
   ·rename_i h
    constructor
    ·rintro (z | z)
     ·exact .inl z
     ·exact .inr (List.mem_cons_of_mem _ z)
    ·rintro (z | z)
     ·exact .inl z
     ·rcases List.mem_cons.mp z with rfl | z
      ·exact .inl h
      ·exact .inr z
   ·simp [or_assoc]
 have:=this ns []
 unfold dd
 simpa using this
theorem dd_nodup (ns:List Int):(dd ns).Nodup:=by
 have:∀ (ns acc:List Int),acc.Nodup→(ns.foldl ddStep acc).Nodup:=by
  intro ns
  induction ns with
  | nil => intro acc h; exact h
  | cons j ns ih =>
   intro acc h
   refine ih _ ?_
   unfold ddStep
   split
   ·exact h
   ·rename_i hj
    rw [List.nodup_append]
    exact ⟨h,by simp,fun a ha b hb z => hj (by rw [← List.mem_singleton.mp hb,← z]; exact ha)⟩
 exact this ns [] List.nodup_nil
theorem SetJ.keep {prog:Program} {w:World} {h h' : Heap} {a:Addr} {ns:List Int} (x:SetJ prog w h a ns) (k:∀ o,h.get? a=some o→h'.get? a=some o):SetJ prog w h' a ns:=by
 obtain ⟨o,es,ep,t,ho,r⟩:=x
 exact ⟨o,es,ep,t,k o ho,r⟩
section
variable {prog:Program} {w:World} {A:Around} {R:Result→Shared→Prop} {J:Addr} {fp wr:List Addr} {G:Array GenState→Array GenState→Prop} {n:Nat} {P:Nat→Value→Prop} {St:Nat→Shared→Prop}
theorem update_j (Wk:WalksS prog w A.in1 J fp wr G n P St) (S:Addr) (hS:S ∉ fp) (ns:List Int) (hns:ns.length=n) (hv:∀ i v,P i v→∃ t,v = .int (ns.getD i 0) t) (hb:n + 1 < scanBound) :
  ∀ (c i:Nat) (s:Shared),n - i=c→i ≤ n→St i s→SetJ prog w s.heap S (dd (ns.take i))→(∀ s',Moved (S :: wr) G s s'→SetJ prog w s'.heap S (dd ns)→R (.ok (.ret .none)) s') →
   codeAny (model prog w) A (.builtin "set.update.loop" ⟨[.ref S,.ref J],[]⟩) R s:=by
 have nw:S ∉ wr:=fun h => hS (Wk.sub _ h)
 have sub:∀ b ∈ wr,b ∈ S :: wr:=fun b hb => List.mem_cons_of_mem _ hb
 intro c
 induction c with
 | zero =>
  intro i s hc hi st hj hR
  have e:i=n:=by omega
  subst e
  refine codeAny_builtin PyProof.Rows.F.entry_set_update_loop ?_
  rw [Around.under_plainId PyProof.Rows.F.plain_set_update_loop _]
  show wpAny _ A.in1 (pyNext (.ref J) >>= _) _ _ s
  refine wpAny_bind (Wk.done s _ _ st fun s' hm => ?_)
  show wpAny _ A.in1 (ret Value.none) _ _ s'
  rw [← hns,List.take_length] at hj
  exact wpAny_pure (hR s' (hm.mono sub) (hj.keep fun o ho => hm.heap S _ nw ho))
 | succ c ih =>
  intro i s hc hi st hj hR
  have lt:i < n:=by omega
  refine codeAny_builtin PyProof.Rows.F.entry_set_update_loop ?_
  rw [Around.under_plainId PyProof.Rows.F.plain_set_update_loop _]
  show wpAny _ A.in1 (pyNext (.ref J) >>= _) _ _ s
  refine wpAny_bind (Wk.item i s _ _ lt st fun v s' hP st' hm => ?_)
  obtain ⟨t,rfl⟩:=hv i v hP
  have hj' : SetJ prog w s'.heap S (dd (ns.take i)):=hj.keep fun o ho => hm.heap S _ nw ho
  have hlen:(dd (ns.take i)).length ≤ i:=Nat.le_trans (dd_len _) (by rw [List.length_take]; omega)
  have gi:ns[i]? = some (ns.getD i 0):=by rw [List.getD_eq_getElem?_getD,List.getElem?_eq_getElem (by omega)]; rfl
  show wpAny _ A.in1 (holding [Value.int (ns.getD i 0) t] (setAdd S (.int (ns.getD i 0) t)) >>= _) _ _ s'
  refine wpAny_bind (wpAny_holding ?_)
  unfold setAdd
  refine wpAny_holding (wpAny_bind ((intKind prog w).pyHash (k:=ns.getD i 0) (intKind_is _ _ _ _) ?_))
  refine setAdd_j (s:={ s' with toks:=s'.toks + 1 }) hj' (by omega) fun h2 sb j2 => ?_
  have j3:SetJ prog w h2 S (dd (ns.take (i + 1))):=by
   rw [take_succ' gi,dd_snoc]
   exact j2
  refine wpAny_pure ⟨plainId_quiet PyProof.Rows.F.plain_set_update_loop _,ih (i + 1) _ (by omega) lt (Wk.frame _ s' _ _ st' (Nat.le_succ _) fun b hb o e => ?_) j3 fun s3 hm3 hj3 => ?_⟩
  ·rw [sb.2 b (fun z:b=S => hS (by rw [← z]; exact hb))]; exact e
  ·refine hR s3 (Moved.trans Wk.gtrans ((hm.mono sub).then_heap (Nat.le_succ _) fun b o hb e => ?_) hm3) hj3
   rw [sb.2 b (fun z:b=S => hb (by rw [z]; exact List.mem_cons_self))]; exact e
end
section
variable {prog:Program} {w:World} {A:Around} {E:Value→Shared→Prop} {s:Shared}
theorem set_new_j (a:Value) {Q1:Value→Shared→Prop} (h:Q1 (.ref s.heap.objs.size) { s with heap:=s.heap.push { cls:=.type "set",dict:=none,data:=.set #[] 0 (.fresh 0 0 (!w.params.followText "set-order")) } }) :
  codeAny (model prog w) A (.call (.builtin "set.__new__") ⟨[.type "set",a],[]⟩) (wants Q1 E) s:=by
 refine codeAny_of_tree ?_
 show wpAny _ A.in1 (do checkBuiltinCall "set.__new__" ⟨[.type "set",a],[]⟩; again (.builtin "set.__new__" ⟨[.type "set",a],[]⟩)) _ _ s
 refine wpAny_bind (wpAny_of_eq (PySem.F.newCall_set_1 a) (wpAny_pure ⟨plainId_quiet PySem.F.plain_set_new _,codeAny_builtin PySem.F.entry_set_new ?_⟩))
 rw [Around.under_plainId PySem.F.plain_set_new _]
 unfold Builtin.«set.__new__» Builtin.Frozenset.newClass
 have hsub:=sub_set_self
 obtain ⟨hp,g,d,tk,os⟩:=s
 dsimp only
 wp_walk
 refine wpAny_askSetting (wpAny_pure ?_)
 dsimp only
 simp only [newObj]
 exact wpAny_bind (wpAny_alloc (wpAny_pure (wpAny_pure h)))
theorem fresh_j {h:Heap} {a:Addr} (ho:h.get? a=some { cls:=.type "set",dict:=none,data:=.set #[] 0 (.fresh 0 0 (!w.params.followText "set-order")) }):SetJ prog w h a [] :=
 ⟨_,#[],0,_,ho,⟨rfl,rfl,rfl⟩,rfl,fun e he => by simp at he,⟨[],.nil,.refl _⟩,by decide,by rfl,⟨rfl,rfl,List.Pairwise.nil⟩⟩
set_option maxHeartbeats 8000000 in
theorem set_of_list {l:Addr} {its:Array Value} {ns:List Int} {Q:Value→Shared→Prop} (hh:A.handled=none) (hl:s.heap.IsList l its) (hi:IntsAre its.toList ns) (hb:its.size + 1 < scanBound)
  (h:∀ (h' : Heap) (tk:Nat),SetJ prog w h' s.heap.objs.size (dd ns)→(∀ b o,b < s.heap.objs.size→s.heap.get? b=some o→h'.get? b=some o)→Q (.ref s.heap.objs.size) { s with heap:=h',toks:=tk }) :
  wpAny (model prog w) A (call (.type "set") [.ref l]) Q E s:=by
 obtain ⟨c,tl,hmro⟩:=PySem.F.called_set.mro
 have hmade:=PySem.F.called_set.made
 have hsub:=PySem.F.called_set.sub
 refine wpAny_call (codeAny_of_tree ?_)
 show wpAny _ _ (callAny (.type "set") _) _ _ _
 refine wpAny_pure ⟨Code.quiet_builtin _ (by decide +kernel),codeAny_builtin PySem.F.entry_type_call ?_⟩
 rw [Around.under_plain (weight_type_call_type "set" [.ref l] []) rfl]
 have x1:=PySem.F.called_set.notType
 have x2:=PySem.F.called_set.canCreate
 have x3:=PySem.F.typeCall_set_1 (.ref l)
 repeat (any_goals (first | assumption | wp_step))
 refine codeAny_mono (set_new_j (.ref l) (E:=E) (Q1:=fun ob s1 => ob = .ref s.heap.objs.size∧s1 = { s with heap:=s.heap.push { cls:=.type "set",dict:=none,data:=.set #[] 0 (.fresh 0 0 (!w.params.followText "set-order")) } }) ⟨rfl,rfl⟩) fun r s1 hr => ?_
 cases r with
 | error e => exact hr
 | ok fl =>
  cases fl with
  | ret ob =>
   obtain ⟨rfl,rfl⟩:=hr
   generalize hled:(!w.params.followText "set-order")=led
   have hS:(s.heap.push { cls:=.type "set",dict:=none,data:=.set #[] 0 (.fresh 0 0 led) }).get? s.heap.objs.size=some { cls:=.type "set",dict:=none,data:=.set #[] 0 (.fresh 0 0 led) }:=Heap.get?_push_size _ rfl
   have hT:Shared.TypeIs { s with heap:=s.heap.push { cls:=.type "set",dict:=none,data:=.set #[] 0 (.fresh 0 0 led) } } (.ref s.heap.objs.size) "set" := ⟨_,hS,rfl⟩
   have y1:=PySem.F.called_set.init.lookup
   have y2:=PySem.F.called_set.init.bind (.ref s.heap.objs.size)
   repeat (any_goals (first | assumption | wp_step))
   refine codeAny_mono (codeAny_call_builtin (R:=wants (fun r s2 => r = .none∧∃ h' tk,s2 = { s with heap:=h',toks:=tk }∧SetJ prog w h' s.heap.objs.size (dd ns)∧(∀ b o,b < s.heap.objs.size→s.heap.get? b=some o→h'.get? b=some o)) E)
    PySem.F.called_set.init.plain PySem.F.entry_set_init (check_set_init_1 hT ?_)) fun r2 s2 hr2 => ?_
   ·obtain ⟨ol,hol,hcl,nl,hdl⟩:=hl
    obtain ⟨ocls,odict,odata,oslots⟩:=ol
    simp only at hcl hdl
    subst hcl; subst hdl
    have hol' : (s.heap.push { cls:=.type "set",dict:=none,data:=.set #[] 0 (.fresh 0 0 led) }).get? l=some { cls:=.type "list",dict:=odict,data:=.seq its nl,slots:=oslots }:=Heap.get?_push_of_some _ hol
    have v1:=PySem.F.sub_list_set
    have v2:=PySem.F.sub_list_frozenset
    have v3:(Value.type "list" == Value.type "dict")=false:=by decide
    have hl1:(s.heap.push { cls:=.type "set",dict:=none,data:=.set #[] 0 (.fresh 0 0 led) }).IsList l its:=⟨_,hol',rfl,nl,rfl⟩
    unfold Builtin.«set.__init__» noKeywords Builtin.Frozenset.updateFrom
    generalize hPI:pyIter=PI
    wp_walk
    subst hPI
    refine wpAny_pyIter_list (l:=l) hl1 ?_
    refine wpAny_bind (m:=runValue _) (wpAny_runValue ?_)
    have ll:l < s.heap.objs.size:=Heap.lt_size hol
    have h3:A.in1.in1.in1.handled=none:=by simp [hh]
    have n1:l ≠ (s.heap.push { cls:=.type "set",dict:=none,data:=.set #[] 0 (.fresh 0 0 led) }).objs.size:=by rw [Heap.size_push]; exact Nat.ne_of_lt (Nat.lt_succ_of_lt ll)
    have n2:s.heap.objs.size ∉ [(s.heap.push { cls:=.type "set",dict:=none,data:=.set #[] 0 (.fresh 0 0 led) }).objs.size,l]:=by
     rw [Heap.size_push]
     simp only [List.mem_cons,List.mem_singleton,List.not_mem_nil,or_false,not_or]
     exact ⟨Nat.ne_of_lt (Nat.lt_succ_self _),Nat.ne_of_gt ll⟩
    have hln:ns.length=its.size:=by rw [← hi.length,Array.length_toList]
    refine update_j ((Walks.list h3 _ l n1 its).toS) s.heap.objs.size n2 ns hln (fun i v hv => IntsAre.int_at hi i v (by rw [Array.getElem?_toList]; exact hv)) hb (its.size - 0) 0 _ (by omega) (Nat.zero_le _) ⟨⟨_,Heap.get?_push_size _ rfl,rfl,rfl⟩,(hl1.push _)⟩ ?_ ?_
    ·exact fresh_j (by rw [hled]; exact Heap.get?_push_of_some _ hS)
    ·intro s' hm hj
     obtain ⟨h',g',d',tk',os'⟩:=s'
     have eg:g' = s.gens:=hm.gens
     have ed:d' = s.drawn:=hm.drawn
     have eo:os' = s.os:=hm.os
     subst eg; subst ed; subst eo
     show wpAny _ _ _ _ _ _
     refine wpAny_pure ?_
     show wpAny _ _ (ret Value.none) _ _ _
     refine wpAny_pure ⟨rfl,h',tk',rfl,hj,fun b o hb e => ?_⟩
     have b1:b ≠ s.heap.objs.size:=Nat.ne_of_lt hb
     have b2:b ≠ (s.heap.push { cls:=.type "set",dict:=none,data:=.set #[] 0 (.fresh 0 0 led) }).objs.size:=by rw [Heap.size_push]; exact Nat.ne_of_lt (Nat.lt_succ_of_lt hb)
     exact hm.heap b o (by simp only [List.mem_cons,List.mem_singleton,List.not_mem_nil,or_false,not_or]; exact ⟨b1,b2⟩) (Heap.get?_push_of_some _ (Heap.get?_push_of_some _ e))
   ·cases r2 with
    | error e => exact hr2
    | ok f2 =>
     cases f2 with
     | ret r =>
      obtain ⟨rfl,h',tk,rfl,hj,hk⟩:=hr2
      repeat (any_goals (first | assumption | wp_step))
      exact h _ _ hj hk
     | _ => exact hr2.elim
  | _ => exact hr.elim
end
end L2
namespace L2
open PySem PySem.Spec PyProof.Rows
theorem sti_owner:Manifest.owners.lookup (String.ofList ['r','o','t','a','r','e','t','i','_','t','e','s'].reverse)=some Manifest.sig_set_iterator:=by kernel_rfl
theorem sti_next:Slot "set_iterator" "__next__" "set_iterator.__next__" := .of (owner := "set_iterator") (n := "__next__") (by rw [typeLookup_type,builtinLookup_eq_fast]; kernel_rfl) (by decide +kernel) (by decide +kernel) (by decide +kernel) (by first | exact .inl (by decide +kernel) | exact .inr (by decide +kernel)) (by rw [isSubtype_type]; kernel_rfl)
theorem sti_entry:entryFor table "set_iterator.__next__" = some Builtin.«set_iterator.__next__»:=entryFor_of_tree (by kernel_rfl)
theorem sti_args (a:Value):argsOk "set_iterator.__next__" ⟨[a],[]⟩:=by
 unfold argsOk
 rw [signature?_of (id := "set_iterator.__next__") (n:=['_','_','t','x','e','n','_','_']) (o:=['r','o','t','a','r','e','t','i','_','t','e','s']) (by kernel_rfl) sti_owner]
 kernel_rfl
theorem sti_iter:Slot "set_iterator" "__iter__" "set_iterator.__iter__" := .of (owner := "set_iterator") (n := "__iter__") (by rw [typeLookup_type,builtinLookup_eq_fast]; kernel_rfl) (by decide +kernel) (by decide +kernel) (by decide +kernel) (by first | exact .inl (by decide +kernel) | exact .inr (by decide +kernel)) (by rw [isSubtype_type]; kernel_rfl)
theorem sti_iargs (a:Value):argsOk "set_iterator.__iter__" ⟨[a],[]⟩:=by
 unfold argsOk
 rw [signature?_of (id := "set_iterator.__iter__") (n:=['_','_','r','e','t','i','_','_']) (o:=['r','o','t','a','r','e','t','i','_','t','e','s']) (by kernel_rfl) sti_owner]
 kernel_rfl
theorem sti_ientry:entryFor table "set_iterator.__iter__" = some Builtin.«dict_keyiterator.__iter__» :=
 entryFor_alias (id' := "dict_keyiterator.__iter__") (by kernel_rfl) (by first | rfl | decide +kernel | (unfold String.splitOn; simp +decide [String.splitOnAux])) (by decide +kernel) (by kernel_rfl)
theorem st_ientry:entryFor table "set.__iter__" = some Builtin.«frozenset.__iter__»:=entryFor_alias (id' := "frozenset.__iter__") (by kernel_rfl) rfl (by decide +kernel) (by kernel_rfl)
theorem erase_perm {α:Type} : ∀ {l:List α} {i:Nat} (hi:i < l.length),(l[i] :: l.eraseIdx i).Perm l
 | [],i,hi => by simp at hi
 | a :: l,0,hi => .refl _
 | a :: l,i + 1,hi => by
  have hi' : i < l.length:=by simpa using hi
  have:=erase_perm hi'
  show (l[i] :: a :: l.eraseIdx i).Perm (a :: l)
  exact (List.Perm.swap ..).trans (this.cons a)
section
variable {prog:Program} {w:World} {A:Around} {E:Value→Shared→Prop} {s:Shared}
theorem choose_any {src:Source} {n:Nat} {Q:Nat→Shared→Prop} (hn:n ≠ 0) (h:∀ i d',i < n→Q i { s with drawn:=d' }):wpAny (model prog w) A (choose src n) Q E s:=fun Γ p _ => by
 show Sem.wp _ _ (.choose src n .pure) _ _ _ _
 rw [Sem.wp]
 refine ⟨hn,?_⟩
 rw [Sem.wp]
 exact h _ _ (Nat.mod_lt _ (by omega))
theorem drawOrder_perm {α:Type} : ∀ (n:Nat) (xs:List α) (s:Shared) {Q:List α→Shared→Prop},xs.length=n→(∀ ys d',ys.Perm xs→Q ys { s with drawn:=d' })→wpAny (model prog w) A (drawOrder n xs) Q E s
 | 0,xs,s,Q,hl,h => by
  have:xs=[]:=List.eq_nil_of_length_eq_zero hl
  subst this
  unfold drawOrder
  exact wpAny_pure (h [] s.drawn (.refl _))
 | n + 1,[],s,Q,hl,h => by simp at hl
 | n + 1,x :: xs,s,Q,hl,h => by
  unfold drawOrder
  refine wpAny_bind (choose_any (by simp) fun i d' hi => ?_)
  have e:(x :: xs)[i]? = some (x :: xs)[i]:=List.getElem?_eq_getElem hi
  rw [e]
  dsimp only
  refine wpAny_bind (drawOrder_perm n _ _ (by rw [List.length_eraseIdx_of_lt hi]; omega) fun ys d2 hp => wpAny_pure (h _ d2 ?_))
  have hq:((x :: xs)[i] :: (x :: xs).eraseIdx i).Perm (x :: xs):=(erase_perm hi)
  exact (hp.cons _).trans hq
end
theorem pick_go {α:Type} (next:Nat→Nat):∀ (fuel k:Nat) (left:List α) (out:Array α),left.length=fuel→(pickOrder.go next fuel k left out).toList.Perm (out.toList ++ left)
 | 0,k,left,out,h => by
  have:left=[]:=List.eq_nil_of_length_eq_zero h
  subst this
  unfold pickOrder.go
  simp
 | fuel + 1,k,left,out,h => by
  unfold pickOrder.go
  have hi:next k % left.length < left.length:=Nat.mod_lt _ (by omega)
  rw [List.getElem?_eq_getElem hi]
  dsimp only
  refine (pick_go next fuel (k + 1) _ _ (by rw [List.length_eraseIdx_of_lt hi]; omega)).trans ?_
  rw [Array.toList_push,List.append_assoc]
  exact (erase_perm hi).append_left _
theorem pick_perm {α:Type} (next:Nat→Nat) (xs:Array α):(pickOrder next xs).toList.Perm xs.toList:=by
 unfold pickOrder
 have:=pick_go next xs.size 0 xs.toList #[] (by simp)
 simpa using this
end L2
namespace L2
open PySem PySem.Spec PyProof.Rows
def setIt (S:Addr) (first:Value) (i n ep:Nat):Obj:={ cls:=.type "set_iterator",data:=.fields #[first,rawInt i,.ref S,rawInt n,rawInt ep] }
structure Order (w:World) (S:Addr) (es:Array (Int × Value)) (ep:Nat) (t:SetTable) (T:Addr) where
 ord:List Value
 first:Nat→Value
 tup:Option (Array Value)
 perm:ord.Perm (es.toList.map (·.2))
 how:(w.params.followText "set-order" = true∧tup=none∧(∀ i,first i=rawInt 0)∧ord=(pickOrder (w.params.setOrder S ep) es).toList.map (·.2)) ∨
  (w.params.followText "set-order" = false∧(!t.plain && decide (es.size > 1))=false∧tup=none∧(∀ i,first i=rawInt ((if i=0 then 0 else t.place.getD (i - 1) 0 + 1:Nat):Int))∧ord=es.toList.map (·.2)) ∨
  (w.params.followText "set-order" = false∧∃ ps:List Nat,tup=some (ps.map fun (i:Nat) => rawInt i).toArray∧ps.Perm (List.range es.size)∧(∀ i,first i = .ref T)∧ord=ps.filterMap fun i => (es[i]?).map (·.2))
def StI (S I T:Addr) (o:Obj) (n ep:Nat) (first:Nat→Value) (tup:Option (Array Value)) (i:Nat) (h:Heap):Prop :=
 h.get? S=some o∧h.get? I=some (setIt S (first i) i n ep)∧∀ ps,tup=some ps→h.get? T=some { cls:=.type "tuple",data:=.seq ps }
section
variable {prog:Program} {w:World} {A:Around} {E:Value→Shared→Prop} {s:Shared} {S I T:Addr} {o:Obj} {es:Array (Int × Value)} {ep:Nat} {t:SetTable}
theorem setNext_j {slot given:Nat} {Q:Option (Value × Nat)→Shared→Prop} (O:Order w S es ep t T) (hnt:O.tup=none) (ho:s.heap.get? S=some o) (hd:o.data = .set es ep t) (hf:t.fits es.size=true) (tb:TB t (!w.params.followText "set-order"))
  (hsl:O.first given=rawInt slot) (hg:given ≤ es.size)
  (h:∀ x,O.ord[given]? = some x→∀ nx:Nat,O.first (given + 1)=rawInt nx→Q (some (x,nx)) s) (h2:O.ord[given]? = none→Q none s):wpAny (model prog w) A (setNext S slot given ep) Q E s:=by
 unfold setNext
 refine wpAny_bind (wpAny_setState_of ho hd hf ?_)
 dsimp only
 unfold setsByText
 refine wpAny_bind (wpAny_bind (wpAny_askSetting (wpAny_pure ?_)))
 show wpAny _ _ (if w.params.followText "set-order" = true then _ else _) _ _ _
 rcases O.how with ⟨bt,_,hfi,hor⟩ | ⟨bt,dr,_,hfi,hor⟩ | ⟨bt,ps,ht,_⟩
 ·rw [if_pos bt,if_neg (by simp)]
  have e0:slot=0:=by
   have:=hfi given
   rw [hsl] at this
   simp [rawInt] at this
   omega
  subst e0
  refine wpAny_bind ?_
  unfold setWalk
  refine wpAny_bind (wpAny_setState_of ho hd hf ?_)
  dsimp only
  unfold setsByText
  refine wpAny_bind (wpAny_bind (wpAny_askSetting (wpAny_pure ?_)))
  show wpAny _ _ (if w.params.followText "set-order" = true then _ else _) _ _ _
  rw [if_pos bt]
  refine wpAny_bind (wpAny_askSetting (wpAny_pure (wpAny_pure ?_)))
  show Q (Option.map (fun e => (e.snd,0)) (pickOrder (w.params.setOrder S ep) es)[given]?) s
  have eo:O.ord[given]? = Option.map (·.2) (pickOrder (w.params.setOrder S ep) es)[given]?:=by rw [hor,List.getElem?_map,Array.getElem?_toList]
  cases hp:(pickOrder (w.params.setOrder S ep) es)[given]? with
  | none => rw [hp] at eo; exact h2 eo
  | some x => rw [hp] at eo; exact h _ eo 0 (hfi _)
 ·rw [if_neg (by rw [bt]; decide)]
  show wpAny _ _ (if (!t.plain && decide (es.size > 1))=true then _ else _) _ _ _
  rw [if_neg (by rw [dr]; decide)]
  have hled:t.led=true:=by rw [tb.led,bt]; rfl
  refine wpAny_bind ?_
  show wpAny _ _ (if (!t.led && !es.isEmpty)=true then _ else _) _ _ _
  rw [if_neg (by rw [hled]; simp)]
  refine wpAny_pure (wpAny_pure ?_)
  have psz:t.place.size=es.size:=by
   unfold SetTable.fits at hf
   simp at hf
   exact hf.1
  have hs2:slot=if given=0 then 0 else t.place.getD (given - 1) 0 + 1:=by
   have z:=hfi given
   rw [hsl] at z
   exact Int.ofNat.inj (Value.int.inj z).1
  have hbl:SetTable.below t.place slot=given:=below_next tb.up (by omega) hs2
  rw [hbl]
  have eo:O.ord[given]? = Option.map (·.2) es[given]?:=by rw [hor,List.getElem?_map,Array.getElem?_toList]
  by_cases hlt:given < es.size
  ·rw [Array.getElem?_eq_getElem hlt] at eo ⊢
   rw [Array.getElem?_eq_getElem (by omega:given < t.place.size)]
   refine h _ eo _ ?_
   rw [hfi]
   simp only [Nat.add_one_sub_one,Nat.add_eq_zero_iff,Nat.one_ne_zero,and_false,if_false]
   rw [Array.getD_eq_getD_getElem?,Array.getElem?_eq_getElem (by omega:given < t.place.size)]
   rfl
  ·rw [Array.getElem?_eq_none (by omega)] at eo ⊢
   exact h2 eo
 ·rw [hnt] at ht; cases ht
theorem stop_j {α:Type} {R:α→Shared→Prop} {Ex:Value→Shared→Prop} (hh:A.handled=none) (h:∀ e h',(∀ b ob,s.heap.get? b=some ob→h'.get? b=some ob)→(∃ ob,h'.get? e=some ob∧ob.cls = .type "StopIteration")→Ex (.ref e) { s with heap:=h' }) :
  wpAny (model prog w) A (newExc (.type "StopIteration") [] >>= fun e => (raiseNew e:Sem α)) R Ex s:=by
 refine wpAny_bind ?_
 simp only [newExc,newTuple]
 refine wpAny_bind (wpAny_newObj_type ?_ (by size_fits))
 refine wpAny_bind (m:=firstArgMember _ _) (wpAny_of_eq (a:=Value.none) (by first | rfl | (simp only [firstArgMember]; rfl)) ?_)
 refine wpAny_newObj_type ?_ (by size_fits)
 simp only [raiseNew]
 refine wpAny_bind (wpAny_handled ?_)
 rw [hh]
 exact wpAny_bind (wpAny_pure (wpAny_throw (h _ _ (fun b ob z => Heap.get?_push_of_some _ (Heap.get?_push_of_some _ z)) ⟨_,Heap.get?_push_size _ rfl,rfl⟩)))
theorem next_j (O:Order w S es ep t T) (hIS:I ≠ S) (hIT:I ≠ T) (hh:A.handled=none) (hd:o.data = .set es ep t) (hf:t.fits es.size=true) (tb:TB t (!w.params.followText "set-order")) {i:Nat} (hi:i ≤ es.size)
  (st:StI S I T o es.size ep O.first O.tup i s.heap) {Q:Option Value→Shared→Prop}
  (h:∀ x h',O.ord[i]? = some x→StI S I T o es.size ep O.first O.tup (i + 1) h'→(∀ b ob,b ≠ I→s.heap.get? b=some ob→h'.get? b=some ob)→Q (some x) { s with heap:=h' })
  (h2:∀ h',O.ord[i]? = none→(∀ b ob,b ≠ I→s.heap.get? b=some ob→h'.get? b=some ob)→Q none { s with heap:=h' }):wpAny (model prog w) A (pyNext (.ref I)) Q E s:=by
 obtain ⟨ho,hit,htp⟩:=st
 have hT:s.TypeIs (.ref I) "set_iterator" := ⟨_,hit,rfl⟩
 unfold pyNext
 refine wpAny_bind (wpAny_attempt (wpAny_callSpecial?_slot (name:=Str.ofString "__next__") hT sti_next (wpAny_call_entry sti_next hT sti_entry ?_ (sti_args _))))
 unfold Builtin.«set_iterator.__next__»
 refine wpAny_bind (wpAny_of_eq (a:=(Value.ref I,[])) rfl ?_)
 try dsimp only
 refine wpAny_bind (wpAny_fieldsOf hit rfl ?_)
 show wpAny _ _ (setEntries S >>= _) _ _ _
 refine wpAny_bind (wpAny_setEntries_of ho hd hf ?_)
 show wpAny _ _ (if (((es.size:Nat):Int) != ((es.size:Nat):Int))=true then _ else _) _ _ _
 rw [if_neg (by simp)]
 cases hfst:O.tup with
 | none =>
  have hcase:∃ slot:Nat,O.first i=rawInt slot:=by
   rcases O.how with ⟨_,_,hfi,_⟩ | ⟨_,_,_,hfi,_⟩ | ⟨_,ps,ht,_⟩
   ·exact ⟨0,hfi i⟩
   ·exact ⟨_,hfi i⟩
   ·rw [hfst] at ht; cases ht
  obtain ⟨slot,hsl⟩:=hcase
  rw [hsl] at hit ⊢
  show wpAny _ _ (setNext S slot i ep >>= _) _ _ _
  refine wpAny_bind (setNext_j O hfst ho hd hf tb hsl hi (fun x hx nx hnx => ?_) (fun hx => ?_))
  ·show wpAny _ _ (setField (Value.ref I) 0 (rawInt nx) >>= fun _ => setField (Value.ref I) 1 (rawInt ((i:Int) + 1)) >>= fun _ => ret x) _ _ _
   refine wpAny_bind (wpAny_setField_rec hit (by simp) fun h1 e1 b1 => wpAny_bind (wpAny_setField_rec (s:={ s with heap:=h1 }) e1 (by simp) fun h3 e3 b3 => wpAny_pure ⟨_,rfl,wpAny_pure ?_⟩))
   have kp:∀ b ob,b ≠ I→s.heap.get? b=some ob→h3.get? b=some ob:=fun b ob hb z => b3.extBut b ob hb (b1.extBut b ob hb z)
   refine h x h3 hx ⟨kp S _ (Ne.symm hIS) ho,?_,fun ps hp => by rw [hfst] at hp; cases hp⟩ kp
   rw [e3,hnx]
   simp [setIt]
  ·show wpAny _ _ (setField (Value.ref I) 2 Value.none >>= fun _ => newExc (Value.type "StopIteration") [] >>= fun e => raiseNew e) _ _ _
   refine wpAny_bind (wpAny_setField_rec hit (by simp) fun h1 e1 b1 => stop_j (s:={ s with heap:=h1 }) hh fun e h3 kp ⟨ob,hob,hc⟩ => ?_)
   refine wpAny_bind (wpAny_isInstance (T := "StopIteration") (b:=true) ⟨ob,hob,hc⟩ isSubtype_stop (wpAny_pure ?_))
   exact h2 h3 hx fun b ob hb z => kp b ob (b1.extBut b ob hb z)
 | some ps =>
  have hcase:O.first i = .ref T:=by
   rcases O.how with ⟨_,ht,_⟩ | ⟨_,_,ht,_⟩ | ⟨_,qs,ht,_,hfi,_⟩
   ·rw [hfst] at ht; cases ht
   ·rw [hfst] at ht; cases ht
   ·exact hfi i
  rw [hcase] at hit ⊢
  have hTo:=htp ps hfst
  obtain ⟨qs,eps,hqp,hfi,hor⟩:∃ qs:List Nat,ps=(qs.map fun (i:Nat) => rawInt i).toArray∧qs.Perm (List.range es.size)∧(∀ i,O.first i = .ref T)∧O.ord=qs.filterMap fun i => (es[i]?).map (·.2):=by
   rcases O.how with ⟨_,ht,_⟩ | ⟨_,_,ht,_⟩ | ⟨_,qs,ht,h3,h4,h5⟩
   ·rw [hfst] at ht; cases ht
   ·rw [hfst] at ht; cases ht
   ·rw [hfst] at ht; cases ht; exact ⟨qs,rfl,h3,h4,h5⟩
  have qin:∀ q ∈ qs,q < es.size:=fun q hq => List.mem_range.mp (hqp.mem_iff.mp hq)
  have ogt:∀ n:Nat,O.ord[n]? = (qs[n]?).bind fun q => (es[q]?).map (·.2):=by
   rw [hor]
   clear hor eps hqp hTo hfst
   induction qs with
   | nil => intro n; simp
   | cons q qs ih =>
    intro n
    have hq:=qin q List.mem_cons_self
    rw [List.filterMap_cons_some (b:=es[q].2) (by rw [Array.getElem?_eq_getElem hq]; rfl)]
    cases n with
    | zero => simp [Array.getElem?_eq_getElem hq]
    | succ n => simpa using ih (fun z hz => qin z (List.mem_cons_of_mem _ hz)) n
  show wpAny _ _ (seqItems? (Value.ref T) >>= _) _ _ _
  refine wpAny_bind (wpAny_seqItems hTo rfl ?_)
  have epi:ps[((i:Nat):Int).toNat]? = (qs[i]?).map fun (q:Nat) => rawInt q:=by rw [eps]; simp
  show wpAny _ _ (match ps[((i:Nat):Int).toNat]? with | some (Value.int place tok) => _ | some val => _ | none => _) _ _ _
  rw [epi]
  cases hqi:qs[i]? with
  | some q =>
   have hql:=qin q (List.mem_of_getElem? hqi)
   show wpAny _ _ (setNextDrawn S q ep >>= fun x => setField (Value.ref I) 1 (rawInt ((i:Int) + 1)) >>= fun _ => ret x) _ _ _
   refine wpAny_bind ?_
   unfold setNextDrawn
   refine wpAny_bind (wpAny_setState_of ho hd hf ?_)
   dsimp only
   rw [if_neg (by simp)]
   refine wpAny_bind (wpAny_pure ?_)
   rw [Array.getElem?_eq_getElem hql]
   refine wpAny_pure ?_
   show wpAny _ _ (setField (Value.ref I) 1 (rawInt ((i:Int) + 1)) >>= fun _ => ret es[q].2) _ _ _
   refine wpAny_bind (wpAny_setField_rec hit (by simp) fun h3 e3 b3 => wpAny_pure ⟨_,rfl,wpAny_pure ?_⟩)
   refine h _ h3 (by rw [ogt,hqi]; simp [Array.getElem?_eq_getElem hql]) ⟨b3.extBut S _ (Ne.symm hIS) ho,?_,fun qs' hp => b3.extBut T _ (Ne.symm hIT) (htp qs' hp)⟩ fun b ob hb z => b3.extBut b ob hb z
   rw [e3,hfi]
   simp [setIt]
  | none =>
   show wpAny _ _ (setField (Value.ref I) 0 (rawInt 0) >>= fun _ => setField (Value.ref I) 2 Value.none >>= fun _ => newExc (Value.type "StopIteration") [] >>= fun e => raiseNew e) _ _ _
   refine wpAny_bind (wpAny_setField_rec hit (by simp) fun h0 e0 b0 => wpAny_bind (wpAny_setField_rec (s:={ s with heap:=h0 }) e0 (by simp) fun h1 e1 b1 => stop_j (s:={ s with heap:=h1 }) hh fun e h3 kp ⟨ob,hob,hc⟩ => ?_))
   refine wpAny_bind (wpAny_isInstance (T := "StopIteration") (b:=true) ⟨ob,hob,hc⟩ isSubtype_stop (wpAny_pure ?_))
   exact h2 h3 (by rw [ogt,hqi]; rfl) fun b ob hb z => kp b ob (b1.extBut b ob hb (b0.extBut b ob hb z))
theorem order_len (O:Order w S es ep t T):O.ord.length=es.size:=by rw [O.perm.length_eq]; simp
theorem walks_j (O:Order w S es ep t T) (hIS:I ≠ S) (hIT:I ≠ T) (hh:A.handled=none) (hd:o.data = .set es ep t) (hf:t.fits es.size=true) (tb:TB t (!w.params.followText "set-order")) :
  Walks prog w A I [I,S,T] [I] es.size (fun i v => O.ord[i]? = some v) (fun i h => i ≤ es.size∧StI S I T o es.size ep O.first O.tup i h) where
 sub:=fun b hb => by rw [List.mem_singleton.mp hb]; simp
 frame:=fun i h h' x k => ⟨x.1,k S (by simp) _ x.2.1,k I (by simp) _ x.2.2.1,fun ps hp => k T (by simp) _ (x.2.2.2 ps hp)⟩
 item:=fun i s Q E hi x hQ => next_j O hIS hIT hh hd hf tb x.1 x.2 (fun v h' hv st kp => hQ v h' s.toks hv ⟨hi,st⟩ fun b ob hb z => kp b ob (by simpa using hb) z) (fun h' hn _ => by
  rw [List.getElem?_eq_none_iff,order_len O] at hn
  omega)
 done:=fun s Q E x hQ => next_j O hIS hIT hh hd hf tb x.1 x.2 (fun v h' hv _ _ => by
  have:=(List.getElem?_eq_some_iff.mp hv).1
  rw [order_len O] at this
  omega) (fun h' _ kp => hQ h' s.toks fun b ob hb z => kp b ob (by simpa using hb) z)
 self:=fun i s Q E x hQ => by
  have hT:s.TypeIs (.ref I) "set_iterator" := ⟨_,x.2.2.1,rfl⟩
  refine wpAny_pyIter_slot hT sti_iter (wpAny_call_entry sti_iter hT sti_ientry ?_ (sti_iargs _))
  show wpAny _ _ (ret (.ref I)) _ _ s
  exact wpAny_pure ⟨_,rfl, "set_iterator",_,hT,sti_next.lookup,hQ⟩
end
end L2
namespace L2
open PySem PySem.Spec PyProof.Rows
section
variable {prog:Program} {w:World} {A:Around} {E:Value→Shared→Prop} {s:Shared} {S I T:Addr} {o:Obj} {es:Array (Int × Value)} {ep:Nat} {t:SetTable}
theorem iter_j {Q:Value→Shared→Prop} (ho:s.heap.get? S=some o) (hx:o.ExactSet) (hd:o.data = .set es ep t) (hf:t.fits es.size=true) (hb:es.size < scanBound)
  (h:∀ (T I:Addr) (O:Order w S es ep t T) h' d',I ≠ S→I ≠ T→s.heap.objs.size ≤ I→(T=S ∨ s.heap.objs.size ≤ T)→StI S I T o es.size ep O.first O.tup 0 h'→(∀ b ob,s.heap.get? b=some ob→h'.get? b=some ob)→Q (.ref I) { s with heap:=h',drawn:=d' }) :
  wpAny (model prog w) A (pyIter (.ref S)) Q E s:=by
 have hT:s.TypeIs (.ref S) "set" := ⟨o,ho,hx.1⟩
 have hSl:S < s.heap.objs.size:=Heap.lt_size ho
 refine wpAny_pyIter_slot hT PySem.F.slot_set_iter (wpAny_call_entry PySem.F.slot_set_iter hT st_ientry ?_ (PySem.F.args_set_iter_1 _))
 unfold Builtin.«frozenset.__iter__» Builtin.Frozenset.slot0 slotArgs
 simp only [List.isEmpty_nil,Bool.not_true,Bool.false_eq_true,↓reduceIte,bind_assoc,List.length_nil,bne_self_eq_false]
 unfold Builtin.Frozenset.addrOf Builtin.Frozenset.sizeOf
 refine wpAny_bind (wpAny_pure ?_)
 try dsimp only
 refine wpAny_bind (wpAny_pure ?_)
 refine wpAny_bind (wpAny_bind (wpAny_setEntries_of ho hd hf (wpAny_pure ?_)))
 unfold setDrawn
 refine wpAny_bind (wpAny_bind (wpAny_setState_of ho hd hf ?_))
 dsimp only
 unfold setsByText
 refine wpAny_bind (wpAny_bind (wpAny_askSetting (wpAny_pure (wpAny_pure ?_))))
 show wpAny _ _ (if (!w.params.followText "set-order" && (!t.plain && decide (es.size > 1)))=true then _ else _) _ _ _
 have easy:∀ (O:Order w S es ep t S),O.tup=none→O.first 0=rawInt 0→wpAny (model prog w) A.in1 (do
   let first ← pure (rawInt 0)
   let e ← setEpoch S
   let z ← newFields "set_iterator" [first,rawInt 0,Value.ref S,rawInt es.size,rawInt e]
   ret z) (fun fin s' => ∃ v,fin=Fin.done (Flow.ret v)∧∃ T' r,s'.TypeIs v T'∧typeLookup (Value.type T') (Str.ofString "__next__")=pure (some r)∧Q v s') E s:=fun O ht hf0 => by
  refine wpAny_bind (wpAny_pure (wpAny_bind (wpAny_setEpoch_of ho hd hf ?_)))
  unfold newFields
  refine wpAny_bind (wpAny_newObj_type (wpAny_pure ⟨_,rfl, "set_iterator",_,⟨_,Heap.get?_push_size _ rfl,rfl⟩,sti_next.lookup,?_⟩))
  refine h S _ O _ s.drawn (Nat.ne_of_gt hSl) (Nat.ne_of_gt hSl) (Nat.le_refl _) (.inl rfl) ⟨Heap.get?_push_of_some _ ho,?_,fun ps hp => by rw [ht] at hp; cases hp⟩ (fun b ob z => Heap.get?_push_of_some _ z)
  rw [hf0]
  exact Heap.get?_push_size _ rfl
 cases bt:w.params.followText "set-order" with
 | true =>
  rw [if_neg (by simp)]
  exact easy ⟨_,fun _ => rawInt 0,none,(pick_perm _ es).map _,.inl ⟨bt,rfl,fun _ => rfl,rfl⟩⟩ rfl rfl
 | false =>
  cases dr:(!t.plain && decide (es.size > 1)) with
  | false =>
   rw [if_neg (by simp)]
   exact easy ⟨_,fun i => rawInt ((if i=0 then 0 else t.place.getD (i - 1) 0 + 1:Nat):Int),none,.refl _,.inr (.inl ⟨bt,dr,rfl,fun _ => rfl,rfl⟩)⟩ rfl rfl
  | true =>
   rw [if_pos (by simp)]
   refine wpAny_bind (drawOrder_perm es.size _ s (by simp) fun ps d' hp => ?_)
   refine wpAny_bind (wpAny_newTuple (wpAny_bind (wpAny_setEpoch_of (Heap.get?_push_of_some _ ho) hd hf ?_)) (hsz:=by rw [List.length_map,hp.length_eq,List.length_range]; exact fits_of_scanBound hb))
   unfold newFields
   refine wpAny_bind (wpAny_newObj_type (wpAny_pure ⟨_,rfl, "set_iterator",_,⟨_,Heap.get?_push_size _ rfl,rfl⟩,sti_next.lookup,?_⟩))
   have hpm:(ps.filterMap fun i => (es[i]?).map (·.2)).Perm (es.toList.map (·.2)):=by
    have e1:=hp.filterMap fun i => (es[i]?).map (·.2)
    have e2:(List.range es.size).filterMap (fun i => (es[i]?).map (·.2))=es.toList.map (·.2):=by
     rw [← List.map_filterMap,filterMap_getElem?_range]
    rw [e2] at e1
    exact e1
   refine h s.heap.objs.size _ ⟨_,fun _ => .ref s.heap.objs.size,some (ps.map fun (i:Nat) => rawInt i).toArray,hpm,.inr (.inr ⟨bt,ps,rfl,hp,fun _ => rfl,rfl⟩)⟩ _ d' ?_ ?_ ?_ (.inr (Nat.le_refl _)) ⟨Heap.get?_push_of_some _ (Heap.get?_push_of_some _ ho),Heap.get?_push_size _ rfl,fun qs hq => ?_⟩ (fun b ob z => Heap.get?_push_of_some _ (Heap.get?_push_of_some _ z))
   ·rw [Heap.size_push]; exact Nat.ne_of_gt (Nat.lt_succ_of_lt hSl)
   ·rw [Heap.size_push]; exact Nat.ne_of_gt (Nat.lt_succ_self _)
   ·rw [Heap.size_push]; exact Nat.le_succ _
   ·cases hq; exact Heap.get?_push_of_some _ (Heap.get?_push_size _ rfl)
theorem collect_set {R:List Value→Shared→Prop} (hh:A.handled=none) (ho:s.heap.get? S=some o) (hx:o.ExactSet) (hd:o.data = .set es ep t) (hf:t.fits es.size=true) (hb:es.size < scanBound) (tb:TB t (!w.params.followText "set-order"))
  (hR:∀ (vs:List Value) (h' : Heap) (tk:Nat) (d' : Drawn),vs.Perm (es.toList.map (·.2))→(∀ b ob,s.heap.get? b=some ob→h'.get? b=some ob)→R vs { s with heap:=h',toks:=tk,drawn:=d' }):wpAny (model prog w) A (collect (.ref S)) R E s:=by
 have hSl:S < s.heap.objs.size:=Heap.lt_size ho
 unfold collect
 refine wpAny_bind (wpAny_runValue (codeAny_builtin PySem.F.entry_proto_collect ?_))
 rw [Around.under_plainId PySem.F.plain_proto_collect _]
 show wpAny _ A.in1 (newList [] >>= fun q => again (.builtin "list.__iadd__" ⟨[q,.ref S],[]⟩)) _ _ s
 refine wpAny_bind (wpAny_newObj_type (wpAny_pure ⟨plainId_quiet PySem.F.plain_list_iadd _,codeAny_builtin PySem.F.entry_list_iadd ?_⟩))
 rw [Around.under_plainId PySem.F.plain_list_iadd _]
 have g2:(s.heap.push { cls:=.type "list",data:=.seq ([]:List Value).toArray }).get? s.heap.objs.size=some { cls:=.type "list",data:=.seq ([]:List Value).toArray }:=Heap.get?_push_size _ rfl
 have ho1:(s.heap.push { cls:=.type "list",data:=.seq ([]:List Value).toArray }).get? S=some o:=Heap.get?_push_of_some _ ho
 have g3:Builtin.List.listSameRef (.ref s.heap.objs.size) (.ref S)=false:=by simp [Builtin.List.listSameRef,Nat.ne_of_gt hSl]
 show wpAny _ A.in1 (Builtin.List.listExtendWith (.ref s.heap.objs.size) (.ref S) (.ref s.heap.objs.size)) _ _ _
 unfold Builtin.List.listExtendWith
 refine wpAny_bind (wpAny_typeOf (T := "set") ⟨o,ho1,hx.1⟩ ?_)
 rw [if_neg (by rw [g3]; decide)]
 refine wpAny_bind (iter_j ho1 hx hd hf hb fun T I O h1 d1 hIS hIT hIs hTs st kp => ?_)
 refine wpAny_bind (wpAny_holding ?_)
 unfold Builtin.List.listLengthHint
 refine wpAny_bind (wpAny_specialOf (T := "set") ⟨o,kp _ _ ho1,hx.1⟩ PySem.F.slot_set_len.lookup ?_)
 generalize hid:("set.__len__" : String)=id0
 wp_delta
 rw [show splitId id0=some ("set", "__len__") from by subst hid; decide +kernel]
 subst hid
 refine wpAny_bind (wpAny_isInstance (T := "set") (b:=true) ⟨o,kp _ _ ho1,hx.1⟩ (by rw [isSubtype_type]; kernel_rfl) ?_)
 refine wpAny_ite_split (fun z => absurd z (by decide)) (fun _ => ?_)
 refine wpAny_ite_split (fun _ => ?_) (fun z => absurd (by decide +kernel) z)
 refine wpAny_bind (wpAny_typeOf (T := "set") ⟨o,kp _ _ ho1,hx.1⟩ (wpAny_pure ?_))
 refine wpAny_ite_split (fun _ => ?_) (fun z => absurd (by decide +kernel) z)
 refine wpAny_bind (wpAny_rule (wpAny_bind ?_))
 have hIs' : s.heap.objs.size < I:=by rw [Heap.size_push] at hIs; exact hIs
 have hI0:I ≠ s.heap.objs.size:=Nat.ne_of_gt hIs'
 have hT0:T ≠ s.heap.objs.size:=by
  rcases hTs with z | z
  ·rw [z]; exact Nat.ne_of_lt hSl
  ·rw [Heap.size_push] at z; exact Nat.ne_of_gt z
 have hS0:S ≠ s.heap.objs.size:=Nat.ne_of_lt hSl
 have gl:=kp _ _ g2
 show wpAny _ _ (updateSeq s.heap.objs.size (·.push .none) >>= fun _ => updateSeq s.heap.objs.size (·.pop)) _ _ _
 refine wpAny_bind (wpAny_updateSeq gl rfl ?_)
 have gl2:=Heap.get?_update_self (Obj.mapSeq (·.push Value.none)) gl rfl
 refine wpAny_updateSeq (hz:=by seq_fits) gl2 rfl ?_
 have gl3:=Heap.get?_update_self (Obj.mapSeq (·.pop)) gl2 rfl
 have oth:∀ b ob,b ≠ s.heap.objs.size→h1.get? b=some ob→((h1.update s.heap.objs.size (Obj.mapSeq (·.push Value.none))).update s.heap.objs.size (Obj.mapSeq (·.pop))).get? b=some ob:=fun b ob hb z =>
  (Heap.get?_update_other _ _ (Ne.symm hb)).trans ((Heap.get?_update_other _ _ (Ne.symm hb)).trans z)
 have Wk:=(walks_j (prog:=prog) (A:=A.in1) O hIS hIT hh hd hf tb).toS
 refine wpAny_pure ⟨plainId_quiet PySem.F.plain_extend_loop _,codeAny_extend_loopS Wk (fits_of_scanBound hb) s.heap.objs.size (by simp [Ne.symm hI0,Ne.symm hT0,Ne.symm hS0]) _ es.size 0 _ #[] _ rfl (Nat.zero_le _)
  ⟨Nat.zero_le _,oth _ _ hS0 st.1,oth _ _ hI0 st.2.1,fun ps hp => oth _ _ hT0 (st.2.2 ps hp)⟩ gl3 (ItemsOf.nil _) fun s' acc' c' hm hS' hacc => ?_⟩
 show wpAny _ A (load s.heap.objs.size >>= _) _ _ s'
 refine wpAny_bind (wpAny_load hS' (wpAny_pure ?_))
 have ea:acc'.toList=O.ord:=by
  apply List.ext_getElem?
  intro i
  by_cases hi:i < es.size
  ·have hl:i < acc'.size:=by rw [hacc.1]; exact hi
   rw [Array.getElem?_toList,Array.getElem?_eq_getElem hl]
   exact (hacc.2 i _ (Array.getElem?_eq_getElem hl)).symm
  ·rw [List.getElem?_eq_none (by rw [Array.length_toList,hacc.1]; omega),List.getElem?_eq_none (by rw [order_len O]; omega)]
 rw [ea]
 have:=hR O.ord s'.heap s'.toks s'.drawn O.perm fun b ob z => ?_
 ·obtain ⟨h9,g9,d9,t9,o9⟩:=s'
  have eg:g9=s.gens:=hm.gens
  have eo:o9=s.os:=hm.os
  subst eg eo
  exact this
 ·have hb0:b < s.heap.objs.size:=Heap.lt_size z
  refine hm.heap b ob ?_ (oth b ob (Nat.ne_of_lt hb0) (kp b ob (Heap.get?_push_of_some _ z)))
  simp only [List.mem_cons,List.not_mem_nil,or_false,not_or]
  exact ⟨Nat.ne_of_lt hb0,Nat.ne_of_lt (Nat.lt_trans hb0 hIs')⟩
theorem sorted_set {ns:List Int} {Q:Value→Shared→Prop} (hh:A.handled=none) (hj:SetJ prog w s.heap S ns) (h64:ns.length < 64)
  (h:∀ (out:Array Value) (ms:List Int) (h1 h' : Heap) (tk:Nat) (d' : Drawn) (e:Nat),(∀ b ob,s.heap.get? b=some ob→h1.get? b=some ob)→(∀ b ob,h1.get? b=some ob→h'.get? b=some ob)→IntsAre out.toList ms→ms.Perm ns→ms.Pairwise (· ≤ ·)→h'.get? h1.objs.size=some (seqObj "list" out e)→Q (.ref h1.objs.size) { s with heap:=h',toks:=tk,drawn:=d' }) :
  wpAny (model prog w) A (call (.builtin "sorted") [.ref S]) Q E s:=by
 obtain ⟨o,es,ep,t,ho,hx,hd,_,⟨ms0,hi,hp⟩,hb,hf,tb⟩:=hj
 refine Calls.call_function_entry kind_sorted plain_sorted entry_sorted (args_sorted1 _) ?_
 unfold Builtin.«sorted»
 refine wpAny_bind (m:=checkCount "sorted" 1 1 _) (wpAny_pure (wpAny_bind (collect_set hh ho hx hd hf hb tb fun vs h1 tk d' hpv kp => ?_)))
 obtain ⟨ms,hI,hpm⟩:=intsAre_perm hpv hi
 have hl:vs.length < 64:=by rw [hI.length,hpm.length_eq,hp.length_eq]; exact h64
 refine wpAny_bind (wpAny_newList ?_)
 have hoL:(h1.push { cls:=.type "list",data:=.seq vs.toArray }).get? h1.objs.size=some (seqObj "list" vs.toArray 0):=Heap.get?_push_size _ rfl
 refine wpAny_bind (wpAny_holding (wpAny_call_entry slot_list_sort ⟨_,hoL,rfl⟩ entry_list_sort (list_sort_tree (s:={ s with heap:=h1.push { cls:=.type "list",data:=.seq vs.toArray },toks:=tk,drawn:=d' }) hoL hI hl fun out ms' a1 a2 a3 => ⟨_,rfl,?_⟩) (args_list_sort _)))
 obtain ⟨e,he⟩:=sortedHeap_at (out:=out) hoL
 refine wpAny_pure ⟨_,rfl,h out ms' h1 _ tk d' e kp (fun b ob z => ?_) a1 ((a2.trans hpm).trans hp) a3 he⟩
 have hlt:b < h1.objs.size:=Heap.lt_size z
 rw [sortedHeap_old (Nat.ne_of_lt hlt) (by rw [Heap.size_push]; exact Nat.lt_succ_of_lt hlt)]
 exact Heap.get?_push_of_some _ z
end
theorem Inv.keptD {X:Cx} {pins:List (Addr × Obj)} {σ:St} {H:Hp} {s:Shared} {h' : Heap} {t' : Nat} {d' : Drawn} (I:Inv X pins σ H s) (k:∀ b u,s.heap.get? b=some u→h'.get? b=some u):Inv X pins σ H { s with heap:=h',toks:=t',drawn:=d' } :=
 I.step (g':=s.gens) (d':=d') (ch:=[]) (fun _ z => nomatch z) (fun b o _ _ _ e _ => k b o e) (fun b o _ _ _ e _ => ⟨o.slots,k b o e⟩) (fun _ _ _ _ n => n) (fun b o _ e => ⟨o,k b o e⟩) (fun _ _ e => e) (fun _ _ _ e => e) (fun b ps e => ⟨#[],by rw [e]; simp⟩)
  (fun m hm => by obtain ⟨o,es,ep,ho,r⟩:=hm; exact ⟨o,es,ep,k _ o ho,r⟩) (I.hok.kept k) I.bare
theorem boot_set:bootBuiltins "set" = some (.type "set"):=by decide +kernel
theorem boot_sortedX:bootBuiltins "sorted" = some (.builtin "sorted"):=by decide +kernel
section
variable {X:Cx}
theorem pe_sortedSet {a:Expr} {ta:TE} {p p2 pos pos2:PySem.Pos} (hc:X.calm=true) (ha:PE X a ta) (hg:Gl X "sorted") (hm:X.mg "sorted" = none) (hg2:Gl X "set") (hm2:X.mg "set" = none) (hsa:starEach [a] X.env=[(false,eval a X.env)]:=by rfl) :
  PE X (.Call (.Name "sorted" p) [.Call (.Name "set" p2) [a] [] pos2] [] pos) (fun σ H Q => ta σ H fun x H1 => ∃ (l:Addr) (ns:List Int),x = .ref l∧SqL X.K H1 l (ns.map V.int)∧ns.length < 64 ∧
   ∀ (q:Addr) (ms:List Int),H1 q=none→ms.Perm (dd ns)→ms.Pairwise (· ≤ ·)→Q (.ref q) (upd H1 q (.lst (ms.map V.int)))):=by
 intro pins s σ H Q I h
 refine wpAny_Call_Name_kw (ld_blt I hg hm boot_sortedX ?_)
 refine PyProof.Rows.callWith_builtin1 (rest:=[]) ?_ rfl rfl
 show wpAny _ _ (spliced ((false,eval (.Call (.Name "set" p2) [a] [] pos2) X.env) :: [])) _ _ s
 refine Calls.spliced_cons (wpAny_Call_Name_kw (ld_blt I hg2 hm2 boot_set ?_))
 refine PyProof.Rows.callWith_type1 (rest:=[]) ?_ hsa rfl
 rw [hsa]
 show wpAny _ _ (spliced ((false,eval a X.env) :: [])) _ _ s
 refine Calls.spliced_cons (thn (ha pins s σ H _ I h) fun u s1 ⟨y,H1,I1,r1,l,ns,ey,hq,h64,q⟩ => Calls.spliced_nil ?_)
 subst ey
 cases r1
 obtain ⟨its,r,pl,hz⟩:=I1.list hq
 have hi:=intsAre_of r
 have hln:its.length=ns.length:=hi.length
 refine set_of_list (I1.ok.hd hc) pl.isList (by simpa using hi) (by simp [hln,scanBound]; omega) fun h2 tk hj hk => Calls.spliced_nil ?_
 have I2:Inv X pins σ H1 { s1 with heap:=h2,toks:=tk }:=I1.kept fun b ob z => hk b ob (Heap.lt_size z) z
 refine sorted_set (s:={ s1 with heap:=h2,toks:=tk }) (I1.ok.hd hc) hj (Nat.lt_of_le_of_lt (dd_len ns) h64) fun out ms h3 h4 tk4 d4 e kp3 kp4 hI hp hs he => ?_
 have I3:Inv X pins σ H1 { s1 with heap:=h3,toks:=tk,drawn:=d4 }:=I2.keptD kp3
 have hml:ms.length ≤ 63:=by rw [hp.length_eq]; have:=dd_len ns; omega
 refine ⟨.ref h3.objs.size,_,I3.laid (t':=tk4) (o:=.lst (ms.map V.int)) kp4 (Nat.le_refl _) ⟨?_,out.toList,e,vals_ints hI,?_⟩,rfl,q _ ms (I3.hok.fresh (Nat.le_refl _)) hp hs⟩
 ·rw [List.length_map]
  exact Nat.le_of_lt (small1000 (by omega))
 ·rw [he]
end
end L2
set_option maxHeartbeats 1000000
namespace L2
open PySem PySem.Spec PyProof.Rows
section
variable {X:Cx}
def tAsg3 (te:TE) (g1 g2 g3:TG):TS:=fun D σ H => te σ H fun x H1 => g1 x σ H1 fun σ1 H2 => g2 x σ1 H2 fun σ2 H3 => g3 x σ2 H3 D.nx
theorem ps_asg3 {t1 t2 t3 e:Expr} {te:TE} {g1 g2 g3:TG} {pos:PySem.Pos} (he:PE X e te) (h1:PG X t1 g1) (h2:PG X t2 g2) (h3:PG X t3 g3)
  (ha:(assignEach [t1,t2,t3] X.env).map (·.2)=[assign t1 X.env,assign t2 X.env,assign t3 X.env]:=by rfl) (hw:swappedStores [t1,t2,t3] e X.env=pure none:=by rfl) :
  PS X (.Assign [t1,t2,t3] e pos) (tAsg3 te g1 g2 g3):=by
 intro pins s σ H D I h
 refine wpAny_Assign_three (thn (he pins s σ H _ I h) fun v s1 ⟨x,G1,I1,r1,q1⟩ => ?_) ha hw
 refine thn (h1 pins s1 σ G1 x v _ I1 r1 q1) fun _ s2 ⟨σ2,G2,I2,q2⟩ => ?_
 refine thn (h2 pins s2 σ2 G2 x v _ I2 r1 q2) fun _ s3 ⟨σ3,G3,I3,q3⟩ => ?_
 exact thn (h3 pins s3 σ3 G3 x v _ I3 r1 q3) fun _ s4 q => q
end
theorem noFill_tup_mul:fillsNumberSlot (.type "tuple") "mul" = pure false :=
 PySem.fillsNumberSlot_seq (r:=some (.builtin "tuple.__rmul__")) F.slot_tuple_mul.lookup (by decide +kernel) F.slot_tuple_rmul.lookup (by decide +kernel)
theorem rep_tup:seqRepeat? (.type "tuple")=pure (some (.builtin "tuple.__mul__")):=by
 unfold seqRepeat?
 rw [PySem.seqSlot_of (T := "tuple") (name := "__mul__") F.slot_tuple_mul.lookup (by decide +kernel),PySem.seqSlot_of (T := "tuple") (name := "__rmul__") F.slot_tuple_rmul.lookup (by decide +kernel)]
 rfl
theorem rmul_tup (a:Int) (t:Tok) (l:Addr) (items:Array Value) (n:Nat) (d:Option Addr) (sl:Array (Option Value)) :
  Meets (Builtin.«int.__rmul__» ⟨[.int a t,.ref l],[]⟩) (fun _ R s => s.heap.get? l=some { cls:=.type "tuple",dict:=d,data:=.seq items n,slots:=sl }∧R (.ok (.ret Value.notImplemented)) s) :=
 .of_wp fun prog w A R s h => by obtain ⟨hp,g,d,tk,os⟩:=s; obtain ⟨hl,h⟩:=h; wp_walk; exact ⟨_,rfl,h⟩
theorem tup_mul1 (l:Addr) (items:Array Value) (n:Nat) (d:Option Addr) (sl:Array (Option Value)) (u:Tok) :
  Meets (Builtin.«tuple.__mul__» ⟨[.ref l,.int 1 u],[]⟩) (fun _ R s => s.heap.get? l=some { cls:=.type "tuple",dict:=d,data:=.seq items n,slots:=sl }∧R (.ok (.ret (.ref l))) s) :=
 .of_wp fun prog w A R s h => by
  obtain ⟨hp,g,d,tk,os⟩:=s; obtain ⟨hl,h⟩:=h
  wp_walk
  all_goals exact ⟨_,rfl,h⟩
theorem tup_mul2 (l:Addr) (items:Array Value) (n:Nat) (d:Option Addr) (sl:Array (Option Value)) (x:Int) (u:Tok) (h1:1 < x) (h2:x < 1000) (he:items.isEmpty=false) (hs:items.size ≤ 100) :
  Meets (Builtin.«tuple.__mul__» ⟨[.ref l,.int x u],[]⟩) (fun _ R s => s.heap.get? l=some { cls:=.type "tuple",dict:=d,data:=.seq items n,slots:=sl }∧R (.ok (.ret (.ref s.heap.objs.size))) { s with heap:=s.heap.push { cls:=.type "tuple",data:=.seq ((List.replicate x.toNat items).foldl (· ++ ·) #[]) } }) :=
 .of_wp fun prog w A R s h => by
  obtain ⟨hp,g,d,tk,os⟩:=s; obtain ⟨hl,h⟩:=h
  have m1:(items.size:Int) * x ≤ 100000:=by
   have a:(items.size:Int) ≤ 100:=by omega
   have b:0 ≤ (items.size:Int):=by omega
   calc (items.size:Int) * x ≤ 100 * x:=Int.mul_le_mul_of_nonneg_right a (by omega)
    _ ≤ 100000:=by omega
  wp_walk
  refine wpAny_ite_false (by rw [decide_eq_false (show ¬ x < -2 ^ 63 by omega),decide_eq_false (show ¬ x ≥ 2 ^ 63 by omega)]; rfl) ?_
  wp_walk
  rw [if_neg (show ¬ ((items.isEmpty || x == 1)=true) by rw [he,beq_eq_false_iff_ne.mpr (show x ≠ 1 by omega)]; decide)]
  dsimp only
  rw [if_neg (show ¬ ((decide (x ≤ 0) || items.isEmpty)=true) by rw [he,decide_eq_false (show ¬ x ≤ 0 by omega)]; decide)]
  rw [if_neg (show ¬ (items.size:Int) * x > (2 ^ 63 - 1) / 8 by omega)]
  rw [if_neg (show ¬ (Builtin.Tuple.tupleTooMany ((items.size:Int) * x)=true) from fun z => by
   have z:(sizeLine:Int) < (items.size:Int) * x:=of_decide_eq_true z
   exact absurd (Int.lt_of_lt_of_le z m1) (by decide))]
  have hsz:((List.replicate x.toNat items).foldl (fun x1 x2 => x1 ++ x2) #[]).size ≤ sizeLine:=by
   rw [AutoListH.size_joined,Array.size_empty,Nat.zero_add]
   have a:x.toNat * items.size ≤ 1000 * 100:=Nat.mul_le_mul (by omega) hs
   exact Nat.le_trans a (by decide)
  refine wpAny_bind (m:=Builtin.Tuple.tupleExact _) (wpAny_newObj_type ?_ hsz)
  exact wpAny_pure ⟨_,rfl,h⟩
theorem joined1 (v:Value):∀ (n:Nat) (acc:List Value),(List.replicate n #[v]).foldl (fun x1 x2 => x1 ++ x2) acc.toArray=(acc ++ List.replicate n v).toArray
 | 0,acc => by simp
 | n + 1,acc => by
  rw [List.replicate_succ,List.foldl_cons]
  have e:acc.toArray ++ #[v]=(acc ++ [v]).toArray:=by simp
  rw [e,joined1 v n (acc ++ [v]),List.append_assoc,List.replicate_succ]
  rfl
theorem vals_rep {x:V} {v:Value} (r:RelV x v):∀ n:Nat,Vals (List.replicate n x) (List.replicate n v)
 | 0 => .nil
 | n + 1 => by rw [List.replicate_succ,List.replicate_succ]; exact .cons r (vals_rep r n)
section
variable {X:Cx}
def rMulT1 (K:PySem.W.Frag):R2:=fun x y H Q => ∃ a i z,x = .ref a∧y = .int i∧SqT K H a [z]∧1 ≤ i∧i < 1000∧(i=1→Q (.ref a) H)∧(1 < i→∀ p,H p=none→Q (.ref p) (upd H p (.tup (List.replicate i.toNat z))))
theorem op_mulT1:OpR X (binaryOp .Mult) (rMulT1 X.K):=by
 intro pins s σ H x y v u Q I rx ry h
 obtain ⟨a,i,z,rfl,rfl,ha,h1,h2,q1,q2⟩:=h
 cases rx
 obtain ⟨t,rfl⟩:=ry
 obtain ⟨its,r1,p1,_⟩:=I.tuple ha
 obtain ⟨z',rfl,rz⟩:=vals1 r1
 obtain ⟨o,e,c,n,hd⟩:=p1
 obtain ⟨oc,od,odt,osl⟩:=o
 have c:oc = .type "tuple" := c
 have hd:odt = .seq #[z'] n:=hd
 subst c hd
 by_cases w1:i=1
 ·subst w1
  exact wpAny_binaryOp_repeat_ref (T := "tuple") (U := "int") (by decide) ⟨_,e,rfl⟩ (fun s' => typeIs_int s' 1 t) noFill_tup_mul F.fills_int_mul F.slot_int_rmul rep_tup F.slot_int_index.lookup
   (call_meets F.slot_int_rmul (typeIs_int s 1 t) F.entry_int_rmul (F.args_int_rmul_2 _ _) (rmul_tup 1 t a _ n _ _)
    ⟨e,rfl,⟨_,e,rfl⟩,call_meets F.slot_tuple_mul ⟨_,e,rfl⟩ F.entry_tuple_mul (F.args_tuple_mul_2 _ _) (tup_mul1 a _ n _ _ t) ⟨e,.ref a,H,I,rfl,q1 rfl⟩⟩)
 ·refine wpAny_binaryOp_repeat_ref (T := "tuple") (U := "int") (by decide) ⟨_,e,rfl⟩ (fun s' => typeIs_int s' i t) noFill_tup_mul F.fills_int_mul F.slot_int_rmul rep_tup F.slot_int_index.lookup
   (call_meets F.slot_int_rmul (typeIs_int s i t) F.entry_int_rmul (F.args_int_rmul_2 _ _) (rmul_tup i t a _ n _ _)
    ⟨e,rfl,⟨_,e,rfl⟩,call_meets F.slot_tuple_mul ⟨_,e,rfl⟩ F.entry_tuple_mul (F.args_tuple_mul_2 _ _) (tup_mul2 a _ n _ _ i t (by omega) h2 rfl (by show 1 ≤ 100; decide)) ⟨e,?_⟩⟩)
  have ej:(List.replicate i.toNat #[z']).foldl (fun x1 x2 => x1 ++ x2) #[]=(List.replicate i.toNat z').toArray:=joined1 z' i.toNat []
  rw [ej]
  refine ⟨.ref s.heap.objs.size,_,I.laid (t':=s.toks) (o:=.tup (List.replicate i.toNat z)) (fun b ob q => Heap.get?_push_of_some _ q) (Nat.le_refl _) ?_,rfl,q2 (by omega) _ (I.hok.fresh (Nat.le_refl _))⟩
  exact ⟨by rw [List.length_replicate]; exact Nat.le_trans (show i.toNat ≤ 1000 by omega) (by decide),_,vals_rep rz i.toNat,IsTup.new _ _⟩
end
end L2
namespace Toy
open PySem L2 PyProof.Rows
abbrev Wl:=List (Int × List Int)
def Adj:List (List Int)→Prop
 | a :: b :: r => a ≠ b∧Adj (b :: r)
 | _ => True
theorem adj_snoc:∀ {A:List (List Int)} {e:List Int},Adj A→(∀ l,A.getLast? = some l→l ≠ e)→Adj (A ++ [e])
 | [],e,_,_ => trivial
 | [a],e,_,h => ⟨h a rfl,trivial⟩
 | a :: b :: r,e,⟨h1,h2⟩,h => ⟨h1,adj_snoc (A:=b :: r) h2 fun l hl => h l (by rw [List.getLast?_cons_cons]; exact hl)⟩
structure Nrm (wd:Nat) (L:Wl):Prop where
 pos:∀ e ∈ L,1 ≤ e.1
 wid:∀ e ∈ L,e.2.length=wd
 adj:Adj (L.map (·.2))
theorem shStep_nrm {wd:Nat} {L:Wl} {e:Int × List Int} (h:Nrm wd L) (he:e.2.length=wd):Nrm wd (shStep L e):=by
 have snoc:0 < e.1→(∀ l,L.getLast? = some l→l.2 ≠ e.2)→Nrm wd (L ++ [e]):=fun hp hn => by
  refine ⟨fun d hd => ?_,fun d hd => ?_,?_⟩
  ·rcases List.mem_append.mp hd with z | z
   ·exact h.pos d z
   ·rw [List.mem_singleton.mp z]; omega
  ·rcases List.mem_append.mp hd with z | z
   ·exact h.wid d z
   ·rw [List.mem_singleton.mp z]; exact he
  ·rw [List.map_append]
   refine adj_snoc h.adj fun l hl => ?_
   rw [List.getLast?_map] at hl
   cases z:L.getLast? with
   | none => rw [z] at hl; cases hl
   | some l' => rw [z] at hl; cases hl; exact hn l' z
 unfold shStep
 split
 ·rename_i hp
  split
  ·rename_i l hl
   split
   ·rename_i hw
    have e0:=drop_get hl
    have hlm:l ∈ L:=List.mem_of_getLast? hl
    refine ⟨fun d hd => ?_,fun d hd => ?_,?_⟩
    ·rcases List.mem_append.mp hd with z | z
     ·exact h.pos d (List.dropLast_subset _ z)
     ·rw [List.mem_singleton.mp z]
      have:=h.pos l hlm
      show 1 ≤ e.1 + l.1
      omega
    ·rcases List.mem_append.mp hd with z | z
     ·exact h.wid d (List.dropLast_subset _ z)
     ·rw [List.mem_singleton.mp z]; exact he
    ·have ha:=h.adj
     rw [e0,List.map_append] at ha
     rw [List.map_append]
     show Adj (_ ++ [e.2])
     rw [← hw]
     exact ha
   ·rename_i hw
    exact snoc hp fun l' hl' => by rw [hl] at hl'; cases hl'; exact hw
  ·rename_i hl
   exact snoc hp fun l' hl' => by rw [hl] at hl'; cases hl'
 ·exact h
theorem shape_nrm {wd:Nat} {L:Wl} (h:∀ e ∈ L,e.2.length=wd):Nrm wd (shape L):=by
 have key:∀ (L acc:Wl),(∀ e ∈ L,e.2.length=wd)→Nrm wd acc→Nrm wd (L.foldl shStep acc):=by
  intro L
  induction L with
  | nil => intro acc _ h; exact h
  | cons x L ih => intro acc hL ha; exact ih _ (fun e he => hL e (List.mem_cons_of_mem _ he)) (shStep_nrm ha (hL x List.mem_cons_self))
 exact key L [] h ⟨fun e he => (by cases he),fun e he => (by cases he),trivial⟩
theorem shStep_tot {L:Wl} {e:Int × List Int} (he:0 ≤ e.1):tot (shStep L e)=tot L + e.1:=by
 unfold shStep
 split
 ·split
  ·rename_i l hl
   split
   ·have e0:=drop_get hl
    have:tot L=tot L.dropLast + l.1:=by
     rw [congrArg tot e0,tot_append,tot_cons,tot_nil]; omega
    rw [this,tot_append,tot_cons,tot_nil]
    show _ + (e.1 + l.1 + 0)=_
    omega
   ·rw [tot_append,tot_cons,tot_nil]; omega
  ·rw [tot_append,tot_cons,tot_nil]; omega
 ·omega
theorem shape_tot {L:Wl} (h:∀ e ∈ L,0 ≤ e.1):tot (shape L)=tot L:=by
 have key:∀ (L acc:Wl),(∀ e ∈ L,0 ≤ e.1)→tot (L.foldl shStep acc)=tot acc + tot L:=by
  intro L
  induction L with
  | nil => intro acc _; rw [List.foldl_nil,tot_nil]; omega
  | cons x L ih =>
   intro acc hL
   rw [List.foldl_cons,ih _ (fun e he => hL e (List.mem_cons_of_mem _ he)),shStep_tot (hL x List.mem_cons_self),tot_cons]
   omega
 have:=key L [] h
 rw [tot_nil] at this
 unfold shape
 omega
theorem tot_take_le {L:Wl} (h:∀ e ∈ L,1 ≤ e.1) (n:Nat):tot (L.take n) ≤ tot L:=by
 have e:tot L=tot (L.take n) + tot (L.drop n):=by rw [← tot_append,List.take_append_drop]
 have q:∀ M:Wl,(∀ e ∈ M,1 ≤ e.1)→0 ≤ tot M:=by
  intro M
  induction M with
  | nil => intro _; rw [tot_nil]; exact Int.le_refl _
  | cons x M ih =>
   intro hM
   rw [tot_cons]
   have:=hM x List.mem_cons_self
   have:=ih fun e he => hM e (List.mem_cons_of_mem _ he)
   omega
 have:=q (L.drop n) fun e he => h e (List.mem_of_mem_drop he)
 omega
theorem tot_nonneg' {M:Wl} (hM:∀ e ∈ M,1 ≤ e.1):0 ≤ tot M:=by
 have:=tot_take_le hM 0
 rw [List.take_zero,tot_nil] at this
 exact this
theorem tot_ge {L:Wl} (h:∀ e ∈ L,1 ≤ e.1) {e:Int × List Int} (he:e ∈ L):e.1 ≤ tot L:=by
 obtain ⟨i,hi⟩:=List.mem_iff_getElem?.mp he
 have a:=tot_take_le h (i + 1)
 rw [tot_succ hi] at a
 have b:=tot_nonneg' (M:=L.take i) fun e he => h e (List.mem_of_mem_take he)
 omega
def atW:Wl→Int→List Int
 | [],_ => []
 | (a,u) :: L,p => if p < a then u else atW L (p - a)
theorem atW_lt {a:Int} {u:List Int} {L:Wl} {p:Int} (h:p < a):atW ((a,u) :: L) p=u:=by unfold atW; rw [if_pos h]
theorem atW_ge {a:Int} {u:List Int} {L:Wl} {p:Int} (h:a ≤ p):atW ((a,u) :: L) p=atW L (p - a):=by
 conv => lhs; unfold atW
 rw [if_neg (by omega)]
theorem tot_pos0:∀ {M:Wl},(∀ e ∈ M,0 ≤ e.1)→0 ≤ tot M
 | [],_ => by rw [tot_nil]; exact Int.le_refl _
 | x :: M,h => by
  rw [tot_cons]
  have:=h x List.mem_cons_self
  have:=tot_pos0 (M:=M) fun e he => h e (List.mem_cons_of_mem _ he)
  omega
theorem atW_left:∀ {A:Wl} {B:Wl} {p:Int},(∀ e ∈ A,0 ≤ e.1)→0 ≤ p→p < tot A→atW (A ++ B) p=atW A p
 | [],B,p,h,h0,hp => by rw [tot_nil] at hp; omega
 | (a,u) :: A,B,p,h,h0,hp => by
  rw [tot_cons] at hp
  by_cases z:p < a
  ·rw [List.cons_append,atW_lt z,atW_lt z]
  ·rw [List.cons_append,atW_ge (by omega),atW_ge (by omega)]
   exact atW_left (fun e he => h e (List.mem_cons_of_mem _ he)) (by omega) (by have hp:p < a + tot A:=hp; omega)
theorem atW_right:∀ {A:Wl} {B:Wl} {p:Int},(∀ e ∈ A,0 ≤ e.1)→tot A ≤ p→atW (A ++ B) p=atW B (p - tot A)
 | [],B,p,h,hp => by rw [tot_nil,List.nil_append,Int.sub_zero]
 | (a,u) :: A,B,p,h,hp => by
  rw [tot_cons] at hp ⊢
  have hp:a + tot A ≤ p:=hp
  have:=tot_pos0 (M:=A) fun e he => h e (List.mem_cons_of_mem _ he)
  rw [List.cons_append,atW_ge (by omega),atW_right (fun e he => h e (List.mem_cons_of_mem _ he)) (by omega)]
  show atW B (p - a - tot A)=atW B (p - (a + tot A))
  rw [Int.sub_sub]
theorem nrm_one:∀ {A B:Wl},(∀ e ∈ A,1 ≤ e.1)→(∀ e ∈ B,1 ≤ e.1)→Adj (A.map (·.2))→Adj (B.map (·.2))→tot A=tot B→(∀ p,0 ≤ p→p < tot A→atW A p=atW B p)→A=B
 | [],[],_,_,_,_,_,_ => rfl
 | [],(b,v) :: B,_,hB,_,_,ht,_ => by
  rw [tot_nil,tot_cons] at ht
  have:=hB _ List.mem_cons_self
  have:=tot_pos0 (M:=B) fun e he => by have:=hB e (List.mem_cons_of_mem _ he); omega
  have ht:0=b + tot B:=ht
  have h1:1 ≤ b:=hB (b,v) List.mem_cons_self
  omega
 | (a,u) :: A,[],hA,_,_,_,ht,_ => by
  rw [tot_nil,tot_cons] at ht
  have:=tot_pos0 (M:=A) fun e he => by have:=hA e (List.mem_cons_of_mem _ he); omega
  have ht:a + tot A=0:=ht
  have h1:1 ≤ a:=hA (a,u) List.mem_cons_self
  omega
 | (a,u) :: A,(b,v) :: B,hA,hB,aA,aB,ht,hp => by
  have a1:1 ≤ a:=hA (a,u) List.mem_cons_self
  have b1:1 ≤ b:=hB (b,v) List.mem_cons_self
  have pA:=tot_pos0 (M:=A) fun e he => by have:=hA e (List.mem_cons_of_mem _ he); omega
  have pB:=tot_pos0 (M:=B) fun e he => by have:=hB e (List.mem_cons_of_mem _ he); omega
  rw [tot_cons,tot_cons] at ht
  have ht:a + tot A=b + tot B:=ht
  have tA:tot ((a,u) :: A)=a + tot A:=tot_cons _ _
  have e0:=hp 0 (by omega) (by omega)
  rw [atW_lt (by omega),atW_lt (by omega)] at e0
  subst e0
  have key:∀ {c d:Int} {w:List Int} {C D:Wl},1 ≤ c→c < d→(∀ e ∈ C,1 ≤ e.1)→c + tot C=d + tot D→0 ≤ tot D→Adj (((c,w) :: C).map (·.2))→(∀ p,0 ≤ p→p < c + tot C→atW ((c,w) :: C) p=atW ((d,w) :: D) p)→False:=by
   intro c d w C D c1 cd hC hcd pD aC hq
   cases C with
   | nil => rw [tot_nil] at hcd; omega
   | cons y C =>
    have y1:=hC y List.mem_cons_self
    have q:=hq c (by omega) (by omega)
    rw [atW_ge (Int.le_refl _),atW_lt cd,Int.sub_self] at q
    obtain ⟨m,z⟩:=y
    have y1:1 ≤ m:=y1
    rw [atW_lt (by omega)] at q
    exact aC.1 q.symm
  have hab:a=b:=by
   rcases Int.lt_trichotomy a b with z | z | z
   ·exact (key a1 z (fun e he => hA e (List.mem_cons_of_mem _ he)) ht pB aA fun p p0 p1 => hp p p0 (by omega)).elim
   ·exact z
   ·exact (key b1 z (fun e he => hB e (List.mem_cons_of_mem _ he)) ht.symm pA aB fun p p0 p1 => (hp p p0 (by omega)).symm).elim
  subst hab
  have tl:∀ {x:List Int} {C:List (List Int)},Adj (x :: C)→Adj C:=by
   intro x C h
   cases C with
   | nil => trivial
   | cons y C => exact h.2
  have:=nrm_one (A:=A) (B:=B) (fun e he => hA e (List.mem_cons_of_mem _ he)) (fun e he => hB e (List.mem_cons_of_mem _ he)) (tl aA) (tl aB) (by omega) fun p p0 p1 => by
   have q:=hp (a + p) (by omega) (by omega)
   rw [atW_ge (by omega),atW_ge (by omega),show a + p - a=p by omega] at q
   exact q
  rw [this]
theorem shStep_at {acc:Wl} {e:Int × List Int} {L:Wl} {p:Int} (ha:∀ x ∈ acc,0 ≤ x.1) (he:0 ≤ e.1) (h0:0 ≤ p):atW (shStep acc e ++ L) p=atW (acc ++ e :: L) p:=by
 obtain ⟨m,w⟩:=e
 have he:0 ≤ m:=he
 have two:∀ {l:Int} {q:Int},0 ≤ l→atW ((m + l,w) :: L) q=atW ((l,w) :: (m,w) :: L) q:=by
  intro l q hl
  by_cases z:q < l
  ·rw [atW_lt (by omega),atW_lt z]
  ·rw [atW_ge (L:=(m,w) :: L) (by omega)]
   by_cases z2:q - l < m
   ·rw [atW_lt (by omega),atW_lt z2]
   ·rw [atW_ge (by omega),atW_ge (by omega),show q - (m + l)=q - l - m by omega]
 have same:∀ {A B C:Wl},(∀ x ∈ A,0 ≤ x.1)→(∀ q,0 ≤ q→atW B q=atW C q)→atW (A ++ B) p=atW (A ++ C) p:=by
  intro A B C hA hq
  by_cases z:p < tot A
  ·rw [atW_left hA h0 z,atW_left hA h0 z]
  ·rw [atW_right hA (by omega),atW_right hA (by omega)]
   exact hq _ (by omega)
 unfold shStep
 split
 ·split
  ·rename_i l hl
   split
   ·rename_i hw
    have e0:=drop_get hl
    have hl0:0 ≤ l.1:=ha l (List.mem_of_getLast? hl)
    obtain ⟨l1,l2⟩:=l
    have hw:l2=w:=hw
    subst hw
    rw [congrArg (fun z => z ++ (m,l2) :: L) e0,List.append_assoc,List.append_assoc]
    exact same (fun x hx => ha x (List.dropLast_subset _ hx)) fun q _ => two hl0
   ·rw [List.append_assoc]; rfl
  ·rw [List.append_assoc]; rfl
 ·rename_i hn
  have m0:m=0:=by have : ¬ 0 < m:=hn; omega
  subst m0
  refine same ha fun q hq => ?_
  rw [atW_ge (by omega),Int.sub_zero]
theorem shape_at {L:Wl} {p:Int} (h:∀ e ∈ L,0 ≤ e.1) (h0:0 ≤ p):atW (shape L) p=atW L p:=by
 have pos:∀ {acc:Wl} {e:Int × List Int},(∀ x ∈ acc,0 ≤ x.1)→0 ≤ e.1→∀ x ∈ shStep acc e,0 ≤ x.1:=by
  intro acc e ha he x hx
  unfold shStep at hx
  split at hx
  ·split at hx
   ·rename_i l hl
    split at hx
    ·rcases List.mem_append.mp hx with z | z
     ·exact ha x (List.dropLast_subset _ z)
     ·rw [List.mem_singleton.mp z]
      have:=ha l (List.mem_of_getLast? hl)
      show 0 ≤ e.1 + l.1
      omega
    ·rcases List.mem_append.mp hx with z | z
     ·exact ha x z
     ·rw [List.mem_singleton.mp z]; exact he
   ·rcases List.mem_append.mp hx with z | z
    ·exact ha x z
    ·rw [List.mem_singleton.mp z]; exact he
  ·exact ha x hx
 have key:∀ (L acc:Wl),(∀ e ∈ L,0 ≤ e.1)→(∀ x ∈ acc,0 ≤ x.1)→atW (L.foldl shStep acc) p=atW (acc ++ L) p:=by
  intro L
  induction L with
  | nil => intro acc _ _; rw [List.foldl_nil,List.append_nil]
  | cons x L ih =>
   intro acc hL ha
   have hx:=hL x List.mem_cons_self
   rw [List.foldl_cons,ih _ (fun e he => hL e (List.mem_cons_of_mem _ he)) (pos ha hx)]
   exact shStep_at ha hx h0
 exact key L [] h fun x hx => (by cases hx)
end Toy
namespace L2
open PySem PySem.Spec PyProof.Rows
section
variable {prog:Program} {w:World} {A:Around} {E:Value→Shared→Prop} {s:Shared}
theorem nxT {it t:Addr} {i:Nat} {its:Array Value} {x:Value} {Q:Value→Shared→Prop} (st:s.heap.IsTupleIter it t i) (ht:s.heap.IsTuple t its) (hx:its[i]? = some x)
  (k:∀ h',h'.IsTupleIter it t (i + 1)→Heap.SameBut it s.heap h'→Q x { s with heap:=h' }):wpAny (model prog w) A (Builtin.SmallTypes.nextOf (.ref it)) Q E s:=by
 obtain ⟨o,e,c,d⟩:=id st
 obtain ⟨ot,et,_,m,dt⟩:=ht
 unfold Builtin.SmallTypes.nextOf
 refine wpAny_bind (wpAny_callSpecial?_slot (name:=Str.ofString "__next__") st.typeIs F.slot_tuple_iterator_next (wpAny_call_entry F.slot_tuple_iterator_next st.typeIs F.entry_tuple_iterator_next (show wpAny _ _ (field (.ref it) 0 >>= _) _ _ s from wpAny_bind (wpAny_field e d (x:=.ref t) rfl ?_)) (F.args_tuple_iterator_next_1 _)))
 show wpAny _ _ (if (Value.ref t == Value.none)=true then _ else _) _ _ s
 rw [if_neg (show ¬ (Value.ref t == Value.none)=true by intro z; exact Bool.false_ne_true z)]
 refine (show wpAny _ _ (field (.ref it) 1 >>= _) _ _ s from wpAny_bind (wpAny_field e d (x:=.int i 0) rfl (show wpAny _ _ (seqItems? (.ref t) >>= _) _ _ s from wpAny_bind (wpAny_seqItems et dt ?_))))
 simp only [Int.toNat_natCast,hx]
 refine wpAny_bind (wpAny_setField e d (by simp) (wpAny_pure ⟨x,rfl,wpAny_pure (k _ ⟨_,Heap.get?_update_self _ e (Obj.isFreed_of_fields (Obj.data_mapFields d _)),(Obj.cls_mapFields ..).trans c,?_⟩ (Heap.SameBut.update ..))⟩))
 rw [Obj.data_mapFields d]
 simp [rawInt]
theorem nxTe {it t:Addr} {i:Nat} {its:Array Value} {Q:Value→Shared→Prop} (hh:A.handled=none) (st:s.heap.IsTupleIter it t i) (ht:s.heap.IsTuple t its) (hx:its[i]? = none)
  (k:∀ h' e,Heap.ExtBut it s.heap h'→(∃ o,h'.get? e=some o∧o.cls = .type "StopIteration")→E (.ref e) { s with heap:=h' }):wpAny (model prog w) A (Builtin.SmallTypes.nextOf (.ref it)) Q E s:=by
 obtain ⟨o,e,c,d⟩:=id st
 obtain ⟨ot,et,_,m,dt⟩:=ht
 unfold Builtin.SmallTypes.nextOf
 refine wpAny_bind (wpAny_callSpecial?_slot (name:=Str.ofString "__next__") st.typeIs F.slot_tuple_iterator_next (wpAny_call_entry F.slot_tuple_iterator_next st.typeIs F.entry_tuple_iterator_next (show wpAny _ _ (field (.ref it) 0 >>= _) _ _ s from wpAny_bind (wpAny_field e d (x:=.ref t) rfl ?_)) (F.args_tuple_iterator_next_1 _)))
 show wpAny _ _ (if (Value.ref t == Value.none)=true then _ else _) _ _ s
 rw [if_neg (show ¬ (Value.ref t == Value.none)=true by intro z; exact Bool.false_ne_true z)]
 refine (show wpAny _ _ (field (.ref it) 1 >>= _) _ _ s from wpAny_bind (wpAny_field e d (x:=.int i 0) rfl (show wpAny _ _ (seqItems? (.ref t) >>= _) _ _ s from wpAny_bind (wpAny_seqItems et dt ?_))))
 simp only [Int.toNat_natCast,hx]
 refine wpAny_bind (wpAny_rule (wpAny_bind (wpAny_setField e d (by simp) (show wpAny _ _ (newExc (.type "StopIteration") [] >>= _) _ _ _ from wpAny_bind ?_))))
 simp only [newExc,newTuple]
 refine wpAny_bind (wpAny_newObj_type (wpAny_bind (m:=firstArgMember _ _) (wpAny_of_eq (a:=Value.none) (by first | rfl | (simp only [firstArgMember]; rfl)) (wpAny_newObj_type ?_ (by size_fits)))) (by size_fits))
 simp only [raiseNew]
 refine wpAny_bind (wpAny_handled ?_)
 first | rw [show A.in1.handled=none from hh] | rw [hh]
 exact wpAny_bind (wpAny_pure (wpAny_throw (k _ _ (((Heap.SameBut.update ..).extBut.push _).push _) ⟨_,Heap.get?_push_size _ rfl,rfl⟩)))
theorem zT_item {z TI TO i1 i2 l1 l2:Addr} {n1 n2:Nat} {xs ys:Array Value} {x y u v:Value} {Q:Value→Shared→Prop} (D:ZipApart z TI TO i1 i2 l1 l2) (hz:IsZip s.heap z TI TO .none) (hI:IsPair s.heap TI (.ref i1) (.ref i2)) (hO:IsPair s.heap TO u v)
  (s1:s.heap.IsTupleIter i1 l1 n1) (s2:s.heap.IsTupleIter i2 l2 n2) (t1:s.heap.IsTuple l1 xs) (t2:s.heap.IsTuple l2 ys) (ex:xs[n1]? = some x) (ey:ys[n2]? = some y)
  (k:∀ h',IsZip h' z TI TO (rawInt s.heap.objs.size)→IsPair h' TO x y→h'.IsTupleIter i1 l1 (n1 + 1)→h'.IsTupleIter i2 l2 (n2 + 1)→IsPair h' s.heap.objs.size x y→h'.objs.size=s.heap.objs.size + 1→(∀ c o,c ≠ z→c ≠ TO→c ≠ i1→c ≠ i2→s.heap.get? c=some o→h'.get? c=some o)→Q (.ref s.heap.objs.size) { s with heap:=h' }) :
  wpAny (model prog w) A (Builtin.«zip.__next__» ⟨[.ref z],[]⟩) (fun fin s' => ∃ r,fin = .done (.ret r)∧Q r s') E s:=by
 refine (show wpAny _ _ (field (.ref z) 2 >>= _) _ _ _ from wpAny_bind (wpAny_field hz rfl (x:=.bool false) rfl (show wpAny _ _ (field (.ref z) 3 >>= _) _ _ _ from wpAny_bind (wpAny_field hz rfl (x:=.ref TI) rfl (wpAny_bind (wpAny_seqItems hI rfl ?_))))))
 refine (show wpAny _ _ (Builtin.SmallTypes.ownedTupleIsFree (.ref z) >>= _) _ _ _ from wpAny_bind ?_)
 unfold Builtin.SmallTypes.ownedTupleIsFree
 refine wpAny_bind (wpAny_field hz rfl (x:=.none) rfl (wpAny_pure ?_))
 simp only [if_true]
 refine wpAny_bind (wpAny_rule (wpAny_bind (wpAny_field hz rfl (x:=.ref TO) rfl (wpAny_bind (wpAny_setField_rec hz (by simp) fun ha (za:IsZip ha z TI TO .ellipsis) ba => wpAny_bind ?_)))))
 simp only [List.zipIdx_cons,List.zipIdx_nil,List.forIn_cons,List.forIn_nil]
 refine wpAny_bind (wpAny_bind (wpAny_onRaise (show wpAny _ _ (Builtin.SmallTypes.nextOf (.ref i1) >>= _) _ _ _ from wpAny_bind (nxT (s1.extBut ba.extBut D.i1z) (t1.extBut ba.extBut D.l1z) ex fun hb sb bb => wpAny_pure ?_))))
 have Ob:IsPair hb TO u v:=bb.extBut _ _ D.TOi1 (ba.extBut _ _ D.TOz hO)
 refine wpAny_bind (wpAny_seqItems Ob rfl (wpAny_bind (wpAny_updateSeq_pair Ob fun hc (Oc:IsPair hc TO x v) bc => wpAny_bind (wpAny_letGo (wpAny_pure ?_)))))
 refine wpAny_bind (wpAny_bind (wpAny_onRaise (show wpAny _ _ (Builtin.SmallTypes.nextOf (.ref i2) >>= _) _ _ _ from wpAny_bind (nxT (((s2.extBut ba.extBut D.i2z).extBut bb.extBut D.i12.symm).extBut bc.extBut D.TOi2.symm) (((t2.extBut ba.extBut D.l2z).extBut bb.extBut D.l2i1).extBut bc.extBut D.l2TO) ey fun hd sd bd => wpAny_pure ?_))))
 have Od:IsPair hd TO x v:=bd.extBut _ _ D.TOi2 Oc
 refine wpAny_bind (wpAny_seqItems Od rfl (wpAny_bind (wpAny_updateSeq_pair Od fun he (Oe:IsPair he TO x y) be => wpAny_bind (wpAny_letGo (wpAny_pure (wpAny_pure (wpAny_bind (wpAny_seqItems Oe rfl (wpAny_bind (wpAny_newTuple ?_))))))))))
 have size:he.objs.size=s.heap.objs.size:=be.1.trans (bd.1.trans (bc.1.trans (bb.1.trans ba.1)))
 have ze:IsZip he z TI TO .ellipsis:=be.extBut _ _ D.TOz.symm (bd.extBut _ _ D.i2z.symm (bc.extBut _ _ D.TOz.symm (bb.extBut _ _ D.i1z.symm za)))
 have keep:∀ c o,c ≠ z→c ≠ TO→c ≠ i1→c ≠ i2→s.heap.get? c=some o→he.get? c=some o:=fun c o q1 q2 q3 q4 e => be.extBut _ _ q2 (bd.extBut _ _ q4 (bc.extBut _ _ q2 (bb.extBut _ _ q3 (ba.extBut _ _ q1 e))))
 have r1:he.IsTupleIter i1 l1 (n1 + 1):=((sb.extBut bc.extBut D.TOi1.symm).extBut bd.extBut D.i12).extBut be.extBut D.TOi1.symm
 have r2:he.IsTupleIter i2 l2 (n2 + 1):=sd.extBut be.extBut D.TOi2.symm
 have zlt:z < he.objs.size:=Heap.lt_size ze
 refine (show wpAny _ _ (Builtin.SmallTypes.ownedTupleHandOut (.ref z) (.ref he.objs.size) >>= _) _ _ _ from wpAny_bind ?_)
 unfold Builtin.SmallTypes.ownedTupleHandOut
 have zf:IsZip (he.push { cls:=.type "tuple",data:=.seq #[x,y] }) z TI TO .ellipsis:=Heap.get?_push_of_some _ ze
 refine wpAny_bind (wpAny_setField_rec zf (by simp) fun hg (zg:IsZip hg z TI TO (rawInt he.objs.size)) bg => wpAny_setField_rec zg (by simp) fun hk (zk:IsZip hk z TI TO (rawInt he.objs.size)) bk => ?_)
 have up:∀ c o,c ≠ z→he.get? c=some o→hk.get? c=some o:=fun c o q e => bk.extBut _ _ q (bg.extBut _ _ q (Heap.get?_push_of_some _ e))
 have Tk:IsPair hk he.objs.size x y:=bk.extBut _ _ (Nat.ne_of_gt zlt) (bg.extBut _ _ (Nat.ne_of_gt zlt) (Heap.get?_push_size _ rfl))
 have sk:hk.objs.size=he.objs.size + 1:=by rw [bk.1,bg.1,Heap.size_push]
 rw [size] at zk Tk sk
 refine wpAny_pure ⟨_,rfl,(show Q (.ref he.objs.size) _ from ?_)⟩
 rw [size]
 exact k hk zk (up _ _ D.TOz Oe) (r1.at fun o e => up _ o D.i1z e) (r2.at fun o e => up _ o D.i2z e) Tk sk fun c o q1 q2 q3 q4 e => up c o q1 (keep c o q1 q2 q3 q4 e)
theorem zT_end {z TI TO i1 i2 l1 l2:Addr} {n1 n2:Nat} {xs ys:Array Value} {u v:Value} {Q:Fin→Shared→Prop} (hh:A.handled=none) (D:ZipApart z TI TO i1 i2 l1 l2) (hz:IsZip s.heap z TI TO .none) (hI:IsPair s.heap TI (.ref i1) (.ref i2)) (hO:IsPair s.heap TO u v)
  (s1:s.heap.IsTupleIter i1 l1 n1) (s2:s.heap.IsTupleIter i2 l2 n2) (t1:s.heap.IsTuple l1 xs) (t2:s.heap.IsTuple l2 ys) (fin:xs[n1]? = none ∨ ys[n2]? = none)
  (k:∀ h' e,(∀ c o,c ≠ z→c ≠ TO→c ≠ i1→c ≠ i2→s.heap.get? c=some o→h'.get? c=some o)→(∃ o,h'.get? e=some o∧o.cls = .type "StopIteration")→E (.ref e) { s with heap:=h' }) :
  wpAny (model prog w) A (Builtin.«zip.__next__» ⟨[.ref z],[]⟩) Q E s:=by
 refine (show wpAny _ _ (field (.ref z) 2 >>= _) _ _ _ from wpAny_bind (wpAny_field hz rfl (x:=.bool false) rfl (show wpAny _ _ (field (.ref z) 3 >>= _) _ _ _ from wpAny_bind (wpAny_field hz rfl (x:=.ref TI) rfl (wpAny_bind (wpAny_seqItems hI rfl ?_))))))
 refine (show wpAny _ _ (Builtin.SmallTypes.ownedTupleIsFree (.ref z) >>= _) _ _ _ from wpAny_bind ?_)
 unfold Builtin.SmallTypes.ownedTupleIsFree
 refine wpAny_bind (wpAny_field hz rfl (x:=.none) rfl (wpAny_pure ?_))
 simp only [if_true]
 refine wpAny_bind (wpAny_rule (wpAny_bind (wpAny_field hz rfl (x:=.ref TO) rfl (wpAny_bind (wpAny_setField_rec hz (by simp) fun ha (za:IsZip ha z TI TO .ellipsis) ba => wpAny_bind ?_)))))
 simp only [List.zipIdx_cons,List.zipIdx_nil,List.forIn_cons,List.forIn_nil]
 refine wpAny_bind (wpAny_bind (wpAny_onRaise (show wpAny _ _ (Builtin.SmallTypes.nextOf (.ref i1) >>= _) _ _ _ from ?_)))
 cases ex:xs[n1]? with
 | none =>
  refine wpAny_bind (nxTe hh (s1.extBut ba.extBut D.i1z) (t1.extBut ba.extBut D.l1z) ex fun hb e bb ⟨oe,ge,ce⟩ => ?_)
  have zb:IsZip hb z TI TO .ellipsis:=bb _ _ D.i1z.symm za
  have ne:e ≠ z:=fun q => by subst q; rw [zb] at ge; cases ge; simp at ce
  exact wpAny_setField_rec zb (by simp) fun hc _ bc => k hc e (fun c o q1 _ q3 _ g => bc.extBut _ _ q1 (bb _ _ q3 (ba.extBut _ _ q1 g))) ⟨oe,bc.extBut _ _ ne ge,ce⟩
 | some x =>
  have ey:ys[n2]? = none:=fin.resolve_left (by rw [ex]; exact fun q => by cases q)
  refine wpAny_bind (nxT (s1.extBut ba.extBut D.i1z) (t1.extBut ba.extBut D.l1z) ex fun hb sb bb => wpAny_pure ?_)
  have Ob:IsPair hb TO u v:=bb.extBut _ _ D.TOi1 (ba.extBut _ _ D.TOz hO)
  refine wpAny_bind (wpAny_seqItems Ob rfl (wpAny_bind (wpAny_updateSeq_pair Ob fun hc Oc bc => wpAny_bind (wpAny_letGo (wpAny_pure (wpAny_bind (wpAny_bind (wpAny_onRaise (show wpAny _ _ (Builtin.SmallTypes.nextOf (.ref i2) >>= _) _ _ _ from wpAny_bind ?_)))))))))
  refine nxTe hh (((s2.extBut ba.extBut D.i2z).extBut bb.extBut D.i12.symm).extBut bc.extBut D.TOi2.symm) (((t2.extBut ba.extBut D.l2z).extBut bb.extBut D.l2i1).extBut bc.extBut D.l2TO) ey fun hd e bd ⟨oe,ge,ce⟩ => ?_
  have zd:IsZip hd z TI TO .ellipsis:=bd _ _ D.i2z.symm (bc.extBut _ _ D.TOz.symm (bb.extBut _ _ D.i1z.symm za))
  have ne:e ≠ z:=fun q => by subst q; rw [zd] at ge; cases ge; simp at ce
  exact wpAny_setField_rec zd (by simp) fun hf _ bf => k hf e (fun c o q1 q2 q3 q4 g => bf.extBut _ _ q1 (bd _ _ q4 (bc.extBut _ _ q2 (bb.extBut _ _ q3 (ba.extBut _ _ q1 g))))) ⟨oe,bf.extBut _ _ ne ge,ce⟩
theorem nextZT {z TI TO i1 i2 l1 l2:Addr} {n1 n2:Nat} {xs ys:Array Value} {x y u v:Value} {Q:Option Value→Shared→Prop} (D:ZipApart z TI TO i1 i2 l1 l2) (hz:IsZip s.heap z TI TO .none) (hI:IsPair s.heap TI (.ref i1) (.ref i2)) (hO:IsPair s.heap TO u v)
  (s1:s.heap.IsTupleIter i1 l1 n1) (s2:s.heap.IsTupleIter i2 l2 n2) (t1:s.heap.IsTuple l1 xs) (t2:s.heap.IsTuple l2 ys) (ex:xs[n1]? = some x) (ey:ys[n2]? = some y)
  (k:∀ h',IsZip h' z TI TO (rawInt s.heap.objs.size)→IsPair h' TO x y→h'.IsTupleIter i1 l1 (n1 + 1)→h'.IsTupleIter i2 l2 (n2 + 1)→IsPair h' s.heap.objs.size x y→h'.objs.size=s.heap.objs.size + 1→(∀ c o,c ≠ z→c ≠ TO→c ≠ i1→c ≠ i2→s.heap.get? c=some o→h'.get? c=some o)→Q (some (.ref s.heap.objs.size)) { s with heap:=h' }) :
  wpAny (model prog w) A (pyNext (.ref z)) Q E s:=by
 have ty:s.TypeIs (.ref z) "zip" := ⟨_,hz,rfl⟩
 unfold pyNext
 exact wpAny_bind (wpAny_attempt (wpAny_callSpecial?_slot (name:=Str.ofString "__next__") ty F.slot_zip_next (wpAny_call_entry F.slot_zip_next ty F.entry_zip_next (zT_item D hz hI hO s1 s2 t1 t2 ex ey fun h' b1 b2 b3 b4 b5 b6 b7 => wpAny_pure (k h' b1 b2 b3 b4 b5 b6 b7)) (F.args_zip_next_1 _))))
theorem nextZTe {z TI TO i1 i2 l1 l2:Addr} {n1 n2:Nat} {xs ys:Array Value} {u v:Value} {Q:Option Value→Shared→Prop} (hh:A.handled=none) (D:ZipApart z TI TO i1 i2 l1 l2) (hz:IsZip s.heap z TI TO .none) (hI:IsPair s.heap TI (.ref i1) (.ref i2)) (hO:IsPair s.heap TO u v)
  (s1:s.heap.IsTupleIter i1 l1 n1) (s2:s.heap.IsTupleIter i2 l2 n2) (t1:s.heap.IsTuple l1 xs) (t2:s.heap.IsTuple l2 ys) (fin:xs[n1]? = none ∨ ys[n2]? = none)
  (k:∀ h',(∀ c o,c ≠ z→c ≠ TO→c ≠ i1→c ≠ i2→s.heap.get? c=some o→h'.get? c=some o)→Q none { s with heap:=h' }):wpAny (model prog w) A (pyNext (.ref z)) Q E s:=by
 have ty:s.TypeIs (.ref z) "zip" := ⟨_,hz,rfl⟩
 unfold pyNext
 refine wpAny_bind (wpAny_attempt (wpAny_callSpecial?_slot (name:=Str.ofString "__next__") ty F.slot_zip_next (wpAny_call_entry F.slot_zip_next ty F.entry_zip_next (zT_end hh D hz hI hO s1 s2 t1 t2 fin fun h' e kp ⟨o,g,c⟩ => ?_) (F.args_zip_next_1 _))))
 exact wpAny_bind (wpAny_isInstance (T := "StopIteration") (b:=true) ⟨o,g,c⟩ isSubtype_stop (wpAny_pure (k _ kp)))
end
def zh (h:Heap) (l1 l2:Addr):Heap:=(((((h.push { cls:=.type "tuple_iterator",data:=.fields #[.ref l1,.int 0 0] }).push { cls:=.type "tuple_iterator",data:=.fields #[.ref l2,.int 0 0] }).push { cls:=.type "tuple",data:=.seq #[.ref h.objs.size,.ref (h.objs.size + 1)] }).push { cls:=.type "tuple",data:=.seq #[.none,.none] }).push { cls:=.type "zip",data:=.fields #[.none,.bool false,.bool false,.ref (h.objs.size + 2),.ref (h.objs.size + 3)] })
theorem newZT (l1 l2:Addr) (xs ys:Array Value) :
  Meets (Builtin.«zip.__new__» ⟨[.type "zip",.ref l1,.ref l2],[]⟩) (fun _ R s => s.heap.IsTuple l1 xs∧s.heap.IsTuple l2 ys∧R (.ok (.ret (.ref (s.heap.objs.size + 4)))) { s with heap:=zh s.heap l1 l2 }) :=
 .of_wp fun prog w A R s h => by
  obtain ⟨hp,g,d,tk,os⟩:=s
  obtain ⟨t1,t2,h⟩:=h
  have hsub:=sub_zip
  have T1:Heap.IsTuple (Shared.heap ⟨hp,g,d,tk,os⟩) l1 xs:=t1
  have T2:Heap.IsTuple (Shared.heap ⟨hp.push { cls:=.type "tuple_iterator",data:=.fields #[.ref l1,.int 0 0] },g,d,tk,os⟩) l2 ys:=Heap.IsTuple.push t2 _
  wp_walk using wpAny_pyIter_tuple T1,wpAny_pyIter_tuple T2
  refine ⟨_,rfl,?_⟩
  simp only [Heap.size_push]
  exact h
section
variable {prog:Program} {w:World} {A:Around} {E:Value→Shared→Prop} {s:Shared}
theorem callZT {l1 l2:Addr} {xs ys:Array Value} {Q:Value→Shared→Prop} (t1:s.heap.IsTuple l1 xs) (t2:s.heap.IsTuple l2 ys)
  (k:∀ h',IsZip h' (s.heap.objs.size + 4) (s.heap.objs.size + 2) (s.heap.objs.size + 3) .none→IsPair h' (s.heap.objs.size + 2) (.ref s.heap.objs.size) (.ref (s.heap.objs.size + 1))→IsPair h' (s.heap.objs.size + 3) .none .none→h'.IsTupleIter s.heap.objs.size l1 0→h'.IsTupleIter (s.heap.objs.size + 1) l2 0→(∀ c o,s.heap.get? c=some o→h'.get? c=some o)→Q (.ref (s.heap.objs.size + 4)) { s with heap:=h' }) :
  wpAny (model prog w) A (call (.type "zip") [.ref l1,.ref l2]) Q E s:=by
 refine callType_new F.called_zip (by decide) (F.typeCall_zip_2 _ _) (F.newCall_zip_2 _ _) (fun obj => F.args_object_init_3 obj _ _) F.entry_zip_new (newZT l1 l2 xs ys) ⟨t1,t2,?_⟩
 have ps:∀ {c:Addr} {o p:Obj} {h:Heap},h.get? c=some o→(h.push p).get? c=some o:=fun e => Heap.get?_push_of_some _ e
 have sz1:∀ (h:Heap) (p:Obj),(h.push p).objs.size=h.objs.size + 1:=fun h p => Heap.size_push ..
 have at0:∀ (h:Heap) (p:Obj) (n:Nat),h.objs.size=n→p.isFreed=false→(h.push p).get? n=some p:=fun h p n e f => by subst e; exact Heap.get?_push_size _ f
 have z5:(zh s.heap l1 l2).get? (s.heap.objs.size + 4)=some _:=at0 _ _ _ (by simp only [sz1]) rfl
 have z4:(zh s.heap l1 l2).get? (s.heap.objs.size + 3)=some _:=ps (at0 _ _ _ (by simp only [sz1]) rfl)
 have z3:(zh s.heap l1 l2).get? (s.heap.objs.size + 2)=some _:=ps (ps (at0 _ _ _ (by simp only [sz1]) rfl))
 have z2:(zh s.heap l1 l2).get? (s.heap.objs.size + 1)=some _:=ps (ps (ps (at0 _ _ _ (by simp only [sz1]) rfl)))
 have z1:(zh s.heap l1 l2).get? s.heap.objs.size=some _:=ps (ps (ps (ps (at0 _ _ _ rfl rfl))))
 exact ⟨⟨_,z5,rfl⟩,k _ z5 z3 z4 ⟨_,z1,rfl,rfl⟩ ⟨_,z2,rfl,rfl⟩ fun c o e => ps (ps (ps (ps (ps e))))⟩
end
def Itzt (K:PySem.W.Frag) (a b:Addr):It :=
 ⟨fun i H => ∃ xs ys x y,SqT K H a xs∧SqT K H b ys∧xs[i]? = some x∧ys[i]? = some y,
  fun i H v H' => ∃ p x y,v = .ref p∧H p=none∧H' = upd H p (.tup [x,y])∧(∀ xs,SqT K H a xs→xs[i]? = some x)∧(∀ ys,SqT K H b ys→ys[i]? = some y),
  fun i H => ∃ xs ys,SqT K H a xs∧SqT K H b ys∧(xs[i]? = none ∨ ys[i]? = none)⟩
def ZipAtT (z TI TO i1 i2 a b:Addr) (i:Nat) (h:Heap):Prop:=IsZip h z TI TO .none∧IsPair h TI (.ref i1) (.ref i2)∧(∃ u v,IsPair h TO u v)∧h.IsTupleIter i1 a i∧h.IsTupleIter i2 b i
theorem turn_zipT {P:Program} {w:World} {K:PySem.W.Frag} {es:List Expr} {k:Nat} {pos:PySem.Pos} (a b z TI TO i1 i2:Addr) (D:ZipApart z TI TO i1 i2 a b):Turn P w K (.Tuple es k pos) (Itzt K a b) [z,TI,TO,i1,i2] z (ZipAtT z TI TO i1 i2 a b) where
 mem:=by simp
 obj:=fun i h st c hc => by
  obtain ⟨hz,hTI,⟨u,v,hTO⟩,⟨o1,e1,c1,d1⟩,⟨o2,e2,c2,d2⟩⟩:=st
  simp only [List.mem_cons,List.not_mem_nil,or_false] at hc
  rcases hc with rfl | rfl | rfl | rfl | rfl
  ·exact ⟨_,hz,fun v q => by cases q⟩
  ·exact ⟨_,hTI,fun v q => by cases q⟩
  ·exact ⟨_,hTO,fun v q => by cases q⟩
  ·exact ⟨o1,e1,fun v q => by rw [d1] at q; cases q⟩
  ·exact ⟨o2,e2,fun v q => by rw [d2] at q; cases q⟩
 keep:=fun i h h' st q => by
  obtain ⟨hz,hTI,⟨u,v,hTO⟩,l1,l2⟩:=st
  exact ⟨q _ (by simp) _ hz,q _ (by simp) _ hTI,⟨u,v,q _ (by simp) _ hTO⟩,l1.at fun o e => q _ (by simp) o e,l2.at fun o e => q _ (by simp) o e⟩
 item:=by
  intro X hP hw hK hc i pins s σ H E I hf st hg
  subst hP hw hK
  obtain ⟨xs,ys,x,y,hq1,hq2,hx,hy⟩:=hg
  obtain ⟨hz,hTI,⟨u,v,hTO⟩,l1,l2⟩:=st
  obtain ⟨its1,rv1,p1,_⟩:=I.tuple hq1
  obtain ⟨its2,rv2,p2,_⟩:=I.tuple hq2
  obtain ⟨ux,hux,rux⟩:=rv1.get hx
  obtain ⟨uy,huy,ruy⟩:=rv2.get hy
  refine nextZT D hz hTI hTO l1 l2 p1 p2 (x:=ux) (y:=uy) (by simpa using hux) (by simpa using huy) fun h' z1 TO1 j1 j2 T1 sz kp => ?_
  refine ⟨_,rfl,wpAny_letOwnedTupleGo_zip z1 fun h2 z2 sb => ?_⟩
  have hzlt:z < s.heap.objs.size:=Heap.lt_size hz
  have hpz:s.heap.objs.size ≠ z:=Nat.ne_of_gt hzlt
  have T2:IsPair h2 s.heap.objs.size ux uy:=sb.extBut _ _ hpz T1
  have kp2:∀ c o,c ∉ [z,TI,TO,i1,i2]→s.heap.get? c=some o→h2.get? c=some o:=fun c o hc e => by
   simp only [List.mem_cons,List.not_mem_nil,or_false,not_or] at hc
   exact sb.extBut _ _ hc.1 (kp c o hc.1 hc.2.2.1 hc.2.2.2.1 hc.2.2.2.2 e)
  have I2:Inv X pins σ (upd H s.heap.objs.size (.tup [x,y])) { s with heap:=h2,toks:=s.toks }:=I.turnedNew kp2 hf (Nat.le_refl _) ⟨by show 2 ≤ sizeLine; decide,[ux,uy],.cons rux (.cons ruy .nil),⟨_,T2,rfl,_,rfl⟩⟩
  refine ⟨.ref s.heap.objs.size,_,I2,rfl,⟨_,x,y,rfl,I.hok.fresh (Nat.le_refl _),rfl,fun xs' h => ?_,fun ys' h => ?_⟩,⟨z2,?_,⟨ux,uy,?_⟩,?_,?_⟩,fun c hc => ?_⟩
  ·rw [I.tuple_inj h hq1]; exact hx
  ·rw [I.tuple_inj h hq2]; exact hy
  ·exact sb.extBut _ _ D.TIz (kp _ _ D.TIz D.TITO D.TIi1 D.TIi2 hTI)
  ·exact sb.extBut _ _ D.TOz TO1
  ·exact j1.at fun o e => sb.extBut _ _ D.i1z e
  ·exact j2.at fun o e => sb.extBut _ _ D.i2z e
  ·have hlt:c < s.heap.objs.size:=by
    simp only [List.mem_cons,List.not_mem_nil,or_false] at hc
    rcases hc with rfl | rfl | rfl | rfl | rfl
    ·exact hzlt
    ·exact Heap.lt_size hTI
    ·exact Heap.lt_size hTO
    ·obtain ⟨_,e,_⟩:=l1; exact Heap.lt_size e
    ·obtain ⟨_,e,_⟩:=l2; exact Heap.lt_size e
   rw [upd_ne (Nat.ne_of_lt hlt)]
   exact (hf c hc).1
 done:=by
  intro X hP hw hK hc i pins s σ H E I hf st hg
  subst hP hw hK
  obtain ⟨xs,ys,hq1,hq2,hend⟩:=hg
  obtain ⟨hz,hTI,⟨u,v,hTO⟩,l1,l2⟩:=st
  obtain ⟨its1,rv1,p1,_⟩:=I.tuple hq1
  obtain ⟨its2,rv2,p2,_⟩:=I.tuple hq2
  have e1:=rv1.length
  have e2:=rv2.length
  refine nextZTe (I.ok.hd hc) D hz hTI hTO l1 l2 p1 p2 (hend.imp (fun q => ?_) (fun q => ?_)) fun h' kp => ⟨rfl,I.turnedL (t':=s.toks) (ch:=[z,TI,TO,i1,i2]) (fun c o hc e => ?_) hf⟩
  ·rw [List.getElem?_eq_none_iff] at q
   simp
   omega
  ·rw [List.getElem?_eq_none_iff] at q
   simp
   omega
  ·simp only [List.mem_cons,List.not_mem_nil,or_false,not_or] at hc
   exact kp c o hc.1 hc.2.2.1 hc.2.2.2.1 hc.2.2.2.2 e
 self:=fun _ _ _ _ _ st h => wpAny_pyIter_zip st.1 h
section
variable {X:Cx}
def iZipT (K:PySem.W.Frag) (ta:TA):TI:=fun σ H R => ta σ H fun vs H1 => ∃ a b,vs=[.ref a,.ref b]∧(∃ xs,SqT K H1 a xs)∧(∃ ys,SqT K H1 b ys)∧R (Itzt K a b) H1
theorem pi_zipT {tes:List Expr} {tk:Nat} {tpos p pos:PySem.Pos} {a b:Expr} {ta:TA} (hg:Gl X "zip") (hm:X.mg "zip" = none) (ha:PA X [a,b] ta)
  (hs:starEach [a,b] X.env=[(false,eval a X.env),(false,eval b X.env)]:=by rfl) (hs2:starEach [b] X.env=[(false,eval b X.env)]:=by rfl):PI X (.Tuple tes tk tpos) (.Call (.Name "zip" p) [a,b] [] pos) (iZipT X.K ta):=by
 intro pins s σ H R I h
 refine wpAny_Call_Name_kw (ld_blt I hg hm boot_zip ?_)
 refine PyProof.Rows.callWith_type1 (thn (ha pos pins s σ H _ I h) fun us s1 ⟨vs,H1,I1,r1,l1,l2,e,⟨xs,hx⟩,⟨ys,hy⟩,q⟩ => ?_) (by rw [hs,hs2]) (by rw [hs2]; rfl)
 subst e
 obtain ⟨u1,u2,rfl,rfl,rfl⟩:=vals2 r1
 obtain ⟨its1,rv1,p1,_⟩:=I1.tuple hx
 obtain ⟨its2,rv2,p2,_⟩:=I1.tuple hy
 have a1:l1 < s1.heap.objs.size:=by obtain ⟨_,e,_⟩:=p1; exact Heap.lt_size e
 have a2:l2 < s1.heap.objs.size:=by obtain ⟨_,e,_⟩:=p2; exact Heap.lt_size e
 refine callZT p1 p2 fun h' hz hTI hTO hi1 hi2 kp => ?_
 refine wpAny_pyIter_zip hz ?_
 refine ⟨_,[_,_,_,_,_],_,_,H1,rfl,I1.kept (t':=s1.toks) kp,turn_zipT l1 l2 _ _ _ _ _ (zipApart_new a1 a2),⟨hz,hTI,⟨_,_,hTO⟩,hi1,hi2⟩,fun c hc => ?_,q⟩
 have hge:s1.heap.objs.size ≤ c:=by
  simp only [List.mem_cons,List.not_mem_nil,or_false] at hc
  rcases hc with rfl | rfl | rfl | rfl | rfl
  ·exact Nat.le_add_right _ _
  ·exact Nat.le_add_right _ _
  ·exact Nat.le_add_right _ _
  ·exact Nat.le_refl _
  ·exact Nat.le_add_right _ _
 exact I1.fpOk hge (I1.hok.fresh hge)
theorem compZT {K:PySem.W.Frag} {k n:Nat} {a b:Addr} {xs ys:List V} {g:TG} {tt:TT} {te:TE} {Q:VK} {σ:St} {H:Hp} (Pv:Nat→List V→Hp→Prop) (h0:Pv 0 [] H) (hn:n=min xs.length ys.length) (hb:n ≤ 1000) (hz:∀ i zs H,Pv i zs H→zs.length ≤ i) (hl:∀ i zs H,i ≤ n→Pv i zs H→SqT K H a xs∧SqT K H b ys)
  (hs:∀ i x y zs H (pre:St) (p:Addr),pre.length=k→xs[i]? = some x→ys[i]? = some y→Pv i zs H→H p=none→g (.ref p) (pre ++ σ) (upd H p (.tup [x,y])) fun σ' H2 => (∃ pre' : St,σ' = pre' ++ σ∧pre'.length=k)∧tt σ' H2 fun ok H3 => if ok=true then te σ' H3 fun y H4 => Pv (i + 1) (zs ++ [y]) H4 else Pv (i + 1) zs H3) (hd:∀ zs H,Pv n zs H→∀ D,H D=none→Q (.ref D) (upd H D (.lst zs))):CGo k (Itzt K a b) g tt te Q σ H:=by
 refine ⟨fun i m zs H => m=n - i∧i ≤ n∧Pv i zs H,⟨n,by simp,Nat.zero_le _,h0⟩,?_⟩
 rintro i m zs H ⟨rfl,hi,p⟩
 obtain ⟨q1,q2⟩:=hl i zs H hi p
 by_cases hlt:i < n
 ·have h1:i < xs.length:=by omega
  have h2:i < ys.length:=by omega
  refine .inr ⟨⟨xs,ys,xs[i],ys[i],q1,q2,by simp [h1],by simp [h2]⟩,Nat.lt_of_le_of_lt (hz i zs H p) (small1000 (by omega)),Pv (i + 1),fun zs H' p' => ⟨n - (i + 1),by omega,rfl,hlt,p'⟩,fun x H' pre hp y => ?_⟩
  obtain ⟨q,x1,y1,rfl,hq,rfl,e1,e2⟩:=y
  exact hs i x1 y1 zs _ pre q hp (e1 xs q1) (e2 ys q2) p hq
 ·have e:i=n:=by omega
  subst e
  refine .inl ⟨⟨xs,ys,q1,q2,?_⟩,hd zs H p⟩
  by_cases hx:xs.length ≤ ys.length
  ·exact .inl (List.getElem?_eq_none (by omega))
  ·exact .inr (List.getElem?_eq_none (by omega))
theorem for_zip {K:PySem.W.Frag} {a b:Addr} {n:Nat} {xs ys:List V} {g:TG} {tb:TS} {D:Ends} {σ:St} {H:Hp} (Pv:Nat→St→Hp→Prop) (h0:Pv 0 σ H) (hn:n=min xs.length ys.length) (hl:∀ i σ H,i ≤ n→Pv i σ H→SqL K H a xs∧SqL K H b ys)
  (hs:∀ i x y σ H (p:Addr),xs[i]? = some x→ys[i]? = some y→Pv i σ H→H p=none→g (.ref p) σ (upd H p (.tup [x,y])) fun σ2 H2 => tb { D with nx:=Pv (i + 1),ct:=Pv (i + 1),bk:=D.nx } σ2 H2) (hd:∀ σ H,Pv n σ H→D.nx σ H) :
  ∃ W:Nat→Nat→St→Hp→Prop,(∃ m,W 0 m σ H)∧∀ i m σ H,W i m σ H →
   ((Itz K a b).stop i H∧D.nx σ H) ∨ ((Itz K a b).go i H∧∃ N:St→Hp→Prop,(∀ σ' H',N σ' H'→∃ m',m' < m∧W (i + 1) m' σ' H')∧∀ x H',(Itz K a b).yld i H x H'→g x σ H' fun σ2 H2 => tb { D with nx:=N,ct:=N,bk:=D.nx } σ2 H2):=by
 refine ⟨fun i m σ H => m=n - i∧i ≤ n∧Pv i σ H,⟨n,by simp,Nat.zero_le _,h0⟩,?_⟩
 rintro i m σ H ⟨rfl,hi,p⟩
 obtain ⟨q1,q2⟩:=hl i σ H hi p
 by_cases hlt:i < n
 ·have h1:i < xs.length:=by omega
  have h2:i < ys.length:=by omega
  refine .inr ⟨⟨xs,ys,xs[i],ys[i],q1,q2,by simp [h1],by simp [h2]⟩,Pv (i + 1),fun σ' H' p' => ⟨n - (i + 1),by omega,rfl,hlt,p'⟩,fun x H' y => ?_⟩
  obtain ⟨q,x1,y1,rfl,hq,rfl,e1,e2⟩:=y
  exact hs i x1 y1 σ _ q (e1 xs q1) (e2 ys q2) p hq
 ·have e:i=n:=by omega
  subst e
  refine .inl ⟨⟨xs,ys,q1,q2,?_⟩,hd σ H p⟩
  by_cases hx:xs.length ≤ ys.length
  ·exact .inl (List.getElem?_eq_none (by omega))
  ·exact .inr (List.getElem?_eq_none (by omega))
end
end L2
namespace L2
open PySem PySem.Spec PyProof.Rows
section
variable {κ:Type} [DecidableEq κ]
def valV (kvs:List (κ × V)) (k:κ):Option V:=(kvs.find? fun kv => decide (kv.1=k)).map (·.2)
def putK (kvs:List (κ × V)) (k:κ) (v:V):List (κ × V) :=
 if (kvs.any fun kv => decide (kv.1=k))=true then kvs.map (fun kv => if kv.1=k then (kv.1,v) else kv) else kvs ++ [(k,v)]
theorem valV_nil {k:κ} : valV ([]:List (κ × V)) k=none:=rfl
theorem valV_pos {p:κ × V} {r:List (κ × V)} {k:κ} (e:p.1=k):valV (p :: r) k=some p.2:=by simp [valV,List.find?_cons,e]
theorem valV_neg {p:κ × V} {r:List (κ × V)} {k:κ} (e : ¬ p.1=k):valV (p :: r) k=valV r k:=by simp [valV,List.find?_cons,e]
theorem valV_any (k:κ):∀ kvs:List (κ × V),(kvs.any fun kv => decide (kv.1=k))=(valV kvs k).isSome
 | [] => rfl
 | p :: r => by
  rw [List.any_cons]
  by_cases e:p.1=k
  ·simp only [valV_pos e,decide_eq_true e,Bool.true_or,Option.isSome_some]
  ·rw [valV_neg e,decide_eq_false e,Bool.false_or]; exact valV_any k r
theorem valV_map (k j:κ) (y:V):∀ kvs:List (κ × V),valV (kvs.map fun kv => if kv.1=k then (kv.1,y) else kv) j=(valV kvs j).map fun x => if j=k then y else x
 | [] => rfl
 | p :: r => by
  have ih:=valV_map k j y r
  rw [List.map_cons]
  by_cases h:p.1=k
  ·rw [if_pos h]
   by_cases e:p.1=j
   ·rw [valV_pos (p:=(p.1,y)) e,valV_pos e,Option.map_some,if_pos (e.symm.trans h)]
   ·rw [valV_neg (p:=(p.1,y)) e,valV_neg e,ih]
  ·rw [if_neg h]
   by_cases e:p.1=j
   ·rw [valV_pos (p:=p) e,valV_pos e,Option.map_some,if_neg (fun z => h (e.trans z))]
   ·rw [valV_neg (p:=p) e,valV_neg e,ih]
theorem valV_snoc (k j:κ) (y:V):∀ kvs:List (κ × V),valV kvs k=none→valV (kvs ++ [(k,y)]) j=if j=k then some y else valV kvs j
 | [],_ => by
  by_cases e:k=j
  ·rw [if_pos e.symm]; exact valV_pos (p:=(k,y)) e
  ·rw [if_neg (fun z => e z.symm)]; exact valV_neg (p:=(k,y)) e
 | p :: r,hn => by
  rw [List.cons_append]
  have hk : ¬ p.1=k:=fun z => by rw [valV_pos z] at hn; cases hn
  rw [valV_neg hk] at hn
  have ih:=valV_snoc k j y r hn
  by_cases e:p.1=j
  ·rw [valV_pos e,valV_pos e,if_neg (fun z => hk (e.trans z))]
  ·rw [valV_neg e,valV_neg e,ih]
theorem valV_put (kvs:List (κ × V)) (k j:κ) (y:V):valV (putK kvs k y) j=if j=k then some y else valV kvs j:=by
 unfold putK
 by_cases a:(kvs.any fun kv => decide (kv.1=k))=true
 ·rw [if_pos a,valV_map]
  rw [valV_any] at a
  by_cases e:j=k
  ·obtain ⟨x,hx⟩:=Option.isSome_iff_exists.mp a
   rw [if_pos e,e,hx,Option.map_some,if_pos rfl]
  ·rw [if_neg e]
   cases valV kvs j with
   | none => rfl
   | some x => rw [Option.map_some,if_neg e]
 ·rw [if_neg a]
  refine valV_snoc k j y kvs ?_
  rw [valV_any] at a
  cases q:valV kvs k with
  | none => rfl
  | some x => rw [q] at a; exact (a rfl).elim
theorem length_putK (kvs:List (κ × V)) (k:κ) (v:V):(putK kvs k v).length ≤ kvs.length + 1:=by
 unfold putK
 split
 ·rw [List.length_map]; omega
 ·rw [List.length_append,List.length_cons,List.length_nil]; omega
theorem putK_new {kvs:List (κ × V)} {k:κ} (v:V) (h:valV kvs k=none):putK kvs k v=kvs ++ [(k,v)]:=by
 unfold putK
 rw [valV_any,h]
 exact if_neg (by decide)
theorem RelO.isSome_eq {o:Option V} {u:Option Value} (r:RelO o u):o.isSome=u.isSome:=by
 cases o with
 | none => cases u with
  | none => rfl
  | some _ => exact (show False from r).elim
 | some _ => cases u with
  | none => exact (show False from r).elim
  | some _ => rfl
theorem RelO.getD {o:Option V} {u:Option Value} {d:V} {d' : Value} (r:RelO o u) (rd:RelV d d'):RelV (o.getD d) (u.getD d'):=by
 cases o with
 | none => cases u with
  | none => exact rd
  | some _ => exact (show False from r).elim
 | some _ => cases u with
  | none => exact (show False from r).elim
  | some _ => exact r
theorem KV.val {kvs:List (κ × V)} {vs:List (κ × Value)} (r:KV kvs vs) (k:κ):RelO (valV kvs k) (valueAt vs k):=by
 unfold KV at r
 induction r with
 | nil => exact True.intro
 | @cons p q ps qs h t ih =>
  obtain ⟨h1,h2⟩:=h
  by_cases e:p.1=k
  ·have e' : q.1=k:=h1.symm.trans e
   have b:valueAt (q :: qs) k=some q.2:=by simp [valueAt,List.find?_cons,e']
   rw [valV_pos e,b]; exact h2
  ·have e' : ¬ q.1=k:=fun z => e (h1.trans z)
   have b:valueAt (q :: qs) k=valueAt qs k:=by simp [valueAt,List.find?_cons,e']
   rw [valV_neg e,b]; exact ih
theorem KV.any {kvs:List (κ × V)} {vs:List (κ × Value)} (r:KV kvs vs) (k:κ):(kvs.any fun kv => decide (kv.1=k))=vs.any fun kv => decide (kv.1=k):=by
 unfold KV at r
 induction r with
 | nil => rfl
 | cons h t ih => rw [List.any_cons,List.any_cons,ih,h.1]
theorem KV.repl {kvs:List (κ × V)} {vs:List (κ × Value)} (r:KV kvs vs) (k:κ) {y:V} {u:Value} (ry:RelV y u) :
  KV (kvs.map fun kv => if kv.1=k then (kv.1,y) else kv) (vs.map fun kv => if kv.1=k then (kv.1,u) else kv):=by
 unfold KV at r ⊢
 induction r with
 | nil => exact .nil
 | @cons p q ps qs h t ih =>
  rw [List.map_cons,List.map_cons]
  refine .cons ?_ ih
  obtain ⟨h1,h2⟩:=h
  by_cases e:p.1=k
  ·rw [if_pos e,if_pos (h1.symm.trans e)]; exact ⟨h1,ry⟩
  ·rw [if_neg e,if_neg (fun z => e (h1.trans z))]; exact ⟨h1,h2⟩
theorem KV.put {kvs:List (κ × V)} {vs:List (κ × Value)} (r:KV kvs vs) (k:κ) {y:V} {u:Value} (ry:RelV y u):KV (putK kvs k y) (stored vs k u):=by
 unfold putK stored
 rw [r.any k]
 by_cases e:(vs.any fun kv => decide (kv.1=k))=true
 ·rw [if_pos e,if_pos e]; exact r.repl k ry
 ·rw [if_neg e,if_neg e]; exact Paired.snoc r ⟨rfl,ry⟩
theorem KV.keys {kvs:List (κ × V)} {vs:List (κ × Value)} (r:KV kvs vs):kvs.map (·.1)=vs.map (·.1):=by
 unfold KV at r
 induction r with
 | nil => rfl
 | cons h t ih => rw [List.map_cons,List.map_cons,ih,h.1]
theorem KV.length {kvs:List (κ × V)} {vs:List (κ × Value)} (r:KV kvs vs):kvs.length=vs.length:=Paired.length r
end
theorem kV_is {P:Program} {w:World} {k:Key} {u:Value} (r:RelV (kV k) u):(mixKind P w).is k u=true:=by
 cases k with
 | inl i => obtain ⟨t,e⟩:=(show ∃ t,u=Value.int i t from r); subst e; exact mixKind_int P w i t
 | inr x => obtain ⟨t,e⟩:=(show ∃ t,u=Value.str x t from r); subst e; exact mixKind_str P w x t
theorem items_are {P:Program} {w:World} : ∀ {ks:List Key} {us:List Value},Vals (ks.map kV) us→ItemsAre (mixKind P w) ks us
 | [],_,r => by rw [List.map_nil] at r; cases r; exact .nil
 | k :: ks,_,r => by
  rw [List.map_cons] at r
  cases r with
  | cons h t => exact .cons (kV_is h) (items_are t)
abbrev KT (H:Hp):List (List Key × V)→List (List Key × Addr × Value)→Prop:=Paired fun p q => p.1=q.1∧H q.2.1=some (.tup (p.1.map kV))∧RelV p.2 q.2.2
theorem KT.val {H:Hp} {kvs:List (List Key × V)} {xs:List (List Key × Addr × Value)} (r:KT H kvs xs) (k:List Key):RelO (valV kvs k) ((atKey xs k).map (·.2)):=by
 induction r with
 | nil => exact True.intro
 | @cons p q ps qs h t ih =>
  obtain ⟨h1,_,h2⟩:=h
  by_cases e:p.1=k
  ·have e' : q.1=k:=h1.symm.trans e
   have b:atKey (q :: qs) k=some q.2:=by simp [atKey,List.find?_cons,e']
   rw [valV_pos e,b]; exact h2
  ·have e' : ¬ q.1=k:=fun z => e (h1.trans z)
   have b:atKey (q :: qs) k=atKey qs k:=by simp [atKey,List.find?_cons,e']
   rw [valV_neg e,b]; exact ih
theorem KT.repl {H:Hp} {kvs:List (List Key × V)} {xs:List (List Key × Addr × Value)} (r:KT H kvs xs) (k:List Key) {y:V} {u:Value} (ry:RelV y u) :
  KT H (kvs.map fun kv => if kv.1=k then (kv.1,y) else kv) (xs.map (putAt k u)):=by
 induction r with
 | nil => exact .nil
 | @cons p q ps qs h t ih =>
  rw [List.map_cons,List.map_cons]
  refine .cons ?_ ih
  obtain ⟨h1,h2,h3⟩:=h
  unfold putAt
  by_cases e:p.1=k
  ·rw [if_pos e,if_pos (h1.symm.trans e)]; exact ⟨h1,h2,ry⟩
  ·rw [if_neg e,if_neg (fun z => e (h1.trans z))]; exact ⟨h1,h2,h3⟩
theorem KT.put {H:Hp} {kvs:List (List Key × V)} {xs:List (List Key × Addr × Value)} (r:KT H kvs xs) (k:List Key) {b:Addr} {y:V} {u:Value} (hb:H b=some (.tup (k.map kV))) (ry:RelV y u) :
  KT H (putK kvs k y) (storedH xs k b u):=by
 have e:(kvs.any fun kv => decide (kv.1=k))=(atKey xs k).isSome:=by
  rw [valV_any,(r.val k).isSome_eq,Option.isSome_map]
 unfold putK storedH
 rw [e]
 by_cases q:(atKey xs k).isSome=true
 ·rw [if_pos q,if_pos q]; exact r.repl k ry
 ·rw [if_neg q,if_neg q]; exact Paired.snoc r ⟨rfl,hb,ry⟩
theorem KT.keeps {H H' : Hp} {kvs:List (List Key × V)} {xs:List (List Key × Addr × Value)} (r:KT H kvs xs) (ht:∀ b ys,H b=some (.tup ys)→H' b=some (.tup ys)):KT H' kvs xs :=
 Paired.mapP r fun _ _ z => ⟨z.1,ht _ _ z.2.1,z.2.2⟩
section
variable {P:Program} {w:World} {H:Hp} {h:Heap} {a:Addr}
theorem rd_of {u:HO} (ok:HOk P w H h) (e:Rd H a u):ObjOk P w H h a u:=e.ok ok
theorem dk_rd {kvs:List (Key × V)} (ok:HOk P w H h) (e:Rd H a (.dK kvs)):kvs.length ≤ sizeLine∧(a == sysModules)=false∧∃ vs,KV kvs vs∧h.DictOf (mixKind P w) a vs :=
 show ObjOk P w H h a (.dK kvs) from rd_of ok e
theorem dk_of {kvs:List (Key × V)} (ok:HOk P w H h) (e:H a=some (.dK kvs)):kvs.length ≤ sizeLine∧(a == sysModules)=false∧∃ vs,KV kvs vs∧h.DictOf (mixKind P w) a vs:=dk_rd ok (.inl e)
theorem key_of {ks:List Key} (ok:HOk P w H h) (e:H a=some (.tup (ks.map kV))):(tupleKind (mixKind P w)).is h ks a:=by
 obtain ⟨_,its,r,o,h1,h2,n,h3⟩:=(show ObjOk P w H h a (.tup (ks.map kV)) from ok a _ e)
 exact ⟨o,its.toArray,n,h1,h2,h3,by simpa using items_are r⟩
theorem dt_rd {kvs:List (List Key × V)} (ok:HOk P w H h) (e:Rd H a (.dT kvs)):kvs.length ≤ sizeLine∧(a == sysModules)=false ∧
  ∃ xs,KT H kvs xs∧h.DictOfH (tupleKind (mixKind P w)) a xs:=by
 obtain ⟨z,y,xs,r,o,es,ep,h1,h2,h3,h4,h5⟩:=(show ObjOk P w H h a (.dT kvs) from rd_of ok e)
 refine ⟨z,y,xs,r,o,es,ep,h1,h2,h3,h4,fun x hx => ?_,h5⟩
 have all:∀ {l:List (List Key × V)} {m:List (List Key × Addr × Value)},KT H l m→∀ x ∈ m,(tupleKind (mixKind P w)).is h x.1 x.2.1:=by
  intro l m q
  induction q with
  | nil => intro x hx; exact nomatch hx
  | @cons p q ps qs hq t ih =>
   intro x hx
   rcases List.mem_cons.mp hx with e | hx
   ·subst e
    exact key_of ok (by rw [← hq.1]; exact hq.2.1)
   ·exact ih x hx
 exact all r x hx
theorem dt_of {kvs:List (List Key × V)} (ok:HOk P w H h) (e:H a=some (.dT kvs)):kvs.length ≤ sizeLine∧(a == sysModules)=false ∧
  ∃ xs,KT H kvs xs∧h.DictOfH (tupleKind (mixKind P w)) a xs:=dt_rd ok (.inl e)
end
def DGet (H:Hp) (a:Addr) (y:V) (r:Option V):Prop :=
 (∃ kvs k,Rd H a (.dK kvs)∧y=kV k∧r=valV kvs k) ∨ ∃ kvs k b,Rd H a (.dT kvs)∧y = .ref b∧H b=some (.tup (k.map kV))∧r=valV kvs k
def DPut (H:Hp) (a:Addr) (y v:V) (H' : Hp):Prop :=
 (∃ kvs k,H a=some (.dK kvs)∧y=kV k∧kvs.length < sizeLine∧H' = upd H a (.dK (putK kvs k v))) ∨
 ∃ kvs k b,H a=some (.dT kvs)∧y = .ref b∧H b=some (.tup (k.map kV))∧kvs.length < sizeLine∧H' = upd H a (.dT (putK kvs k v))
theorem DGet.k {H:Hp} {a:Addr} {kvs:List (Key × V)} {k:Key} (e:H a=some (.dK kvs)):DGet H a (kV k) (valV kvs k):=.inl ⟨kvs,k,.inl e,rfl,rfl⟩
theorem DGet.t {H:Hp} {a b:Addr} {kvs:List (List Key × V)} {k:List Key} (e:H a=some (.dT kvs)) (eb:H b=some (.tup (k.map kV))):DGet H a (.ref b) (valV kvs k):=.inr ⟨kvs,k,b,.inl e,rfl,eb,rfl⟩
theorem DPut.k {H:Hp} {a:Addr} {kvs:List (Key × V)} {k:Key} {v:V} (e:H a=some (.dK kvs)) (hl:kvs.length < sizeLine):DPut H a (kV k) v (upd H a (.dK (putK kvs k v))):=.inl ⟨kvs,k,e,rfl,hl,rfl⟩
theorem DPut.t {H:Hp} {a b:Addr} {kvs:List (List Key × V)} {k:List Key} {v:V} (e:H a=some (.dT kvs)) (eb:H b=some (.tup (k.map kV))) (hl:kvs.length < sizeLine) :
  DPut H a (.ref b) v (upd H a (.dT (putK kvs k v))):=.inr ⟨kvs,k,b,e,rfl,eb,hl,rfl⟩
section
variable {X:Cx} {pins:List (Addr × Obj)} {σ:St} {H:Hp} {s:Shared} {a:Addr} {y v:V} {u r:Value} {o:Option V} {A:Around} {E:Value→Shared→Prop}
theorem Inv.big (I:Inv X pins σ H s):sysModules < s.heap.objs.size:=by
 have h:mainGlobals < s.heap.objs.size:=(I.mod.glob.keeps I.bk).lt
 exact Nat.lt_trans (by decide) h
theorem d_getItem {Q:Value→Shared→Prop} (hu:A.units + 1 < cLine) (I:Inv X pins σ H s) (g:DGet H a y (some v)) (ry:RelV y u) (h:∀ w' s',Inv X pins σ H s'→RelV v w'→Q w' s') :
  wpAny (model X.prog X.w) A (getItem (.ref a) u) Q E s:=by
 rcases g with ⟨kvs,k,e,ey,l⟩ | ⟨kvs,k,b,e,ey,eb,l⟩
 ·subst ey
  obtain ⟨z,hd,vs,rel,dd⟩:=dk_rd I.hok e
  obtain ⟨w',hw,rw'⟩:=RelO.some_of (v:=v) (o:=valueAt vs k) (by rw [l]; exact rel.val k)
  exact wpAny_getItem_of (kV_is ry) dd.mapOf hw (h w' _ (I.tok _) rw')
 ·subst ey
  cases (show u=Value.ref b from ry)
  obtain ⟨z,hd,xs,rel,dd⟩:=dt_rd I.hok e
  obtain ⟨w',hw,rw'⟩:=RelO.some_of (v:=v) (o:=(atKey xs k).map (·.2)) (by rw [l]; exact rel.val k)
  obtain ⟨p,hp,hp2⟩:=Option.map_eq_some_iff.mp hw
  refine wpAny_getItem_heap (tupleKind_room_in1 hu) (key_of I.hok eb) dd hp ?_
  rw [hp2]
  exact h w' _ (I.tok _) rw'
theorem d_write {h' : Heap} {t' : Nat} {ob:HO} (I:Inv X pins σ H s) (mu:Mut (H a)) (hs:Heap.SameBut a s.heap h') (he:∃ q,h'.get? a=some q) (new:ObjOk X.prog X.w (upd H a ob) h' a ob) :
  Inv X pins σ (upd H a ob) { s with heap:=h',toks:=t' } :=
 I.write (x:=a) (e:=a) mu (.inl rfl) (fun b q hb z => (hs.2 b hb).trans z) he new
theorem dk_new {P:Program} {w:World} {H' : Hp} {h' : Heap} {kvs:List (Key × V)} {vs:List (Key × Value)} (z:kvs.length ≤ sizeLine) (hd:(a == sysModules)=false) (rel:KV kvs vs) (dd:h'.DictOf (mixKind P w) a vs) :
  ObjOk P w H' h' a (.dK kvs):=⟨z,hd,vs,rel,dd⟩
theorem d_setItem {H' : Hp} {Q:Unit→Shared→Prop} (hu:A.units + 1 < cLine) (I:Inv X pins σ H s) (g:DPut H a y v H') (ry:RelV y u) (rv:RelV v r) (h:∀ s',Inv X pins σ H' s'→Q () s') :
  wpAny (model X.prog X.w) A (setItem (.ref a) u r) Q E s:=by
 rcases g with ⟨kvs,k,e,ey,l,eH⟩ | ⟨kvs,k,b,e,ey,eb,l,eH⟩
 ·subst ey eH
  obtain ⟨z,hd,vs,rel,dd⟩:=dk_of I.hok e
  have hz:vs.length ≤ sizeLine:=by rw [← rel.length]; exact z
  have hl:(putK kvs k v).length ≤ sizeLine:=by have:=length_putK kvs k v; omega
  refine wpAny_setItem_pairs (hsz:=hz) (kV_is ry) dd fun h' dd' hs => h _ ?_
  have he:∃ q,h'.get? a=some q:=let ⟨q,_,_,hq,_⟩:=dd'; ⟨q,hq⟩
  exact d_write I (by rw [e]; exact True.intro) hs he (dk_new hl hd (rel.put k rv) dd')
 ·subst ey eH
  cases (show u=Value.ref b from ry)
  obtain ⟨z,hd,xs,rel,dd⟩:=dt_of I.hok e
  have hz:xs.length ≤ sizeLine:=by rw [← Paired.length rel]; exact z
  have hl:(putK kvs k v).length ≤ sizeLine:=by have:=length_putK kvs k v; omega
  refine wpAny_setItem_heap (hsz:=hz) (tupleKind_room_in1 hu) (key_of I.hok eb) dd fun h' dd' hs => h _ ?_
  obtain ⟨q,es,ep,hq,h2,h3,h4,_,h5⟩:=dd'
  refine d_write I (by rw [e]; exact True.intro) hs ⟨q,hq⟩ ⟨hl,hd,_,(rel.put k eb rv).keeps fun c ys ec => ?_,q,es,ep,hq,h2,h3,h4,h5⟩
  rw [upd_ne (ne_of ec e (fun z => nomatch z))]
  exact ec
end
def NoSl (i:Expr):Prop:=∀ ov iv,subscripted i false ov iv=operate [ov,iv] (getItem ov iv)
theorem subD_of {prog:Program} {w:World} {A:Around} {E:Value→Shared→Prop} {s:Shared} {env:Env} {value slice:Expr} {pos:PySem.Pos} {T id:String} {Q:Value→Shared→Prop}
  (hl:typeLookup (.type T) "__getitem__" = pure (some (.builtin id))) (hs:NoSl slice)
  (h:wpAny (model prog w) A (eval value env) (fun o s₁ => wpAny (model prog w) A (eval slice env) (fun i s₂ => s₂.TypeIs o T∧wpAny (model prog w) A (getItem o i) Q E s₂) E s₁) E s) :
  wpAny (model prog w) A (eval (.Subscript value slice pos) env) Q E s:=by
 refine Subscript_ (wpAny_mono h (fun o s₁ h₁ => wpAny_mono h₁ (fun i s₂ h₂ => ?_) fun _ _ x => x) fun _ _ x => x)
 obtain ⟨hT,h₂⟩:=h₂
 unfold subscriptTail
 refine wpAny_bind ?_
 rw [getitemInPython_of_ne hT.not_modules]
 refine wpAny_bind (wpAny_specialOf hT hl ?_)
 have fin:wpAny (model prog w) A (subscripted slice false o i) (fun r s₃ => wpAny (model prog w) A (letTemporaryGo value o r >>= fun _ => pure r) Q E s₃) E s₂:=by
  rw [hs o i]
  exact wpAny_operating (wpAny_mono h₂ (fun r s₃ h₃ => wpAny_bind (wpAny_letTemporaryGo (wpAny_pure h₃))) fun _ _ x => x)
 first
  | exact wpAny_pure (wpAny_bind fin)
  | exact wpAny_bind (wpAny_pure (wpAny_bind fin))
  | exact wpAny_bind fin
theorem dict_typeIs {X:Cx} {pins:List (Addr × Obj)} {σ:St} {H:Hp} {s:Shared} {a:Addr} {y:V} {o:Option V} (I:Inv X pins σ H s) (g:DGet H a y o):s.TypeIs (.ref a) "dict" := by
 rcases g with ⟨kvs,k,e,_,_⟩ | ⟨kvs,k,b,e,_,_,_⟩
 ·obtain ⟨_,_,vs,_,dd⟩:=dk_rd I.hok e
  exact dd.typeIs
 ·obtain ⟨_,_,xs,_,dd⟩:=dt_rd I.hok e
  exact dd.typeIs
def tDGet (td ty:TE):TE:=fun σ H Q => td σ H fun x H1 => ty σ H1 fun y H2 => ∃ a v,x = .ref a∧DGet H2 a y (some v)∧Q v H2
def sDPut (td ty tv:TE):TS:=fun D σ H => tv σ H fun v H1 => td σ H1 fun x H2 => ty σ H2 fun y H3 => ∃ a H4,x = .ref a∧DPut H3 a y v H4∧D.nx σ H4
section
variable {X:Cx} {o i e value:Expr} {pos pos' tpos:PySem.Pos} {td ty tv:TE}
theorem pe_dget (hu:X.A.units + 1 < cLine) (ho:PE X o td) (hi:PE X i ty) (hs:NoSl i):PE X (.Subscript o i pos) (tDGet td ty):=by
 intro pins s σ H Q I h
 refine subD_of PySem.F.slot_dict_getitem.lookup hs (thn (ho pins s σ H _ I h) fun u s1 ⟨x,H1,I1,rx,q1⟩ => thn (hi pins s1 σ H1 _ I1 q1) fun iv s2 ⟨y,H2,I2,ry,a,v,ex,g,q2⟩ => ?_)
 subst ex
 obtain rfl:u=Value.ref a:=rx
 exact ⟨dict_typeIs I2 g,d_getItem hu I2 g ry fun w' s3 I3 rw' => ⟨v,H2,I3,rw',q2⟩⟩
theorem ps_dput (hu:X.A.units + 1 < cLine) (ho:PE X o td) (hi:PE X i ty) (hv:PE X value tv) (hs:swapsWith value (some (.Subscript o i pos')) pos.line X.env=pure false) :
  PS X (.Assign [.Subscript o i pos'] value pos) (sDPut td ty tv):=by
 intro pins s σ H D I h
 refine wpAny_Assign_Subscript (thn (hv pins s σ H _ I h) fun r s1 ⟨v,H1,I1,rv,q1⟩ => thn (ho pins s1 σ H1 _ I1 q1) fun u s2 ⟨x,H2,I2,rx,q2⟩ => thn (hi pins s2 σ H2 _ I2 q2) fun iv s3 ⟨y,H3,I3,ry,a,H4,ex,g,q3⟩ => ?_) hs
 subst ex
 obtain rfl:u=Value.ref a:=rx
 exact d_setItem hu I3 g ry rv fun s4 I4 => ⟨σ,H4,I4,q3⟩
end
theorem dk_empty {P:Program} {w:World} {H:Hp} (h:Heap) (hb:sysModules < h.objs.size):ObjOk P w H (h.push { cls:=.type "dict",data:=.dict #[] }) h.objs.size (.dK []) :=
 ⟨Nat.zero_le _,beq_eq_false_iff_ne.mpr (Ne.symm (Nat.ne_of_lt hb)),[],.nil,Heap.DictOf.new h⟩
theorem dt_empty {P:Program} {w:World} {H:Hp} (h:Heap) (hb:sysModules < h.objs.size):ObjOk P w H (h.push { cls:=.type "dict",data:=.dict #[] }) h.objs.size (.dT []) :=
 ⟨Nat.zero_le _,beq_eq_false_iff_ne.mpr (Ne.symm (Nat.ne_of_lt hb)),[],.nil,_,#[],0,Heap.get?_push_size _ rfl,⟨rfl,rfl,rfl⟩,rfl,rfl,List.nodup_nil⟩
def tDNewK:TE:=fun _ H Q => ∀ p,H p=none→Q (.ref p) (upd H p (.dK []))
def tDNewT:TE:=fun _ H Q => ∀ p,H p=none→Q (.ref p) (upd H p (.dT []))
section
variable {X:Cx} {pos:PySem.Pos}
theorem pe_dnewK:PE X (.Dict [] [] pos) tDNewK:=fun pins s σ H Q I h =>
 wpAny_Dict_empty ⟨.ref s.heap.objs.size,_,I.laid (a:=s.heap.objs.size) (o:=.dK []) (t':=s.toks) (fun _ _ q => Heap.get?_push_of_some _ q) (Nat.le_refl _) (dk_empty s.heap I.big),rfl,h _ (I.hok.fresh (Nat.le_refl _))⟩
theorem pe_dnewT:PE X (.Dict [] [] pos) tDNewT:=fun pins s σ H Q I h =>
 wpAny_Dict_empty ⟨.ref s.heap.objs.size,_,I.laid (a:=s.heap.objs.size) (o:=.dT []) (t':=s.toks) (fun _ _ q => Heap.get?_push_of_some _ q) (Nat.le_refl _) (dt_empty s.heap I.big),rfl,h _ (I.hok.fresh (Nat.le_refl _))⟩
end
structure M2 (X:Cx) (o:Expr) (m:Str) (apos:PySem.Pos) (e f:Expr) (cpos:PySem.Pos):Prop where
 base:attributeBase o m X.env (eval o X.env)=eval o X.env
 few:((backTo cpos (starEach [e,f] X.env)).all (fun x => !x.1) && (backToKw cpos (keywordEach [] X.env)).all (fun x => x.1.isSome)
  && decide (([e,f]:List Expr).length + ([]:List Keyword).length + (if ([]:List Keyword).isEmpty then 0 else 1) < 30))=true
 line:(apos.endLine == cpos.line)=true
 trees:backTo cpos (starEach [e,f] X.env)=[(false,eval e X.env),(false,eval f X.env)]
def IsD (H:Hp) (a:Addr):Prop:=(∃ kvs,Rd H a (.dK kvs)) ∨ ∃ kvs,Rd H a (.dT kvs)
theorem isD_at {X:Cx} {pins:List (Addr × Obj)} {σ:St} {H:Hp} {s:Shared} {a:Addr} (I:Inv X pins σ H s) (d:IsD H a) :
  s.TypeIs (.ref a) "dict" ∧ (∀ b,Value.ref a = .ref b→∃ ob,s.heap.get? b=some ob∧ob.dict=none)∧(a == sysModules)=false:=by
 rcases d with ⟨kvs,e⟩ | ⟨kvs,e⟩
 ·obtain ⟨_,hd,vs,_,dd⟩:=dk_rd I.hok e
  refine ⟨dd.typeIs,fun b q => ?_,hd⟩
  cases q
  obtain ⟨ob,_,_,h1,h2,_⟩:=dd
  exact ⟨ob,h1,h2.2.1⟩
 ·obtain ⟨_,hd,xs,_,dd⟩:=dt_rd I.hok e
  refine ⟨dd.typeIs,fun b q => ?_,hd⟩
  cases q
  obtain ⟨ob,_,_,h1,h2,_⟩:=dd
  exact ⟨ob,h1,h2.2.1⟩
section
variable {X:Cx} {pins:List (Addr × Obj)} {σ:St} {H:Hp} {s:Shared} {a:Addr} {y d:V} {u r:Value} {o:Option V} {A:Around} {E:Value→Shared→Prop}
theorem d_get2 {Q:Value→Shared→Prop} (hu:A.units + 1 < cLine) (I:Inv X pins σ H s) (g:DGet H a y o) (ry:RelV y u) (rd:RelV d r) (h:∀ w' s',Inv X pins σ H s'→RelV (o.getD d) w'→Q w' s') :
  wpAny (model X.prog X.w) A (call (.builtin "dict.get") [.ref a,u,r]) Q E s:=by
 rcases g with ⟨kvs,k,e,ey,l⟩ | ⟨kvs,k,b,e,ey,eb,l⟩
 ·subst ey
  obtain ⟨z,hd,vs,rel,dd⟩:=dk_rd I.hok e
  refine call_meetsIn PySem.F.slot_dict_get dd.typeIs PySem.F.entry_dict_get (PySem.F.args_dict_get_3 _ _ _) (meets_dict_get_default (mixKind X.prog X.w) a (kV_is ry) hd r) ⟨_,dd.mapOf,h _ _ (I.tok _) ?_⟩
  rw [l]
  exact (rel.val k).getD rd
 ·subst ey
  cases (show u=Value.ref b from ry)
  obtain ⟨z,hd,xs,rel,dd⟩:=dt_rd I.hok e
  refine call_meetsIn PySem.F.slot_dict_get dd.typeIs PySem.F.entry_dict_get (PySem.F.args_dict_get_3 _ _ _) (meetsH_dict_get_default (tupleKind (mixKind X.prog X.w)) a b hd r) ⟨tupleKind_room_in1 hu,k,xs,key_of I.hok eb,dd,h _ _ (I.tok _) ?_⟩
  rw [l]
  exact (rel.val k).getD rd
end
def tDGet2 (td ty tx:TE):TE:=fun σ H Q => td σ H fun x H1 => ∃ a,x = .ref a∧IsD H1 a∧ty σ H1 fun y H2 => tx σ H2 fun z H3 => ∃ o,DGet H3 a y o∧Q (o.getD z) H3
section
variable {X:Cx} {o e f:Expr} {apos cpos:PySem.Pos} {td ty tx:TE}
theorem pe_dget2 (hu:X.A.units + 1 < cLine) (ho:PE X o td) (he:PE X e ty) (hf:PE X f tx) (m:M2 X o "get" apos e f cpos):PE X (.Call (.Attribute o "get" apos) [e,f] [] cpos) (tDGet2 td ty tx):=by
 intro pins s σ H Q I h
 refine wpAny_Call_method m.base m.few m.line PySem.F.plainAttrs_dict PySem.F.slot_dict_get PySem.F.type_dict_get (thn (ho pins s σ H _ I h) fun u s1 ⟨x,H1,I1,rx,a,ex,d,q1⟩ => ?_)
 subst ex
 obtain rfl:u=Value.ref a:=rx
 obtain ⟨t1,t2,_⟩:=isD_at I1 d
 refine ⟨t1,t2,?_⟩
 rw [m.trees]
 refine Calls.callWith_builtin rfl (Calls.evalArgs_plain (Calls.spliced_cons (thn (he pins s1 σ H1 _ I1 q1) fun iv s2 ⟨y,H2,I2,ry,q2⟩ =>
  Calls.spliced_cons (thn (hf pins s2 σ H2 _ I2 q2) fun fv s3 ⟨z,H3,I3,rz,ov,g,q3⟩ => Calls.spliced_nil ?_))))
 exact d_get2 hu I3 g ry rz fun w' s4 I4 rw' => ⟨_,H3,I4,rw',q3⟩
end
end L2
namespace L2
open PySem PySem.Spec PyProof.Rows
open PySem PySem.Spec PyProof.Rows
section
variable {κ:Type} [DecidableEq κ]
theorem valV_not {kvs:List (κ × V)} {k:κ} (h:valV kvs k=none) : ¬ k ∈ kvs.map (·.1):=by
 intro m
 obtain ⟨p,hp,e⟩:=List.mem_map.mp m
 have q:(kvs.any fun kv => decide (kv.1=k))=true:=List.any_eq_true.mpr ⟨p,hp,decide_eq_true e⟩
 rw [valV_any,h] at q
 exact absurd q (by simp)
theorem valV_in {kvs:List (κ × V)} {k:κ} {v:V} (h:valV kvs k=some v):k ∈ kvs.map (·.1):=by
 have q:(kvs.any fun kv => decide (kv.1=k))=true:=by
  rw [valV_any,h]
  all_goals rfl
 obtain ⟨p,hp,e⟩:=List.any_eq_true.mp q
 exact List.mem_map.mpr ⟨p,hp,of_decide_eq_true e⟩
theorem nd_snoc:∀ {l:List κ} {k:κ},l.Nodup→¬ k ∈ l→(l ++ [k]).Nodup
 | [],k,_,_ => by simp
 | a :: r,k,h,hk => by
  obtain ⟨h1,h2⟩:=List.nodup_cons.mp h
  show (a :: (r ++ [k])).Nodup
  refine List.nodup_cons.mpr ⟨fun m => ?_,nd_snoc h2 fun m => hk (List.mem_cons.mpr (Or.inr m))⟩
  rcases List.mem_append.mp m with q | q
  ·exact h1 q
  ·exact hk (List.mem_cons.mpr (Or.inl (List.mem_singleton.mp q).symm))
end
end L2
namespace L2
open PySem PySem.Spec PyProof.Rows
section
variable {X:Cx}
theorem call_divmodL:CallR X (.builtin "divmod") (fun xs H Q => ∃ i j,xs=[.int i,.int j]∧CDivL i j∧∀ p,H p=none→Q (.ref p) (upd H p (.tup [.int (i / j),.int (i % j)]))):=by
 intro pins s σ H xs us Q I r h
 obtain ⟨i,j,rfl,⟨h1,h2⟩,q⟩:=h
 obtain ⟨u,w',rfl,⟨t,rfl⟩,⟨t',rfl⟩⟩:=vals2 r
 refine divmod_int (by omega) ?_ (.inl (PyProof.noPylong_of_log2 h2))
 rw [Int.fdiv_eq_ediv_of_nonneg i (by omega),Int.fmod_eq_emod_of_nonneg i (by omega)]
 have hn:H s.heap.objs.size=none:=I.hok.fresh (Nat.le_refl _)
 exact ⟨.ref s.heap.objs.size,_,I.laid (o:=.tup [.int (i / j),.int (i % j)]) (fun b o e => Heap.get?_push_of_some _ e) (Nat.le_refl _) ⟨(by show 2 ≤ sizeLine; decide),[.int (i / j) s.toks,.int (i % j) (s.toks + 1)],.cons ⟨_,rfl⟩ (.cons ⟨_,rfl⟩ .nil),_,Heap.get?_push_size s.heap rfl,rfl,0,rfl⟩,rfl,q _ hn⟩
def CMulB (i j:Int):Prop:=i.natAbs < 2 ^ 9000∧j.natAbs < 2 ^ 9000
theorem bits_le {i:Int} (h:i.natAbs < 2 ^ 9000):Builtin.Int.intBits i ≤ 2 ^ 20:=by
 unfold Builtin.Int.intBits
 split
 ·exact Nat.zero_le _
 ·rename_i hz
  have hz:i.natAbs ≠ 0:=by simpa using hz
  have:=(Nat.log2_lt hz).mpr h
  exact Nat.le_trans (Nat.succ_le_of_lt this) (by decide)
theorem op_mulB:OpR X (binaryOp .Mult) (rI CMulB fun i j => .int (i * j)):=opI fun _ _ _ _ _ _ _ hc q => mul_int q (IntMulOk.of_bits (bits_le hc.1) (bits_le hc.2))
end
end L2
namespace L2
open PySem PySem.Spec PyProof.Rows
section
variable {prog:Program} {w:World} {A:Around} {E:Value→Shared→Prop} {s:Shared} {T:String} {r d:Addr} {n:Nat} {Pr:Nat→Value→Prop} {OK:Heap→Prop}
theorem collect_src {Q:List Value→Shared→Prop} (S:PySem.W.KdlSrc prog w T r d n Pr OK) (hh:A.handled=none) (hok:OK s.heap) (hn:n ≤ sizeLine)
  (hQ:∀ (h' : Heap) (tk:Nat) (acc:Array Value),(∀ b o,s.heap.get? b=some o→h'.get? b=some o)→ItemsOf Pr acc n→Q acc.toList { s with heap:=h',toks:=tk }):wpAny (model prog w) A (collect (.ref r)) Q E s:=by
 have hlt:=S.there _ hok
 have key:∀ R:Result→Shared→Prop,(∀ (h' : Heap) (tk:Nat) (acc:Array Value) (c:Nat),(∀ b o,b ≠ s.heap.objs.size→(s.heap.push { cls:=.type "list",data:=.seq ([]:List Value).toArray }).get? b=some o→h'.get? b=some o)→h'.get? s.heap.objs.size=some { cls:=.type "list",dict:=none,data:=.seq acc c,slots:=#[] }→ItemsOf Pr acc n→R (.ok (.ret (.ref s.heap.objs.size))) { s with heap:=h',toks:=tk }) →
   codeAny (model prog w) A (.builtin "proto.collect" ⟨[.ref r],[]⟩) R s:=by
  intro R hR
  refine codeAny_builtin PySem.F.entry_proto_collect ?_
  rw [Around.under_plainId PySem.F.plain_proto_collect _]
  show wpAny _ A.in1 (newList [] >>= fun q => again (.builtin "list.__iadd__" ⟨[q,.ref r],[]⟩)) _ _ s
  refine wpAny_bind (wpAny_newObj_type (wpAny_pure ⟨plainId_quiet PySem.F.plain_list_iadd _,codeAny_builtin PySem.F.entry_list_iadd ?_⟩))
  rw [Around.under_plainId PySem.F.plain_list_iadd _]
  show wpAny _ A.in1 (Builtin.List.listExtendWith (.ref s.heap.objs.size) (.ref r) (.ref s.heap.objs.size)) _ _ _
  exact PySem.W.kdl_extend (s:={ s with heap:=s.heap.push { cls:=.type "list",data:=.seq ([]:List Value).toArray } }) S hh (S.keep _ _ hok fun b _ o e => Heap.get?_push_of_some _ e) s.heap.objs.size (Nat.ne_of_gt hlt.1) (Nat.ne_of_gt hlt.2) _ 0 (Heap.get?_push_size _ rfl) hR hn
 unfold collect
 refine wpAny_bind (wpAny_runValue (key _ fun h' tk acc c hk hS hacc => ?_))
 show wpAny _ A (load s.heap.objs.size >>= _) _ _ _
 refine wpAny_bind (wpAny_load hS (wpAny_pure ?_))
 exact hQ h' tk acc (fun b o e => hk b o (Nat.ne_of_lt (Heap.lt_size e)) (Heap.get?_push_of_some _ e)) hacc
theorem intsAre_at:∀ {vs:List Value} {ks:List Int},vs.length=ks.length→(∀ (i:Nat) (v:Value),vs[i]? = some v→∃ t,v=Value.int (ks.getD i 0) t)→IntsAre vs ks
 | [],[],_,_ => .nil
 | [],_ :: _,h,_ => by cases h
 | _ :: _,[],h,_ => by cases h
 | v :: vs,k :: ks,h,f => by
  obtain ⟨t,e⟩:=f 0 v rfl
  have e:v = .int k t:=e
  subst e
  exact .cons k t (intsAre_at (by simpa using h) fun i u hu => f (i + 1) u hu)
end
def KView (v d:Addr):Heap→Prop:=fun h => PySem.W.KdlKeysView h v d
section
variable {X:Cx}
def tDKeys (td:TE):TE:=fun σ H Q => td σ H fun x H1 => ∃ d kvs,x = .ref d∧H1 d=some (.dK kvs)∧∀ v,H1 v=none→Q (.ref v) (upd H1 v (.ext (KView v d)))
theorem pe_dkeys {o:Expr} {td:TE} {apos cpos:PySem.Pos} (ho:PE X o td) (hbase:attributeBase o "keys" X.env (eval o X.env)=eval o X.env:=by rfl) (hline:(apos.endLine == cpos.line)=true:=by rfl):PE X (.Call (.Attribute o "keys" apos) [] [] cpos) (tDKeys td):=by
 intro pins s σ H Q I h
 refine wpAny_Call_method0_late hbase hline (thn (ho pins s σ H _ I h) fun u s1 ⟨x,H1,I1,rx,d,kvs,ex,hd,q⟩ => ?_)
 subst ex
 cases rx
 obtain ⟨t1,t2,t3⟩:=isD_at I1 (.inl ⟨kvs,.inl hd⟩)
 obtain ⟨_,hsys,vs,rel,dd⟩:=dk_of I1.hok hd
 refine ⟨"dict", "dict.keys",PySem.F.plainAttrs_dict,PySem.F.slot_dict_keys,PySem.F.type_dict_keys,t1,t2,Calls.callWith_builtin rfl (PySem.evalArgs_none ?_)⟩
 refine call_meetsIn PySem.F.slot_dict_keys dd.typeIs PySem.F.entry_dict_keys (PySem.F.args_dict_keys_1 _) (PySem.W.kdl_meets_keys (mixKind X.prog X.w) d hsys) ⟨⟨_,dd⟩,?_⟩
 have g:(s1.heap.push { cls:=.type "dict_keys",data:=.fields #[.ref d] }).get? s1.heap.objs.size=some { cls:=.type "dict_keys",data:=.fields #[.ref d] }:=Heap.get?_push_size _ rfl
 exact ⟨.ref s1.heap.objs.size,_,I1.laid (t':=s1.toks) (o:=.ext (KView s1.heap.objs.size d)) (fun b o e => Heap.get?_push_of_some _ e) (Nat.le_refl _) ⟨⟨_,g,rfl,rfl⟩,⟨_,g⟩,fun h1 h2 ⟨ob,e,c⟩ k => ⟨ob,k ob e,c⟩⟩,rfl,q _ (I1.hok.fresh (Nat.le_refl _))⟩
end
end L2
namespace Toy
open PySem L2 PyProof.Rows
theorem atW_takeF:∀ {R:Wl} {rm p:Int},(∀ e ∈ R,0 < e.1)→0 ≤ p→p < rm→atW (takeF rm R) p=atW R p
 | [],rm,p,_,_,_ => by unfold takeF; rfl
 | (m,u) :: R,rm,p,h,p0,p1 => by
  have m0:0 < m:=h (m,u) List.mem_cons_self
  unfold takeF
  rw [if_pos (by omega)]
  show atW ((mn m rm,u) :: takeF (rm - mn m rm) R) p=_
  have q:=mn_le m rm
  by_cases z:p < mn m rm
  ·rw [atW_lt z,atW_lt (by omega)]
  ·have em:mn m rm=m:=by omega
   rw [em] at z ⊢
   rw [atW_ge (by omega),atW_ge (by omega)]
   exact atW_takeF (fun e he => h e (List.mem_cons_of_mem _ he)) (by omega) (by omega)
theorem atW_dropF:∀ {R:Wl} {a p:Int},(∀ e ∈ R,0 < e.1)→0 ≤ a→0 ≤ p→atW (dropF a R) p=atW R (p + a)
 | [],a,p,_,_,_ => by unfold dropF; rfl
 | (m,u) :: R,a,p,h,a0,p0 => by
  have m0:0 < m:=h (m,u) List.mem_cons_self
  unfold dropF
  by_cases z:a ≤ 0
  ·rw [if_pos z,show p + a=p by omega]
  ·rw [if_neg z]
   by_cases z2:a < m
   ·rw [if_pos (show a < (m,u).fst from z2)]
    show atW ((m - a,u) :: R) p=_
    by_cases z3:p < m - a
    ·rw [atW_lt z3,atW_lt (by omega)]
    ·rw [atW_ge (by omega),atW_ge (by omega),show p - (m - a)=p + a - m by omega]
   ·rw [if_neg (show ¬ a < (m,u).fst from z2)]
    show atW (dropF (a - m) R) p=_
    rw [atW_dropF (fun e he => h e (List.mem_cons_of_mem _ he)) (by omega) p0,atW_ge (by omega),show p + (a - m)=p + a - m by omega]
theorem tot_takeF:∀ {R:Wl} {rm:Int},(∀ e ∈ R,0 < e.1)→0 ≤ rm→rm ≤ tot R→tot (takeF rm R)=rm
 | [],rm,_,h0,h1 => by rw [tot_nil] at h1; unfold takeF; rw [tot_nil]; omega
 | (m,u) :: R,rm,h,h0,h1 => by
  have m0:0 < m:=h (m,u) List.mem_cons_self
  rw [tot_cons] at h1
  have h1:rm ≤ m + tot R:=h1
  have q:=mn_le m rm
  have pR:=tot_pos0 (M:=R) fun e he => Int.le_of_lt (h e (List.mem_cons_of_mem _ he))
  unfold takeF
  rw [tot_append]
  show _ + tot (takeF (rm - mn m rm) R)=rm
  rw [tot_takeF (fun e he => h e (List.mem_cons_of_mem _ he)) (by omega) (by omega)]
  by_cases z:0 < rm
  ·rw [if_pos z,tot_cons,tot_nil]; show mn m rm + 0 + (rm - mn m rm)=rm; omega
  ·rw [if_neg z,tot_nil]; have:mn m rm=rm:=by omega
   omega
theorem tot_dropF:∀ {R:Wl} {a:Int},(∀ e ∈ R,0 < e.1)→0 ≤ a→a ≤ tot R→tot (dropF a R)=tot R - a
 | [],a,_,h0,h1 => by rw [tot_nil] at h1; unfold dropF; rw [tot_nil]; omega
 | (m,u) :: R,a,h,h0,h1 => by
  rw [tot_cons] at h1 ⊢
  have h1:a ≤ m + tot R:=h1
  show _=m + tot R - a
  unfold dropF
  by_cases z:a ≤ 0
  ·rw [if_pos z,tot_cons]; show m + tot R=_; omega
  ·rw [if_neg z]
   by_cases z2:a < m
   ·rw [if_pos (show a < (m,u).fst from z2),tot_cons]; show m - a + tot R=_; omega
   ·rw [if_neg (show ¬ a < (m,u).fst from z2)]
    show tot (dropF (a - m) R)=_
    rw [tot_dropF (fun e he => h e (List.mem_cons_of_mem _ he)) (by omega) (by omega)]
    omega
end Toy
namespace Toy
open PySem L2 PyProof.Rows
abbrev Sl:=List (Int × Int × List Int)
def co (u:List Int) (i:Nat):Int:=u.getD i 0
theorem co_ext {u v:List Int} (hl:u.length=v.length) (h:∀ i,co u i=co v i):u=v:=by
 apply List.ext_getElem?
 intro i
 have:=h i
 unfold co at this
 rw [List.getD_eq_getElem?_getD,List.getD_eq_getElem?_getD] at this
 by_cases z:i < u.length
 ·rw [List.getElem?_eq_getElem z,List.getElem?_eq_getElem (by omega)] at this ⊢
  exact congrArg some this
 ·rw [List.getElem?_eq_none (by omega),List.getElem?_eq_none (by omega)]
theorem co_plus {u v:List Int} (i:Nat) (hl:u.length=v.length):co (List.zipWith (fun a b => a + b) u v) i=co u i + co v i:=by
 unfold co
 rw [List.getD_eq_getElem?_getD,List.getD_eq_getElem?_getD,List.getD_eq_getElem?_getD,List.getElem?_zipWith]
 by_cases z:i < u.length
 ·rw [List.getElem?_eq_getElem z,List.getElem?_eq_getElem (by omega)]; rfl
 ·rw [List.getElem?_eq_none (by omega),List.getElem?_eq_none (by omega)]; rfl
theorem co_times (u:List Int) (k:Int) (i:Nat):co (u.map (· * k)) i=co u i * k:=by
 unfold co
 rw [List.getD_eq_getElem?_getD,List.getD_eq_getElem?_getD,List.getElem?_map]
 cases u[i]? with
 | none => show (0:Int)=0 * k; omega
 | some x => rfl
theorem co_nought (n i:Nat):co (List.replicate n 0) i=0:=by
 unfold co
 rw [List.getD_eq_getElem?_getD,List.getElem?_replicate]
 split <;> rfl
def st (x p:Int):Int:=if x ≤ p then 1 else 0
def eqi (x k:Int):Int:=if x=k then 1 else 0
def tm (s:Int × Int × List Int) (p:Int) (i:Nat):Int:=co s.2.2 i * (st s.1 p - st s.2.1 p)
def rt (s:Int × Int × List Int) (k:Int) (i:Nat):Int:=co s.2.2 i * (eqi s.1 k - eqi s.2.1 k)
def FF:Sl→Int→Nat→Int
 | [],_,_ => 0
 | s :: S,p,i => tm s p i + FF S p i
def RR:Sl→Int→Nat→Int
 | [],_,_ => 0
 | s :: S,k,i => rt s k i + RR S k i
def IsKey (S:Sl) (k:Int):Prop:=∃ s ∈ S,s.1=k ∨ s.2.1=k
theorem st_step {z x y:Int} (hxy:x < y) (h:z ≤ y→z ≤ x ∨ z=y):st z y=st z x + eqi z y:=by
 unfold st eqi
 by_cases h1:z ≤ y
 ·rcases h h1 with q | q
  ·rw [if_pos h1,if_pos q,if_neg (by omega)]; rfl
  ·rw [if_pos h1,if_neg (by omega),if_pos q]; rfl
 ·rw [if_neg h1,if_neg (by omega),if_neg (by omega)]; rfl
theorem FF_step:∀ {S:Sl} {x y:Int} (i:Nat),x < y→(∀ k,IsKey S k→k ≤ y→k ≤ x ∨ k=y)→FF S y i=FF S x i + RR S y i
 | [],x,y,i,_,_ => rfl
 | s :: S,x,y,i,hxy,h => by
  have ih:=FF_step (S:=S) i hxy fun k ⟨s',hs,hk⟩ => h k ⟨s',List.mem_cons_of_mem _ hs,hk⟩
  have e1:=st_step hxy fun q => h s.1 ⟨s,List.mem_cons_self,.inl rfl⟩ q
  have e2:=st_step hxy fun q => h s.2.1 ⟨s,List.mem_cons_self,.inr rfl⟩ q
  show tm s y i + FF S y i=tm s x i + FF S x i + (rt s y i + RR S y i)
  rw [ih]
  have:tm s y i=tm s x i + rt s y i:=by
   unfold tm rt
   rw [e1,e2,← Int.mul_add]
   congr 1
   omega
  rw [this]
  omega
theorem FF_same:∀ {S:Sl} {x y:Int} (i:Nat),x ≤ y→(∀ k,IsKey S k→k ≤ y→k ≤ x)→FF S y i=FF S x i
 | [],x,y,i,_,_ => rfl
 | s :: S,x,y,i,hxy,h => by
  have ih:=FF_same (S:=S) i hxy fun k ⟨s',hs,hk⟩ => h k ⟨s',List.mem_cons_of_mem _ hs,hk⟩
  have key:∀ z,(z ≤ y→z ≤ x)→st z y=st z x:=fun z q => by
   unfold st
   by_cases h1:z ≤ y
   ·rw [if_pos h1,if_pos (q h1)]
   ·rw [if_neg h1,if_neg (by omega)]
  show tm s y i + FF S y i=tm s x i + FF S x i
  rw [ih]
  unfold tm
  rw [key s.1 fun q => h s.1 ⟨s,List.mem_cons_self,.inl rfl⟩ q,key s.2.1 fun q => h s.2.1 ⟨s,List.mem_cons_self,.inr rfl⟩ q]
theorem FF_low:∀ {S:Sl} {x:Int} (i:Nat),(∀ k,IsKey S k→x < k)→FF S x i=0
 | [],_,_,_ => rfl
 | s :: S,x,i,h => by
  have ih:=FF_low (S:=S) (x:=x) i fun k ⟨s',hs,hk⟩ => h k ⟨s',List.mem_cons_of_mem _ hs,hk⟩
  have h1:=h s.1 ⟨s,List.mem_cons_self,.inl rfl⟩
  have h2:=h s.2.1 ⟨s,List.mem_cons_self,.inr rfl⟩
  show tm s x i + FF S x i=0
  rw [ih]
  unfold tm st
  rw [if_neg (by omega),if_neg (by omega)]
  simp
theorem FF_app (S T:Sl) (p:Int) (i:Nat):FF (S ++ T) p i=FF S p i + FF T p i:=by
 induction S with
 | nil => show _=0 + _; rw [Int.zero_add]; rfl
 | cons s S ih => show tm s p i + FF (S ++ T) p i=tm s p i + FF S p i + FF T p i; rw [ih]; omega
abbrev Ev:=List (Int × List Int)
def RE:Ev→Int→Nat→Int
 | [],_,_ => 0
 | x :: E,k,i => co x.2 i * eqi x.1 k + RE E k i
theorem RE_app (E F:Ev) (k:Int) (i:Nat):RE (E ++ F) k i=RE E k i + RE F k i:=by
 induction E with
 | nil => show _=0 + _; rw [Int.zero_add]; rfl
 | cons x E ih => show _ + RE (E ++ F) k i=_ + RE E k i + RE F k i; rw [ih]; omega
def evs (S:Sl):Ev:=S.flatMap fun s => [(s.1,s.2.2),(s.2.1,s.2.2.map (· * -1))]
theorem evs_app (S T:Sl):evs (S ++ T)=evs S ++ evs T:=by unfold evs; rw [List.flatMap_append]
theorem RE_evs:∀ (S:Sl) (k:Int) (i:Nat),RE (evs S) k i=RR S k i
 | [],_,_ => rfl
 | s :: S,k,i => by
  have e:evs (s :: S)=[(s.1,s.2.2),(s.2.1,s.2.2.map (· * -1))] ++ evs S:=rfl
  rw [e,RE_app,RE_evs S k i]
  show co s.2.2 i * eqi s.1 k + (co (s.2.2.map (· * -1)) i * eqi s.2.1 k + 0) + RR S k i=rt s k i + RR S k i
  rw [co_times]
  unfold rt
  rw [Int.mul_sub,Int.mul_assoc,Int.neg_mul,Int.one_mul,Int.mul_neg]
  omega
theorem evs_key {S:Sl} {k:Int} : (∃ x ∈ evs S,x.1=k) ↔ IsKey S k:=by
 constructor
 ·rintro ⟨x,hx,rfl⟩
  obtain ⟨s,hs,h⟩:=List.mem_flatMap.mp hx
  rcases List.mem_cons.mp h with rfl | h
  ·exact ⟨s,hs,.inl rfl⟩
  ·rw [List.mem_singleton.mp h]; exact ⟨s,hs,.inr rfl⟩
 ·rintro ⟨s,hs,h | h⟩
  ·exact ⟨(s.1,s.2.2),List.mem_flatMap.mpr ⟨s,hs,by simp⟩,h⟩
  ·exact ⟨(s.2.1,s.2.2.map (· * -1)),List.mem_flatMap.mpr ⟨s,hs,by simp⟩,h⟩
def mn (b t:Int):Int:=if t < b then t else b
def mx (b:Int):Int:=if 0 > b then 0 else b
theorem ahead_at {x t p:Int} (ht:0 < t) (hp:0 ≤ p) (hpt:p < t):(x + t - 1 - p) / t=x / t + if p < x % t then 1 else 0:=by
 have e:=Int.mul_ediv_add_emod x t
 have m0:=Int.emod_nonneg x (by omega:t ≠ 0)
 have m1:=Int.emod_lt_of_pos x ht
 have e2:x + t - 1 - p=(x % t + t - 1 - p) + t * (x / t):=by omega
 rw [e2,Int.add_mul_ediv_left _ _ (by omega:t ≠ 0)]
 split
 ·have e3:x % t + t - 1 - p=(x % t - 1 - p) + t * 1:=by omega
  rw [e3,Int.add_mul_ediv_left _ _ (by omega:t ≠ 0),Int.ediv_eq_zero_of_lt (by omega) (by omega)]
  omega
 ·rw [Int.ediv_eq_zero_of_lt (by omega) (by omega)]
  omega
theorem sum_split {lo m t:Int} (ht:0 < t):(lo + m) / t=lo / t + m / t + (if lo % t + m % t < t then 0 else 1)∧(lo + m) % t=(if lo % t + m % t < t then lo % t + m % t else lo % t + m % t - t):=by
 have e1:=Int.mul_ediv_add_emod lo t
 have e2:=Int.mul_ediv_add_emod m t
 have a0:=Int.emod_nonneg lo (by omega:t ≠ 0)
 have a1:=Int.emod_lt_of_pos lo ht
 have b0:=Int.emod_nonneg m (by omega:t ≠ 0)
 have b1:=Int.emod_lt_of_pos m ht
 have tt:t ≠ 0:=by omega
 split
 ·have e3:lo + m=(lo % t + m % t) + t * (lo / t + m / t):=by rw [Int.mul_add]; omega
  constructor
  ·rw [e3,Int.add_mul_ediv_left _ _ tt,Int.ediv_eq_zero_of_lt (by omega) (by omega)]; omega
  ·rw [e3,Int.add_mul_emod_self_left,Int.emod_eq_of_lt (by omega) (by omega)]
 ·have e3:lo + m=(lo % t + m % t - t) + t * (lo / t + m / t + 1):=by rw [Int.mul_add,Int.mul_add]; omega
  constructor
  ·rw [e3,Int.add_mul_ediv_left _ _ tt,Int.ediv_eq_zero_of_lt (by omega) (by omega)]; omega
  ·rw [e3,Int.add_mul_emod_self_left,Int.emod_eq_of_lt (by omega) (by omega)]
theorem often_eq {lo m t p:Int} (ht:0 < t) (hp:0 ≤ p) (hpt:p < t):(lo + m + t - 1 - p) / t - (lo + t - 1 - p) / t=m / t * (st 0 p - st t p) + (st (lo % t) p - st (mn (lo % t + m % t) t) p) + (st 0 p - st (mx (lo % t + m % t - t)) p):=by
 rw [ahead_at ht hp hpt,ahead_at ht hp hpt]
 obtain ⟨e1,e2⟩:=sum_split (lo:=lo) (m:=m) ht
 have a0:=Int.emod_nonneg lo (by omega:t ≠ 0)
 have a1:=Int.emod_lt_of_pos lo ht
 have b0:=Int.emod_nonneg m (by omega:t ≠ 0)
 have b1:=Int.emod_lt_of_pos m ht
 rw [e1,e2]
 have s0:st 0 p=1:=by unfold st; rw [if_pos hp]
 have s1:st t p=0:=by unfold st; rw [if_neg (by omega)]
 rw [s0,s1,Int.sub_zero,Int.mul_one]
 generalize lo / t=A
 generalize m / t=B
 generalize lo % t=a at *
 generalize m % t=b at *
 unfold st mn mx
 by_cases h1:a + b < t
 ·rw [if_pos h1,if_pos h1,if_neg (by omega : ¬ t < a + b)]
  by_cases h2:(0:Int) > a + b - t
  ·rw [if_pos h2,if_pos hp]
   repeat' split
   all_goals omega
  ·omega
 ·rw [if_neg h1,if_neg h1]
  rw [if_neg (by omega : ¬ (0:Int) > a + b - t)]
  have h3:(if t < a + b then t else a + b)=t:=by split <;> omega
  rw [h3,if_neg (by omega : ¬ t ≤ p)]
  repeat' split
  all_goals omega
def GG (t p:Int) (i:Nat):Wl→Int→Int
 | [],_ => 0
 | (m,w) :: A,lo => co w i * ((lo + m + t - 1 - p) / t - (lo + t - 1 - p) / t) + GG t p i A (lo + m)
def ws1 (t:Int) (e:Int × List Int) (lo:Int):Sl:=[(0,t,e.2.map (· * (e.1 / t))),(lo % t,mn (lo % t + e.1 % t) t,e.2),(0,mx (lo % t + e.1 % t - t),e.2)]
def wst (t:Int):Wl→Int→Sl
 | [],_ => []
 | e :: A,lo => ws1 t e lo ++ wst t A (lo + e.1)
theorem wst_snoc {t:Int} : ∀ {A:Wl} {e:Int × List Int} {lo:Int},wst t (A ++ [e]) lo=wst t A lo ++ ws1 t e (lo + tot A)
 | [],e,lo => by rw [tot_nil,Int.add_zero]; show ws1 t e lo ++ []=[] ++ ws1 t e lo; rw [List.append_nil,List.nil_append]
 | d :: A,e,lo => by
  show ws1 t d lo ++ wst t (A ++ [e]) (lo + d.1)=ws1 t d lo ++ wst t A (lo + d.1) ++ ws1 t e (lo + tot (d :: A))
  rw [wst_snoc,tot_cons,List.append_assoc,show lo + d.1 + tot A=lo + (d.1 + tot A) by omega]
theorem FF_wst {t p:Int} (ht:0 < t) (hp:0 ≤ p) (hpt:p < t) (i:Nat):∀ (A:Wl) (lo:Int),FF (wst t A lo) p i=GG t p i A lo
 | [],_ => rfl
 | (m,w) :: A,lo => by
  show FF (ws1 t (m,w) lo ++ wst t A (lo + m)) p i=_ + GG t p i A (lo + m)
  rw [FF_app,FF_wst ht hp hpt i A (lo + m)]
  have:FF (ws1 t (m,w) lo) p i=co w i * ((lo + m + t - 1 - p) / t - (lo + t - 1 - p) / t):=by
   rw [often_eq ht hp hpt]
   show co (w.map (· * (m / t))) i * (st 0 p - st t p) + (co w i * (st (lo % t) p - st (mn (lo % t + m % t) t) p) + (co w i * (st 0 p - st (mx (lo % t + m % t - t)) p) + 0))=_
   rw [co_times,Int.mul_assoc,Int.mul_add,Int.mul_add]
   omega
  rw [this]
theorem mem_ws1 {t lo:Int} {e:Int × List Int} (ht:0 < t) {s:Int × Int × List Int} (h:s ∈ ws1 t e lo):0 ≤ s.1∧s.1 ≤ t∧0 ≤ s.2.1∧s.2.1 ≤ t∧s.2.2.length=e.2.length ∧
  (s.1=0 ∨ s.1=lo % t)∧(s.2.1=0 ∨ s.2.1=t ∨ s.2.1=(lo + e.1) % t):=by
 obtain ⟨e1,e2⟩:=sum_split (lo:=lo) (m:=e.1) ht
 have a0:=Int.emod_nonneg lo (by omega:t ≠ 0)
 have a1:=Int.emod_lt_of_pos lo ht
 have b0:=Int.emod_nonneg e.1 (by omega:t ≠ 0)
 have b1:=Int.emod_lt_of_pos e.1 ht
 unfold ws1 at h
 rcases List.mem_cons.mp h with rfl | h
 ·exact ⟨Int.le_refl _,Int.le_of_lt ht,Int.le_of_lt ht,Int.le_refl _,by simp,.inl rfl,.inr (.inl rfl)⟩
 rcases List.mem_cons.mp h with rfl | h
 ·have q:mn (lo % t + e.1 % t) t=t ∨ (mn (lo % t + e.1 % t) t=(lo + e.1) % t):=by
   rw [e2]; unfold mn
   by_cases z:lo % t + e.1 % t < t
   ·rw [if_pos z,if_neg (by omega)]; exact .inr rfl
   ·refine .inl ?_
    split <;> omega
  have q2:0 ≤ mn (lo % t + e.1 % t) t∧mn (lo % t + e.1 % t) t ≤ t:=by unfold mn; split <;> omega
  exact ⟨a0,by show lo % t ≤ t; omega,q2.1,q2.2,rfl,.inr rfl,.inr q⟩
 ·rw [List.mem_singleton.mp h]
  have q:mx (lo % t + e.1 % t - t)=0 ∨ (mx (lo % t + e.1 % t - t)=(lo + e.1) % t):=by
   rw [e2]; unfold mx
   by_cases z:lo % t + e.1 % t < t
   ·rw [if_pos (by omega)]; exact .inl rfl
   ·rw [if_neg (by omega),if_neg z]; exact .inr rfl
  have q2:0 ≤ mx (lo % t + e.1 % t - t)∧mx (lo % t + e.1 % t - t) ≤ t:=by unfold mx; split <;> omega
  exact ⟨by omega,by show (0:Int) ≤ t; omega,q2.1,q2.2,rfl,.inl rfl,q.imp id .inr⟩
theorem mem_wst {t:Int} (ht:0 < t):∀ {A:Wl} {lo:Int} {s:Int × Int × List Int},s ∈ wst t A lo→0 ≤ s.1∧s.1 ≤ t∧0 ≤ s.2.1∧s.2.1 ≤ t∧(∃ e ∈ A,s.2.2.length=e.2.length) ∧
  (s.1=0 ∨ ∃ j,j ≤ A.length∧s.1=(lo + tot (A.take j)) % t)∧(s.2.1=0 ∨ s.2.1=t ∨ ∃ j,j ≤ A.length∧s.2.1=(lo + tot (A.take j)) % t)
 | [],lo,s,h => by cases h
 | e :: A,lo,s,h => by
  rcases List.mem_append.mp (show s ∈ ws1 t e lo ++ wst t A (lo + e.1) from h) with h | h
  ·obtain ⟨h1,h2,h3,h4,h5,h6,h7⟩:=mem_ws1 ht h
   have z0:lo + tot ((e :: A).take 0)=lo:=by rw [List.take_zero,tot_nil]; omega
   have z1:lo + tot ((e :: A).take 1)=lo + e.1:=by rw [List.take_succ_cons,List.take_zero,tot_cons,tot_nil]; omega
   exact ⟨h1,h2,h3,h4,⟨e,List.mem_cons_self,h5⟩,h6.imp id fun q => ⟨0,Nat.zero_le _,by rw [z0]; exact q⟩,h7.imp id (Or.imp id fun q => ⟨1,by simp,by rw [z1]; exact q⟩)⟩
  ·obtain ⟨h1,h2,h3,h4,⟨d,hd,h5⟩,h6,h7⟩:=mem_wst ht h
   have z:∀ j,lo + tot ((e :: A).take (j + 1))=lo + e.1 + tot (A.take j):=fun j => by rw [List.take_succ_cons,tot_cons]; omega
   exact ⟨h1,h2,h3,h4,⟨d,List.mem_cons_of_mem _ hd,h5⟩,h6.imp id fun ⟨j,hj,q⟩ => ⟨j + 1,by simp; exact hj,by rw [z]; exact q⟩,h7.imp id (Or.imp id fun ⟨j,hj,q⟩ => ⟨j + 1,by simp; exact hj,by rw [z]; exact q⟩)⟩
theorem nodup_le:∀ {l m:List Int},l.Nodup→(∀ x ∈ l,x ∈ m)→l.length ≤ m.length
 | [],m,_,_ => Nat.zero_le _
 | a :: l,m,h,hm => by
  rw [List.nodup_cons] at h
  have ha:=hm a List.mem_cons_self
  have:=nodup_le (m:=m.erase a) h.2 fun x hx => (List.mem_erase_of_ne (fun z:x=a => h.1 (by rw [← z]; exact hx))).mpr (hm x (List.mem_cons_of_mem _ hx))
  rw [List.length_erase_of_mem ha] at this
  have:0 < m.length:=List.length_pos_of_mem ha
  simp only [List.length_cons]
  omega
end Toy
namespace Toy
open PySem L2 PyProof.Rows
theorem RE_none {k:Int} (i:Nat):∀ {E:Ev},(∀ x ∈ E,x.1 ≠ k)→RE E k i=0
 | [],_ => rfl
 | x :: E,h => by
  show co x.2 i * eqi x.1 k + RE E k i=0
  rw [RE_none i fun y hy => h y (List.mem_cons_of_mem _ hy)]
  unfold eqi
  rw [if_neg (h x List.mem_cons_self)]
  simp
theorem RE_snoc (E:Ev) (k:Int) (u:List Int) (j:Int) (i:Nat):RE (E ++ [(k,u)]) j i=RE E j i + co u i * eqi k j:=by
 rw [RE_app]
 show RE E j i + (co u i * eqi k j + 0)=_
 omega
structure DR (H:Hp) (d:Addr) (n:Nat) (E:Ev) (kvs:List (Key × V)):Prop where
 hd:H d=some (.dK kvs)
 keys:∃ ks:List Int,kvs.map (·.1)=ks.map Sum.inl∧ks.Nodup∧∀ k,k ∈ ks ↔ ∃ x ∈ E,x.1=k
 vals:∀ (k:Int) (v:V),valV kvs (.inl k)=some v→∃ (p:Addr) (us:List Int),v = .ref p∧H p=some (.tup (us.map V.int))∧us.length=n∧∀ i,co us i=RE E k i
theorem DR.new {H:Hp} {d:Addr} {n:Nat} (h:H d=some (.dK [])):DR H d n [] [] :=
 ⟨h,⟨[],rfl,List.nodup_nil,fun k => by simp⟩,fun k v e => by rw [valV_nil] at e; cases e⟩
theorem DR.up {H H' : Hp} {d:Addr} {n:Nat} {E:Ev} {kvs:List (Key × V)} (h:DR H d n E kvs) (hd:H' d=some (.dK kvs)) (t:Tups H H'):DR H' d n E kvs :=
 ⟨hd,h.keys,fun k v e => by
  obtain ⟨p,us,a,b,c⟩:=h.vals k v e
  exact ⟨p,us,a,t _ _ b,c⟩⟩
theorem DR.none {H:Hp} {d:Addr} {n:Nat} {E:Ev} {kvs:List (Key × V)} (h:DR H d n E kvs) {k:Int} (e:valV kvs (.inl k)=none) (i:Nat):RE E k i=0:=by
 obtain ⟨ks,hk,_,hm⟩:=h.keys
 refine RE_none i fun x hx z => valV_not e ?_
 rw [hk]
 exact List.mem_map.mpr ⟨k,(hm k).mpr ⟨x,hx,z⟩,rfl⟩
theorem DR.put {H H' : Hp} {d q:Addr} {n:Nat} {E:Ev} {kvs:List (Key × V)} {k:Int} {u us:List Int} (h:DR H d n E kvs) (hq:H' q=some (.tup (us.map V.int))) (hl:us.length=n) (hc:∀ i,co us i=RE E k i + co u i)
  (hd:H' d=some (.dK (putK kvs (.inl k) (.ref q)))) (t:Tups H H'):DR H' d n (E ++ [(k,u)]) (putK kvs (.inl k) (.ref q)):=by
 obtain ⟨ks,hk,hn,hm⟩:=h.keys
 refine ⟨hd,?_,fun j v e => ?_⟩
 ·cases z:valV kvs (Sum.inl k) with
  | none =>
   have hnk:k ∉ ks:=fun hin => valV_not z (by rw [hk]; exact List.mem_map.mpr ⟨k,hin,rfl⟩)
   refine ⟨ks ++ [k],by rw [putK_new _ z,List.map_append,List.map_append,hk]; rfl,nd_snoc hn hnk,fun j => ?_⟩
   rw [List.mem_append,List.mem_singleton,hm]
   constructor
   ·rintro (⟨x,hx,e⟩ | rfl)
    ·exact ⟨x,List.mem_append_left _ hx,e⟩
    ·exact ⟨(j,u),List.mem_append_right _ (List.mem_singleton.mpr rfl),rfl⟩
   ·rintro ⟨x,hx,e⟩
    rcases List.mem_append.mp hx with y | y
    ·exact .inl ⟨x,y,e⟩
    ·rw [List.mem_singleton.mp y] at e; exact .inr e.symm
  | some v =>
   have hin:k ∈ ks:=by
    have:=valV_in z
    rw [hk] at this
    obtain ⟨j,hj,e⟩:=List.mem_map.mp this
    cases e
    exact hj
   have ek:(putK kvs (.inl k) (.ref q)).map (·.1)=kvs.map (·.1):=by
    unfold putK
    rw [valV_any,z,if_pos (by rfl),List.map_map]
    refine List.map_congr_left fun x _ => ?_
    show (if x.1=Sum.inl k then (x.1,V.ref q) else x).1=x.1
    split <;> rfl
   refine ⟨ks,by rw [ek,hk],hn,fun j => ?_⟩
   rw [hm]
   constructor
   ·rintro ⟨x,hx,e⟩
    exact ⟨x,List.mem_append_left _ hx,e⟩
   ·rintro ⟨x,hx,e⟩
    rcases List.mem_append.mp hx with y | y
    ·exact ⟨x,y,e⟩
    ·rw [List.mem_singleton.mp y] at e
     have e:k=j:=e
     subst e
     exact (hm k).mp hin
 ·rw [valV_put] at e
  by_cases z:(Sum.inl j:Key)=Sum.inl k
  ·rw [if_pos z] at e
   cases e
   cases z
   refine ⟨q,us,rfl,hq,hl,fun i => ?_⟩
   rw [RE_snoc,hc]
   unfold eqi
   rw [if_pos rfl,Int.mul_one]
  ·rw [if_neg z] at e
   obtain ⟨p,ws,a,b,c,f⟩:=h.vals j v e
   refine ⟨p,ws,a,t _ _ b,c,fun i => ?_⟩
   rw [RE_snoc,f]
   unfold eqi
   rw [if_neg (fun y => z (by rw [y])),Int.mul_zero,Int.add_zero]
theorem Tups.dk {H H' : Hp} {d:Addr} {kvs:List (Key × V)} {o:HO} (t:Tups H H') (h:H' d=some (.dK kvs)):Tups H (upd H' d o):=fun b ys hb => by
 have:=t b ys hb
 rw [upd_ne (ne_of this h (by intro z; cases z))]
 exact this
theorem DR.get {H:Hp} {d:Addr} {n:Nat} {E:Ev} {kvs:List (Key × V)} (h:DR H d n E kvs) (k:Int) {r:Addr} {u:List Int} (hr:H r=some (.tup ((u.map (· * 0)).map V.int))) (hu:u.length=n) :
  ∃ (p:Addr) (us:List Int),(valV kvs (Sum.inl k)).getD (.ref r) = .ref p∧H p=some (.tup (us.map V.int))∧us.length=n∧∀ i,co us i=RE E k i:=by
 cases z:valV kvs (Sum.inl k:Key) with
 | none => exact ⟨r,_,rfl,hr,by rw [List.length_map]; exact hu,fun i => by rw [co_times,h.none z,Int.mul_zero]⟩
 | some v =>
  obtain ⟨p,us,rfl,a,b,c⟩:=h.vals k v z
  exact ⟨p,us,rfl,a,b,c⟩
theorem rise_strict:∀ {l:List Int},l.Pairwise (· ≤ ·)→l.Nodup→l.Pairwise (· < ·)
 | [],_,_ => .nil
 | a :: l,h,n => by
  rw [List.pairwise_cons] at h ⊢
  rw [List.nodup_cons] at n
  exact ⟨fun b hb => by
   have h1:=h.1 b hb
   rcases Int.lt_or_eq_of_le h1 with z | z
   ·exact z
   ·exact absurd (z ▸ hb) n.1,rise_strict h.2 n.2⟩
theorem cut_one (xs:List V):cutV xs (some 1) none=xs.drop 1:=by
 unfold cutV HT.sIx
 cases xs with
 | nil => rfl
 | cons x xs => simp
def Stg (H:Hp) (xs:List V) (S:Sl):Prop:=xs.length=S.length∧∀ (i:Nat) (x:V) (s:Int × Int × List Int),xs[i]? = some x→S[i]? = some s→∃ (p wq:Addr),x = .ref p∧H p=some (.tup [.int s.1,.int s.2.1,.ref wq])∧H wq=some (.tup (s.2.2.map V.int))
theorem Stg.nil (H:Hp):Stg H [] []:=⟨rfl,fun i x s h => by cases h⟩
theorem Stg.up {H H' : Hp} {xs:List V} {S:Sl} (h:Stg H xs S) (t:Tups H H'):Stg H' xs S:=⟨h.1,fun i x s h1 h2 => by
 obtain ⟨p,wq,a,b,c⟩:=h.2 i x s h1 h2
 exact ⟨p,wq,a,t _ _ b,t _ _ c⟩⟩
theorem Stg.snoc {H:Hp} {xs:List V} {S:Sl} {x:V} {s:Int × Int × List Int} (h:Stg H xs S) (hx:∃ (p wq:Addr),x = .ref p∧H p=some (.tup [.int s.1,.int s.2.1,.ref wq])∧H wq=some (.tup (s.2.2.map V.int))):Stg H (xs ++ [x]) (S ++ [s]):=by
 refine ⟨by rw [List.length_append,List.length_append,h.1]; rfl,fun i y r h1 h2 => ?_⟩
 by_cases z:i < xs.length
 ·rw [List.getElem?_append_left z] at h1
  rw [List.getElem?_append_left (h.1 ▸ z)] at h2
  exact h.2 i y r h1 h2
 ·rw [List.getElem?_append_right (by omega)] at h1
  rw [List.getElem?_append_right (by have:=h.1; omega)] at h2
  rw [h.1] at h1
  cases w:i - S.length with
  | zero => rw [w] at h1 h2; cases h1; cases h2; exact hx
  | succ m => rw [w] at h1; cases h1
theorem Stg.at' {H:Hp} {xs:List V} {S:Sl} (h:Stg H xs S) {i:Nat} {x:V} (hx:xs[i]? = some x):∃ s,S[i]? = some s∧∃ (p wq:Addr),x = .ref p∧H p=some (.tup [.int s.1,.int s.2.1,.ref wq])∧H wq=some (.tup (s.2.2.map V.int)):=by
 have hi:i < S.length:=by rw [← h.1]; exact (List.getElem?_eq_some_iff.mp hx).1
 exact ⟨S[i],by simp [hi],h.2 i x _ hx (by simp [hi])⟩
end Toy
namespace L2
open PySem PySem.Spec PyProof.Rows
def RK (rk:Value→Int) (xs:Array Keyed) (i:Nat):Int:=match xs[i]? with
 | some p => rk p.1
 | none => 0
theorem RK_of {rk:Value→Int} {xs ys:Array Keyed} {i j:Nat} (h:xs[i]? = ys[j]?):RK rk xs i=RK rk ys j:=by unfold RK; rw [h]
theorem RK_bub {rk:Value→Int} {xs:Array Keyed} {a d:Nat} (ha:a < xs.size) (hd:d ≤ a) (k:Nat):RK rk (bubble xs a d) k=if k=a - d then RK rk xs a else if a - d < k∧k ≤ a then RK rk xs (k - 1) else RK rk xs k:=by
 have z:=getElem?_bubble ha d hd k
 split
 ·rename_i h; rw [if_pos h] at z; exact RK_of z
 ·rename_i h
  rw [if_neg h] at z
  split
  ·rename_i g; rw [if_pos g] at z; exact RK_of z
  ·rename_i g; rw [if_neg g] at z; exact RK_of z
theorem RK_mir {rk:Value→Int} {xs:Array Keyed} {a b:Nat} (hb:b ≤ xs.size) (k:Nat):RK rk (mirror xs a b ((b - a) / 2)) k=if a ≤ k∧k < b then RK rk xs (a + b - 1 - k) else RK rk xs k:=by
 have z:=getElem?_mirror_all (i:=a) hb k
 split
 ·rename_i h; rw [if_pos h] at z; exact RK_of z
 ·rename_i h; rw [if_neg h] at z; exact RK_of z
structure SB (k0:SortKind) (a0:Array Keyed) (st:SortSt):Prop where
 pm:(arrOf st).Perm a0
 kd:kindOf st=k0
 fl:failedOf st=none
 pn:pendingOf st = #[]
def LtOk (prog:Program) (w:World) (A:Around) (s:Shared) (k0:SortKind) (a0:Array Keyed) (rk:Value→Int):Prop :=
 ∀ (E:Value→Shared→Prop) (x y:Keyed) (Q:Bool→Shared→Prop),x ∈ a0.toList→y ∈ a0.toList→Q (decide (rk x.1 < rk y.1)) s→wpAny (model prog w) A (keyLt' k0 x.1 y.1) Q E s
section
variable {prog:Program} {w:World} {A:Around} {E:Value→Shared→Prop} {s:Shared} {k0:SortKind} {a0:Array Keyed} {rk:Value→Int}
theorem mir_same {xs:Array Keyed} {a b:Nat} (hb:b ≤ xs.size) (e:∀ i,a ≤ i→i < b→RK rk xs i=RK rk xs (b - 1)) (k:Nat):RK rk (mirror xs a b ((b - a) / 2)) k=RK rk xs k:=by
 rw [RK_mir hb]
 split
 ·rename_i h
  rw [e k h.1 h.2]
  exact e _ (by omega) (by omega)
 ·rfl
end
end L2
namespace TimG
open PySem PySem.Spec PyProof.Rows
class KO where
 rk:Value→Int
 ik:Keyed→Prop
 kd:SortKind
variable [KO]
def numK (p:Keyed):Int:=KO.rk p.1
def Ik (p:Keyed):Prop:=KO.ik p
def IkA (a:Array Keyed):Prop:=∀ p ∈ a.toList,Ik p
class KL (prog:Program) (w:World) (A:Around) (s:Shared):Prop where
 lt:∀ {E:Value→Shared→Prop} {x y:Keyed} {st:SortSt} {Q:Option Bool→SortSt→Prop},kindOf st=KO.kd→Ik x→Ik y→Q (some (decide (numK x < numK y))) st→wpS (model prog w) A E s (lt' x y) Q st
def K (a:Array Keyed) (i:Nat):Int:=L2.RK KO.rk a i
theorem K_mirror {xs:Array Keyed} {i j:Nat} (hj:j ≤ xs.size) (k:Nat):K (mirror xs i j ((j - i) / 2)) k=if i ≤ k∧k < j then K xs (i + j - 1 - k) else K xs k:=L2.RK_mir hj k
theorem K_mirror_equal {xs:Array Keyed} {i j:Nat} (hj:j ≤ xs.size) (heq:∀ k,i ≤ k→k < j→K xs k=K xs (j - 1)) (k:Nat):K (mirror xs i j ((j - i) / 2)) k=K xs k:=L2.mir_same hj heq k
theorem K_bubble {xs:Array Keyed} {src d:Nat} (hs:src < xs.size) (hd:d ≤ src) (k:Nat):K (bubble xs src d) k=if k=src - d then K xs src else if src - d < k∧k ≤ src then K xs (k - 1) else K xs k:=L2.RK_bub hs hd k
def gallopX:Bool→Keyed→Array Keyed→Nat→Nat→Nat→StateT SortSt Sem (Option Nat):=sortPriv% PySem.Builtin.gallop
def mergeLoX:Array Keyed→Array Keyed→StateT SortSt Sem (Array Keyed):=sortPriv% PySem.Builtin.mergeLo
def mergeHiX:Array Keyed→Array Keyed→StateT SortSt Sem (Array Keyed):=sortPriv% PySem.Builtin.mergeHi
def setMinGallopX:Nat→StateT SortSt Sem Unit:=sortPriv% PySem.Builtin.setMinGallop
abbrev setGal (st:SortSt) (g:Nat):SortSt:=SortSt.mk' (kindOf st) (arrOf st) (pendingOf st) g (failedOf st)
theorem setMinGallopX_eq (g:Nat):setMinGallopX g=modify fun s => setGal s g:=rfl
def beyondX (left:Bool) (key:Keyed) (arr:Array Keyed) (base i:Nat):StateT SortSt Sem (Option Bool):=do
 let x ← elem' arr (base + i)
 if left then lt' x key else return (← lt' key x).map (!·)
theorem gallopX_eq (left:Bool) (key:Keyed) (arr:Array Keyed) (base n hint:Nat):gallopX left key arr base n hint=(do
 let mut lastofs:=0
 let mut ofs:=1
 let mut lo:=0
 let mut hi:=0
 let some right ← beyondX left key arr base hint | return none
 if right then
  let maxofs:=n - hint
  for _ in [0:n] do
   if ofs ≥ maxofs then break
   let some more ← beyondX left key arr base (hint + ofs) | return none
   if !more then break
   lastofs:=ofs
   ofs:=2 * ofs + 1
  lo:=hint + lastofs + 1
  hi:=hint + min ofs maxofs
 else
  let maxofs:=hint + 1
  for _ in [0:n] do
   if ofs ≥ maxofs then break
   let some found ← beyondX left key arr base (hint - ofs) | return none
   if found then break
   lastofs:=ofs
   ofs:=2 * ofs + 1
  lo:=hint + 1 - min ofs maxofs
  hi:=hint - lastofs
 for _ in [0:n] do
  if lo ≥ hi then break
  let m:=lo + (hi - lo) / 2
  let some more ← beyondX left key arr base m | return none
  if more then lo:=m + 1 else hi:=m
 return some hi):=rfl
section
variable {prog:Program} {w:World} {A:Around} {E:Value→Shared→Prop} {s:Shared} [KL prog w A s]
theorem wpS_elem {arr:Array Keyed} {i:Nat} {p:Keyed} {st:SortSt} {Q:Keyed→SortSt→Prop} (e:arr[i]? = some p) (h:Q p st):wpS (model prog w) A E s (elem' arr i) Q st:=by
 rw [elem'_eq,e]
 exact wpS_pure h
theorem wpS_ltN {x y:Keyed} {st:SortSt} {Q:Option Bool→SortSt→Prop} (hk:kindOf st=KO.kd) (hx:Ik x) (hy:Ik y) (h:Q (some (decide (numK x < numK y))) st):wpS (model prog w) A E s (lt' x y) Q st:=KL.lt hk hx hy h
def ahead (left:Bool) (key x:Keyed):Bool:=if left=true then decide (numK x < numK key) else !decide (numK key < numK x)
theorem wpS_beyond {left:Bool} {key p:Keyed} {arr:Array Keyed} {base i:Nat} {st:SortSt} {Q:Option Bool→SortSt→Prop} (hk:kindOf st=KO.kd) (hkey:Ik key) (e:arr[base + i]? = some p) (hp:Ik p) (h:Q (some (ahead left key p)) st):wpS (model prog w) A E s (beyondX left key arr base i) Q st:=by
 unfold beyondX
 refine wpS_bind (wpS_elem e ?_)
 cases left with
 | true => exact wpS_ltN hk hp hkey h
 | false => exact wpS_bind (wpS_ltN hk hkey hp (wpS_pure h))
def binX (left:Bool) (key:Keyed) (arr:Array Keyed) (base n lo hi:Nat):StateT SortSt Sem (Option Nat):=do
 let mut lo:=lo
 let mut hi:=hi
 for _ in [0:n] do
  if lo ≥ hi then break
  let m:=lo + (hi - lo) / 2
  let some more ← beyondX left key arr base m | return none
  if more then lo:=m + 1 else hi:=m
 return some hi
theorem wpS_bin {left:Bool} {key:Keyed} {arr:Array Keyed} {base n lo hi:Nat} {st:SortSt} {Q:Option Nat→SortSt→Prop} {b:Nat→Bool}
  (bey:∀ {i:Nat} {Q:Option Bool→SortSt→Prop},i < n→Q (some (b i)) st→wpS (model prog w) A E s (beyondX left key arr base i) Q st) (anti:∀ i j,i ≤ j→j < n→b j=true→b i=true)
  (hl:lo ≤ hi) (hn:hi ≤ n) (h1:∀ i,i < lo→b i=true) (h2:∀ i,hi ≤ i→i < n→b i=false)
  (h:∀ k,k ≤ n→(∀ i,i < k→b i=true)→(∀ i,k ≤ i→i < n→b i=false)→Q (some k) st):wpS (model prog w) A E s (binX left key arr base n lo hi) Q st:=by
 unfold binX
 refine wpS_bind (wpS_mono (wpS_forRange (I:=fun x c st'' => st'' = st∧∃ l r,c=(none,l,r)∧l ≤ r∧r ≤ n∧r - l ≤ n - x∧(∀ i,i < l→b i=true)∧(∀ i,r ≤ i→i < n→b i=false))
  (Q:=fun c st'' => st'' = st∧∃ l,c=(none,l,l)∧l ≤ n∧(∀ i,i < l→b i=true)∧(∀ i,l ≤ i→i < n→b i=false)) ?step ?fin ⟨rfl,lo,hi,rfl,hl,hn,by omega,h1,h2⟩) ?post)
 case fin =>
  rintro c st'' ⟨rfl,l,r,rfl,a1,a2,a3,a4,a5⟩
  have:l=r:=by omega
  subst this
  exact ⟨rfl,l,rfl,a2,a4,a5⟩
 case step =>
  rintro x c st'' _ hx ⟨rfl,l,r,rfl,a1,a2,a3,a4,a5⟩
  dsimp only
  by_cases hge:l ≥ r
  ·rw [if_pos hge]
   have:l=r:=by omega
   subst this
   exact wpS_pure ⟨rfl,l,rfl,a2,a4,a5⟩
  ·rw [if_neg hge]
   refine wpS_bind (bey (by omega) ?_)
   dsimp only
   cases hm:b (l + (r - l) / 2) with
   | true =>
    refine wpS_pure ⟨rfl,l + (r - l) / 2 + 1,r,rfl,by omega,a2,by omega,fun i hi => ?_,a5⟩
    exact anti i (l + (r - l) / 2) (by omega) (by omega) hm
   | false =>
    refine wpS_pure ⟨rfl,l,l + (r - l) / 2,rfl,by omega,by omega,by omega,a4,fun i hi hin => ?_⟩
    cases z:b i with
    | false => rfl
    | true => rw [anti _ i hi hin z] at hm; cases hm
 case post =>
  rintro c st'' ⟨rfl,l,rfl,a2,a4,a5⟩
  exact wpS_pure (h l a2 a4 a5)
theorem wpS_gallop {left:Bool} {key:Keyed} {arr:Array Keyed} {base n hint:Nat} {st:SortSt} {Q:Option Nat→SortSt→Prop} {b:Nat→Bool} (hk:kindOf st=KO.kd) (hkey:Ik key) (hh:hint < n)
  (hb:∀ i,i < n→∃ p,arr[base + i]? = some p∧Ik p∧b i=ahead left key p) (anti:∀ i j,i ≤ j→j < n→b j=true→b i=true)
  (h:∀ k,k ≤ n→(∀ i,i < k→b i=true)→(∀ i,k ≤ i→i < n→b i=false)→Q (some k) st):wpS (model prog w) A E s (gallopX left key arr base n hint) Q st:=by
 have bey:∀ {i:Nat} {Q:Option Bool→SortSt→Prop},i < n→Q (some (b i)) st→wpS (model prog w) A E s (beyondX left key arr base i) Q st:=fun {i Q} hi q => by
  obtain ⟨p,e,ip,eb⟩:=hb i hi
  exact wpS_beyond hk hkey e ip (by rw [← eb]; exact q)
 rw [gallopX_eq]
 refine wpS_bind (bey hh ?_)
 dsimp only
 have low:∀ {i j:Nat},i ≤ j→j < n→b i=false→b j=false:=fun {i j} hij hj hf => by
  cases z:b j with
  | false => rfl
  | true => rw [anti i j hij hj z] at hf; cases hf
 cases hright:b hint with
 | true =>
  rw [if_pos rfl]
  refine wpS_bind (wpS_mono (wpS_forRange (I:=fun x c st'' => st'' = st∧∃ l o,c=(none,l,o)∧x + 1 ≤ o∧l < o∧hint + l < n∧b (hint + l)=true)
   (Q:=fun c st'' => st'' = st∧∃ l o,c=(none,l,o)∧l < o∧hint + l < n∧b (hint + l)=true∧(n - hint ≤ o ∨ (hint + o < n∧b (hint + o)=false))) ?_ ?_ ⟨rfl,0,1,rfl,by omega,by omega,by omega,hright⟩) ?_)
  ·rintro x c st'' _ hx ⟨rfl,l,o,rfl,a0,a1,a2,a3⟩
   dsimp only
   by_cases hge:o ≥ n - hint
   ·rw [if_pos hge]
    exact wpS_pure ⟨rfl,l,o,rfl,a1,a2,a3,.inl hge⟩
   ·rw [if_neg hge]
    refine wpS_bind (bey (by omega) ?_)
    dsimp only
    cases hm:b (hint + o) with
    | true => exact wpS_pure ⟨rfl,o,2 * o + 1,rfl,by omega,by omega,by omega,hm⟩
    | false => exact wpS_pure ⟨rfl,l,o,rfl,a1,a2,a3,.inr ⟨by omega,hm⟩⟩
  ·rintro c st'' ⟨rfl,l,o,rfl,a0,a1,a2,a3⟩
   exact ⟨rfl,l,o,rfl,a1,a2,a3,.inl (by omega)⟩
  ·rintro c st'' ⟨rfl,l,o,rfl,a1,a2,a3,a4⟩
   refine wpS_bin (lo:=hint + l + 1) (hi:=hint + min o (n - hint)) bey anti (by omega) (by omega) (fun i hi => anti i (hint + l) (by omega) a2 a3) (fun i hi hin => ?_) h
   rcases a4 with a4 | ⟨a4,a5⟩
   ·omega
   ·exact low (by omega) hin a5
 | false =>
  rw [if_neg (by decide)]
  refine wpS_bind (wpS_mono (wpS_forRange (I:=fun x c st'' => st'' = st∧∃ l o,c=(none,l,o)∧x + 1 ≤ o∧l < o∧l ≤ hint∧b (hint - l)=false)
   (Q:=fun c st'' => st'' = st∧∃ l o,c=(none,l,o)∧l < o∧l ≤ hint∧b (hint - l)=false∧(hint + 1 ≤ o ∨ (o ≤ hint∧b (hint - o)=true))) ?_ ?_ ⟨rfl,0,1,rfl,by omega,by omega,by omega,hright⟩) ?_)
  ·rintro x c st'' _ hx ⟨rfl,l,o,rfl,a0,a1,a2,a3⟩
   dsimp only
   by_cases hge:o ≥ hint + 1
   ·rw [if_pos hge]
    exact wpS_pure ⟨rfl,l,o,rfl,a1,a2,a3,.inl hge⟩
   ·rw [if_neg hge]
    refine wpS_bind (bey (by omega) ?_)
    dsimp only
    cases hm:b (hint - o) with
    | true => exact wpS_pure ⟨rfl,l,o,rfl,a1,a2,a3,.inr ⟨by omega,hm⟩⟩
    | false => exact wpS_pure ⟨rfl,o,2 * o + 1,rfl,by omega,by omega,by omega,hm⟩
  ·rintro c st'' ⟨rfl,l,o,rfl,a0,a1,a2,a3⟩
   exact ⟨rfl,l,o,rfl,a1,a2,a3,.inl (by omega)⟩
  ·rintro c st'' ⟨rfl,l,o,rfl,a1,a2,a3,a4⟩
   refine wpS_bin (lo:=hint + 1 - min o (hint + 1)) (hi:=hint - l) bey anti (by omega) (by omega) (fun i hi => ?_) (fun i hi hin => low hi hin a3) h
   rcases a4 with a4 | ⟨a4,a5⟩
   ·omega
   ·exact anti i (hint - o) (by omega) (by omega) a5
end
end TimG
namespace TimG
open PySem PySem.Spec PyProof.Rows
variable [KO]
def Srt (l:List Keyed):Prop:=l.Pairwise fun x y => numK x ≤ numK y
structure MI (L o X Y:List Keyed):Prop where
 perm:(o ++ (X ++ Y)).Perm L
 so:Srt o
 sx:Srt X
 sy:Srt Y
 le:∀ x ∈ o,∀ y ∈ X ++ Y,numK x ≤ numK y
theorem srt_app {a b:List Keyed} (h1:Srt a) (h2:Srt b) (h:∀ x ∈ a,∀ y ∈ b,numK x ≤ numK y):Srt (a ++ b):=List.pairwise_append.mpr ⟨h1,h2,h⟩
theorem srt_l {a b:List Keyed} (h:Srt (a ++ b)):Srt a:=(List.pairwise_append.mp h).1
theorem srt_r {a b:List Keyed} (h:Srt (a ++ b)):Srt b:=(List.pairwise_append.mp h).2.1
theorem srt_lr {a b:List Keyed} (h:Srt (a ++ b)):∀ x ∈ a,∀ y ∈ b,numK x ≤ numK y:=(List.pairwise_append.mp h).2.2
theorem MI.moveA {L o P X Y:List Keyed} (h:MI L o (P ++ X) Y) (hp:∀ p ∈ P,∀ y ∈ Y,numK p ≤ numK y):MI L (o ++ P) X Y:=by
 refine ⟨?_,srt_app h.so (srt_l h.sx) fun x hx y hy => h.le x hx y (List.mem_append_left _ (List.mem_append_left _ hy)),srt_r h.sx,h.sy,fun x hx y hy => ?_⟩
 ·have:=h.perm
  rw [List.append_assoc] at this
  rw [List.append_assoc]
  exact this
 ·rcases List.mem_append.mp hx with hx | hx
  ·refine h.le x hx y ?_
   rcases List.mem_append.mp hy with hy | hy
   ·exact List.mem_append_left _ (List.mem_append_right _ hy)
   ·exact List.mem_append_right _ hy
  ·rcases List.mem_append.mp hy with hy | hy
   ·exact srt_lr h.sx x hx y hy
   ·exact hp x hx y hy
theorem MI.moveB {L o P X Y:List Keyed} (h:MI L o X (P ++ Y)) (hp:∀ p ∈ P,∀ x ∈ X,numK p ≤ numK x):MI L (o ++ P) X Y:=by
 refine ⟨?_,srt_app h.so (srt_l h.sy) fun x hx y hy => h.le x hx y (List.mem_append_right _ (List.mem_append_left _ hy)),h.sx,srt_r h.sy,fun x hx y hy => ?_⟩
 ·refine List.Perm.trans ?_ h.perm
  rw [List.append_assoc]
  refine List.Perm.append_left o ?_
  rw [← List.append_assoc,← List.append_assoc]
  exact List.Perm.append_right Y List.perm_append_comm
 ·rcases List.mem_append.mp hx with hx | hx
  ·refine h.le x hx y ?_
   rcases List.mem_append.mp hy with hy | hy
   ·exact List.mem_append_left _ hy
   ·exact List.mem_append_right _ (List.mem_append_right _ hy)
  ·rcases List.mem_append.mp hy with hy | hy
   ·exact hp x hx y hy
   ·exact srt_lr h.sy x hx y hy
def Fin' (L R:List Keyed):Prop:=R.Perm L∧Srt R
theorem MI.endA {L o X:List Keyed} (h:MI L o X []):Fin' L (o ++ X):=by
 have:=h.perm
 rw [List.append_nil] at this
 exact ⟨this,srt_app h.so h.sx fun x hx y hy => h.le x hx y (List.mem_append_left _ hy)⟩
theorem MI.lastA {L o X Y:List Keyed} (h:MI L o X Y) (hp:∀ y ∈ Y,∀ x ∈ X,numK y ≤ numK x):Fin' L (o ++ Y ++ X):=by
 have h2:MI L o X (Y ++ []):=by rw [List.append_nil]; exact h
 exact (h2.moveB hp).endA
theorem mergeLoX_eq (a b:Array Keyed):mergeLoX a b=(do
 rule "list.sort.merge-lo"
 let total:=a.size + b.size
 let done (out:Array Keyed) (ia ib:Nat):=out ++ a.extract ia a.size ++ b.extract ib b.size
 let lastOfA (out:Array Keyed) (ia ib:Nat):=out ++ b.extract ib b.size ++ a.extract ia a.size
 let mut out:Array Keyed:=#[← elem' b 0]
 let mut ia:=0
 let mut ib:=1
 if ib == b.size then return done out ia ib
 if ia + 1 == a.size then return lastOfA out ia ib
 let mut minGallop:=gallopOf (← get)
 for _ in [0:total] do
  let mut acount:=0
  let mut bcount:=0
  for _ in [0:total] do
   let some bWins ← lt' (← elem' b ib) (← elem' a ia) | return done out ia ib
   if bWins then
    out:=out.push (← elem' b ib); ib:=ib + 1; bcount:=bcount + 1; acount:=0
    if ib == b.size then return done out ia ib
    if bcount ≥ minGallop then break
   else
    out:=out.push (← elem' a ia); ia:=ia + 1; acount:=acount + 1; bcount:=0
    if ia + 1 == a.size then return lastOfA out ia ib
    if acount ≥ minGallop then break
  rule "list.sort.gallop"
  minGallop:=minGallop + 1
  for _ in [0:total] do
   if minGallop > 1 then minGallop:=minGallop - 1
   setMinGallopX minGallop
   let some k ← gallopX false (← elem' b ib) a ia (a.size - ia) 0 | return done out ia ib
   acount:=k
   if k > 0 then
    out:=out ++ a.extract ia (ia + k); ia:=ia + k
    if ia + 1 == a.size then return lastOfA out ia ib
    if ia == a.size then return done out ia ib
   out:=out.push (← elem' b ib); ib:=ib + 1
   if ib == b.size then return done out ia ib
   let some k ← gallopX true (← elem' a ia) b ib (b.size - ib) 0 | return done out ia ib
   bcount:=k
   if k > 0 then
    out:=out ++ b.extract ib (ib + k); ib:=ib + k
    if ib == b.size then return done out ia ib
   out:=out.push (← elem' a ia); ia:=ia + 1
   if ia + 1 == a.size then return lastOfA out ia ib
   if acount < 7 && bcount < 7 then break
  minGallop:=minGallop + 1
  setMinGallopX minGallop
 unsupported "internal:list.sort.merge-bound"):=rfl
theorem ext_full (a:Array Keyed) (i:Nat):(a.extract i a.size).toList=a.toList.drop i:=by
 rw [Array.toList_extract,List.extract_eq_take_drop]
 exact List.take_of_length_le (by rw [List.length_drop,Array.length_toList]; exact Nat.le_refl _)
theorem ext_k (a:Array Keyed) (i k:Nat):(a.extract i (i + k)).toList=(a.toList.drop i).take k:=by
 rw [Array.toList_extract,List.extract_eq_take_drop,Nat.add_sub_cancel_left]
theorem drop_at {a:Array Keyed} {i:Nat} {p:Keyed} (e:a[i]? = some p):a.toList.drop i=p :: a.toList.drop (i + 1):=by
 have h:a.toList[i]? = some p:=by rw [Array.getElem?_toList]; exact e
 obtain ⟨hi,rfl⟩:=List.getElem?_eq_some_iff.mp h
 exact List.drop_eq_getElem_cons hi
theorem at_lt {a:Array Keyed} {i:Nat} (h:i < a.size):∃ p,a[i]? = some p∧p ∈ a.toList:=⟨a[i],Array.getElem?_eq_getElem h,by simp⟩
def Keep (st st' : SortSt):Prop:=kindOf st' = kindOf st∧arrOf st' = arrOf st∧pendingOf st' = pendingOf st∧failedOf st' = failedOf st
theorem Keep.refl (st:SortSt):Keep st st:=⟨rfl,rfl,rfl,rfl⟩
theorem Keep.gal {st st' : SortSt} (h:Keep st st') (g:Nat):Keep st (setGal st' g):=⟨h.1,h.2.1,h.2.2.1,h.2.2.2⟩
structure Two (a b:Array Keyed):Prop where
 ia:∀ p ∈ a.toList,Ik p
 ib:∀ p ∈ b.toList,Ik p
 sa:Srt a.toList
 sb:Srt b.toList
def LoI (a b out:Array Keyed) (i j:Nat):Prop:=MI (a.toList ++ b.toList) out.toList (a.toList.drop i) (b.toList.drop j)
theorem LoI.pushA {a b out:Array Keyed} {i j:Nat} {p:Keyed} (h:LoI a b out i j) (e:a[i]? = some p) (hp:∀ y ∈ b.toList.drop j,numK p ≤ numK y):LoI a b (out.push p) (i + 1) j:=by
 unfold LoI at h ⊢
 rw [drop_at e] at h
 rw [Array.toList_push]
 exact MI.moveA (P:=[p]) h fun q hq y hy => by rw [List.mem_singleton.mp hq]; exact hp y hy
theorem LoI.pushB {a b out:Array Keyed} {i j:Nat} {p:Keyed} (h:LoI a b out i j) (e:b[j]? = some p) (hp:∀ y ∈ a.toList.drop i,numK p ≤ numK y):LoI a b (out.push p) i (j + 1):=by
 unfold LoI at h ⊢
 rw [drop_at e] at h
 rw [Array.toList_push]
 exact MI.moveB (P:=[p]) h fun q hq y hy => by rw [List.mem_singleton.mp hq]; exact hp y hy
theorem LoI.blockA {a b out:Array Keyed} {i j k:Nat} (h:LoI a b out i j) (hp:∀ x ∈ (a.toList.drop i).take k,∀ y ∈ b.toList.drop j,numK x ≤ numK y):LoI a b (out ++ a.extract i (i + k)) (i + k) j:=by
 unfold LoI at h ⊢
 rw [Array.toList_append,ext_k,← List.drop_drop]
 rw [← List.take_append_drop k (a.toList.drop i)] at h
 exact h.moveA hp
theorem LoI.blockB {a b out:Array Keyed} {i j k:Nat} (h:LoI a b out i j) (hp:∀ x ∈ (b.toList.drop j).take k,∀ y ∈ a.toList.drop i,numK x ≤ numK y):LoI a b (out ++ b.extract j (j + k)) i (j + k):=by
 unfold LoI at h ⊢
 rw [Array.toList_append,ext_k,← List.drop_drop]
 rw [← List.take_append_drop k (b.toList.drop j)] at h
 exact h.moveB hp
theorem LoI.done {a b out:Array Keyed} {i j:Nat} (h:LoI a b out i j) (hj:j=b.size):Fin' (a.toList ++ b.toList) (out ++ a.extract i a.size ++ b.extract j b.size).toList:=by
 unfold LoI at h
 rw [Array.toList_append,Array.toList_append,ext_full,ext_full]
 rw [List.drop_of_length_le (l:=b.toList) (by rw [Array.length_toList]; omega)] at h ⊢
 rw [List.append_nil]
 exact h.endA
theorem LoI.last {a b out:Array Keyed} {i j:Nat} (h:LoI a b out i j) (hp:∀ y ∈ b.toList.drop j,∀ x ∈ a.toList.drop i,numK y ≤ numK x):Fin' (a.toList ++ b.toList) (out ++ b.extract j b.size ++ a.extract i a.size).toList:=by
 rw [Array.toList_append,Array.toList_append,ext_full,ext_full]
 exact MI.lastA h hp
theorem srt_head {l:List Keyed} {p:Keyed} (h:Srt (p :: l)):∀ y ∈ p :: l,numK p ≤ numK y:=fun y hy => by
 rcases List.mem_cons.mp hy with rfl | hy
 ·exact Int.le_refl _
 ·exact (List.pairwise_cons.mp h).1 y hy
theorem srt_drop {l:List Keyed} (h:Srt l) (i:Nat):Srt (l.drop i):=List.Pairwise.drop h
theorem srt_at {a:Array Keyed} (h:Srt a.toList) {i:Nat} {p:Keyed} (e:a[i]? = some p):∀ y ∈ a.toList.drop i,numK p ≤ numK y:=by
 have:=srt_drop h i
 rw [drop_at e] at this ⊢
 exact srt_head this
section
variable {prog:Program} {w:World} {A:Around} {E:Value→Shared→Prop} {s:Shared} [KL prog w A s]
theorem wpS_gal {left:Bool} {key:Keyed} {arr:Array Keyed} {base n hint:Nat} {st:SortSt} {Q:Option Nat→SortSt→Prop} (hk:kindOf st=KO.kd) (hkey:Ik key) (hh:hint < n) (hn:base + n ≤ arr.size) (hi:∀ p ∈ arr.toList,Ik p) (hs:∀ (i j:Nat) (p q:Keyed),i ≤ j→j < n→arr[base + i]? = some p→arr[base + j]? = some q→numK p ≤ numK q)
  (h:∀ k,k ≤ n→(∀ i p,i < k→arr[base + i]? = some p→ahead left key p=true)→(∀ i p,k ≤ i→i < n→arr[base + i]? = some p→ahead left key p=false)→Q (some k) st):wpS (model prog w) A E s (gallopX left key arr base n hint) Q st:=by
 refine wpS_gallop (b:=fun i => match arr[base + i]? with | some p => ahead left key p | none => false) hk hkey hh (fun i hi' => ?_) (fun i j hij hj hb => ?_) fun k hk1 hk2 hk3 => h k hk1 (fun i p hik e => ?_) (fun i p hki hin e => ?_)
 ·obtain ⟨p,e,hp⟩:=at_lt (a:=arr) (i:=base + i) (by omega)
  exact ⟨p,e,hi p hp,by rw [e]⟩
 ·obtain ⟨p,e,hp⟩:=at_lt (a:=arr) (i:=base + i) (by omega)
  obtain ⟨q,e',hq⟩:=at_lt (a:=arr) (i:=base + j) (by omega)
  rw [e'] at hb
  rw [e]
  have:=hs i j p q hij hj e e'
  show ahead left key p=true
  have hb:ahead left key q=true:=hb
  unfold ahead at hb ⊢
  cases left with
  | true => rw [if_pos rfl] at hb ⊢; exact decide_eq_true (by have:=of_decide_eq_true hb; omega)
  | false =>
   rw [if_neg (by decide)] at hb ⊢
   rw [decide_eq_false (by intro z; rw [decide_eq_true (show numK key < numK q by omega)] at hb; cases hb)]
   rfl
 ·have:=hk2 i hik
  rw [e] at this
  exact this
 ·have:=hk3 i hki hin
  rw [e] at this
  exact this
end
end TimG
set_option maxHeartbeats 4000000
namespace TimG
open PySem PySem.Spec PyProof.Rows
variable [KO]
abbrev LoS:=Option (Array Keyed) × Array Keyed × Nat × Nat × Nat × Nat × Nat
def loT4 (a b out:Array Keyed) (ia ib mg ac bc:Nat):StateT SortSt Sem (ForInStep LoS):=do
 let p ← elem' a ia
 if (ia + 1 + 1 == a.size)=true then pure (.done (some (out.push p ++ b.extract ib b.size ++ a.extract (ia + 1) a.size),out.push p,ia + 1,ib,mg,ac,bc))
 else if (decide (ac < 7) && decide (bc < 7))=true then pure (.done (none,out.push p,ia + 1,ib,mg,ac,bc)) else pure (.yield (none,out.push p,ia + 1,ib,mg,ac,bc))
def loT3 (a b out:Array Keyed) (ia ib mg ac bc:Nat):StateT SortSt Sem (ForInStep LoS) :=
 if (ib == b.size)=true then pure (.done (some (out ++ a.extract ia a.size ++ b.extract ib b.size),out,ia,ib,mg,ac,bc))
 else do
  let p ← elem' a ia
  let x ← gallopX true p b ib (b.size - ib) 0
  match x with
  | some k =>
   if k > 0 then
    if (ib + k == b.size)=true then pure (.done (some (out ++ b.extract ib (ib + k) ++ a.extract ia a.size ++ b.extract (ib + k) b.size),out ++ b.extract ib (ib + k),ia,ib + k,mg,ac,k))
    else loT4 a b (out ++ b.extract ib (ib + k)) ia (ib + k) mg ac k
   else loT4 a b out ia ib mg ac k
  | _ => pure (.done (some (out ++ a.extract ia a.size ++ b.extract ib b.size),out,ia,ib,mg,ac,bc))
def loT2 (a b out:Array Keyed) (ia ib mg ac bc:Nat):StateT SortSt Sem (ForInStep LoS):=do
 let p ← elem' b ib
 loT3 a b (out.push p) ia (ib + 1) mg ac bc
def loT1 (a b out:Array Keyed) (ia ib mg ac bc:Nat):StateT SortSt Sem (ForInStep LoS):=do
 setMinGallopX mg
 let p ← elem' b ib
 let x ← gallopX false p a ia (a.size - ia) 0
 match x with
 | some k =>
  if k > 0 then
   if (ia + k + 1 == a.size)=true then pure (.done (some (out ++ a.extract ia (ia + k) ++ b.extract ib b.size ++ a.extract (ia + k) a.size),out ++ a.extract ia (ia + k),ia + k,ib,mg,k,bc))
   else if (ia + k == a.size)=true then pure (.done (some (out ++ a.extract ia (ia + k) ++ a.extract (ia + k) a.size ++ b.extract ib b.size),out ++ a.extract ia (ia + k),ia + k,ib,mg,k,bc))
   else loT2 a b (out ++ a.extract ia (ia + k)) (ia + k) ib mg k bc
  else loT2 a b out ia ib mg k bc
 | _ => pure (.done (some (out ++ a.extract ia a.size ++ b.extract ib b.size),out,ia,ib,mg,ac,bc))
def loG (a b:Array Keyed) (s:LoS):StateT SortSt Sem (ForInStep LoS):=if s.2.2.2.2.1 > 1 then loT1 a b s.2.1 s.2.2.1 s.2.2.2.1 (s.2.2.2.2.1 - 1) s.2.2.2.2.2.1 s.2.2.2.2.2.2 else loT1 a b s.2.1 s.2.2.1 s.2.2.2.1 s.2.2.2.2.1 s.2.2.2.2.2.1 s.2.2.2.2.2.2
abbrev LoR:=Option (Array Keyed) × Array Keyed × Nat × Nat × Nat × Nat
def loP (a b:Array Keyed) (mg:Nat) (s:LoR):StateT SortSt Sem (ForInStep LoR):=do
 let p ← elem' b s.2.2.2.1
 let q ← elem' a s.2.2.1
 let x ← lt' p q
 match x with
 | some bWins =>
  if bWins=true then do
   let p ← elem' b s.2.2.2.1
   if (s.2.2.2.1 + 1 == b.size)=true then pure (.done (some (s.2.1.push p ++ a.extract s.2.2.1 a.size ++ b.extract (s.2.2.2.1 + 1) b.size),s.2.1.push p,s.2.2.1,s.2.2.2.1 + 1,0,s.2.2.2.2.2 + 1))
   else if s.2.2.2.2.2 + 1 ≥ mg then pure (.done (none,s.2.1.push p,s.2.2.1,s.2.2.2.1 + 1,0,s.2.2.2.2.2 + 1))
   else pure (.yield (none,s.2.1.push p,s.2.2.1,s.2.2.2.1 + 1,0,s.2.2.2.2.2 + 1))
  else do
   let p ← elem' a s.2.2.1
   if (s.2.2.1 + 1 + 1 == a.size)=true then pure (.done (some (s.2.1.push p ++ b.extract s.2.2.2.1 b.size ++ a.extract (s.2.2.1 + 1) a.size),s.2.1.push p,s.2.2.1 + 1,s.2.2.2.1,s.2.2.2.2.1 + 1,0))
   else if s.2.2.2.2.1 + 1 ≥ mg then pure (.done (none,s.2.1.push p,s.2.2.1 + 1,s.2.2.2.1,s.2.2.2.2.1 + 1,0))
   else pure (.yield (none,s.2.1.push p,s.2.2.1 + 1,s.2.2.2.1,s.2.2.2.2.1 + 1,0))
 | _ => pure (.done (some (s.2.1 ++ a.extract s.2.2.1 a.size ++ b.extract s.2.2.2.1 b.size),s.2.1,s.2.2.1,s.2.2.2.1,s.2.2.2.2.1,s.2.2.2.2.2))
abbrev LoO:=Option (Array Keyed) × Array Keyed × Nat × Nat × Nat
def loO (a b:Array Keyed) (s:LoO):StateT SortSt Sem (ForInStep LoO):=do
 let s1 ← forIn [0:a.size + b.size] ((none,s.2.1,s.2.2.1,s.2.2.2.1,0,0):LoR) fun _ s1 => loP a b s.2.2.2.2 s1
 match s1.1 with
 | some r => pure (.done (some r,s1.2.1,s1.2.2.1,s1.2.2.2.1,s.2.2.2.2))
 | none => do
  liftM (rule "list.sort.gallop")
  let s2 ← forIn [0:a.size + b.size] ((none,s1.2.1,s1.2.2.1,s1.2.2.2.1,s.2.2.2.2 + 1,s1.2.2.2.2.1,s1.2.2.2.2.2):LoS) fun _ s2 => loG a b s2
  match s2.1 with
  | some r => pure (.done (some r,s2.2.1,s2.2.2.1,s2.2.2.2.1,s2.2.2.2.2.1))
  | none => do
   setMinGallopX (s2.2.2.2.2.1 + 1)
   pure (.yield (none,s2.2.1,s2.2.2.1,s2.2.2.2.1,s2.2.2.2.2.1 + 1))
theorem ifc {α:Type} {c:Prop} [Decidable c] {x y z:α} (h:y=z):(if c then x else y)=(if c then x else z):=by rw [h]
theorem ifd {α:Type} {c:Prop} [Decidable c] {x x2 y z:α} (h1:x=x2) (h:y=z):(if c then x else y)=(if c then x2 else z):=by rw [h,h1]
theorem mergeLoX_eq2 (a b:Array Keyed):mergeLoX a b=(do
 liftM (rule "list.sort.merge-lo")
 let p ← elem' b 0
 if (1 == b.size)=true then pure (#[p] ++ a.extract 0 a.size ++ b.extract 1 b.size)
 else if (0 + 1 == a.size)=true then pure (#[p] ++ b.extract 1 b.size ++ a.extract 0 a.size)
 else do
  let g ← get
  let s1 ← forIn [0:a.size + b.size] ((none,#[p],0,1,gallopOf g):LoO) fun _ s1 => loO a b s1
  match s1.1 with
  | some r => pure r
  | none => unsupported "internal:list.sort.merge-bound"):=by
 rw [mergeLoX_eq]
 dsimp only
 refine congrArg _ (funext fun _ => congrArg _ (funext fun p => ?_))
 refine ifc (ifc ?_)
 refine congrArg _ (funext fun g => ?_)
 congr 1
 ·congr 1
  funext x s1
  unfold loO
  refine congrArg _ (funext fun s2 => ?_)
  obtain ⟨r,s2⟩:=s2
  cases r with
  | some r => rfl
  | none =>
   dsimp only
   refine congrArg _ (funext fun _ => congrArg _ (funext fun s3 => ?_))
   obtain ⟨r,s3⟩:=s3
   cases r with
   | some r => rfl
   | none => rfl
 ·funext s1
  obtain ⟨r,s1⟩:=s1
  cases r with
  | some r => rfl
  | none => rfl
end TimG
namespace TimG
open PySem PySem.Spec PyProof.Rows
variable [KO]
theorem idx_drop {a:Array Keyed} {j:Nat} {y:Keyed} (h:y ∈ a.toList.drop j):∃ i,j + i < a.size∧a[j + i]? = some y:=by
 obtain ⟨i,hi⟩:=List.mem_iff_getElem?.mp h
 rw [List.getElem?_drop,Array.getElem?_toList] at hi
 exact ⟨i,(Array.getElem?_eq_some_iff.mp hi).1,hi⟩
theorem idx_take {a:Array Keyed} {j k:Nat} {y:Keyed} (h:y ∈ (a.toList.drop j).take k):∃ i,i < k∧a[j + i]? = some y:=by
 obtain ⟨i,hi⟩:=List.mem_iff_getElem?.mp h
 rw [List.getElem?_take] at hi
 split at hi
 ·rw [List.getElem?_drop,Array.getElem?_toList] at hi
  exact ⟨i,by assumption,hi⟩
 ·cases hi
theorem srt_idx {a:Array Keyed} (h:Srt a.toList) {i j:Nat} {p q:Keyed} (hij:i ≤ j) (e1:a[i]? = some p) (e2:a[j]? = some q):numK p ≤ numK q:=by
 refine srt_at h e1 q ?_
 refine List.mem_iff_getElem?.mpr ⟨j - i,?_⟩
 rw [List.getElem?_drop,Array.getElem?_toList,show i + (j - i)=j by omega]
 exact e2
structure LoV (a b out:Array Keyed) (ia ib:Nat):Prop where
 mi:LoI a b out ia ib
 ha:ia + 1 < a.size
 hb:ib < b.size
section
variable {prog:Program} {w:World} {A:Around} {E:Value→Shared→Prop} {s:Shared} {a b:Array Keyed} {st st' : SortSt} {n0:Nat} [KL prog w A s]
def OkN (a b:Array Keyed) (st:SortSt) (n0:Nat) (c:LoS) (st' : SortSt):Prop:=Keep st st'∧∃ out ia ib mg ac bc,c=(none,out,ia,ib,mg,ac,bc)∧LoV a b out ia ib∧n0 ≤ ia + ib
def OkF (a b:Array Keyed) (st:SortSt) (c:LoS) (st' : SortSt):Prop:=Keep st st'∧∃ r rest,c=(some r,rest)∧Fin' (a.toList ++ b.toList) r.toList
def OkSt (a b:Array Keyed) (st:SortSt) (n0:Nat):ForInStep LoS→SortSt→Prop:=fun r st' => match r with
 | .done c => OkF a b st c st' ∨ OkN a b st n0 c st'
 | .yield c => OkN a b st n0 c st'
theorem last_done (hla:∀ p,a[a.size - 1]? = some p→∀ y ∈ b.toList,numK y < numK p) {out:Array Keyed} {ia ib:Nat} (h:LoI a b out ia ib) (hi:ia + 1=a.size):Fin' (a.toList ++ b.toList) (out ++ b.extract ib b.size ++ a.extract ia a.size).toList:=by
 refine h.last fun y hy x hx => ?_
 obtain ⟨i,hi2,e⟩:=idx_drop hx
 have:ia + i=a.size - 1:=by omega
 rw [this] at e
 exact Int.le_of_lt (hla x e y (List.mem_of_mem_drop hy))
theorem wpS_T4 (hla:∀ p,a[a.size - 1]? = some p→∀ y ∈ b.toList,numK y < numK p) {out:Array Keyed} {ia ib mg ac bc:Nat} (h:LoV a b out ia ib) (hn:n0 ≤ ia + ib) (kp:Keep st st') (hle:∀ p,a[ia]? = some p→∀ y ∈ b.toList.drop ib,numK p ≤ numK y):wpS (model prog w) A E s (loT4 a b out ia ib mg ac bc) (OkSt a b st n0) st':=by
 have ha:=h.ha
 obtain ⟨p,e,_⟩:=at_lt (a:=a) (i:=ia) (by omega)
 unfold loT4
 refine wpS_bind (wpS_elem e ?_)
 have h1:=h.mi.pushA e (hle p e)
 by_cases c1:(ia + 1 + 1 == a.size)=true
 ·rw [if_pos c1]
  exact wpS_pure (.inl ⟨kp,_,_,rfl,last_done hla h1 (by simpa using c1)⟩)
 ·rw [if_neg c1]
  have c1:ia + 1 + 1 ≠ a.size:=by simpa using c1
  have v:LoV a b (out.push p) (ia + 1) ib:=⟨h1,by omega,h.hb⟩
  split
  ·exact wpS_pure (.inr ⟨kp,_,_,_,_,_,_,rfl,v,by omega⟩)
  ·exact wpS_pure ⟨kp,_,_,_,_,_,_,rfl,v,by omega⟩
theorem wpS_T3 (T:Two a b) (hk:kindOf st=KO.kd) (hla:∀ p,a[a.size - 1]? = some p→∀ y ∈ b.toList,numK y < numK p) {out:Array Keyed} {ia ib mg ac bc:Nat} (h:LoI a b out ia ib) (ha:ia + 1 < a.size) (hb:ib ≤ b.size) (hn:n0 ≤ ia + ib) (kp:Keep st st'):wpS (model prog w) A E s (loT3 a b out ia ib mg ac bc) (OkSt a b st n0) st':=by
 unfold loT3
 by_cases c1:(ib == b.size)=true
 ·rw [if_pos c1]
  exact wpS_pure (.inl ⟨kp,_,_,rfl,h.done (by simpa using c1)⟩)
 rw [if_neg c1]
 have c1:ib ≠ b.size:=by simpa using c1
 obtain ⟨p,e,mp⟩:=at_lt (a:=a) (i:=ia) (by omega)
 refine wpS_bind (wpS_elem e (wpS_bind (wpS_gal (kp.1.trans hk) (T.ia p mp) (by omega) (by omega) T.ib (fun i j p q hij _ e1 e2 => srt_idx T.sb (by omega) e1 e2) fun k hk1 hlt hge => ?_)))
 dsimp only
 have ge:∀ y ∈ b.toList.drop (ib + k),numK p ≤ numK y:=fun y hy => by
  obtain ⟨i,hi,ei⟩:=idx_drop hy
  have:=hge (k + i) y (by omega) (by omega) (by rw [← Nat.add_assoc]; exact ei)
  unfold ahead at this
  rw [if_pos rfl] at this
  have:=of_decide_eq_false this
  omega
 by_cases c2:k > 0
 ·rw [if_pos c2]
  have h2:=h.blockB (k:=k) fun x hx y hy => by
   obtain ⟨i,hi,ei⟩:=idx_take hx
   have:=hlt i x hi ei
   unfold ahead at this
   rw [if_pos rfl] at this
   have:=of_decide_eq_true this
   have:=srt_at T.sa e y hy
   omega
  by_cases c3:(ib + k == b.size)=true
  ·rw [if_pos c3]
   exact wpS_pure (.inl ⟨kp,_,_,rfl,h2.done (by simpa using c3)⟩)
  ·rw [if_neg c3]
   have c3:ib + k ≠ b.size:=by simpa using c3
   exact wpS_T4 hla ⟨h2,ha,by omega⟩ (by omega) kp fun p' e' => by rw [e] at e'; cases e'; exact ge
 ·rw [if_neg c2]
  have k0:k=0:=by omega
  subst k0
  exact wpS_T4 hla ⟨h,ha,by omega⟩ hn kp fun p' e' => by rw [e] at e'; cases e'; exact ge
theorem wpS_T2 (T:Two a b) (hk:kindOf st=KO.kd) (hla:∀ p,a[a.size - 1]? = some p→∀ y ∈ b.toList,numK y < numK p) {out:Array Keyed} {ia ib mg ac bc:Nat} (h:LoV a b out ia ib) (hn:n0 ≤ ia + ib) (kp:Keep st st') (hle:∀ p,b[ib]? = some p→∀ y ∈ a.toList.drop ia,numK p ≤ numK y):wpS (model prog w) A E s (loT2 a b out ia ib mg ac bc) (OkSt a b st n0) st':=by
 have hb:=h.hb
 obtain ⟨p,e,_⟩:=at_lt (a:=b) (i:=ib) hb
 unfold loT2
 exact wpS_bind (wpS_elem e (wpS_T3 T hk hla (h.mi.pushB e (hle p e)) h.ha (by omega) (by omega) kp))
theorem wpS_T1 (T:Two a b) (hk:kindOf st=KO.kd) (hla:∀ p,a[a.size - 1]? = some p→∀ y ∈ b.toList,numK y < numK p) {out:Array Keyed} {ia ib mg ac bc:Nat} (h:LoV a b out ia ib) (hn:n0 ≤ ia + ib) (kp:Keep st st'):wpS (model prog w) A E s (loT1 a b out ia ib mg ac bc) (OkSt a b st n0) st':=by
 have hb:=h.hb
 have ha:=h.ha
 obtain ⟨p,e,mp⟩:=at_lt (a:=b) (i:=ib) hb
 unfold loT1
 rw [setMinGallopX_eq]
 refine wpS_bind (wpS_modify ?_)
 have kp:=kp.gal mg
 refine wpS_bind (wpS_elem e (wpS_bind (wpS_gal (kp.1.trans hk) (T.ib p mp) (by omega) (by omega) T.ia (fun i j p q hij _ e1 e2 => srt_idx T.sa (by omega) e1 e2) fun k hk1 hlt hge => ?_)))
 dsimp only
 have ge:∀ y ∈ a.toList.drop (ia + k),numK p ≤ numK y:=fun y hy => by
  obtain ⟨i,hi,ei⟩:=idx_drop hy
  have:=hge (k + i) y (by omega) (by omega) (by rw [← Nat.add_assoc]; exact ei)
  unfold ahead at this
  rw [if_neg (by decide)] at this
  cases z:decide (numK p < numK y) with
  | true => have:=of_decide_eq_true z; omega
  | false => rw [z] at this; cases this
 have lt:∀ (i:Nat) (x:Keyed),i < k→a[ia + i]? = some x→numK x ≤ numK p:=fun i x hi ei => by
  have:=hlt i x hi ei
  unfold ahead at this
  rw [if_neg (by decide)] at this
  cases z:decide (numK p < numK x) with
  | true => rw [z] at this; cases this
  | false => have:=of_decide_eq_false z; omega
 by_cases c2:k > 0
 ·rw [if_pos c2]
  have h2:=h.mi.blockA (k:=k) fun x hx y hy => by
   obtain ⟨i,hi,ei⟩:=idx_take hx
   have:=lt i x hi ei
   have:=srt_at T.sb e y hy
   omega
  by_cases c3:(ia + k + 1 == a.size)=true
  ·rw [if_pos c3]
   exact wpS_pure (.inl ⟨kp,_,_,rfl,last_done hla h2 (by simpa using c3)⟩)
  rw [if_neg c3]
  have c3:ia + k + 1 ≠ a.size:=by simpa using c3
  by_cases c4:(ia + k == a.size)=true
  ·have c4:ia + k=a.size:=by simpa using c4
   exfalso
   obtain ⟨x,ex,_⟩:=at_lt (a:=a) (i:=a.size - 1) (by omega)
   have h3:=hla x ex p mp
   have h4:=lt (k - 1) x (by omega) (by rw [show ia + (k - 1)=a.size - 1 by omega]; exact ex)
   omega
  ·rw [if_neg c4]
   have c4:ia + k ≠ a.size:=by simpa using c4
   exact wpS_T2 T hk hla ⟨h2,by omega,hb⟩ (by omega) kp fun p' e' => by rw [e] at e'; cases e'; exact ge
 ·rw [if_neg c2]
  have k0:k=0:=by omega
  subst k0
  exact wpS_T2 T hk hla h hn kp fun p' e' => by rw [e] at e'; cases e'; exact ge
theorem wpS_G (T:Two a b) (hk:kindOf st=KO.kd) (hla:∀ p,a[a.size - 1]? = some p→∀ y ∈ b.toList,numK y < numK p) {c:LoS} (h:OkN a b st n0 c st'):wpS (model prog w) A E s (loG a b c) (OkSt a b st n0) st':=by
 obtain ⟨kp,out,ia,ib,mg,ac,bc,rfl,v,hn⟩:=h
 unfold loG
 dsimp only
 split
 ·exact wpS_T1 T hk hla v hn kp
 ·exact wpS_T1 T hk hla v hn kp
def OkR (a b:Array Keyed) (st:SortSt) (n0:Nat) (c:LoR) (st' : SortSt):Prop:=Keep st st'∧∃ out ia ib ac bc,c=(none,out,ia,ib,ac,bc)∧LoV a b out ia ib∧n0 ≤ ia + ib
def OkRF (a b:Array Keyed) (st:SortSt) (c:LoR) (st' : SortSt):Prop:=Keep st st'∧∃ r rest,c=(some r,rest)∧Fin' (a.toList ++ b.toList) r.toList
theorem wpS_P (T:Two a b) (hk:kindOf st=KO.kd) (hla:∀ p,a[a.size - 1]? = some p→∀ y ∈ b.toList,numK y < numK p) {c:LoR} {mg:Nat} (h:OkR a b st n0 c st'):wpS (model prog w) A E s (loP a b mg c) (fun r st' => match r with
  | .done c => OkRF a b st c st' ∨ OkR a b st (n0 + 1) c st'
  | .yield c => OkR a b st (n0 + 1) c st') st':=by
 obtain ⟨kp,out,ia,ib,ac,bc,rfl,v,hn⟩:=h
 have hb:=v.hb
 have ha:=v.ha
 obtain ⟨p,e,mp⟩:=at_lt (a:=b) (i:=ib) hb
 obtain ⟨q,e2,mq⟩:=at_lt (a:=a) (i:=ia) (by omega)
 unfold loP
 refine wpS_bind (wpS_elem e (wpS_bind (wpS_elem e2 (wpS_bind (wpS_ltN (kp.1.trans hk) (T.ib p mp) (T.ia q mq) ?_)))))
 dsimp only
 by_cases hlt:numK p < numK q
 ·rw [decide_eq_true hlt,if_pos rfl]
  refine wpS_bind (wpS_elem e ?_)
  have h1:=v.mi.pushB e fun y hy => by have:=srt_at T.sa e2 y hy; omega
  by_cases c1:(ib + 1 == b.size)=true
  ·rw [if_pos c1]
   exact wpS_pure (.inl ⟨kp,_,_,rfl,h1.done (by simpa using c1)⟩)
  rw [if_neg c1]
  have c1:ib + 1 ≠ b.size:=by simpa using c1
  have v1:LoV a b (out.push p) ia (ib + 1):=⟨h1,ha,by omega⟩
  split
  ·exact wpS_pure (.inr ⟨kp,_,_,_,_,_,rfl,v1,by omega⟩)
  ·exact wpS_pure ⟨kp,_,_,_,_,_,rfl,v1,by omega⟩
 ·rw [decide_eq_false hlt,if_neg (by decide)]
  refine wpS_bind (wpS_elem e2 ?_)
  have h1:=v.mi.pushA e2 fun y hy => by have:=srt_at T.sb e y hy; omega
  by_cases c1:(ia + 1 + 1 == a.size)=true
  ·rw [if_pos c1]
   exact wpS_pure (.inl ⟨kp,_,_,rfl,last_done hla h1 (by simpa using c1)⟩)
  rw [if_neg c1]
  have c1:ia + 1 + 1 ≠ a.size:=by simpa using c1
  have v1:LoV a b (out.push q) (ia + 1) ib:=⟨h1,by omega,hb⟩
  split
  ·exact wpS_pure (.inr ⟨kp,_,_,_,_,_,rfl,v1,by omega⟩)
  ·exact wpS_pure ⟨kp,_,_,_,_,_,rfl,v1,by omega⟩
theorem wpS_mergeLo {Q:Array Keyed→SortSt→Prop} (T:Two a b) (hk:kindOf st=KO.kd) (a1:1 ≤ a.size) (b1:1 ≤ b.size) (h0:∀ p,b[0]? = some p→∀ x ∈ a.toList,numK p ≤ numK x) (hla:∀ p,a[a.size - 1]? = some p→∀ y ∈ b.toList,numK y < numK p)
  (h:∀ r st',Keep st st'→Fin' (a.toList ++ b.toList) r.toList→Q r st'):wpS (model prog w) A E s (mergeLoX a b) Q st:=by
 rw [mergeLoX_eq2]
 refine wpS_bind (wpS_lift (wpAny_rule ⟨rfl,?_⟩))
 obtain ⟨p,e,mp⟩:=at_lt (a:=b) (i:=0) (by omega)
 refine wpS_bind (wpS_elem e ?_)
 have st0:LoI a b #[] 0 0:=⟨by show (a.toList ++ b.toList).Perm _; exact List.Perm.refl _,List.Pairwise.nil,by rw [List.drop_zero]; exact T.sa,by rw [List.drop_zero]; exact T.sb,fun x hx => by cases hx⟩
 have st1:LoI a b #[p] 0 1:=st0.pushB e (h0 p e)
 by_cases c1:(1 == b.size)=true
 ·rw [if_pos c1]
  exact wpS_pure (h _ _ (Keep.refl st) (st1.done (by simpa using c1)))
 rw [if_neg c1]
 have c1:1 ≠ b.size:=by simpa using c1
 by_cases c2:(0 + 1 == a.size)=true
 ·rw [if_pos c2]
  exact wpS_pure (h _ _ (Keep.refl st) (last_done hla st1 (by simpa using c2)))
 rw [if_neg c2]
 have c2:1 ≠ a.size:=by simpa using c2
 refine wpS_bind (wpS_get ?_)
 refine wpS_bind (wpS_mono (wpS_forRange (I:=fun x c st' => Keep st st'∧∃ out ia ib mg,c=(none,out,ia,ib,mg)∧LoV a b out ia ib∧x ≤ ia + ib)
  (Q:=fun c st' => Keep st st'∧∃ r rest,c=(some r,rest)∧Fin' (a.toList ++ b.toList) r.toList) ?step ?fin ⟨Keep.refl st,_,_,_,_,rfl,⟨st1,by omega,by omega⟩,by omega⟩) ?post)
 case post =>
  rintro c st' ⟨kp,r,rest,rfl,f⟩
  exact wpS_pure (h r st' kp f)
 case fin =>
  rintro c st' ⟨kp,out,ia,ib,mg,rfl,v,hx⟩
  have:=v.ha
  have:=v.hb
  omega
 case step =>
  rintro x c st1 _ hx ⟨kp,out,ia,ib,mg,rfl,v,hn⟩
  unfold loO
  dsimp only
  refine wpS_bind (wpS_mono (wpS_forRange (I:=fun y c st' => OkR a b st (x + y) c st') (Q:=fun c st' => OkRF a b st c st' ∨ OkR a b st (x + 1) c st') ?_ ?_ ⟨kp,_,_,_,_,_,rfl,v,hn⟩) ?_)
  ·rintro y c st2 _ hy hR
   refine wpS_mono (wpS_P T hk hla hR) fun r st3 hr => ?_
   cases r with
   | done c =>
    rcases hr with hr | ⟨k3,out,ia,ib,ac,bc,e3,v3,n3⟩
    ·exact .inl hr
    ·exact .inr ⟨k3,out,ia,ib,ac,bc,e3,v3,by omega⟩
   | yield c => exact hr
  ·rintro c st2 ⟨k3,out,ia,ib,ac,bc,e3,v3,n3⟩
   exact .inr ⟨k3,out,ia,ib,ac,bc,e3,v3,by omega⟩
  ·rintro c st2 (⟨k2,r,rest,rfl,f⟩ | ⟨k2,out2,ia2,ib2,ac2,bc2,rfl,v2,n2⟩)
   ·exact wpS_pure ⟨k2,_,_,rfl,f⟩
   ·dsimp only
    refine wpS_bind (wpS_lift (wpAny_rule ⟨rfl,?_⟩))
    refine wpS_bind (wpS_mono (wpS_forRange (I:=fun y c st' => OkN a b st (x + 1) c st') (Q:=fun c st' => OkF a b st c st' ∨ OkN a b st (x + 1) c st') ?_ ?_ ⟨k2,_,_,_,_,_,_,rfl,v2,n2⟩) ?_)
    ·rintro y c st3 _ hy hR
     refine wpS_mono (wpS_G T hk hla hR) fun r st4 hr => ?_
     cases r with
     | done c => exact hr
     | yield c => exact hr
    ·exact fun c st3 hR => .inr hR
    ·rintro c st3 (⟨k3,r,rest,rfl,f⟩ | ⟨k3,out3,ia3,ib3,mg3,ac3,bc3,rfl,v3,n3⟩)
     ·exact wpS_pure ⟨k3,_,_,rfl,f⟩
     ·dsimp only
      rw [setMinGallopX_eq]
      exact wpS_bind (wpS_modify (wpS_pure ⟨k3.gal _,_,_,_,_,rfl,v3,by omega⟩))
end
end TimG
namespace TimG
open PySem PySem.Spec PyProof.Rows
variable [KO]
theorem mergeHiX_eq (a b:Array Keyed):mergeHiX a b=(do
 rule "list.sort.merge-hi"
 let total:=a.size + b.size
 let done (out:Array Keyed) (na nb:Nat):=a.extract 0 na ++ b.extract 0 nb ++ out.reverse
 let firstOfB (out:Array Keyed) (na nb:Nat):=b.extract 0 nb ++ a.extract 0 na ++ out.reverse
 let mut na:=a.size - 1
 let mut nb:=b.size
 let mut out:Array Keyed:=#[← elem' a na]
 if na == 0 then return done out na nb
 if nb == 1 then return firstOfB out na nb
 let mut minGallop:=gallopOf (← get)
 for _ in [0:total] do
  let mut acount:=0
  let mut bcount:=0
  for _ in [0:total] do
   let some aWins ← lt' (← elem' b (nb - 1)) (← elem' a (na - 1)) | return done out na nb
   if aWins then
    na:=na - 1; out:=out.push (← elem' a na); acount:=acount + 1; bcount:=0
    if na == 0 then return done out na nb
    if acount ≥ minGallop then break
   else
    nb:=nb - 1; out:=out.push (← elem' b nb); bcount:=bcount + 1; acount:=0
    if nb == 1 then return firstOfB out na nb
    if bcount ≥ minGallop then break
  rule "list.sort.gallop"
  minGallop:=minGallop + 1
  for _ in [0:total] do
   if minGallop > 1 then minGallop:=minGallop - 1
   setMinGallopX minGallop
   let some at_ ← gallopX false (← elem' b (nb - 1)) a 0 na (na - 1) | return done out na nb
   let k:=na - at_
   acount:=k
   if k > 0 then
    out:=out ++ (a.extract at_ na).reverse; na:=at_
    if na == 0 then return done out na nb
   nb:=nb - 1; out:=out.push (← elem' b nb)
   if nb == 1 then return firstOfB out na nb
   let some at_ ← gallopX true (← elem' a (na - 1)) b 0 nb (nb - 1) | return done out na nb
   let k:=nb - at_
   bcount:=k
   if k > 0 then
    out:=out ++ (b.extract at_ nb).reverse; nb:=at_
    if nb == 1 then return firstOfB out na nb
    if nb == 0 then return done out na nb
   na:=na - 1; out:=out.push (← elem' a na)
   if na == 0 then return done out na nb
   if acount < 7 && bcount < 7 then break
  minGallop:=minGallop + 1
  setMinGallopX minGallop
 unsupported "internal:list.sort.merge-bound"):=rfl
structure HI (L X Y o:List Keyed):Prop where
 perm:((X ++ Y) ++ o).Perm L
 so:Srt o
 sx:Srt X
 sy:Srt Y
 le:∀ y ∈ X ++ Y,∀ z ∈ o,numK y ≤ numK z
theorem HI.moveA {L X P Y o:List Keyed} (h:HI L (X ++ P) Y o) (hp:∀ p ∈ P,∀ y ∈ Y,numK y ≤ numK p):HI L X Y (P ++ o):=by
 refine ⟨?_,srt_app (srt_r h.sx) h.so fun x hx y hy => h.le x (List.mem_append_left _ (List.mem_append_right _ hx)) y hy,srt_l h.sx,h.sy,fun y hy z hz => ?_⟩
 ·refine List.Perm.trans ?_ h.perm
  rw [← List.append_assoc]
  refine List.Perm.append_right o ?_
  rw [List.append_assoc,List.append_assoc]
  exact List.Perm.append_left X List.perm_append_comm
 ·rcases List.mem_append.mp hz with hz | hz
  ·rcases List.mem_append.mp hy with hy | hy
   ·exact srt_lr h.sx y hy z hz
   ·exact hp z hz y hy
  ·refine h.le y ?_ z hz
   rcases List.mem_append.mp hy with hy | hy
   ·exact List.mem_append_left _ (List.mem_append_left _ hy)
   ·exact List.mem_append_right _ hy
theorem HI.moveB {L X P Y o:List Keyed} (h:HI L X (Y ++ P) o) (hp:∀ p ∈ P,∀ x ∈ X,numK x ≤ numK p):HI L X Y (P ++ o):=by
 refine ⟨?_,srt_app (srt_r h.sy) h.so fun x hx y hy => h.le x (List.mem_append_right _ (List.mem_append_right _ hx)) y hy,h.sx,srt_l h.sy,fun y hy z hz => ?_⟩
 ·have:=h.perm
  rw [← List.append_assoc,List.append_assoc] at this
  rw [← List.append_assoc] at this
  rw [← List.append_assoc]
  simpa [List.append_assoc] using this
 ·rcases List.mem_append.mp hz with hz | hz
  ·rcases List.mem_append.mp hy with hy | hy
   ·exact hp z hz y hy
   ·exact srt_lr h.sy y hy z hz
  ·refine h.le y ?_ z hz
   rcases List.mem_append.mp hy with hy | hy
   ·exact List.mem_append_left _ hy
   ·exact List.mem_append_right _ (List.mem_append_left _ hy)
theorem HI.endA {L Y o:List Keyed} (h:HI L [] Y o):Fin' L (Y ++ o):=⟨h.perm,srt_app h.sy h.so fun y hy z hz => h.le y hy z hz⟩
theorem HI.firstB {L X Y o:List Keyed} (h:HI L X Y o) (hp:∀ p ∈ X,∀ y ∈ Y,numK y ≤ numK p):Fin' L (Y ++ X ++ o):=by
 have h2:HI L ([] ++ X) Y o:=h
 rw [List.append_assoc]
 exact (h2.moveA hp).endA
theorem ext_low (a:Array Keyed) (n:Nat):(a.extract 0 n).toList=a.toList.take n:=by
 rw [Array.toList_extract,List.extract_eq_take_drop,List.drop_zero,Nat.sub_zero]
theorem ext_mid (a:Array Keyed) (m n:Nat):(a.extract m n).toList=(a.toList.take n).drop m:=by
 rw [Array.toList_extract,List.extract_eq_take_drop,List.drop_take]
theorem take_at {a:Array Keyed} {i:Nat} {p:Keyed} (e:a[i]? = some p):a.toList.take (i + 1)=a.toList.take i ++ [p]:=by
 have h:a.toList[i]? = some p:=by rw [Array.getElem?_toList]; exact e
 rw [List.take_add_one,h]
 rfl
def HiI (a b out:Array Keyed) (na nb:Nat):Prop:=HI (a.toList ++ b.toList) (a.toList.take na) (b.toList.take nb) out.toList.reverse
theorem HiI.pushA {a b out:Array Keyed} {na nb:Nat} {p:Keyed} (h:HiI a b out (na + 1) nb) (e:a[na]? = some p) (hp:∀ y ∈ b.toList.take nb,numK y ≤ numK p):HiI a b (out.push p) na nb:=by
 unfold HiI at h ⊢
 rw [take_at e] at h
 rw [Array.toList_push,List.reverse_append]
 exact HI.moveA (P:=[p]) h fun q hq y hy => by rw [List.mem_singleton.mp hq]; exact hp y hy
theorem HiI.pushB {a b out:Array Keyed} {na nb:Nat} {p:Keyed} (h:HiI a b out na (nb + 1)) (e:b[nb]? = some p) (hp:∀ y ∈ a.toList.take na,numK y ≤ numK p):HiI a b (out.push p) na nb:=by
 unfold HiI at h ⊢
 rw [take_at e] at h
 rw [Array.toList_push,List.reverse_append]
 exact HI.moveB (P:=[p]) h fun q hq y hy => by rw [List.mem_singleton.mp hq]; exact hp y hy
theorem HiI.blockA {a b out:Array Keyed} {na nb m:Nat} (h:HiI a b out na nb) (hm:m ≤ na) (hp:∀ x ∈ (a.toList.take na).drop m,∀ y ∈ b.toList.take nb,numK y ≤ numK x):HiI a b (out ++ (a.extract m na).reverse) m nb:=by
 unfold HiI at h ⊢
 rw [Array.toList_append,List.reverse_append,Array.toList_reverse,List.reverse_reverse,ext_mid]
 rw [← List.take_append_drop m (a.toList.take na),List.take_take,Nat.min_eq_left hm] at h
 exact h.moveA hp
theorem HiI.blockB {a b out:Array Keyed} {na nb m:Nat} (h:HiI a b out na nb) (hm:m ≤ nb) (hp:∀ x ∈ (b.toList.take nb).drop m,∀ y ∈ a.toList.take na,numK y ≤ numK x):HiI a b (out ++ (b.extract m nb).reverse) na m:=by
 unfold HiI at h ⊢
 rw [Array.toList_append,List.reverse_append,Array.toList_reverse,List.reverse_reverse,ext_mid]
 rw [← List.take_append_drop m (b.toList.take nb),List.take_take,Nat.min_eq_left hm] at h
 exact h.moveB hp
theorem HiI.done {a b out:Array Keyed} {nb:Nat} (h:HiI a b out 0 nb):Fin' (a.toList ++ b.toList) (a.extract 0 0 ++ b.extract 0 nb ++ out.reverse).toList:=by
 unfold HiI at h
 rw [Array.toList_append,Array.toList_append,ext_low,ext_low,Array.toList_reverse]
 exact HI.endA h
theorem HiI.first {a b out:Array Keyed} {na nb:Nat} (h:HiI a b out na nb) (hp:∀ p ∈ a.toList.take na,∀ y ∈ b.toList.take nb,numK y ≤ numK p):Fin' (a.toList ++ b.toList) (b.extract 0 nb ++ a.extract 0 na ++ out.reverse).toList:=by
 rw [Array.toList_append,Array.toList_append,ext_low,ext_low,Array.toList_reverse]
 exact HI.firstB h hp
end TimG
namespace TimG
open PySem PySem.Spec PyProof.Rows
variable [KO]
abbrev HiS:=Option (Array Keyed) × Nat × Nat × Array Keyed × Nat × Nat × Nat
def hiT4 (a b:Array Keyed) (na nb:Nat) (out:Array Keyed) (mg ac bc:Nat):StateT SortSt Sem (ForInStep HiS):=do
 let p ← elem' a (na - 1)
 if (na - 1 == 0)=true then pure (.done (some (a.extract 0 (na - 1) ++ b.extract 0 nb ++ (out.push p).reverse),na - 1,nb,out.push p,mg,ac,bc))
 else if (decide (ac < 7) && decide (bc < 7))=true then pure (.done (none,na - 1,nb,out.push p,mg,ac,bc)) else pure (.yield (none,na - 1,nb,out.push p,mg,ac,bc))
def hiT3 (a b:Array Keyed) (na nb:Nat) (out:Array Keyed) (mg ac bc:Nat):StateT SortSt Sem (ForInStep HiS) :=
 if (nb == 1)=true then pure (.done (some (b.extract 0 nb ++ a.extract 0 na ++ out.reverse),na,nb,out,mg,ac,bc))
 else do
  let p ← elem' a (na - 1)
  let x ← gallopX true p b 0 nb (nb - 1)
  match x with
  | some m =>
   if nb - m > 0 then
    if (m == 1)=true then pure (.done (some (b.extract 0 m ++ a.extract 0 na ++ (out ++ (b.extract m nb).reverse).reverse),na,m,out ++ (b.extract m nb).reverse,mg,ac,nb - m))
    else if (m == 0)=true then pure (.done (some (a.extract 0 na ++ b.extract 0 m ++ (out ++ (b.extract m nb).reverse).reverse),na,m,out ++ (b.extract m nb).reverse,mg,ac,nb - m))
    else hiT4 a b na m (out ++ (b.extract m nb).reverse) mg ac (nb - m)
   else hiT4 a b na nb out mg ac (nb - m)
  | _ => pure (.done (some (a.extract 0 na ++ b.extract 0 nb ++ out.reverse),na,nb,out,mg,ac,bc))
def hiT2 (a b:Array Keyed) (na nb:Nat) (out:Array Keyed) (mg ac bc:Nat):StateT SortSt Sem (ForInStep HiS):=do
 let p ← elem' b (nb - 1)
 hiT3 a b na (nb - 1) (out.push p) mg ac bc
def hiT1 (a b:Array Keyed) (na nb:Nat) (out:Array Keyed) (mg ac bc:Nat):StateT SortSt Sem (ForInStep HiS):=do
 setMinGallopX mg
 let p ← elem' b (nb - 1)
 let x ← gallopX false p a 0 na (na - 1)
 match x with
 | some m =>
  if na - m > 0 then
   if (m == 0)=true then pure (.done (some (a.extract 0 m ++ b.extract 0 nb ++ (out ++ (a.extract m na).reverse).reverse),m,nb,out ++ (a.extract m na).reverse,mg,na - m,bc))
   else hiT2 a b m nb (out ++ (a.extract m na).reverse) mg (na - m) bc
  else hiT2 a b na nb out mg (na - m) bc
 | _ => pure (.done (some (a.extract 0 na ++ b.extract 0 nb ++ out.reverse),na,nb,out,mg,ac,bc))
def hiG (a b:Array Keyed) (s:HiS):StateT SortSt Sem (ForInStep HiS):=if s.2.2.2.2.1 > 1 then hiT1 a b s.2.1 s.2.2.1 s.2.2.2.1 (s.2.2.2.2.1 - 1) s.2.2.2.2.2.1 s.2.2.2.2.2.2 else hiT1 a b s.2.1 s.2.2.1 s.2.2.2.1 s.2.2.2.2.1 s.2.2.2.2.2.1 s.2.2.2.2.2.2
abbrev HiR:=Option (Array Keyed) × Nat × Nat × Array Keyed × Nat × Nat
def hiP (a b:Array Keyed) (mg:Nat) (s:HiR):StateT SortSt Sem (ForInStep HiR):=do
 let p ← elem' b (s.2.2.1 - 1)
 let q ← elem' a (s.2.1 - 1)
 let x ← lt' p q
 match x with
 | some aWins =>
  if aWins=true then do
   let p ← elem' a (s.2.1 - 1)
   if (s.2.1 - 1 == 0)=true then pure (.done (some (a.extract 0 (s.2.1 - 1) ++ b.extract 0 s.2.2.1 ++ (s.2.2.2.1.push p).reverse),s.2.1 - 1,s.2.2.1,s.2.2.2.1.push p,s.2.2.2.2.1 + 1,0))
   else if s.2.2.2.2.1 + 1 ≥ mg then pure (.done (none,s.2.1 - 1,s.2.2.1,s.2.2.2.1.push p,s.2.2.2.2.1 + 1,0))
   else pure (.yield (none,s.2.1 - 1,s.2.2.1,s.2.2.2.1.push p,s.2.2.2.2.1 + 1,0))
  else do
   let p ← elem' b (s.2.2.1 - 1)
   if (s.2.2.1 - 1 == 1)=true then pure (.done (some (b.extract 0 (s.2.2.1 - 1) ++ a.extract 0 s.2.1 ++ (s.2.2.2.1.push p).reverse),s.2.1,s.2.2.1 - 1,s.2.2.2.1.push p,0,s.2.2.2.2.2 + 1))
   else if s.2.2.2.2.2 + 1 ≥ mg then pure (.done (none,s.2.1,s.2.2.1 - 1,s.2.2.2.1.push p,0,s.2.2.2.2.2 + 1))
   else pure (.yield (none,s.2.1,s.2.2.1 - 1,s.2.2.2.1.push p,0,s.2.2.2.2.2 + 1))
 | _ => pure (.done (some (a.extract 0 s.2.1 ++ b.extract 0 s.2.2.1 ++ s.2.2.2.1.reverse),s.2.1,s.2.2.1,s.2.2.2.1,s.2.2.2.2.1,s.2.2.2.2.2))
abbrev HiO:=Option (Array Keyed) × Nat × Nat × Array Keyed × Nat
def hiO (a b:Array Keyed) (s:HiO):StateT SortSt Sem (ForInStep HiO):=do
 let s1 ← forIn [0:a.size + b.size] ((none,s.2.1,s.2.2.1,s.2.2.2.1,0,0):HiR) fun _ s1 => hiP a b s.2.2.2.2 s1
 match s1.1 with
 | some r => pure (.done (some r,s1.2.1,s1.2.2.1,s1.2.2.2.1,s.2.2.2.2))
 | none => do
  liftM (rule "list.sort.gallop")
  let s2 ← forIn [0:a.size + b.size] ((none,s1.2.1,s1.2.2.1,s1.2.2.2.1,s.2.2.2.2 + 1,s1.2.2.2.2.1,s1.2.2.2.2.2):HiS) fun _ s2 => hiG a b s2
  match s2.1 with
  | some r => pure (.done (some r,s2.2.1,s2.2.2.1,s2.2.2.2.1,s2.2.2.2.2.1))
  | none => do
   setMinGallopX (s2.2.2.2.2.1 + 1)
   pure (.yield (none,s2.2.1,s2.2.2.1,s2.2.2.2.1,s2.2.2.2.2.1 + 1))
theorem mergeHiX_eq2 (a b:Array Keyed):mergeHiX a b=(do
 liftM (rule "list.sort.merge-hi")
 let p ← elem' a (a.size - 1)
 if (a.size - 1 == 0)=true then pure (a.extract 0 (a.size - 1) ++ b.extract 0 b.size ++ #[p].reverse)
 else if (b.size == 1)=true then pure (b.extract 0 b.size ++ a.extract 0 (a.size - 1) ++ #[p].reverse)
 else do
  let g ← get
  let s1 ← forIn [0:a.size + b.size] ((none,a.size - 1,b.size,#[p],gallopOf g):HiO) fun _ s1 => hiO a b s1
  match s1.1 with
  | some r => pure r
  | none => unsupported "internal:list.sort.merge-bound"):=by
 rw [mergeHiX_eq]
 dsimp only
 refine congrArg _ (funext fun _ => congrArg _ (funext fun p => ?_))
 refine ifc (ifc ?_)
 refine congrArg _ (funext fun g => ?_)
 congr 1
 ·congr 1
  funext x s1
  unfold hiO
  refine congrArg _ (funext fun s2 => ?_)
  obtain ⟨r,s2⟩:=s2
  cases r with
  | some r => rfl
  | none =>
   dsimp only
   refine congrArg _ (funext fun _ => congrArg _ (funext fun s3 => ?_))
   obtain ⟨r,s3⟩:=s3
   cases r with
   | some r => rfl
   | none => rfl
 ·funext s1
  obtain ⟨r,s1⟩:=s1
  cases r with
  | some r => rfl
  | none => rfl
end TimG
namespace TimG
open PySem PySem.Spec PyProof.Rows
variable [KO]
theorem idx_mid {a:Array Keyed} {m n:Nat} {y:Keyed} (h:y ∈ (a.toList.take n).drop m):∃ i,m ≤ i∧i < n∧a[i]? = some y:=by
 obtain ⟨i,hi⟩:=List.mem_iff_getElem?.mp h
 rw [List.getElem?_drop,List.getElem?_take] at hi
 split at hi
 ·rw [Array.getElem?_toList] at hi
  exact ⟨m + i,by omega,by assumption,hi⟩
 ·cases hi
theorem idx_low {a:Array Keyed} {n:Nat} {y:Keyed} (h:y ∈ a.toList.take n):∃ i,i < n∧a[i]? = some y:=by
 obtain ⟨i,_,h2,h3⟩:=idx_mid (m:=0) (n:=n) (a:=a) (y:=y) (by rw [List.drop_zero]; exact h)
 exact ⟨i,h2,h3⟩
theorem srt_top {a:Array Keyed} (h:Srt a.toList) {n:Nat} {p:Keyed} (e:a[n - 1]? = some p):∀ y ∈ a.toList.take n,numK y ≤ numK p:=fun y hy => by
 obtain ⟨i,hi,ei⟩:=idx_low hy
 exact srt_idx h (by omega) ei e
structure HiV (a b out:Array Keyed) (na nb:Nat):Prop where
 mi:HiI a b out na nb
 ha:0 < na
 ha2:na ≤ a.size
 hb:1 < nb
 hb2:nb ≤ b.size
section
variable {prog:Program} {w:World} {A:Around} {E:Value→Shared→Prop} {s:Shared} {a b:Array Keyed} {st st' : SortSt} {n0:Nat} [KL prog w A s]
def OhN (a b:Array Keyed) (st:SortSt) (n0:Nat) (c:HiS) (st' : SortSt):Prop:=Keep st st'∧∃ na nb out mg ac bc,c=(none,na,nb,out,mg,ac,bc)∧HiV a b out na nb∧na + nb + n0 ≤ a.size + b.size
def OhF (a b:Array Keyed) (st:SortSt) (c:HiS) (st' : SortSt):Prop:=Keep st st'∧∃ r rest,c=(some r,rest)∧Fin' (a.toList ++ b.toList) r.toList
def OhSt (a b:Array Keyed) (st:SortSt) (n0:Nat):ForInStep HiS→SortSt→Prop:=fun r st' => match r with
 | .done c => OhF a b st c st' ∨ OhN a b st n0 c st'
 | .yield c => OhN a b st n0 c st'
theorem first_done (h0:∀ p,b[0]? = some p→∀ x ∈ a.toList,numK p < numK x) {out:Array Keyed} {na nb:Nat} (h:HiI a b out na nb) (hi:nb=1):Fin' (a.toList ++ b.toList) (b.extract 0 nb ++ a.extract 0 na ++ out.reverse).toList:=by
 refine h.first fun p hp y hy => ?_
 obtain ⟨i,hi2,e⟩:=idx_low hy
 have:i=0:=by omega
 subst this
 exact Int.le_of_lt (h0 y e p (List.mem_of_mem_take hp))
theorem hi_done {out:Array Keyed} {na nb:Nat} (h:HiI a b out na nb) (hi:na=0):Fin' (a.toList ++ b.toList) (a.extract 0 na ++ b.extract 0 nb ++ out.reverse).toList:=by
 subst hi
 exact h.done
theorem wpS_H4 {out:Array Keyed} {na nb mg ac bc:Nat} (h:HiV a b out na nb) (hn:na + nb + n0 ≤ a.size + b.size) (kp:Keep st st') (hle:∀ p,a[na - 1]? = some p→∀ y ∈ b.toList.take nb,numK y ≤ numK p):wpS (model prog w) A E s (hiT4 a b na nb out mg ac bc) (OhSt a b st n0) st':=by
 have ha:=h.ha
 have ha2:=h.ha2
 obtain ⟨p,e,_⟩:=at_lt (a:=a) (i:=na - 1) (by omega)
 unfold hiT4
 refine wpS_bind (wpS_elem e ?_)
 have h1:HiI a b (out.push p) (na - 1) nb:=HiI.pushA (by rw [show na - 1 + 1=na by omega]; exact h.mi) e (hle p e)
 by_cases c1:(na - 1 == 0)=true
 ·rw [if_pos c1]
  exact wpS_pure (.inl ⟨kp,_,_,rfl,hi_done h1 (by simpa using c1)⟩)
 ·rw [if_neg c1]
  have c1:na - 1 ≠ 0:=by simpa using c1
  have v:HiV a b (out.push p) (na - 1) nb:=⟨h1,by omega,by omega,h.hb,h.hb2⟩
  split
  ·exact wpS_pure (.inr ⟨kp,_,_,_,_,_,_,rfl,v,by omega⟩)
  ·exact wpS_pure ⟨kp,_,_,_,_,_,_,rfl,v,by omega⟩
theorem wpS_H3 (T:Two a b) (hk:kindOf st=KO.kd) (h0:∀ p,b[0]? = some p→∀ x ∈ a.toList,numK p < numK x) {out:Array Keyed} {na nb mg ac bc:Nat} (h:HiI a b out na nb) (ha:0 < na) (ha2:na ≤ a.size) (hb:1 ≤ nb) (hb2:nb ≤ b.size) (hn:na + nb + n0 ≤ a.size + b.size) (kp:Keep st st'):wpS (model prog w) A E s (hiT3 a b na nb out mg ac bc) (OhSt a b st n0) st':=by
 unfold hiT3
 by_cases c1:(nb == 1)=true
 ·rw [if_pos c1]
  exact wpS_pure (.inl ⟨kp,_,_,rfl,first_done h0 h (by simpa using c1)⟩)
 rw [if_neg c1]
 have c1:nb ≠ 1:=by simpa using c1
 obtain ⟨p,e,mp⟩:=at_lt (a:=a) (i:=na - 1) (by omega)
 refine wpS_bind (wpS_elem e (wpS_bind (wpS_gal (kp.1.trans hk) (T.ia p mp) (by omega) (by omega) T.ib (fun i j p q hij _ e1 e2 => srt_idx T.sb (by omega) e1 e2) fun k hk1 hlt hge => ?_)))
 dsimp only
 have ge:∀ (i:Nat) (y:Keyed),k ≤ i→i < nb→b[i]? = some y→numK p ≤ numK y:=fun i y hi1 hi2 ei => by
  have:=hge i y hi1 hi2 (by rw [Nat.zero_add]; exact ei)
  unfold ahead at this
  rw [if_pos rfl] at this
  have:=of_decide_eq_false this
  omega
 have lt:∀ (i:Nat) (y:Keyed),i < k→b[i]? = some y→numK y < numK p:=fun i y hi ei => by
  have:=hlt i y hi (by rw [Nat.zero_add]; exact ei)
  unfold ahead at this
  rw [if_pos rfl] at this
  exact of_decide_eq_true this
 by_cases c2:nb - k > 0
 ·rw [if_pos c2]
  have h2:=h.blockB (m:=k) (by omega) fun x hx y hy => by
   obtain ⟨i,hi1,hi2,ei⟩:=idx_mid hx
   have:=ge i x hi1 hi2 ei
   have:=srt_top T.sa e y hy
   omega
  by_cases c3:(k == 1)=true
  ·rw [if_pos c3]
   exact wpS_pure (.inl ⟨kp,_,_,rfl,first_done h0 h2 (by simpa using c3)⟩)
  rw [if_neg c3]
  have c3:k ≠ 1:=by simpa using c3
  by_cases c4:(k == 0)=true
  ·have c4:k=0:=by simpa using c4
   exfalso
   obtain ⟨x,ex,_⟩:=at_lt (a:=b) (i:=0) (by omega)
   have h3:=h0 x ex p mp
   have h4:=ge 0 x (by omega) (by omega) ex
   omega
  ·rw [if_neg c4]
   have c4:k ≠ 0:=by simpa using c4
   refine wpS_H4 ⟨h2,ha,ha2,by omega,by omega⟩ (by omega) kp fun p' e' y hy => ?_
   rw [e] at e'
   cases e'
   obtain ⟨i,hi,ei⟩:=idx_low hy
   exact Int.le_of_lt (lt i y hi ei)
 ·rw [if_neg c2]
  refine wpS_H4 ⟨h,ha,ha2,by omega,hb2⟩ hn kp fun p' e' y hy => ?_
  rw [e] at e'
  cases e'
  obtain ⟨i,hi,ei⟩:=idx_low hy
  exact Int.le_of_lt (lt i y (by omega) ei)
theorem wpS_H2 (T:Two a b) (hk:kindOf st=KO.kd) (h0:∀ p,b[0]? = some p→∀ x ∈ a.toList,numK p < numK x) {out:Array Keyed} {na nb mg ac bc:Nat} (h:HiV a b out na nb) (hn:na + nb + n0 ≤ a.size + b.size) (kp:Keep st st') (hle:∀ p,b[nb - 1]? = some p→∀ y ∈ a.toList.take na,numK y ≤ numK p):wpS (model prog w) A E s (hiT2 a b na nb out mg ac bc) (OhSt a b st n0) st':=by
 have hb:=h.hb
 have hb2:=h.hb2
 obtain ⟨p,e,_⟩:=at_lt (a:=b) (i:=nb - 1) (by omega)
 unfold hiT2
 exact wpS_bind (wpS_elem e (wpS_H3 T hk h0 (HiI.pushB (by rw [show nb - 1 + 1=nb by omega]; exact h.mi) e (hle p e)) h.ha h.ha2 (by omega) (by omega) (by omega) kp))
theorem wpS_H1 (T:Two a b) (hk:kindOf st=KO.kd) (h0:∀ p,b[0]? = some p→∀ x ∈ a.toList,numK p < numK x) {out:Array Keyed} {na nb mg ac bc:Nat} (h:HiV a b out na nb) (hn:na + nb + n0 ≤ a.size + b.size) (kp:Keep st st'):wpS (model prog w) A E s (hiT1 a b na nb out mg ac bc) (OhSt a b st n0) st':=by
 have hb:=h.hb
 have hb2:=h.hb2
 have ha:=h.ha
 have ha2:=h.ha2
 obtain ⟨p,e,mp⟩:=at_lt (a:=b) (i:=nb - 1) (by omega)
 unfold hiT1
 rw [setMinGallopX_eq]
 refine wpS_bind (wpS_modify ?_)
 have kp:=kp.gal mg
 refine wpS_bind (wpS_elem e (wpS_bind (wpS_gal (kp.1.trans hk) (T.ib p mp) (by omega) (by omega) T.ia (fun i j p q hij _ e1 e2 => srt_idx T.sa (by omega) e1 e2) fun k hk1 hlt hge => ?_)))
 dsimp only
 have ge:∀ (i:Nat) (y:Keyed),k ≤ i→i < na→a[i]? = some y→numK p ≤ numK y:=fun i y hi1 hi2 ei => by
  have:=hge i y hi1 hi2 (by rw [Nat.zero_add]; exact ei)
  unfold ahead at this
  rw [if_neg (by decide)] at this
  cases z:decide (numK p < numK y) with
  | true => have:=of_decide_eq_true z; omega
  | false => rw [z] at this; cases this
 have lt:∀ (i:Nat) (x:Keyed),i < k→a[i]? = some x→numK x ≤ numK p:=fun i x hi ei => by
  have:=hlt i x hi (by rw [Nat.zero_add]; exact ei)
  unfold ahead at this
  rw [if_neg (by decide)] at this
  cases z:decide (numK p < numK x) with
  | true => rw [z] at this; cases this
  | false => have:=of_decide_eq_false z; omega
 by_cases c2:na - k > 0
 ·rw [if_pos c2]
  have h2:=h.mi.blockA (m:=k) (by omega) fun x hx y hy => by
   obtain ⟨i,hi1,hi2,ei⟩:=idx_mid hx
   have:=ge i x hi1 hi2 ei
   have:=srt_top T.sb e y hy
   omega
  by_cases c3:(k == 0)=true
  ·rw [if_pos c3]
   exact wpS_pure (.inl ⟨kp,_,_,rfl,hi_done h2 (by simpa using c3)⟩)
  rw [if_neg c3]
  have c3:k ≠ 0:=by simpa using c3
  refine wpS_H2 T hk h0 ⟨h2,by omega,by omega,hb,hb2⟩ (by omega) kp fun p' e' y hy => ?_
  rw [e] at e'
  cases e'
  obtain ⟨i,hi,ei⟩:=idx_low hy
  exact lt i y hi ei
 ·rw [if_neg c2]
  refine wpS_H2 T hk h0 h hn kp fun p' e' y hy => ?_
  rw [e] at e'
  cases e'
  obtain ⟨i,hi,ei⟩:=idx_low hy
  exact lt i y (by omega) ei
theorem wpS_HG (T:Two a b) (hk:kindOf st=KO.kd) (h0:∀ p,b[0]? = some p→∀ x ∈ a.toList,numK p < numK x) {c:HiS} (h:OhN a b st n0 c st'):wpS (model prog w) A E s (hiG a b c) (OhSt a b st n0) st':=by
 obtain ⟨kp,na,nb,out,mg,ac,bc,rfl,v,hn⟩:=h
 unfold hiG
 dsimp only
 split
 ·exact wpS_H1 T hk h0 v hn kp
 ·exact wpS_H1 T hk h0 v hn kp
def OhR (a b:Array Keyed) (st:SortSt) (n0:Nat) (c:HiR) (st' : SortSt):Prop:=Keep st st'∧∃ na nb out ac bc,c=(none,na,nb,out,ac,bc)∧HiV a b out na nb∧na + nb + n0 ≤ a.size + b.size
def OhRF (a b:Array Keyed) (st:SortSt) (c:HiR) (st' : SortSt):Prop:=Keep st st'∧∃ r rest,c=(some r,rest)∧Fin' (a.toList ++ b.toList) r.toList
theorem wpS_HP (T:Two a b) (hk:kindOf st=KO.kd) (h0:∀ p,b[0]? = some p→∀ x ∈ a.toList,numK p < numK x) {c:HiR} {mg:Nat} (h:OhR a b st n0 c st'):wpS (model prog w) A E s (hiP a b mg c) (fun r st' => match r with
  | .done c => OhRF a b st c st' ∨ OhR a b st (n0 + 1) c st'
  | .yield c => OhR a b st (n0 + 1) c st') st':=by
 obtain ⟨kp,na,nb,out,ac,bc,rfl,v,hn⟩:=h
 have hb:=v.hb
 have hb2:=v.hb2
 have ha:=v.ha
 have ha2:=v.ha2
 obtain ⟨p,e,mp⟩:=at_lt (a:=b) (i:=nb - 1) (by omega)
 obtain ⟨q,e2,mq⟩:=at_lt (a:=a) (i:=na - 1) (by omega)
 unfold hiP
 refine wpS_bind (wpS_elem e (wpS_bind (wpS_elem e2 (wpS_bind (wpS_ltN (kp.1.trans hk) (T.ib p mp) (T.ia q mq) ?_)))))
 dsimp only
 by_cases hlt:numK p < numK q
 ·rw [decide_eq_true hlt,if_pos rfl]
  refine wpS_bind (wpS_elem e2 ?_)
  have h1:HiI a b (out.push q) (na - 1) nb:=HiI.pushA (by rw [show na - 1 + 1=na by omega]; exact v.mi) e2 fun y hy => by have:=srt_top T.sb e y hy; omega
  by_cases c1:(na - 1 == 0)=true
  ·rw [if_pos c1]
   exact wpS_pure (.inl ⟨kp,_,_,rfl,hi_done h1 (by simpa using c1)⟩)
  rw [if_neg c1]
  have c1:na - 1 ≠ 0:=by simpa using c1
  have v1:HiV a b (out.push q) (na - 1) nb:=⟨h1,by omega,by omega,hb,hb2⟩
  split
  ·exact wpS_pure (.inr ⟨kp,_,_,_,_,_,rfl,v1,by omega⟩)
  ·exact wpS_pure ⟨kp,_,_,_,_,_,rfl,v1,by omega⟩
 ·rw [decide_eq_false hlt,if_neg (by decide)]
  refine wpS_bind (wpS_elem e ?_)
  have h1:HiI a b (out.push p) na (nb - 1):=HiI.pushB (by rw [show nb - 1 + 1=nb by omega]; exact v.mi) e fun y hy => by have:=srt_top T.sa e2 y hy; omega
  by_cases c1:(nb - 1 == 1)=true
  ·rw [if_pos c1]
   exact wpS_pure (.inl ⟨kp,_,_,rfl,first_done h0 h1 (by simpa using c1)⟩)
  rw [if_neg c1]
  have c1:nb - 1 ≠ 1:=by simpa using c1
  have v1:HiV a b (out.push p) na (nb - 1):=⟨h1,ha,ha2,by omega,by omega⟩
  split
  ·exact wpS_pure (.inr ⟨kp,_,_,_,_,_,rfl,v1,by omega⟩)
  ·exact wpS_pure ⟨kp,_,_,_,_,_,rfl,v1,by omega⟩
theorem wpS_mergeHi {Q:Array Keyed→SortSt→Prop} (T:Two a b) (hk:kindOf st=KO.kd) (a1:1 ≤ a.size) (b1:1 ≤ b.size) (h0:∀ p,b[0]? = some p→∀ x ∈ a.toList,numK p < numK x) (hla:∀ p,a[a.size - 1]? = some p→∀ y ∈ b.toList,numK y < numK p)
  (h:∀ r st',Keep st st'→Fin' (a.toList ++ b.toList) r.toList→Q r st'):wpS (model prog w) A E s (mergeHiX a b) Q st:=by
 rw [mergeHiX_eq2]
 refine wpS_bind (wpS_lift (wpAny_rule ⟨rfl,?_⟩))
 obtain ⟨p,e,mp⟩:=at_lt (a:=a) (i:=a.size - 1) (by omega)
 refine wpS_bind (wpS_elem e ?_)
 have ta:a.toList.take a.size=a.toList:=List.take_of_length_le (by rw [Array.length_toList]; exact Nat.le_refl _)
 have tb:b.toList.take b.size=b.toList:=List.take_of_length_le (by rw [Array.length_toList]; exact Nat.le_refl _)
 have st0:HiI a b #[] a.size b.size:=by
  unfold HiI
  rw [ta,tb]
  exact ⟨by show ((a.toList ++ b.toList) ++ []).Perm _; rw [List.append_nil],List.Pairwise.nil,T.sa,T.sb,fun y _ z hz => by cases hz⟩
 have st1:HiI a b #[p] (a.size - 1) b.size:=HiI.pushA (out:=#[]) (by rw [show a.size - 1 + 1=a.size by omega]; exact st0) e fun y hy => Int.le_of_lt (hla p e y (List.mem_of_mem_take hy))
 by_cases c1:(a.size - 1 == 0)=true
 ·rw [if_pos c1]
  exact wpS_pure (h _ _ (Keep.refl st) (hi_done st1 (by simpa using c1)))
 rw [if_neg c1]
 have c1:a.size - 1 ≠ 0:=by simpa using c1
 by_cases c2:(b.size == 1)=true
 ·rw [if_pos c2]
  exact wpS_pure (h _ _ (Keep.refl st) (first_done h0 st1 (by simpa using c2)))
 rw [if_neg c2]
 have c2:b.size ≠ 1:=by simpa using c2
 refine wpS_bind (wpS_get ?_)
 refine wpS_bind (wpS_mono (wpS_forRange (I:=fun x c st' => Keep st st'∧∃ na nb out mg,c=(none,na,nb,out,mg)∧HiV a b out na nb∧na + nb + x ≤ a.size + b.size)
  (Q:=fun c st' => Keep st st'∧∃ r rest,c=(some r,rest)∧Fin' (a.toList ++ b.toList) r.toList) ?step ?fin ⟨Keep.refl st,_,_,_,_,rfl,⟨st1,by omega,by omega,by omega,Nat.le_refl _⟩,by omega⟩) ?post)
 case post =>
  rintro c st' ⟨kp,r,rest,rfl,f⟩
  exact wpS_pure (h r st' kp f)
 case fin =>
  rintro c st' ⟨kp,na,nb,out,mg,rfl,v,hx⟩
  have:=v.ha
  have:=v.hb
  omega
 case step =>
  rintro x c st1 _ hx ⟨kp,na,nb,out,mg,rfl,v,hn⟩
  unfold hiO
  dsimp only
  refine wpS_bind (wpS_mono (wpS_forRange (I:=fun y c st' => OhR a b st (x + y) c st') (Q:=fun c st' => OhRF a b st c st' ∨ OhR a b st (x + 1) c st') ?_ ?_ ⟨kp,_,_,_,_,_,rfl,v,hn⟩) ?_)
  ·rintro y c st2 _ hy hR
   refine wpS_mono (wpS_HP T hk h0 hR) fun r st3 hr => ?_
   cases r with
   | done c =>
    rcases hr with hr | ⟨k3,na,nb,out,ac,bc,e3,v3,n3⟩
    ·exact .inl hr
    ·exact .inr ⟨k3,na,nb,out,ac,bc,e3,v3,by omega⟩
   | yield c => exact hr
  ·rintro c st2 ⟨k3,na,nb,out,ac,bc,e3,v3,n3⟩
   exact .inr ⟨k3,na,nb,out,ac,bc,e3,v3,by omega⟩
  ·rintro c st2 (⟨k2,r,rest,rfl,f⟩ | ⟨k2,na2,nb2,out2,ac2,bc2,rfl,v2,n2⟩)
   ·exact wpS_pure ⟨k2,_,_,rfl,f⟩
   ·dsimp only
    refine wpS_bind (wpS_lift (wpAny_rule ⟨rfl,?_⟩))
    refine wpS_bind (wpS_mono (wpS_forRange (I:=fun y c st' => OhN a b st (x + 1) c st') (Q:=fun c st' => OhF a b st c st' ∨ OhN a b st (x + 1) c st') ?_ ?_ ⟨k2,_,_,_,_,_,_,rfl,v2,n2⟩) ?_)
    ·rintro y c st3 _ hy hR
     refine wpS_mono (wpS_HG T hk h0 hR) fun r st4 hr => ?_
     cases r with
     | done c => exact hr
     | yield c => exact hr
    ·exact fun c st3 hR => .inr hR
    ·rintro c st3 (⟨k3,r,rest,rfl,f⟩ | ⟨k3,na3,nb3,out3,mg3,ac3,bc3,rfl,v3,n3⟩)
     ·exact wpS_pure ⟨k3,_,_,rfl,f⟩
     ·dsimp only
      rw [setMinGallopX_eq]
      exact wpS_bind (wpS_modify (wpS_pure ⟨k3.gal _,_,_,_,_,rfl,v3,by omega⟩))
end
end TimG
namespace TimG
open PySem PySem.Spec PyProof.Rows
variable [KO]
theorem mergeAtX_eq (i:Nat):mergeAt' i=(do
 let s ← get
 let (some (sa,na,power),some (sb,nb,_)):=((pendingOf s)[i]?,(pendingOf s)[i + 1]?) | unsupported "internal:list.sort.pending"
 set (setPending s (((pendingOf s).setIfInBounds i (sa,na + nb,power)).eraseIdxIfInBounds (i + 1)))
 let some k ← gallopX false (← elem' (arrOf s) sb) (arrOf s) sa na 0 | return false
 let (sa,na):=(sa + k,na - k)
 if na == 0 then return true
 let some nb ← gallopX true (← elem' (arrOf s) (sa + na - 1)) (arrOf s) sb nb (nb - 1) | return false
 if nb == 0 then return true
 let x:=(arrOf s).extract sa sb
 let y:=(arrOf s).extract sb (sb + nb)
 let merged ← if na ≤ nb then mergeLoX x y else mergeHiX x y
 modify fun s => setArr s (merged.toList.zipIdx.foldl (fun a (p,j) => a.setIfInBounds (sa + j) p) (arrOf s))
 return (failedOf (← get)).isNone):=rfl
theorem put_all:∀ (l:List Keyed) (j o:Nat) (a:Array Keyed),o + j + l.length ≤ a.size→((l.zipIdx j).foldl (fun a (p:Keyed × Nat) => a.setIfInBounds (o + p.2) p.1) a).toList=a.toList.take (o + j) ++ l ++ a.toList.drop (o + j + l.length)
 | [],j,o,a,_ => by
  show a.toList=_
  rw [List.append_nil,List.length_nil,Nat.add_zero,List.take_append_drop]
 | x :: l,j,o,a,h => by
  rw [List.length_cons] at h
  rw [List.zipIdx_cons,List.foldl_cons]
  have ih:=put_all l (j + 1) o (a.setIfInBounds (o + j) x) (by rw [Array.size_setIfInBounds]; omega)
  dsimp only
  rw [ih,Array.toList_setIfInBounds]
  have hl:o + j < a.toList.length:=by rw [Array.length_toList]; omega
  have e1:(a.toList.set (o + j) x).take (o + (j + 1))=a.toList.take (o + j) ++ [x]:=by
   rw [show o + (j + 1)=o + j + 1 by omega,List.take_add_one,List.take_set_of_le (Nat.le_refl _),List.getElem?_set_self hl]
   rfl
  have e2:(a.toList.set (o + j) x).drop (o + (j + 1) + l.length)=a.toList.drop (o + j + (l.length + 1)):=by
   rw [List.drop_set_of_lt (by omega),show o + (j + 1) + l.length=o + j + (l.length + 1) by omega]
  rw [e1,e2,List.length_cons]
  simp
def offs:Nat→List (List Keyed)→List (Nat × Nat)
 | _,[] => []
 | s,R :: Rs => (s,R.length) :: offs (s + R.length) Rs
theorem offs_app:∀ (s:Nat) (A B:List (List Keyed)),offs s (A ++ B)=offs s A ++ offs (s + A.flatten.length) B
 | s,[],B => by simp [offs]
 | s,R :: A,B => by
  show (s,R.length) :: offs (s + R.length) (A ++ B)=(s,R.length) :: offs (s + R.length) A ++ _
  rw [offs_app (s + R.length) A B,List.flatten_cons,List.length_append,Nat.add_assoc]
  rfl
theorem offs_len:∀ (s:Nat) (A:List (List Keyed)),(offs s A).length=A.length
 | s,[] => rfl
 | s,R :: A => by show (offs (s + R.length) A).length + 1=A.length + 1; rw [offs_len]
def bare (P:Array (Nat × Nat × Nat)):List (Nat × Nat):=P.toList.map fun x => (x.1,x.2.1)
theorem extract_eq (a:Array Keyed) (i j:Nat):(a.extract i j).toList=(a.toList.drop i).take (j - i):=by
 rw [Array.toList_extract,List.extract_eq_take_drop]
theorem at_app {a:Array Keyed} {U V W:List Keyed} (e:a.toList=U ++ V ++ W) {i:Nat} (hi:i < V.length):a[U.length + i]? = V[i]?:=by
 rw [← Array.getElem?_toList,e,List.append_assoc,List.getElem?_append_right (by omega),List.getElem?_append_left (by omega)]
 congr 1
 omega
theorem srt_get {l:List Keyed} (h:Srt l) {i j:Nat} {p q:Keyed} (hij:i ≤ j) (e1:l[i]? = some p) (e2:l[j]? = some q):numK p ≤ numK q:=by
 have:=srt_idx (a:=l.toArray) (by simpa using h) hij (by simpa using e1) (by simpa using e2)
 exact this
section
variable {prog:Program} {w:World} {A:Around} {E:Value→Shared→Prop} {s:Shared} {st:SortSt} [KL prog w A s]
theorem wpS_set {x:SortSt} {Q:PUnit→SortSt→Prop} (h:Q ⟨⟩ x):wpS (model prog w) A E s (set x:StateT SortSt Sem PUnit) Q st:=by
 unfold wpS; rw [StateT.run_set]; exact wpAny_pure ⟨rfl,h⟩
theorem wpS_mergeAt {Q:Bool→SortSt→Prop} {U S1 S2 W:List Keyed} {i pw pw2:Nat} (hk:kindOf st=KO.kd) (hf:failedOf st=none) (ea:(arrOf st).toList=U ++ S1 ++ S2 ++ W) (hI:∀ p ∈ (arrOf st).toList,Ik p) (s1:Srt S1) (s2:Srt S2) (n1:1 ≤ S1.length) (n2:1 ≤ S2.length)
  (e1:(pendingOf st)[i]? = some (U.length,S1.length,pw)) (e2:(pendingOf st)[i + 1]? = some (U.length + S1.length,S2.length,pw2))
  (h:∀ (M:List Keyed) (st' : SortSt),kindOf st' = KO.kd→failedOf st' = none→(arrOf st').toList=U ++ M ++ W→M.Perm (S1 ++ S2)→Srt M→pendingOf st' = ((pendingOf st).setIfInBounds i (U.length,S1.length + S2.length,pw)).eraseIdxIfInBounds (i + 1)→Q true st') :
  wpS (model prog w) A E s (mergeAt' i) Q st:=by
 rw [mergeAtX_eq]
 refine wpS_bind (wpS_get ?_)
 rw [e1,e2]
 dsimp only
 refine wpS_bind (wpS_set ?_)
 have hsz:(arrOf st).size=U.length + S1.length + S2.length + W.length:=by rw [← Array.length_toList,ea,List.length_append,List.length_append,List.length_append]
 have ea1:(arrOf st).toList=U ++ S1 ++ (S2 ++ W):=by rw [ea]; simp
 have g1:∀ i,i < S1.length→(arrOf st)[U.length + i]? = S1[i]?:=fun i hi => at_app ea1 hi
 have g2:∀ i,i < S2.length→(arrOf st)[U.length + S1.length + i]? = S2[i]?:=fun i hi => by
  have:=at_app (U:=U ++ S1) ea hi
  rw [List.length_append] at this
  exact this
 have i1:∀ p ∈ S1,Ik p:=fun p hp => hI p (by rw [ea]; simp [hp])
 have i2:∀ p ∈ S2,Ik p:=fun p hp => hI p (by rw [ea]; simp [hp])
 have eb0:S2[0]? = some S2[0]:=List.getElem?_eq_getElem n2
 have mb0:S2[0] ∈ S2:=List.getElem_mem n2
 generalize S2[0]=b0 at eb0 mb0
 have sb0:∀ y ∈ S2,numK b0 ≤ numK y:=fun y hy => by
  obtain ⟨j,hj⟩:=List.mem_iff_getElem?.mp hy
  exact srt_get s2 (Nat.zero_le j) eb0 hj
 refine wpS_bind (wpS_elem (p:=b0) (by have:=g2 0 n2; rw [Nat.add_zero] at this; rw [this]; exact eb0) ?_)
 refine wpS_bind (wpS_gal hk (i2 b0 mb0) n1 (by omega) hI (fun i j p q hij hj x1 x2 => by rw [g1 i (by omega)] at x1; rw [g1 j hj] at x2; exact srt_get s1 hij x1 x2) fun k hk1 hlt hge => ?_)
 have lt1:∀ (i:Nat) (x:Keyed),i < k→S1[i]? = some x→numK x ≤ numK b0:=fun i x hi ei => by
  have:=hlt i x hi (by rw [g1 i (by omega)]; exact ei)
  unfold ahead at this
  rw [if_neg (by decide)] at this
  cases z:decide (numK b0 < numK x) with
  | true => rw [z] at this; cases this
  | false => have:=of_decide_eq_false z; omega
 have ge1:∀ (i:Nat) (y:Keyed),k ≤ i→S1[i]? = some y→numK b0 < numK y:=fun i y hi1 ei => by
  have hi2:=(List.getElem?_eq_some_iff.mp ei).1
  have:=hge i y hi1 hi2 (by rw [g1 i hi2]; exact ei)
  unfold ahead at this
  rw [if_neg (by decide)] at this
  cases z:decide (numK b0 < numK y) with
  | true => exact of_decide_eq_true z
  | false => rw [z] at this; cases this
 dsimp only
 by_cases c1:(S1.length - k == 0)=true
 ·rw [if_pos c1]
  have c1:S1.length - k=0:=by simpa using c1
  refine wpS_pure (h (S1 ++ S2) _ hk hf (by show (arrOf st).toList=_; rw [ea]; simp) (List.Perm.refl _) (srt_app s1 s2 fun x hx y hy => ?_) rfl)
  obtain ⟨j,hj⟩:=List.mem_iff_getElem?.mp hx
  have hj2:=(List.getElem?_eq_some_iff.mp hj).1
  exact Int.le_trans (lt1 j x (by omega) hj) (sb0 y hy)
 rw [if_neg c1]
 have c1:S1.length - k ≠ 0:=by simpa using c1
 have el:S1[S1.length - 1]? = some S1[S1.length - 1]:=List.getElem?_eq_getElem (by omega)
 have ml:S1[S1.length - 1] ∈ S1:=List.getElem_mem (by omega)
 generalize S1[S1.length - 1]=z0 at el ml
 have sz0:∀ y ∈ S1,numK y ≤ numK z0:=fun y hy => by
  obtain ⟨j,hj⟩:=List.mem_iff_getElem?.mp hy
  have hj2:=(List.getElem?_eq_some_iff.mp hj).1
  exact srt_get s1 (by omega) hj el
 refine wpS_bind (wpS_elem (p:=z0) (by rw [show U.length + k + (S1.length - k) - 1=U.length + (S1.length - 1) by omega,g1 _ (by omega)]; exact el) ?_)
 refine wpS_bind (wpS_gal hk (i1 z0 ml) (by omega) (by omega) hI (fun i j p q hij hj x1 x2 => by rw [g2 i (by omega)] at x1; rw [g2 j hj] at x2; exact srt_get s2 hij x1 x2) fun nb hnb hlt2 hge2 => ?_)
 have lt2:∀ (i:Nat) (x:Keyed),i < nb→S2[i]? = some x→numK x < numK z0:=fun i x hi ei => by
  have:=hlt2 i x hi (by rw [g2 i (by omega)]; exact ei)
  unfold ahead at this
  rw [if_pos rfl] at this
  exact of_decide_eq_true this
 have ge2:∀ (i:Nat) (y:Keyed),nb ≤ i→S2[i]? = some y→numK z0 ≤ numK y:=fun i y hi1 ei => by
  have hi2:=(List.getElem?_eq_some_iff.mp ei).1
  have:=hge2 i y hi1 hi2 (by rw [g2 i hi2]; exact ei)
  unfold ahead at this
  rw [if_pos rfl] at this
  have:=of_decide_eq_false this
  omega
 dsimp only
 by_cases c2:(nb == 0)=true
 ·have c2:nb=0:=by simpa using c2
  exfalso
  have h1:=ge2 0 b0 (by omega) eb0
  have h2:=ge1 (S1.length - 1) z0 (by omega) el
  omega
 rw [if_neg c2]
 have c2:nb ≠ 0:=by simpa using c2
 have ex:((arrOf st).extract (U.length + k) (U.length + S1.length)).toList=S1.drop k:=by
  rw [extract_eq,ea1,List.append_assoc,List.drop_append,List.drop_of_length_le (by omega),List.nil_append,show U.length + k - U.length=k by omega,List.drop_append,List.take_append]
  rw [List.take_of_length_le (by rw [List.length_drop]; omega),List.length_drop,show U.length + S1.length - (U.length + k) - (S1.length - k)=0 by omega,List.take_zero,List.append_nil]
 have ey:((arrOf st).extract (U.length + S1.length) (U.length + S1.length + nb)).toList=S2.take nb:=by
  rw [extract_eq,ea,List.append_assoc,List.drop_append,List.drop_of_length_le (by rw [List.length_append]; exact Nat.le_refl _),List.nil_append,List.length_append,Nat.sub_self,List.drop_zero,Nat.add_sub_cancel_left,List.take_append,show nb - S2.length=0 by omega,List.take_zero,List.append_nil]
 have lx:((arrOf st).extract (U.length + k) (U.length + S1.length)).size=S1.length - k:=by rw [← Array.length_toList,ex,List.length_drop]
 have ly:((arrOf st).extract (U.length + S1.length) (U.length + S1.length + nb)).size=nb:=by rw [← Array.length_toList,ey,List.length_take]; omega
 generalize (arrOf st).extract (U.length + k) (U.length + S1.length)=xa at ex lx ⊢
 generalize (arrOf st).extract (U.length + S1.length) (U.length + S1.length + nb)=ya at ey ly ⊢
 have T:Two xa ya:=⟨by rw [ex]; exact fun p hp => i1 p (List.mem_of_mem_drop hp),by rw [ey]; exact fun p hp => i2 p (List.mem_of_mem_take hp),by rw [ex]; exact srt_drop s1 k,by rw [ey]; exact List.Pairwise.take s2⟩
 have H0:∀ p,ya[0]? = some p→∀ x ∈ xa.toList,numK p < numK x:=fun p ep x hx => by
  rw [← Array.getElem?_toList,ey,List.getElem?_take,if_pos (by omega),eb0] at ep
  cases ep
  rw [ex] at hx
  obtain ⟨j,hj⟩:=List.mem_iff_getElem?.mp hx
  rw [List.getElem?_drop] at hj
  exact ge1 (k + j) x (by omega) hj
 have HL:∀ p,xa[xa.size - 1]? = some p→∀ y ∈ ya.toList,numK y < numK p:=fun p ep y hy => by
  rw [← Array.getElem?_toList,ex,List.getElem?_drop,lx,show k + (S1.length - k - 1)=S1.length - 1 by omega,el] at ep
  cases ep
  rw [ey] at hy
  obtain ⟨j,hj⟩:=List.mem_iff_getElem?.mp hy
  rw [List.getElem?_take] at hj
  split at hj
  ·exact lt2 j y (by assumption) hj
  ·cases hj
 have fin:∀ (r:Array Keyed) (st3:SortSt),Keep (setPending st (((pendingOf st).setIfInBounds i (U.length,S1.length + S2.length,pw)).eraseIdxIfInBounds (i + 1))) st3→Fin' (xa.toList ++ ya.toList) r.toList →
   wpS (model prog w) A E s (do
    modify fun s => setArr s (List.foldl (fun a (x:Keyed × Nat) => a.setIfInBounds (U.length + k + x.snd) x.fst) (arrOf s) r.toList.zipIdx)
    let g ← get
    pure (failedOf g).isNone) Q st3:=by
  intro r st3 ⟨q1,q2,q3,q4⟩ ⟨fp,fs⟩
  rw [ex,ey] at fp
  have lr:r.toList.length=(S1.length - k) + nb:=by rw [fp.length_eq,List.length_append,List.length_drop,List.length_take]; omega
  refine wpS_bind (wpS_modify (wpS_bind (wpS_get (wpS_pure ?_))))
  show Q (failedOf st3).isNone _
  rw [q4]
  show Q (failedOf st).isNone _
  rw [hf]
  refine h (S1.take k ++ r.toList ++ S2.drop nb) _ (q1.trans hk) (q4.trans hf) ?_ ?_ ?_ q3
  ·show (List.foldl (fun a (x:Keyed × Nat) => a.setIfInBounds (U.length + k + x.snd) x.fst) (arrOf st3) (r.toList.zipIdx 0)).toList=_
   rw [put_all r.toList 0 (U.length + k) (arrOf st3) (by rw [q2]; show _ ≤ (arrOf st).size; omega),q2]
   show (arrOf st).toList.take _ ++ _ ++ (arrOf st).toList.drop _=_
   have t1:(arrOf st).toList.take (U.length + k + 0)=U ++ S1.take k:=by
    rw [ea1,List.append_assoc,List.take_append,List.take_of_length_le (by omega),show U.length + k + 0 - U.length=k by omega,List.take_append,show k - S1.length=0 by omega,List.take_zero,List.append_nil]
   have t2:(arrOf st).toList.drop (U.length + k + 0 + r.toList.length)=S2.drop nb ++ W:=by
    rw [ea,List.append_assoc,List.drop_append,List.drop_of_length_le (by rw [List.length_append]; omega),List.nil_append,List.length_append,lr,show U.length + k + 0 + (S1.length - k + nb) - (U.length + S1.length)=nb by omega,List.drop_append,show nb - S2.length=0 by omega,List.drop_zero]
   rw [t1,t2]
   simp
  ·have p1:(S1.take k ++ r.toList ++ S2.drop nb).Perm (S1.take k ++ (S1.drop k ++ S2.take nb) ++ S2.drop nb):=List.Perm.append_right _ (List.Perm.append_left _ fp)
   refine p1.trans ?_
   have:S1.take k ++ (S1.drop k ++ S2.take nb) ++ S2.drop nb=S1 ++ S2:=by
    rw [← List.append_assoc,List.take_append_drop,List.append_assoc,List.take_append_drop]
   rw [this]
  ·have inr:∀ y ∈ r.toList,y ∈ S1.drop k ∨ y ∈ S2.take nb:=fun y hy => List.mem_append.mp (fp.mem_iff.mp hy)
   have s1' : Srt (S1.take k ++ S1.drop k):=by rw [List.take_append_drop]; exact s1
   have s2' : Srt (S2.take nb ++ S2.drop nb):=by rw [List.take_append_drop]; exact s2
   refine srt_app (srt_app (srt_l s1') fs fun x hx y hy => ?_) (srt_r s2') fun x hx y hy => ?_
   ·rcases inr y hy with hy | hy
    ·exact srt_lr s1' x hx y hy
    ·obtain ⟨j,hj⟩:=List.mem_iff_getElem?.mp hx
     rw [List.getElem?_take] at hj
     split at hj
     ·exact Int.le_trans (lt1 j x (by assumption) hj) (sb0 y (List.mem_of_mem_take hy))
     ·cases hj
   ·have zy:numK z0 ≤ numK y:=by
     obtain ⟨j,hj⟩:=List.mem_iff_getElem?.mp hy
     rw [List.getElem?_drop] at hj
     exact ge2 (nb + j) y (by omega) hj
    rcases List.mem_append.mp hx with hx | hx
    ·exact Int.le_trans (sz0 x (List.mem_of_mem_take hx)) zy
    ·rcases inr x hx with hx | hx
     ·exact Int.le_trans (sz0 x (List.mem_of_mem_drop hx)) zy
     ·exact srt_lr s2' x hx y hy
 by_cases c3:S1.length - k ≤ nb
 ·rw [if_pos c3]
  exact wpS_bind (wpS_mergeLo T hk (by omega) (by omega) (fun p ep x hx => Int.le_of_lt (H0 p ep x hx)) HL fun r st3 kp f => fin r st3 kp f)
 ·rw [if_neg c3]
  exact wpS_bind (wpS_mergeHi T hk (by omega) (by omega) H0 HL fun r st3 kp f => fin r st3 kp f)
end
end TimG
namespace TimG
open PySem PySem.Spec PyProof.Rows
variable [KO]
def ascY (lo a nrem:Nat):StateT SortSt Sem AscSt :=
 forIn [a:nrem] ((none,a):AscSt) fun _ c => do
  let x ← ltAt' (lo + c.2) (lo + c.2 - 1)
  match x with
  | some smaller => if smaller=true then pure (.done (none,c.2)) else pure (.yield (none,c.2 + 1))
  | _ => pure (.done (some none,c.2))
def tailY (lo n nrem:Nat):StateT SortSt Sem (Option Nat):=do
 reverseSlice' lo (lo + n)
 let c ← ascY lo n nrem
 match c.1 with
 | some r => pure r
 | none => pure (some c.2)
def descY (lo n nrem:Nat):StateT SortSt Sem DescSt :=
 forIn [n:nrem] ((none,n,0):DescSt) fun _ c => do
  let x ← ltAt' (lo + c.2.1) (lo + c.2.1 - 1)
  match x with
  | some smaller =>
   if smaller=true then
    if c.2.2 > 0 then do
     reverseSlice' (lo + c.2.1 - (c.2.2 + 1)) (lo + c.2.1)
     pure (.yield (none,c.2.1 + 1,0))
    else pure (.yield (none,c.2.1 + 1,0))
   else do
    let x ← ltAt' (lo + c.2.1 - 1) (lo + c.2.1)
    match x with
    | some larger => if larger=true then pure (.done (none,c.2.1,c.2.2)) else pure (.yield (none,c.2.1 + 1,c.2.2 + 1))
    | _ => pure (.done (some none,c.2.1,c.2.2))
  | _ => pure (.done (some none,c.2.1,c.2.2))
def descZ (lo n nrem:Nat):StateT SortSt Sem (Option Nat):=do
 liftM (rule "list.sort.descending-run")
 let c ← descY lo (n + 1) nrem
 match c.1 with
 | some r => pure r
 | none =>
  if c.2.2 > 0 then do
   reverseSlice' (lo + c.2.1 - (c.2.2 + 1)) (lo + c.2.1)
   tailY lo c.2.1 nrem
  else tailY lo c.2.1 nrem
theorem countRunX_eq (lo nrem:Nat):countRun' lo nrem=(do
  let c ← ascY lo 1 nrem
  match c.1 with
  | some r => pure r
  | none =>
   if (c.2 == nrem)=true then pure (some c.2)
   else if c.2 > 1 then do
    let x ← ltAt' lo (lo + c.2 - 1)
    match x with
    | some rose => if rose=true then pure (some c.2) else do
      reverseSlice' lo (lo + c.2)
      descZ lo c.2 nrem
    | _ => pure none
   else descZ lo c.2 nrem):=by
 have tl:∀ n,(do
   reverseSlice' lo (lo + n)
   let mut n:=n
   for _ in [n:nrem] do
    let some smaller ← ltAt' (lo + n) (lo + n - 1) | return none
    if smaller then break
    n:=n + 1
   return some n)=tailY lo n nrem:=fun n => by
  unfold tailY
  dsimp only
  refine congrArg _ (funext fun _ => congrArg _ (funext fun c => ?_))
  obtain ⟨r,c⟩:=c
  cases r <;> rfl
 have dz:∀ n,(do
   rule "list.sort.descending-run"
   let mut n:=n + 1
   let mut neq:=0
   for _ in [n:nrem] do
    let some smaller ← ltAt' (lo + n) (lo + n - 1) | return none
    if smaller then
     if neq > 0 then reverseSlice' (lo + n - (neq + 1)) (lo + n)
     neq:=0
    else
     let some larger ← ltAt' (lo + n - 1) (lo + n) | return none
     if larger then break
     neq:=neq + 1
    n:=n + 1
   if neq > 0 then reverseSlice' (lo + n - (neq + 1)) (lo + n)
   reverseSlice' lo (lo + n)
   for _ in [n:nrem] do
    let some smaller ← ltAt' (lo + n) (lo + n - 1) | return none
    if smaller then break
    n:=n + 1
   return some n)=(descZ lo n nrem:StateT SortSt Sem (Option Nat)):=fun n => by
  unfold descZ
  dsimp only
  refine congrArg _ (funext fun _ => congrArg _ (funext fun c => ?_))
  obtain ⟨r,n2,q2⟩:=c
  cases r with
  | some r => rfl
  | none =>
   dsimp only
   refine ifd (congrArg _ (funext fun _ => ?_)) ?_
   ·exact tl n2
   ·exact tl n2
 rw [countRun'_eq]
 dsimp only
 refine congrArg _ (funext fun c => ?_)
 obtain ⟨r,n⟩:=c
 cases r with
 | some r => rfl
 | none =>
  dsimp only
  refine ifc (ifd (congrArg _ (funext fun x => ?_)) ?_)
  ·cases x with
   | none => rfl
   | some rose =>
    dsimp only
    refine ifc (congrArg _ (funext fun _ => ?_))
    exact dz n
  ·exact dz n
end TimG
namespace TimG
open PySem PySem.Spec PyProof.Rows
variable [KO]
structure CB (a₀:Array Keyed) (lo:Nat) (P:Array (Nat × Nat × Nat)) (st:SortSt):Prop where
 kind:kindOf st=KO.kd
 failed:failedOf st=none
 pend:pendingOf st=P
 perm:(arrOf st).Perm a₀
 low:∀ i,i < lo→(arrOf st)[i]? = a₀[i]?
theorem CB.size {a₀:Array Keyed} {lo:Nat} {P:Array (Nat × Nat × Nat)} {st:SortSt} (h:CB a₀ lo P st):(arrOf st).size=a₀.size:=h.perm.size_eq
theorem CB.rev {a₀:Array Keyed} {lo:Nat} {P:Array (Nat × Nat × Nat)} {st:SortSt} (h:CB a₀ lo P st) {i j:Nat} (hi:lo ≤ i) (hj:j ≤ a₀.size):CB a₀ lo P (setArr st (mirror (arrOf st) i j ((j - i) / 2))) :=
 ⟨h.kind,h.failed,h.pend,(mirror_perm _ _ _ _).trans h.perm,fun k hk => by
  show (mirror (arrOf st) i j ((j - i) / 2))[k]? = _
  rw [getElem?_mirror_all (by rw [h.size]; exact hj),if_neg (by omega)]
  exact h.low k hk⟩
theorem CB.at {a₀:Array Keyed} {lo:Nat} {P:Array (Nat × Nat × Nat)} {st:SortSt} (h:CB a₀ lo P st) (h0:IkA a₀) {i:Nat} (hi:i < a₀.size):∃ p,(arrOf st)[i]? = some p∧Ik p∧K (arrOf st) i=numK p:=by
 have hi' : i < (arrOf st).size:=by rw [h.size]; exact hi
 have hm:(arrOf st)[i] ∈ a₀.toList:=(Array.perm_iff_toList_perm.mp h.perm).mem_iff.mp (by simp)
 have e:(arrOf st)[i]? = some (arrOf st)[i]:=getElem?_pos _ i hi'
 refine ⟨_,e,h0 _ hm,?_⟩
 unfold K L2.RK
 rw [e]
 rfl
def SegA (xs:Array Keyed) (lo n:Nat):Prop:=∀ i j,i ≤ j→j < n→K xs (lo + i) ≤ K xs (lo + j)
def SegD (xs:Array Keyed) (lo n:Nat):Prop:=∀ i j,i ≤ j→j < n→K xs (lo + j) ≤ K xs (lo + i)
section
variable {prog:Program} {w:World} {A:Around} {E:Value→Shared→Prop} {s:Shared} {a₀:Array Keyed} {lo nrem:Nat} {P:Array (Nat × Nat × Nat)} {st:SortSt} [KL prog w A s]
theorem wpS_ltC {i j:Nat} {Q:Option Bool→SortSt→Prop} (hB:CB a₀ lo P st) (h0:IkA a₀) (hi:i < a₀.size) (hj:j < a₀.size) (h:Q (some (decide (K (arrOf st) i < K (arrOf st) j))) st):wpS (model prog w) A E s (ltAt' i j) Q st:=by
 obtain ⟨p,e1,i1,k1⟩:=hB.at h0 hi
 obtain ⟨q,e2,i2,k2⟩:=hB.at h0 hj
 rw [k1,k2] at h
 rw [ltAt'_eq]
 refine wpS_bind (wpS_get ?_)
 dsimp only
 rw [elem'_eq,elem'_eq,e1,e2]
 exact wpS_bind (wpS_pure (wpS_bind (wpS_pure (wpS_ltN hB.kind i1 i2 h))))
theorem wpS_rev {i j:Nat} {Q:Unit→SortSt→Prop} (h:Q () (setArr st (mirror (arrOf st) i j ((j - i) / 2)))):wpS (model prog w) A E s (reverseSlice' i j) Q st:=by
 rw [reverseSlice'_eq]
 exact wpS_modify h
theorem wpS_ascY {a:Nat} {Q:AscSt→SortSt→Prop} (h0:IkA a₀) (hn:lo + nrem ≤ a₀.size) (ha:1 ≤ a) (han:a ≤ nrem) (hB:CB a₀ lo P st) (hs:SegA (arrOf st) lo a)
  (h:∀ n,a ≤ n→n ≤ nrem→SegA (arrOf st) lo n→(n < nrem→K (arrOf st) (lo + n) < K (arrOf st) (lo + n - 1))→Q (none,n) st):wpS (model prog w) A E s (ascY lo a nrem) Q st:=by
 unfold ascY
 refine wpS_mono (wpS_forRange (I:=fun x c st' => st' = st∧c=(none,x)∧SegA (arrOf st) lo x) (Q:=fun c st' => st' = st∧∃ n,c=(none,n)∧a ≤ n∧n ≤ nrem∧SegA (arrOf st) lo n∧(n < nrem→K (arrOf st) (lo + n) < K (arrOf st) (lo + n - 1))) ?_ ?_ ⟨rfl,rfl,hs⟩) ?_
 ·rintro x c st' hx hx2 ⟨rfl,rfl,hS⟩
  dsimp only
  refine wpS_bind (wpS_ltC hB h0 (by omega) (by omega) ?_)
  by_cases hlt:K (arrOf st') (lo + x) < K (arrOf st') (lo + x - 1)
  ·rw [decide_eq_true hlt]
   exact wpS_pure ⟨rfl,x,rfl,hx,by omega,hS,fun _ => hlt⟩
  ·rw [decide_eq_false hlt]
   refine wpS_pure ⟨rfl,rfl,fun i j hij hj => ?_⟩
   by_cases c:j < x
   ·exact hS i j hij c
   ·have:j=x:=by omega
    subst this
    by_cases c2:i=j
    ·subst c2; exact Int.le_refl _
    ·have:=hS i (j - 1) (by omega) (by omega)
     rw [show lo + (j - 1)=lo + j - 1 by omega] at this
     omega
 ·rintro c st' ⟨rfl,rfl,hS⟩
  rw [show max a nrem=nrem by omega] at hS ⊢
  exact ⟨rfl,nrem,rfl,han,Nat.le_refl _,hS,fun h => by omega⟩
 ·rintro c st' ⟨rfl,n,rfl,q1,q2,q3,q4⟩
  exact h n q1 q2 q3 q4
theorem wpS_tailY {n:Nat} {Q:Option Nat→SortSt→Prop} (h0:IkA a₀) (hn:lo + nrem ≤ a₀.size) (h1:1 ≤ n) (hnn:n ≤ nrem) (hB:CB a₀ lo P st) (hs:SegD (arrOf st) lo n)
  (h:∀ m st',CB a₀ lo P st'→1 ≤ m→m ≤ nrem→SegA (arrOf st') lo m→Q (some m) st'):wpS (model prog w) A E s (tailY lo n nrem) Q st:=by
 unfold tailY
 refine wpS_bind (wpS_rev ?_)
 have hB2:=hB.rev (i:=lo) (j:=lo + n) (Nat.le_refl _) (by omega)
 refine wpS_bind (wpS_ascY h0 hn h1 hnn hB2 (fun i j hij hj => ?_) fun m q1 q2 q3 _ => wpS_pure (h m _ hB2 (by omega) q2 q3))
 show K (mirror (arrOf st) lo (lo + n) ((lo + n - lo) / 2)) (lo + i) ≤ K (mirror (arrOf st) lo (lo + n) ((lo + n - lo) / 2)) (lo + j)
 rw [K_mirror (by rw [hB.size]; omega),K_mirror (by rw [hB.size]; omega),if_pos (by omega),if_pos (by omega)]
 have:=hs (n - 1 - j) (n - 1 - i) (by omega) (by omega)
 rw [show lo + (n - 1 - j)=lo + (lo + n) - 1 - (lo + j) by omega,show lo + (n - 1 - i)=lo + (lo + n) - 1 - (lo + i) by omega] at this
 exact this
theorem wpS_descZ {n:Nat} {Q:Option Nat→SortSt→Prop} (h0:IkA a₀) (hn:lo + nrem ≤ a₀.size) (hnn:n + 1 ≤ nrem) (hB:CB a₀ lo P st) (hs:SegD (arrOf st) lo (n + 1))
  (h:∀ m st',CB a₀ lo P st'→1 ≤ m→m ≤ nrem→SegA (arrOf st') lo m→Q (some m) st'):wpS (model prog w) A E s (descZ lo n nrem) Q st:=by
 unfold descZ descY
 refine wpS_bind (wpS_lift (wpAny_rule ⟨rfl,?_⟩))
 refine wpS_bind (wpS_mono (wpS_forRange (I:=fun x c st' => CB a₀ lo P st'∧∃ q,c=(none,x,q)∧SegD (arrOf st') lo x∧q < x∧∀ i,lo + x - (q + 1) ≤ i→i < lo + x→K (arrOf st') i=K (arrOf st') (lo + x - 1))
  (Q:=fun c st' => CB a₀ lo P st'∧∃ m q,c=(none,m,q)∧1 ≤ m∧m ≤ nrem∧SegD (arrOf st') lo m∧q < m∧∀ i,lo + m - (q + 1) ≤ i→i < lo + m→K (arrOf st') i=K (arrOf st') (lo + m - 1)) ?_ ?_ ⟨hB,0,rfl,hs,by omega,fun i h1 h2 => by rw [show i=lo + (n + 1) - 1 by omega]⟩) ?_)
 ·rintro x c st' hx hx2 ⟨hB',q,rfl,hD,hq,he⟩
  dsimp only
  refine wpS_bind (wpS_ltC hB' h0 (by omega) (by omega) ?_)
  have step:∀ (ys:Array Keyed),(∀ i,K ys i=K (arrOf st') i)→K (arrOf st') (lo + x) ≤ K (arrOf st') (lo + x - 1)→SegD ys lo (x + 1):=fun ys hy hle i j hij hj => by
   rw [hy,hy]
   by_cases c:j < x
   ·exact hD i j hij c
   ·have:j=x:=by omega
    subst this
    by_cases c2:i=j
    ·subst c2; exact Int.le_refl _
    ·have:=hD i (j - 1) (by omega) (by omega)
     rw [show lo + (j - 1)=lo + j - 1 by omega] at this
     omega
  by_cases hlt:K (arrOf st') (lo + x) < K (arrOf st') (lo + x - 1)
  ·rw [decide_eq_true hlt]
   dsimp only
   rw [if_pos rfl]
   by_cases hq0:q > 0
   ·rw [if_pos hq0]
    refine wpS_bind (wpS_rev (wpS_pure ⟨hB'.rev (by omega) (by omega),0,rfl,?_,by omega,fun i h1 h2 => by rw [show i=lo + (x + 1) - 1 by omega]⟩))
    refine step (mirror (arrOf st') (lo + x - (q + 1)) (lo + x) ((lo + x - (lo + x - (q + 1))) / 2)) (fun i => ?_) (by omega)
    exact K_mirror_equal (by rw [hB'.size]; omega) he i
   ·rw [if_neg hq0]
    exact wpS_pure ⟨hB',0,rfl,step _ (fun _ => rfl) (by omega),by omega,fun i h1 h2 => by rw [show i=lo + (x + 1) - 1 by omega]⟩
  ·rw [decide_eq_false hlt]
   dsimp only
   rw [if_neg (by decide)]
   refine wpS_bind (wpS_ltC hB' h0 (by omega) (by omega) ?_)
   by_cases hgt:K (arrOf st') (lo + x - 1) < K (arrOf st') (lo + x)
   ·rw [decide_eq_true hgt]
    exact wpS_pure ⟨hB',x,q,rfl,by omega,by omega,hD,hq,he⟩
   ·rw [decide_eq_false hgt]
    refine wpS_pure ⟨hB',q + 1,rfl,step _ (fun _ => rfl) (by omega),by omega,fun i h1 h2 => ?_⟩
    rw [show lo + (x + 1) - 1=lo + x by omega]
    by_cases c:i < lo + x
    ·rw [he i (by omega) c]; omega
    ·rw [show i=lo + x by omega]
 ·rintro c st' ⟨hB',q,rfl,hD,hq,he⟩
  rw [show max (n + 1) nrem=nrem by omega] at hD hq he ⊢
  exact ⟨hB',nrem,q,rfl,by omega,Nat.le_refl _,hD,hq,he⟩
 ·rintro c st' ⟨hB',m,q,rfl,m1,m2,hD,hq,he⟩
  dsimp only
  by_cases hq0:q > 0
  ·rw [if_pos hq0]
   refine wpS_bind (wpS_rev (wpS_tailY h0 hn m1 m2 (hB'.rev (by omega) (by omega)) (fun i j hij hj => ?_) h))
   show K (mirror (arrOf st') (lo + m - (q + 1)) (lo + m) ((lo + m - (lo + m - (q + 1))) / 2)) (lo + j) ≤ K (mirror (arrOf st') (lo + m - (q + 1)) (lo + m) ((lo + m - (lo + m - (q + 1))) / 2)) (lo + i)
   rw [K_mirror_equal (by rw [hB'.size]; omega) he,K_mirror_equal (by rw [hB'.size]; omega) he]
   exact hD i j hij hj
  ·rw [if_neg hq0]
   exact wpS_tailY h0 hn m1 m2 hB' hD h
theorem wpS_count {Q:Option Nat→SortSt→Prop} (h0:IkA a₀) (hn:lo + nrem ≤ a₀.size) (h1:1 ≤ nrem) (hB:CB a₀ lo P st)
  (h:∀ m st',CB a₀ lo P st'→1 ≤ m→m ≤ nrem→SegA (arrOf st') lo m→Q (some m) st'):wpS (model prog w) A E s (countRun' lo nrem) Q st:=by
 rw [countRunX_eq]
 refine wpS_bind (wpS_ascY h0 hn (Nat.le_refl 1) h1 hB (fun i j hij hj => by rw [show i=j by omega]; exact Int.le_refl _) fun n n1 n2 hS hlt => ?_)
 dsimp only
 by_cases c1:(n == nrem)=true
 ·rw [if_pos c1]
  exact wpS_pure (h n st hB n1 n2 hS)
 rw [if_neg c1]
 have c1:n ≠ nrem:=by simpa using c1
 have hd:=hlt (by omega)
 by_cases c2:n > 1
 ·rw [if_pos c2]
  refine wpS_bind (wpS_ltC hB h0 (by omega) (by omega) ?_)
  by_cases hr:K (arrOf st) lo < K (arrOf st) (lo + n - 1)
  ·rw [decide_eq_true hr]
   exact wpS_pure (h n st hB n1 n2 hS)
  ·rw [decide_eq_false hr]
   have eqs:∀ i,lo ≤ i→i < lo + n→K (arrOf st) i=K (arrOf st) (lo + n - 1):=fun i hi1 hi2 => by
    have q1:=hS 0 (i - lo) (by omega) (by omega)
    have q2:=hS (i - lo) (n - 1) (by omega) (by omega)
    rw [show lo + (i - lo)=i by omega] at q1 q2
    rw [show lo + (n - 1)=lo + n - 1 by omega] at q2
    rw [Nat.add_zero] at q1
    omega
   refine wpS_bind (wpS_rev (wpS_descZ h0 hn (by omega) (hB.rev (Nat.le_refl _) (by omega)) (fun i j hij hj => ?_) h))
   show K (mirror (arrOf st) lo (lo + n) ((lo + n - lo) / 2)) (lo + j) ≤ K (mirror (arrOf st) lo (lo + n) ((lo + n - lo) / 2)) (lo + i)
   rw [K_mirror_equal (by rw [hB.size]; omega) eqs,K_mirror_equal (by rw [hB.size]; omega) eqs]
   by_cases ci:i < n
   ·rw [eqs (lo + i) (by omega) (by omega)]
    by_cases cj:j < n
    ·rw [eqs (lo + j) (by omega) (by omega)]; exact Int.le_refl _
    ·rw [show j=n by omega]; omega
   ·rw [show i=j by omega]; exact Int.le_refl _
 ·rw [if_neg c2]
  have:n=1:=by omega
  subst this
  refine wpS_descZ h0 hn (by omega) hB (fun i j hij hj => ?_) h
  rw [show lo + 1 - 1=lo by omega] at hd
  by_cases ci:i=j
  ·subst ci; exact Int.le_refl _
  ·have i0:i=0:=by omega
   have j1:j=1:=by omega
   subst i0 j1
   show K (arrOf st) (lo + 1) ≤ K (arrOf st) lo
   exact Int.le_of_lt hd
end
end TimG
namespace TimG
open PySem PySem.Spec PyProof.Rows
variable [KO]
section
variable {prog:Program} {w:World} {A:Around} {E:Value→Shared→Prop} {s:Shared} {a₀:Array Keyed} {lo nrem:Nat} {P:Array (Nat × Nat × Nat)} {st:SortSt} [KL prog w A s]
theorem CB.bub (h:CB a₀ lo P st) {src d:Nat} (hs:src < a₀.size) (hd:d ≤ src) (hl:lo ≤ src - d):CB a₀ lo P (setArr st (bubble (arrOf st) src d)) :=
 ⟨h.kind,h.failed,h.pend,(bubble_perm _ _ _).trans h.perm,fun k hk => by
  show (bubble (arrOf st) src d)[k]? = _
  rw [getElem?_bubble (by rw [h.size]; exact hs) d hd,if_neg (by omega),if_neg (by omega)]
  exact h.low k hk⟩
theorem wpS_bins {n ok:Nat} {Q:Bool→SortSt→Prop} (h0:IkA a₀) (hn:lo + n ≤ a₀.size) (hok:ok ≤ n) (hB:CB a₀ lo P st) (hs:SegA (arrOf st) lo ok)
  (h:∀ st',CB a₀ lo P st'→SegA (arrOf st') lo n→Q true st'):wpS (model prog w) A E s (binarySort' lo n ok) Q st:=by
 rw [binarySort'_eq]
 refine wpS_bind (wpS_mono (wpS_forRange (I:=fun k c st' => c=(none,())∧CB a₀ lo P st'∧SegA (arrOf st') lo (min k n)) (Q:=fun c st' => c=(none,())∧CB a₀ lo P st'∧SegA (arrOf st') lo n) ?step ?fin ?init) ?post)
 case post =>
  rintro c st' ⟨rfl,hB',hs'⟩
  exact wpS_pure (h st' hB' hs')
 case init =>
  refine ⟨rfl,hB,fun i j hij hj => ?_⟩
  by_cases h1:ok=0
  ·rw [show i=j by omega]; exact Int.le_refl _
  ·exact hs i j hij (by omega)
 case fin =>
  rintro c st' ⟨hc,hB',hs'⟩
  refine ⟨hc,hB',?_⟩
  rwa [show min (max (max ok 1) n) n=n by omega] at hs'
 case step =>
  rintro k c st' hak hkn ⟨rfl,hB',hs'⟩
  rw [show min k n=k by omega] at hs'
  have hk:lo + k < a₀.size:=by omega
  refine wpS_bind (wpS_mono (wpS_forRange (I:=fun x c st'' => st'' = st'∧∃ l r,c=(none,l,r)∧l ≤ r∧r ≤ k∧r - l ≤ k - x ∧
    (∀ i,i < l→K (arrOf st') (lo + i) ≤ K (arrOf st') (lo + k))∧(∀ i,r ≤ i→i < k→K (arrOf st') (lo + k) < K (arrOf st') (lo + i)))
   (Q:=fun c st'' => st'' = st'∧∃ l r,c=(none,l,r)∧l ≤ k ∧
    (∀ i,i < l→K (arrOf st') (lo + i) ≤ K (arrOf st') (lo + k))∧(∀ i,l ≤ i→i < k→K (arrOf st') (lo + k) < K (arrOf st') (lo + i))) ?istep ?ifin ?iinit) ?ipost)
  case iinit => exact ⟨rfl,0,k,rfl,by omega,by omega,by omega,fun i hi => by omega,fun i h1 h2 => by omega⟩
  case ifin =>
   rintro c st'' ⟨rfl,l,r,rfl,hlr,hrk,hm,hlo,hhi⟩
   have:l=r:=by omega
   subst this
   exact ⟨rfl,l,l,rfl,hrk,hlo,hhi⟩
  case istep =>
   rintro x c st'' _ hxk ⟨rfl,l,r,rfl,hlr,hrk,hm,hlo,hhi⟩
   dsimp only
   by_cases hge:l ≥ r
   ·rw [if_pos hge]
    have:l=r:=by omega
    subst this
    exact wpS_pure ⟨rfl,l,l,rfl,hrk,hlo,hhi⟩
   ·rw [if_neg hge]
    refine wpS_bind (wpS_ltC hB' h0 hk (by omega) ?_)
    by_cases hless:K (arrOf st'') (lo + k) < K (arrOf st'') (lo + (l + r) / 2)
    ·rw [decide_eq_true hless]
     refine wpS_pure ⟨rfl,l,(l + r) / 2,rfl,by omega,by omega,by omega,hlo,fun i h1 h2 => ?_⟩
     exact Int.lt_of_lt_of_le hless (hs' _ _ h1 h2)
    ·rw [decide_eq_false hless]
     refine wpS_pure ⟨rfl,(l + r) / 2 + 1,r,rfl,by omega,by omega,by omega,fun i h1 => ?_,hhi⟩
     exact Int.le_trans (hs' i ((l + r) / 2) (by omega) (by omega)) (Int.not_lt.mp hless)
  case ipost =>
   rintro c st'' ⟨rfl,l,r,rfl,hlk,hlo,hhi⟩
   show wpS _ _ _ _ (do moveDown' (lo + k) (lo + l); pure (ForInStep.yield (none,()))) _ _
   rw [moveDown'_eq]
   refine wpS_bind (wpS_modify (wpS_pure ⟨rfl,hB'.bub hk (by omega) (by omega),?_⟩))
   rw [show min (k + 1) n=k + 1 by omega]
   have hks:lo + k < (arrOf st'').size:=by rw [hB'.size]; exact hk
   intro i j hij hj
   show K (bubble (arrOf st'') (lo + k) (lo + k - (lo + l))) (lo + i) ≤ K (bubble (arrOf st'') (lo + k) (lo + k - (lo + l))) (lo + j)
   have key:∀ m,m ≤ k→K (bubble (arrOf st'') (lo + k) (lo + k - (lo + l))) (lo + m)=if m=l then K (arrOf st'') (lo + k) else if l < m then K (arrOf st'') (lo + (m - 1)) else K (arrOf st'') (lo + m):=fun m hm => by
    rw [K_bubble hks (by omega)]
    by_cases c1:m=l
    ·rw [if_pos (by omega),if_pos c1]
    ·rw [if_neg (by omega),if_neg c1]
     by_cases c2:l < m
     ·rw [if_pos (by omega),if_pos c2,show lo + m - 1=lo + (m - 1) by omega]
     ·rw [if_neg (by omega),if_neg c2]
   rw [key i (by omega),key j (by omega)]
   repeat' split
   all_goals first
    | (exfalso; omega)
    | exact Int.le_refl _
    | exact hlo _ (by omega)
    | exact Int.le_of_lt (hhi _ (by omega) (by omega))
    | exact hs' _ _ (by omega) (by omega)
end
end TimG
namespace TimG
open PySem PySem.Spec PyProof.Rows
variable [KO]
theorem set_erase {α:Type} (c a b:α):∀ (X Y:List α),((X ++ a :: b :: Y).set X.length c).eraseIdx (X.length + 1)=X ++ c :: Y
 | [],Y => rfl
 | x :: X,Y => by
  show x :: ((X ++ a :: b :: Y).set X.length c).eraseIdx (X.length + 1)=x :: (X ++ c :: Y)
  rw [set_erase c a b X Y]
structure RL (a₀:Array Keyed) (T:List Keyed) (Rs:List (List Keyed)) (st:SortSt):Prop where
 kind:kindOf st=KO.kd
 failed:failedOf st=none
 perm:(arrOf st).toList.Perm a₀.toList
 flat:(arrOf st).toList=Rs.flatten ++ T
 srt:∀ R ∈ Rs,Srt R∧1 ≤ R.length
 pend:bare (pendingOf st)=offs 0 Rs
theorem bare_at {P:Array (Nat × Nat × Nat)} {i:Nat} {x:Nat × Nat} (h:(bare P)[i]? = some x):∃ pw,P[i]? = some (x.1,x.2,pw):=by
 unfold bare at h
 rw [List.getElem?_map,Array.getElem?_toList] at h
 cases z:P[i]? with
 | none => rw [z] at h; cases h
 | some y => rw [z] at h; cases h; exact ⟨y.2.2,rfl⟩
theorem map_er {α β:Type} (f:α→β):∀ (l:List α) (n:Nat),(l.eraseIdx n).map f=(l.map f).eraseIdx n
 | [],n => by cases n <;> rfl
 | a :: l,0 => rfl
 | a :: l,n + 1 => by
  show f a :: (l.eraseIdx n).map f=f a :: (l.map f).eraseIdx n
  rw [map_er f l n]
theorem er_big {α:Type} : ∀ (l:List α) (n:Nat),l.length ≤ n→l.eraseIdx n=l
 | [],n,_ => by cases n <;> rfl
 | a :: l,0,h => by simp at h
 | a :: l,n + 1,h => by
  show a :: l.eraseIdx n=a :: l
  rw [er_big l n (by simpa using h)]
theorem bare_merge (P:Array (Nat × Nat × Nat)) (i a b pw:Nat):bare ((P.setIfInBounds i (a,b,pw)).eraseIdxIfInBounds (i + 1))=((bare P).set i (a,b)).eraseIdx (i + 1):=by
 unfold bare
 have e:((P.setIfInBounds i (a,b,pw)).eraseIdxIfInBounds (i + 1)).toList=(P.toList.set i (a,b,pw)).eraseIdx (i + 1):=by
  unfold Array.eraseIdxIfInBounds
  split
  ·rw [Array.toList_eraseIdx,Array.toList_setIfInBounds]
  ·rw [Array.toList_setIfInBounds,er_big _ _ (by rename_i hh; rw [List.length_set,Array.length_toList]; rw [Array.size_setIfInBounds] at hh; omega)]
 rw [e,map_er,List.map_set]
theorem split2 {α:Type} {Rs:List α} {i:Nat} (h:i + 1 < Rs.length):∃ R1 a b R2,Rs=R1 ++ a :: b :: R2∧R1.length=i:=by
 refine ⟨Rs.take i,Rs[i],Rs[i + 1],Rs.drop (i + 2),?_,by rw [List.length_take]; omega⟩
 rw [← List.drop_eq_getElem_cons h,← List.drop_eq_getElem_cons (by omega),List.take_append_drop]
section
variable {prog:Program} {w:World} {A:Around} {E:Value→Shared→Prop} {s:Shared} {a₀:Array Keyed} {T:List Keyed} {Rs:List (List Keyed)} {st:SortSt} [KL prog w A s]
theorem wpS_mstep {Q:Bool→SortSt→Prop} {i:Nat} (h0:∀ p ∈ a₀.toList,Ik p) (hR:RL a₀ T Rs st) (hi:i + 1 < Rs.length) (h:∀ Rs' st',RL a₀ T Rs' st'→Rs'.length + 1=Rs.length→Q true st'):wpS (model prog w) A E s (mergeAt' i) Q st:=by
 obtain ⟨R1,S1,S2,R2,rfl,rfl⟩:=split2 hi
 have eo:offs 0 (R1 ++ S1 :: S2 :: R2)=offs 0 R1 ++ (R1.flatten.length,S1.length) :: (R1.flatten.length + S1.length,S2.length) :: offs (R1.flatten.length + S1.length + S2.length) R2:=by
  rw [offs_app,Nat.zero_add]
  rfl
 have lo1:=offs_len 0 R1
 have p1:(bare (pendingOf st))[R1.length]? = some (R1.flatten.length,S1.length):=by
  rw [hR.pend,eo,List.getElem?_append_right (by omega),lo1,Nat.sub_self]
  rfl
 have p2:(bare (pendingOf st))[R1.length + 1]? = some (R1.flatten.length + S1.length,S2.length):=by
  rw [hR.pend,eo,List.getElem?_append_right (by omega),lo1,Nat.add_sub_cancel_left]
  rfl
 obtain ⟨pw,e1⟩:=bare_at p1
 obtain ⟨pw2,e2⟩:=bare_at p2
 have q1:=hR.srt S1 (by simp)
 have q2:=hR.srt S2 (by simp)
 refine wpS_mergeAt (U:=R1.flatten) (S1:=S1) (S2:=S2) (W:=R2.flatten ++ T) hR.kind hR.failed (by rw [hR.flat]; simp) (fun p hp => h0 p (hR.perm.mem_iff.mp hp)) q1.1 q2.1 q1.2 q2.2 e1 e2 fun M st' k' f' a' pm sm pd => ?_
 have lm:M.length=S1.length + S2.length:=by rw [pm.length_eq,List.length_append]
 refine h (R1 ++ M :: R2) st' ⟨k',f',?_,by rw [a']; simp,fun R hR' => ?_,?_⟩ (by simp; omega)
 ·rw [a']
  refine List.Perm.trans ?_ hR.perm
  rw [hR.flat]
  have:(R1.flatten ++ M ++ (R2.flatten ++ T)).Perm (R1.flatten ++ (S1 ++ S2) ++ (R2.flatten ++ T)):=List.Perm.append_right _ (List.Perm.append_left _ pm)
  refine this.trans ?_
  simp
 ·rcases List.mem_append.mp hR' with z | z
  ·exact hR.srt R (by simp [z])
  ·rcases List.mem_cons.mp z with rfl | z
   ·exact ⟨sm,by omega⟩
   ·exact hR.srt R (by simp [z])
 ·rw [pd,bare_merge,hR.pend,eo,← lo1,set_erase,offs_app,Nat.zero_add]
  show _=offs 0 R1 ++ (R1.flatten.length,M.length) :: offs (R1.flatten.length + M.length) R2
  rw [lm,Nat.add_assoc]
end
end TimG
namespace TimG
open PySem PySem.Spec PyProof.Rows
variable [KO]
section
variable {prog:Program} {w:World} {A:Around} {E:Value→Shared→Prop} {s:Shared} {a₀:Array Keyed} {T:List Keyed} {Rs:List (List Keyed)} {st:SortSt} [KL prog w A s]
theorem RL.len (h:RL a₀ T Rs st):(pendingOf st).size=Rs.length:=by
 have:=congrArg List.length h.pend
 rw [offs_len] at this
 unfold bare at this
 rw [List.length_map,Array.length_toList] at this
 exact this
theorem bare_mod (P:Array (Nat × Nat × Nat)) (i pw:Nat):bare (P.modify i fun x => (x.1,x.2.1,pw))=bare P:=by
 unfold bare
 refine List.ext_getElem? fun j => ?_
 rw [List.getElem?_map,List.getElem?_map,Array.getElem?_toList,Array.getElem?_toList,Array.getElem?_modify]
 split
 ·cases P[j]? <;> rfl
 ·rfl
theorem bare_push (P:Array (Nat × Nat × Nat)) (x:Nat × Nat × Nat):bare (P.push x)=bare P ++ [(x.1,x.2.1)]:=by
 unfold bare
 rw [Array.toList_push,List.map_append]
 rfl
def tailS (sz lo n:Nat):StateT SortSt Sem (ForInStep (Option Unit × Nat)):=do
 let g ← get
 match (pendingOf g).back? with
 | some (s1,n1,_) => do
  let c ← forIn [0:sz] ((none,()):Option Unit × Unit) fun _ c => do
   let g ← get
   match (if (pendingOf g).size > 1 then (pendingOf g)[(pendingOf g).size - 2]? else none) with
   | some (_,_,older) =>
    if older ≤ power' sz (2 * s1 + n1) (2 * s1 + n1 + n1 + n) sz then pure (.done (none,()))
    else do
     let b ← mergeAt' ((pendingOf g).size - 2)
     if (!b)=true then pure (.done (some (),())) else pure (.yield (none,()))
   | _ => pure (.done (none,()))
  match c.1 with
  | some r => pure (.done (some r,lo))
  | none => do
   modify fun s => setPending s ((pendingOf s).modify ((pendingOf s).size - 1) fun x => (x.1,x.2.1,power' sz (2 * s1 + n1) (2 * s1 + n1 + n1 + n) sz))
   modify fun s => setPending s ((pendingOf s).push (lo,n,0))
   pure (.yield (none,lo + n))
 | _ => do
  modify fun s => setPending s ((pendingOf s).push (lo,n,0))
  pure (.yield (none,lo + n))
theorem RL.push {S W:List Keyed} (hR:RL a₀ (S ++ W) Rs st) (hS:Srt S) (h1:1 ≤ S.length) {P:Array (Nat × Nat × Nat)} (hP:bare P=bare (pendingOf st)):RL a₀ W (Rs ++ [S]) (setPending st (P.push (Rs.flatten.length,S.length,0))):=by
 refine ⟨hR.kind,hR.failed,hR.perm,by show (arrOf st).toList=_; rw [hR.flat]; simp,fun R hr => ?_,?_⟩
 ·rcases List.mem_append.mp hr with z | z
  ·exact hR.srt R z
  ·rw [List.mem_singleton.mp z]; exact ⟨hS,h1⟩
 ·show bare (P.push _)=_
  rw [bare_push,hP,hR.pend,offs_app,Nat.zero_add]
  rfl
theorem wpS_tailS {S W:List Keyed} {sz:Nat} {Q:ForInStep (Option Unit × Nat)→SortSt→Prop} (h0:∀ p ∈ a₀.toList,Ik p) (hR:RL a₀ (S ++ W) Rs st) (hS:Srt S) (h1:1 ≤ S.length)
  (h:∀ Rs' st',RL a₀ W Rs' st'→Rs'.flatten.length=Rs.flatten.length + S.length→Q (.yield (none,Rs.flatten.length + S.length)) st'):wpS (model prog w) A E s (tailS sz Rs.flatten.length S.length) Q st:=by
 unfold tailS
 refine wpS_bind (wpS_get ?_)
 have fl:∀ {Rs' : List (List Keyed)} {st' : SortSt},RL a₀ (S ++ W) Rs' st'→Rs'.flatten.length=Rs.flatten.length:=fun {Rs' st'} h' => by
  have e1:=congrArg List.length h'.flat
  have e2:=congrArg List.length hR.flat
  rw [h'.perm.length_eq,List.length_append] at e1
  rw [hR.perm.length_eq,List.length_append] at e2
  omega
 have fin:∀ {Rs' : List (List Keyed)} {st' : SortSt} {P:Array (Nat × Nat × Nat)},RL a₀ (S ++ W) Rs' st'→bare P=bare (pendingOf st')→Q (.yield (none,Rs.flatten.length + S.length)) (setPending st' (P.push (Rs.flatten.length,S.length,0))):=fun {Rs' st' P} h' hP => by
  have:=h'.push hS h1 hP
  rw [fl h'] at this
  refine h _ _ this ?_
  rw [List.flatten_append,List.length_append,fl h']
  simp
 cases hb:(pendingOf st).back? with
 | none => exact wpS_bind (wpS_modify (wpS_pure (fin hR rfl)))
 | some y =>
  obtain ⟨s1,n1,pw⟩:=y
  dsimp only
  refine wpS_bind (wpS_mono (wpS_forRange (I:=fun x c st' => c=(none,())∧∃ Rs',RL a₀ (S ++ W) Rs' st') (Q:=fun c st' => c=(none,())∧∃ Rs',RL a₀ (S ++ W) Rs' st') ?_ (fun c st' hh => hh) ⟨rfl,Rs,hR⟩) ?_)
  ·rintro x c st' _ _ ⟨rfl,Rs',hR'⟩
   refine wpS_bind (wpS_get ?_)
   by_cases c1:(pendingOf st').size > 1
   ·rw [if_pos c1]
    cases z:(pendingOf st')[(pendingOf st').size - 2]? with
    | none => exact wpS_pure ⟨rfl,Rs',hR'⟩
    | some v =>
     obtain ⟨v1,v2,older⟩:=v
     dsimp only
     split
     ·exact wpS_pure ⟨rfl,Rs',hR'⟩
     ·have hl:=hR'.len
      exact wpS_bind (wpS_mstep h0 hR' (by omega) fun Rs2 st2 hR2 _ => wpS_pure ⟨rfl,Rs2,hR2⟩)
   ·rw [if_neg c1]
    exact wpS_pure ⟨rfl,Rs',hR'⟩
  ·rintro c st' ⟨rfl,Rs',hR'⟩
   refine wpS_bind (wpS_modify (wpS_bind (wpS_modify (wpS_pure ?_))))
   exact fin (st':=st') (P:=(pendingOf st').modify ((pendingOf st').size - 1) fun x => (x.1,x.2.1,power' sz (2 * s1 + n1) (2 * s1 + n1 + n1 + S.length) sz)) hR' (bare_mod _ _ _)
theorem wpS_cg {α:Type} {m1 m2:StateT SortSt Sem α} {Q:α→SortSt→Prop} (e:m1=m2) (h:wpS (model prog w) A E s m1 Q st):wpS (model prog w) A E s m2 Q st:=e ▸ h
theorem if_le (c:Prop) [Decidable c] (a:Nat):(if c then a - 1 else a) ≤ a:=by split <;> omega
theorem numK_K {a:Array Keyed} {i:Nat} {p:Keyed} (e:a[i]? = some p):K a i=numK p:=by
 unfold K L2.RK
 rw [e]
 rfl
theorem wpS_sortAll {Q:Unit→SortSt→Prop} (h0:IkA a₀) (hk:kindOf st=KO.kd) (hf:failedOf st=none) (hp:pendingOf st = #[]) (ha:arrOf st=a₀)
  (h:∀ st',(arrOf st').toList.Perm a₀.toList→failedOf st' = none→Srt (arrOf st').toList→Q () st'):wpS (model prog w) A E s sortRuns' Q st:=by
 have hI:∀ p ∈ a₀.toList,Ik p:=h0
 rw [sortRuns'_eq]
 refine wpS_bind (wpS_get ?_)
 dsimp only
 rw [ha]
 have R0:RL a₀ a₀.toList [] st:=⟨hk,hf,by rw [ha],by rw [ha]; rfl,fun R hR => (by cases hR),by rw [hp]; rfl⟩
 have tl:∀ {st' : SortSt} {x lo n:Nat} {Rs:List (List Keyed)} {T:List Keyed} {st1:SortSt},RL a₀ T Rs st1→Rs.flatten.length=lo→x ≤ lo→lo < a₀.size→CB (arrOf st1) lo (pendingOf st1) st'→1 ≤ n→lo + n ≤ a₀.size→SegA (arrOf st') lo n →
   wpS (model prog w) A E s (tailS a₀.size lo n) (fun r st' => match r with | .done c => c=(none,a₀.size)∧∃ Rs,RL a₀ [] Rs st' | .yield c => ∃ lo Rs T,c=(none,lo)∧RL a₀ T Rs st'∧Rs.flatten.length=lo∧x + 1 ≤ lo∧lo ≤ a₀.size) st':=by
  intro st' x lo n Rs T st1 hR el hx hlo hB n1 hn hs
  subst el
  have szz:(arrOf st1).size=a₀.size:=by rw [← Array.length_toList,hR.perm.length_eq,Array.length_toList]
  have sz2:(arrOf st').size=a₀.size:=by rw [hB.size,szz]
  have pm:(arrOf st').toList.Perm (arrOf st1).toList:=Array.perm_iff_toList_perm.mp hB.perm
  have lowe:(arrOf st').toList.take Rs.flatten.length=Rs.flatten:=by
   have:(arrOf st').toList.take Rs.flatten.length=(arrOf st1).toList.take Rs.flatten.length:=by
    refine List.ext_getElem? fun j => ?_
    rw [List.getElem?_take,List.getElem?_take]
    split
    ·rw [Array.getElem?_toList,Array.getElem?_toList]; exact hB.low j (by assumption)
    ·rfl
   rw [this,hR.flat,List.take_left']
   rfl
  have eS:((arrOf st').toList.drop Rs.flatten.length).take n=((arrOf st').extract Rs.flatten.length (Rs.flatten.length + n)).toList:=(ext_k _ _ _).symm
  generalize hSd:((arrOf st').toList.drop Rs.flatten.length).take n=S at eS
  have lS:S.length=n:=by rw [← hSd,List.length_take,List.length_drop,Array.length_toList]; omega
  have sS:Srt S:=by
   refine List.pairwise_iff_getElem.mpr fun i j hi hj hij => ?_
   have gi:∀ i (hi:i < S.length),(arrOf st')[Rs.flatten.length + i]? = some S[i]:=fun i hi => by
    have:S[i]? = some S[i]:=List.getElem?_eq_getElem hi
    rw [← this,← hSd,List.getElem?_take,if_pos (by omega),List.getElem?_drop,Array.getElem?_toList]
   have:=hs i j (by omega) (by omega)
   rw [numK_K (gi i hi),numK_K (gi j hj)] at this
   exact this
  have hR' : RL a₀ (S ++ (arrOf st').toList.drop (Rs.flatten.length + n)) Rs st':=by
   refine ⟨hB.kind,hB.failed,pm.trans hR.perm,?_,hR.srt,by rw [hB.pend]; exact hR.pend⟩
   rw [← hSd,← List.drop_drop,List.take_append_drop]
   conv => lhs; rw [← List.take_append_drop Rs.flatten.length (arrOf st').toList]
   rw [lowe]
  have:=wpS_tailS (prog:=prog) (w:=w) (A:=A) (E:=E) (s:=s) (sz:=a₀.size) (Q:=fun r st' => match r with | .done c => c=(none,a₀.size)∧∃ Rs,RL a₀ [] Rs st' | .yield c => ∃ lo Rs T,c=(none,lo)∧RL a₀ T Rs st'∧Rs.flatten.length=lo∧x + 1 ≤ lo∧lo ≤ a₀.size) hI hR' sS (by omega) fun Rs2 st2 hR2 e2 => ⟨_,Rs2,_,rfl,hR2,e2,by omega,by omega⟩
  rw [lS] at this
  exact this
 have tnil:∀ {T:List Keyed} {Rs:List (List Keyed)} {st' : SortSt},RL a₀ T Rs st'→Rs.flatten.length=a₀.size→RL a₀ [] Rs st':=fun {T Rs st'} hR el => by
  have e:=congrArg List.length hR.flat
  rw [hR.perm.length_eq,List.length_append,el,Array.length_toList] at e
  have:T=[]:=List.eq_nil_of_length_eq_zero (by omega)
  subst this
  exact hR
 have many:∀ Rs:List (List Keyed),(∀ R ∈ Rs,Srt R∧1 ≤ R.length)→Rs.length ≤ Rs.flatten.length:=fun Rs => by
  induction Rs with
  | nil => intro _; exact Nat.le_refl _
  | cons R Rs ih =>
   intro hh
   rw [List.flatten_cons,List.length_append,List.length_cons]
   have:=ih fun R' hR' => hh R' (List.mem_cons_of_mem _ hR')
   have:=(hh R List.mem_cons_self).2
   omega
 refine wpS_bind (wpS_mono (wpS_forRange (I:=fun x c st' => ∃ lo Rs T,c=(none,lo)∧RL a₀ T Rs st'∧Rs.flatten.length=lo∧x ≤ lo∧lo ≤ a₀.size) (Q:=fun c st' => c=(none,a₀.size)∧∃ Rs,RL a₀ [] Rs st') ?step ?fin ⟨0,[],_,rfl,R0,rfl,Nat.le_refl _,Nat.zero_le _⟩) ?post)
 case fin =>
  rintro c st' ⟨lo,Rs,T,rfl,hR,el,hx,hl⟩
  have:lo=a₀.size:=by omega
  subst this
  exact ⟨rfl,Rs,tnil hR el⟩
 case step =>
  rintro x c st1 _ hx ⟨lo,Rs,T,rfl,hR,el,hxl,hl⟩
  dsimp only
  by_cases c1:lo ≥ a₀.size
  ·rw [if_pos c1]
   have:lo=a₀.size:=by omega
   subst this
   exact wpS_pure ⟨rfl,Rs,tnil hR el⟩
  rw [if_neg c1]
  have szz:(arrOf st1).size=a₀.size:=by rw [← Array.length_toList,hR.perm.length_eq,Array.length_toList]
  have i1:IkA (arrOf st1):=fun p hp => h0 p (hR.perm.mem_iff.mp hp)
  refine wpS_bind (wpS_count (a₀:=arrOf st1) (P:=pendingOf st1) i1 (by omega) (by omega) ⟨hR.kind,hR.failed,rfl,Array.Perm.refl _,fun _ _ => rfl⟩ fun m st2 hB2 m1 m2 hs2 => ?_)
  dsimp only
  by_cases c2:m < minRun' a₀.size a₀.size 0
  ·rw [if_pos c2]
   refine wpS_bind (wpS_lift (wpAny_rule ⟨rfl,?_⟩))
   refine wpS_bind (wpS_bins i1 (by omega) (by omega) hB2 hs2 fun st3 hB3 hs3 => ?_)
   rw [if_neg (by decide)]
   refine wpS_cg ?_ (wpS_mono (tl hR el hxl (by omega) hB3 (by omega) (by omega) hs3) fun r st4 hr => (by cases r with | done c => exact hr | yield c => exact hr))
   ·unfold tailS
    refine congrArg _ (funext fun g => ?_)
    cases (pendingOf g).back? with
    | none => rfl
    | some y =>
     obtain ⟨s1,n1,pw⟩:=y
     dsimp only
     refine congrArg _ (funext fun c => ?_)
     obtain ⟨r,c⟩:=c
     cases r with
     | some r => rfl
     | none => rfl
  ·rw [if_neg c2]
   refine wpS_cg ?_ (wpS_mono (tl hR el hxl (by omega) hB2 m1 (by omega) hs2) fun r st4 hr => (by cases r with | done c => exact hr | yield c => exact hr))
   ·unfold tailS
    refine congrArg _ (funext fun g => ?_)
    cases (pendingOf g).back? with
    | none => rfl
    | some y =>
     obtain ⟨s1,n1,pw⟩:=y
     dsimp only
     refine congrArg _ (funext fun c => ?_)
     obtain ⟨r,c⟩:=c
     cases r with
     | some r => rfl
     | none => rfl
 case post =>
  rintro c st' ⟨rfl,Rs,hR⟩
  dsimp only
  have lR:Rs.length ≤ a₀.size:=by
   have:=many Rs hR.srt
   have e:=congrArg List.length hR.flat
   rw [hR.perm.length_eq,List.append_nil,Array.length_toList] at e
   omega
  refine wpS_bind (wpS_mono (wpS_forRange (I:=fun x c st' => c=(none,())∧∃ Rs,RL a₀ [] Rs st'∧(Rs.length ≤ 1 ∨ Rs.length + x ≤ a₀.size)) (Q:=fun c st' => c=(none,())∧∃ Rs,RL a₀ [] Rs st'∧Rs.length ≤ 1) ?_ ?_ ⟨rfl,Rs,hR,.inr (by omega)⟩) ?_)
  ·rintro x c st1 _ hx ⟨rfl,Rs,hR,hc⟩
   refine wpS_bind (wpS_get ?_)
   have hl:=hR.len
   by_cases c1:(pendingOf st1).size ≤ 1
   ·rw [if_pos c1]
    exact wpS_pure ⟨rfl,Rs,hR,by omega⟩
   ·rw [if_neg c1]
    refine wpS_bind (wpS_mstep hI hR (Nat.lt_of_le_of_lt (Nat.succ_le_succ (if_le _ _)) (by omega)) fun Rs2 st2 hR2 e2 => ?_)
    exact wpS_pure ⟨rfl,Rs2,hR2,by omega⟩
  ·rintro c st1 ⟨rfl,Rs,hR,hc⟩
   exact ⟨rfl,Rs,hR,by omega⟩
  ·rintro c st1 ⟨rfl,Rs,hR,hc⟩
   refine wpS_pure (h st1 hR.perm hR.failed ?_)
   rw [hR.flat,List.append_nil]
   rcases Rs with _ | ⟨R,_ | ⟨R2,Rs⟩⟩
   ·exact List.Pairwise.nil
   ·rw [List.flatten_cons,List.flatten_nil,List.append_nil]
    exact (hR.srt R List.mem_cons_self).1
   ·simp at hc
end
end TimG
set_option maxHeartbeats 1000000
namespace L2
open PySem PySem.Spec PyProof.Rows
def lexB:List Int→List Int→Bool
 | [],[] => false
 | [],_ :: _ => true
 | _ :: _,[] => false
 | a :: x,b :: y => if a=b then lexB x y else decide (a < b)
theorem lexB_irr:∀ x:List Int,lexB x x=false
 | [] => rfl
 | a :: x => by unfold lexB; rw [if_pos rfl]; exact lexB_irr x
theorem lexB_trans:∀ {x y z:List Int},lexB x y=true→lexB y z=true→lexB x z=true
 | [],[],_,h,_ => by cases h
 | [],_ :: _,[],_,h => by cases h
 | [],_ :: _,_ :: _,_,_ => rfl
 | _ :: _,[],_,h,_ => by cases h
 | _ :: _,_ :: _,[],_,h => by cases h
 | a :: x,b :: y,c :: z,h1,h2 => by
  unfold lexB at h1 h2 ⊢
  by_cases e1:a=b
  ·subst e1
   rw [if_pos rfl] at h1
   by_cases e2:a=c
   ·rw [if_pos e2] at h2 ⊢; exact lexB_trans h1 h2
   ·rw [if_neg e2] at h2 ⊢; exact h2
  ·rw [if_neg e1] at h1
   have l1:=of_decide_eq_true h1
   by_cases e2:b=c
   ·subst e2; rw [if_neg e1]; exact h1
   ·rw [if_neg e2] at h2
    have l2:=of_decide_eq_true h2
    rw [if_neg (by omega)]
    exact decide_eq_true (by omega)
theorem lexB_tot:∀ {x y:List Int},lexB x y=false→lexB y x=false→x=y
 | [],[],_,_ => rfl
 | [],_ :: _,h,_ => by cases h
 | _ :: _,[],_,h => by cases h
 | a :: x,b :: y,h1,h2 => by
  unfold lexB at h1 h2
  by_cases e:a=b
  ·subst e
   rw [if_pos rfl] at h1 h2
   rw [lexB_tot h1 h2]
  ·rw [if_neg e] at h1
   rw [if_neg (Ne.symm e)] at h2
   have l1:=of_decide_eq_false h1
   have l2:=of_decide_eq_false h2
   omega
theorem filter_fewer {α:Type} {p q:α→Bool} : ∀ {l:List α},(∀ z ∈ l,p z=true→q z=true)→(l.filter p).length ≤ (l.filter q).length
 | [],_ => Nat.le_refl _
 | a :: l,h => by
  have ih:=filter_fewer (l:=l) fun z hz => h z (List.mem_cons_of_mem _ hz)
  have ha:=h a List.mem_cons_self
  cases hp:p a with
  | true => rw [List.filter_cons_of_pos hp,List.filter_cons_of_pos (ha hp)]; simp only [List.length_cons]; omega
  | false =>
   rw [List.filter_cons_of_neg (by simp [hp])]
   cases hq:q a with
   | true => rw [List.filter_cons_of_pos hq]; simp only [List.length_cons]; omega
   | false => rw [List.filter_cons_of_neg (by simp [hq])]; exact ih
theorem filter_less {α:Type} {p q:α→Bool} : ∀ {l:List α} {x:α},(∀ z ∈ l,p z=true→q z=true)→x ∈ l→q x=true→p x=false→(l.filter p).length < (l.filter q).length
 | [],x,_,hx,_,_ => by cases hx
 | a :: l,x,h,hx,q1,p1 => by
  have hl:∀ z ∈ l,p z=true→q z=true:=fun z hz => h z (List.mem_cons_of_mem _ hz)
  rcases List.mem_cons.mp hx with rfl | hx
  ·rw [List.filter_cons_of_neg (by simp [p1]),List.filter_cons_of_pos q1]
   have:=filter_fewer hl
   simp only [List.length_cons]; omega
  ·have ih:=filter_less hl hx q1 p1
   have ha:=h a List.mem_cons_self
   cases hp:p a with
   | true => rw [List.filter_cons_of_pos hp,List.filter_cons_of_pos (ha hp)]; simp only [List.length_cons]; omega
   | false =>
    rw [List.filter_cons_of_neg (by simp [hp])]
    cases hq:q a with
    | true => rw [List.filter_cons_of_pos hq]; simp only [List.length_cons]; omega
    | false => rw [List.filter_cons_of_neg (by simp [hq])]; exact ih
def rnk (ks:List (List Int)) (u:List Int):Int:=((ks.filter fun z => lexB z u).length:Nat)
theorem rnk_lt {ks:List (List Int)} {x y:List Int} (hx:x ∈ ks) (h:lexB x y=true):rnk ks x < rnk ks y:=by
 have:=filter_less (p:=fun z => lexB z x) (q:=fun z => lexB z y) (fun z _ hz => lexB_trans hz h) hx h (lexB_irr x)
 unfold rnk
 omega
theorem rnk_ok {ks:List (List Int)} {x y:List Int} (hx:x ∈ ks) (hy:y ∈ ks):decide (rnk ks x < rnk ks y)=lexB x y:=by
 cases h:lexB x y with
 | true => exact decide_eq_true (rnk_lt hx h)
 | false =>
  refine decide_eq_false fun z => ?_
  cases g:lexB y x with
  | true => have:=rnk_lt hy g; omega
  | false => rw [lexB_tot h g] at z; omega
def vInt:Value→Int
 | .int n _ => n
 | _ => 0
theorem ints_map:∀ {vs:List Value} {u:List Int},IntsAre vs u→vs.map vInt=u
 | _,_,.nil => rfl
 | _,_,.cons n t h => by rw [List.map_cons,ints_map h]; rfl
def kfI (h:Heap) (v:Value):List Int:=match v with
 | .ref a => match h.get? a with
  | some o => match o.data with
   | .seq its _ => its.toList.map vInt
   | _ => []
  | none => []
 | _ => []
def TupI (h:Heap) (v:Value) (u:List Int):Prop:=∃ a o its n,v = .ref a∧h.get? a=some o∧o.cls = .type "tuple" ∧ o.data = .seq its n∧IntsAre its.toList u
theorem TupI.kf {h:Heap} {v:Value} {u:List Int} (t:TupI h v u):kfI h v=u:=by
 obtain ⟨a,o,its,n,rfl,e,c,d,i⟩:=t
 unfold kfI
 dsimp only
 rw [e]
 dsimp only
 rw [d]
 exact ints_map i
theorem TupI.keep' {h h' : Heap} {v:Value} {u:List Int} (t:TupI h v u) (k:∀ (b:Addr) (o:Obj),o.cls = .type "tuple" → h.get? b=some o→h'.get? b=some o):TupI h' v u:=by
 obtain ⟨a,o,its,n,rfl,e,c,r⟩:=t
 exact ⟨a,o,its,n,rfl,k a o c e,c,r⟩
end L2
namespace L2
open PySem PySem.Spec PyProof.Rows
section
variable {prog:Program} {w:World} {A:Around} {E:Value→Shared→Prop} {s:Shared} {k0:SortKind} {a0:Array Keyed} {rk:Value→Int}
theorem runsG_ok (hL:LtOk prog w A s k0 a0 rk) {st:SortSt} (b:SB k0 a0 st) (ha:arrOf st=a0) {Q:Unit→SortSt→Prop}
  (h:∀ t,(arrOf t).Perm a0→failedOf t=none→(∀ i j,i ≤ j→j < a0.size→RK rk (arrOf t) i ≤ RK rk (arrOf t) j)→Q () t):wpS (model prog w) A E s sortRuns' Q st:=by
 letI:TimG.KO:=⟨rk,fun p => p ∈ a0.toList,k0⟩
 haveI:TimG.KL prog w A s:=⟨fun {E x y st Q} hk hx hy q => by
  rw [lt'_eq]
  refine wpS_bind (wpS_get (wpS_bind (wpS_lift (wpAny_attempt ?_))))
  rw [show kindOf st=k0 from hk]
  exact hL _ x y _ hx hy ⟨rfl,wpS_pure q⟩⟩
 refine TimG.wpS_sortAll (a₀:=a0) (fun p hp => hp) b.kd b.fl b.pn ha fun t pm ft sr => h t (Array.perm_iff_toList_perm.mpr pm) ft fun i j hij hj => ?_
 have sz:(arrOf t).size=a0.size:=(Array.perm_iff_toList_perm.mpr pm).size_eq
 have e1:(arrOf t)[i]? = some (arrOf t)[i]:=Array.getElem?_eq_getElem (by omega)
 have e2:(arrOf t)[j]? = some (arrOf t)[j]:=Array.getElem?_eq_getElem (by omega)
 have:=TimG.srt_idx sr hij e1 e2
 unfold RK
 rw [e1,e2]
 exact this
end
end L2
namespace L2
open PySem PySem.Spec PyProof.Rows
section
variable {prog:Program} {w:World} {A:Around} {E:Value→Shared→Prop} {s:Shared}
theorem sort_genW {a:Addr} {vs:List Value} {n:Nat} {k0:SortKind} {rk:Value→Int} {P:Fin→Shared→Prop} (hb:s.heap.get? a=some (seqObj "list" vs.toArray n)) (h64:vs.length ≤ 3000)
  (hk:2 ≤ vs.length→∀ h' : Heap,(∀ b o,b ≠ a→s.heap.get? b=some o→h'.get? b=some o)→∀ (E:Value→Shared→Prop) (Q:SortKind→Shared→Prop),Q k0 { s with heap:=h' }→wpAny (model prog w) A (keyKind' vs.toArray) Q E { s with heap:=h' })
  (hL:∀ h' : Heap,(∀ b o,b ≠ a→s.heap.get? b=some o→h'.get? b=some o)→LtOk prog w A { s with heap:=h' } k0 (pairsOf vs) rk)
  (h:∀ xs:Array Keyed,xs.Perm (pairsOf vs)→(∀ i j,i ≤ j→j < (pairsOf vs).size→RK rk xs i ≤ RK rk xs j)→P (.done (.ret .none)) { s with heap:=sortedHeap s.heap a vs (xs.map (·.2)) }) :
  wpAny (model prog w) A (Builtin.«list.sort» ⟨[.ref a],[]⟩) P E s:=by
 have la:a < s.heap.objs.size:=Heap.lt_size hb
 have sv:vs.toArray.size=vs.length:=List.size_toArray ..
 rw [list_sort_plain]
 refine wpAny_bind (listItems_at hb rfl (wpAny_bind (listUpdate_at hb rfl ?_)))
 have g1:=get?_update_seq hb (fun _ => (#[]:Array Value))
 have k1:∀ b o,b ≠ a→s.heap.get? b=some o→(s.heap.update a (Obj.mapSeq fun _ => #[])).get? b=some o:=fun b o nb z => by
  rw [Heap.get?_update_ne _ _ _ _ nb]; exact z
 refine wpAny_bind (seqEpoch_at g1 rfl (wpAny_bind (wpAny_newTuple (wpAny_bind (wpAny_newList (wpAny_holding ?_))))))
 show wpAny (model prog w) A _ P E { s with heap:=((s.heap.update a (Obj.mapSeq fun _ => #[])).push (seqObj "tuple" vs.toArray 0)).push (seqObj "list" #[] 0) }
 have g6:=Heap.get?_push_of_some (seqObj "list" #[] 0) (Heap.get?_push_of_some (seqObj "tuple" vs.toArray 0) g1)
 have k6:∀ b o,b ≠ a→s.heap.get? b=some o→(((s.heap.update a (Obj.mapSeq fun _ => #[])).push (seqObj "tuple" vs.toArray 0)).push (seqObj "list" #[] 0)).get? b=some o:=fun b o nb z => Heap.get?_push_of_some _ (Heap.get?_push_of_some _ (k1 b o nb z))
 have done:∀ (xs:Array Keyed) (t:SortSt),arrOf t=xs→failedOf t=none→xs.Perm (pairsOf vs)→(∀ i j,i ≤ j→j < (pairsOf vs).size→RK rk xs i ≤ RK rk xs j) →
   wpAny (model prog w) A (do
    let touched:=(← seqEpoch a) != (if (#[]:Array Value).size == vs.toArray.size then n else n + 1)
    Builtin.List.listUpdate (.ref a) fun _ => (arrOf t).map (·.2)
    if let some e:=failedOf t then rule "list.sort.comparison-raised"; throw e
    if touched then rule "list.sort.modified"; raiseError "ValueError" "list modified during sort"
    ret .none) P E { s with heap:=((s.heap.update a (Obj.mapSeq fun _ => #[])).push (seqObj "tuple" vs.toArray 0)).push (seqObj "list" #[] 0) }:=by
  rintro xs t rfl ft pm up
  refine wpAny_bind (seqEpoch_at g6 rfl (wpAny_bind (listUpdate_at g6 rfl ?_ (hsz2:=?_))))
  ·rw [ft]
   dsimp only
   rw [if_neg (by simp)]
   exact wpAny_pure (h _ pm up)
  ·show ((arrOf t).map (·.2)).size ≤ sizeLine + 1
   rw [Array.size_map,pm.size_eq,pairsOf_size]
   exact Nat.le_trans (show vs.length ≤ 3000 by omega) (by decide)
 by_cases h2:vs.toArray.size < 2
 ·rw [if_pos h2,if_pos h2]
  refine wpAny_bind (wpAny_pure ?_)
  dsimp only
  rw [StateT.run_pure]
  refine wpAny_bind (wpAny_pure (done _ (SortSt.mk' general' (vs.toArray.zip vs.toArray) #[] 7 none) rfl rfl (Array.Perm.refl _) fun i j ij jl => ?_))
  rw [pairsOf_size] at jl
  rw [show i=j by omega]
  exact Int.le_refl _
 ·rw [if_neg h2,if_neg h2]
  refine wpAny_bind (hk (by omega) _ k6 _ _ ?_)
  refine wpAny_bind (wpAny_mono (runsG_ok (hL _ k6) (st:=SortSt.mk' k0 (vs.toArray.zip vs.toArray) #[] 7 none) (a0:=pairsOf vs) ⟨Array.Perm.refl _,rfl,rfl,rfl⟩ rfl (Q:=fun _ t => (arrOf t).Perm (pairsOf vs)∧failedOf t=none∧∀ i j,i ≤ j→j < (pairsOf vs).size→RK rk (arrOf t) i ≤ RK rk (arrOf t) j) fun t p1 p2 p3 => ⟨p1,p2,p3⟩) ?_ fun _ _ z => z)
  rintro ⟨⟨⟩,t⟩ s' ⟨rfl,p1,p2,p3⟩
  exact done _ t rfl p2 p1 p3
end
end L2
set_option maxHeartbeats 4000000
namespace L2
open PySem PySem.Spec PyProof.Rows
section
variable {prog:Program} {w:World} {A:Around} {E:Value→Shared→Prop} {s:Shared}
theorem ints_mem:∀ {vs:List Value} {ns:List Int},IntsAre vs ns→∀ v ∈ vs,∃ n t,v = .int n t
 | _,_,.nil,v,h => by cases h
 | _,_,.cons n t r,v,h => by
  rcases List.mem_cons.mp h with e | e
  ·exact ⟨n,t,e⟩
  ·exact ints_mem r v e
theorem sort_anyG {a:Addr} {vs:List Value} {ns:List Int} {n:Nat} {P:Fin→Shared→Prop} (ho:s.heap.get? a=some (seqObj "list" vs.toArray n)) (hI:IntsAre vs ns) (hz:vs.length ≤ 3000)
  (h:∀ (out:Array Value) (ns' : List Int),IntsAre out.toList ns'→ns'.Perm ns→ns'.Pairwise (· ≤ ·)→P (.done (.ret .none)) { s with heap:=sortedHeap s.heap a vs out }) :
  wpAny (model prog w) A (Builtin.«list.sort» ⟨[.ref a],[]⟩) P E s:=by
 have mz:∀ p,p ∈ (pairsOf vs).toList→∃ m t,p.1 = .int m t:=fun p q => by
  rw [pairsOf_toList] at q
  exact ints_mem hI _ (mem_zip_self q).2
 refine sort_genW (k0:=oneType') (rk:=numOf) ho hz (fun h2 h' k E' Q' q => ?_) (fun h' k E' x y Q' hx hy q => ?_) fun xs pm up => ?_
 ·obtain ⟨v₁,v₂,rest,rfl⟩:∃ v₁ v₂ rest,vs=v₁ :: v₂ :: rest:=by
   match vs,h2 with
   | [],h2 => simp at h2
   | [_],h2 => simp at h2
   | v₁ :: v₂ :: rest,_ => exact ⟨v₁,v₂,rest,rfl⟩
  rw [keyKind_ints hI]
  exact wpAny_pure q
 ·obtain ⟨m,t,ex⟩:=mz x hx
  obtain ⟨m',t',ey⟩:=mz y hy
  rw [keyLt'_oneType,ex,ey]
  rw [ex,ey] at q
  exact oneLt_int q
 ·obtain ⟨ns',q1,q2,q3⟩:=sorted_out hI pm (fun i j hij hj => up i j (by omega) hj)
  exact h _ ns' q1 q2 q3
end
end L2
set_option maxHeartbeats 1000000
namespace L2
open PySem PySem.Spec PyProof.Rows
section
variable {prog:Program} {w:World} {A:Around} {E:Value→Shared→Prop} {s:Shared} {T:String} {r d:Addr} {n:Nat} {Pr:Nat→Value→Prop} {OK:Heap→Prop}
theorem sorted_srcW {ks:List Int} {Q:Value→Shared→Prop} (S:PySem.W.KdlSrc prog w T r d n Pr OK) (hh:A.handled=none) (hok:OK s.heap) (hks:ks.length=n) (hP:∀ i v,Pr i v→∃ t,v = .int (ks.getD i 0) t) (h64:n ≤ 1000)
  (h:∀ (out:Array Value) (ms:List Int) (h1 h' : Heap) (tk:Nat) (e:Nat),(∀ b ob,s.heap.get? b=some ob→h1.get? b=some ob)→(∀ b ob,h1.get? b=some ob→h'.get? b=some ob)→IntsAre out.toList ms→ms.Perm ks→ms.Pairwise (· ≤ ·)→h'.get? h1.objs.size=some (seqObj "list" out e)→Q (.ref h1.objs.size) { s with heap:=h',toks:=tk }) :
  wpAny (model prog w) A (call (.builtin "sorted") [.ref r]) Q E s:=by
 refine Calls.call_function_entry kind_sorted plain_sorted entry_sorted (args_sorted1 _) ?_
 unfold Builtin.«sorted»
 refine wpAny_bind (m:=checkCount "sorted" 1 1 _) (wpAny_pure (wpAny_bind (collect_src S (by simp [hh]) hok (Nat.le_of_lt (small1000 (by omega))) fun h1 tk acc kp hacc => ?_)))
 have hI:IntsAre acc.toList ks:=intsAre_at (by rw [Array.length_toList,hacc.1,hks]) fun i v hv => hP i v (hacc.2 i v (by rw [← Array.getElem?_toList]; exact hv))
 have hl:acc.toList.length ≤ 3000:=by rw [Array.length_toList,hacc.1]; omega
 generalize acc.toList=vs at hI hl
 refine wpAny_bind (wpAny_newList ?_)
 have hoL:(h1.push { cls:=.type "list",data:=.seq vs.toArray }).get? h1.objs.size=some (seqObj "list" vs.toArray 0):=Heap.get?_push_size _ rfl
 refine wpAny_bind (wpAny_holding (wpAny_call_entry slot_list_sort ⟨_,hoL,rfl⟩ entry_list_sort (sort_anyG (s:={ s with heap:=h1.push { cls:=.type "list",data:=.seq vs.toArray },toks:=tk }) hoL hI hl fun out ms' a1 a2 a3 => ⟨_,rfl,?_⟩) (args_list_sort _)))
 obtain ⟨e,he⟩:=sortedHeap_at (out:=out) hoL
 refine wpAny_pure ⟨_,rfl,h out ms' h1 _ tk e kp (fun b ob z => ?_) a1 a2 a3 he⟩
 have hlt:b < h1.objs.size:=Heap.lt_size z
 rw [sortedHeap_old (Nat.ne_of_lt hlt) (by rw [Heap.size_push]; exact Nat.lt_succ_of_lt hlt)]
 exact Heap.get?_push_of_some _ z
end
section
variable {X:Cx}
theorem call_sortedKW (hc:X.calm=true):CallR X (.builtin "sorted") (fun xs H Q => ∃ (v d:Addr) (kvs:List (Key × V)) (ks:List Int),xs=[.ref v]∧H v=some (.ext (KView v d))∧H d=some (.dK kvs)∧kvs.map (·.1)=ks.map Sum.inl∧ks.length ≤ 1000 ∧
  ∀ (l:Addr) (ms:List Int),H l=none→ms.Perm ks→ms.Pairwise (· ≤ ·)→Q (.ref l) (upd H l (.lst (ms.map V.int)))):=by
 intro pins s σ H xs us Q I r h
 obtain ⟨v,d,kvs,ks,rfl,hv,hd,hk,h64,q⟩:=h
 obtain ⟨u,rfl,rx⟩:=vals1 r
 cases rx
 obtain ⟨_,hsys,vs,rel,o,es,ep,ho,hx,hdat,hko,hpo,hno⟩:=dk_of I.hok hd
 obtain ⟨kv,_,_⟩:=(show ObjOk X.prog X.w H s.heap v (.ext (KView v d)) from I.hok v _ hv)
 have hkeys:=rel.keys
 have hlen:=rel.length
 have hkl:kvs.length=ks.length:=by have:=congrArg List.length hk; rw [List.length_map,List.length_map] at this; exact this
 refine sorted_srcW (ks:=ks) (PySem.W.kdl_keys (knd:=mixKind X.prog X.w) (kvs:=vs) (ep:=ep)) (I.ok.hd hc) ⟨kv,o,es,ho,hx,hdat,hko,hpo,hno⟩ (by omega) (fun i u ⟨k,x,e1,e2⟩ => ?_) (by omega) fun out ms h1 h' tk e kp kp2 hI hp hs he => ?_
 ·have e3:(vs.map (·.1))[i]? = some k:=by rw [List.getElem?_map,e1]; rfl
  rw [← hkeys,hk,List.getElem?_map] at e3
  cases z:ks[i]? with
  | none => rw [z] at e3; cases e3
  | some m =>
   rw [z] at e3
   cases e3
   have:ks.getD i 0=m:=by rw [List.getD_eq_getElem?_getD,z]; rfl
   rw [this]
   have e2:Value.isInt m u=true:=e2
   cases u <;> simp [Value.isInt] at e2
   subst e2
   exact ⟨_,rfl⟩
 ·have I1:Inv X pins σ H { s with heap:=h1,toks:=tk }:=I.kept kp
  have hml:ms.length ≤ 1000:=by rw [hp.length_eq]; omega
  refine ⟨.ref h1.objs.size,_,I1.laid (t':=tk) (o:=.lst (ms.map V.int)) kp2 (Nat.le_refl _) ⟨?_,out.toList,e,vals_ints hI,?_⟩,rfl,q _ ms (I1.hok.fresh (Nat.le_refl _)) hp hs⟩
  ·rw [List.length_map]
   exact Nat.le_of_lt (small1000 (by omega))
  ·rw [he]
end
end L2
namespace L2
open PySem PySem.Spec PyProof.Rows
abbrev Pb:=SetTable.Probe
def lp (m:Nat) (p:Pb):Pb:={ p with j:=(p.i * 5 + 1 + p.perturb / 32) % (m + 1),more:=SetTable.runEnd m ((p.i * 5 + 1 + p.perturb / 32) % (m + 1)) - (p.i * 5 + 1 + p.perturb / 32) % (m + 1),i:=(p.i * 5 + 1 + p.perturb / 32) % (m + 1),perturb:=p.perturb / 32 }
end L2
namespace L2
open PySem PySem.Spec PyProof.Rows
def hsh (prog:Program) (w:World) (u:List Int):Int:=tupleKeyHash (intKind prog w) u
end L2
set_option maxHeartbeats 4000000
namespace L2
open PySem PySem.Spec PyProof.Rows
theorem tup_keep {h h' : Heap} {a:Addr} {o:Obj} (ho:h.get? a=some o) (hc:o.cls = .type "list") (k:∀ b ob,b ≠ a→h.get? b=some ob→h'.get? b=some ob) (b:Addr) (ob:Obj) (c:ob.cls = .type "tuple") (e:h.get? b=some ob):h'.get? b=some ob:=by
 refine k b ob (fun z => ?_) e
 rw [z,ho] at e
 cases e
 rw [hc] at c
 exact absurd c (by decide)
end L2
set_option maxHeartbeats 1000000
namespace L2
open PySem PySem.Spec PyProof.Rows
def RawD (h:Heap) (d:Addr) (es:Array DictEntry) (ep:Nat):Prop:=∃ o,h.get? d=some o∧o.ExactDict∧o.data = .dict es ep
theorem RawD.keep {h h' : Heap} {d:Addr} {es:Array DictEntry} {ep:Nat} (r:RawD h d es ep) (k:∀ o,h.get? d=some o→h'.get? d=some o):RawD h' d es ep :=
 let ⟨o,e,x⟩:=r; ⟨o,k o e,x⟩
def ItF (h:Heap) (it d:Addr) (f0 f1:Value) (i n ep:Nat) (ok ov:Value):Prop :=
 h.get? it=some { cls:=.type "dict_itemiterator",data:=.fields #[f0,f1,.ref d,.int i 0,.int n 0,.int ep 0,ok,ov] }
section
variable {prog:Program} {w:World} {A:Around} {E:Value→Shared→Prop} {s:Shared} {it d:Addr} {f0 f1 ok ov:Value} {i ep:Nat} {es:Array DictEntry}
theorem itf_type (g:ItF s.heap it d f0 f1 i es.size ep ok ov):s.TypeIs (.ref it) "dict_itemiterator" := ⟨_,g,rfl⟩
theorem owns_it:Builtin.Dict_items.ownsTuple "dict_itemiterator" = true:=by decide
theorem nx_pre {Q:Option Value→Shared→Prop} (g:ItF s.heap it d f0 f1 i es.size ep ok ov) (hd:RawD s.heap d es ep) (hi:i < es.size)
  (k:∀ (A' : Around) (E' : Value→Shared→Prop) (h1:Heap),ItF h1 it d f0 f1 (i + 1) es.size ep ok ov→Heap.SameBut it s.heap h1→wpAny (model prog w) A' (Builtin.Dict_items.pairFromOwner (.ref it) 6 es[i].key es[i].val) (fun v s' => Q (some v) s') E' { s with heap:=h1 }) :
  wpAny (model prog w) A (pyNext (.ref it)) Q E s:=by
 obtain ⟨o,e1,e2,e3⟩:=hd
 have ty:=itf_type g
 unfold pyNext
 refine wpAny_bind (wpAny_attempt (wpAny_callSpecial?_slot ty PySem.F.slot_dict_itemiterator_next (wpAny_call_entry PySem.F.slot_dict_itemiterator_next ty PySem.F.entry_dict_itemiterator_next ?_ (PySem.F.args_dict_itemiterator_next_1 _))))
 refine wpAny_bind (wpAny_pure (wpAny_bind (wpAny_bind (wpAny_bind (wpAny_typeNameOfWhole_itemiter ty (wpAny_pure (wpAny_bind (wpAny_fieldsOf g rfl ?_))))))))
 simp only [owns_it,if_true]
 show wpAny _ _ (if (Value.ref d == Value.none)=true then _ else _) _ _ _
 rw [if_neg (by intro z; cases z)]
 refine wpAny_bind (wpAny_pure (wpAny_bind (wpAny_dictEntries e1 e3 ?_)))
 rw [if_neg (by simp)]
 refine wpAny_bind (wpAny_pure (wpAny_bind (wpAny_dictEpoch e1 e3 ?_)))
 rw [if_neg (by simp)]
 refine wpAny_pure ?_
 have n0 : ¬ ((i:Int) < 0):=by omega
 simp only [n0,if_false,Int.toNat_natCast,Array.getElem?_eq_getElem hi]
 refine wpAny_bind (wpAny_bind (wpAny_typeNameOfWhole_itemiter ty (wpAny_pure (wpAny_bind (wpAny_isOneOf_itemiter ty ?_)))))
 show wpAny _ _ (setField (.ref it) 3 (rawInt ((i:Int) + 1)) >>= _) _ _ _
 refine wpAny_bind (wpAny_setField_rec g (by simp) fun h1 g1 sb => ?_)
 have g2:ItF h1 it d f0 f1 (i + 1) es.size ep ok ov:=g1
 have ty1:Shared.TypeIs { s with heap:=h1 } (.ref it) "dict_itemiterator" := ⟨_,g2,rfl⟩
 refine wpAny_bind (wpAny_holding (wpAny_bind (wpAny_isOneOf_itemiter ty1 (wpAny_bind (wpAny_isOneOf_itemiter ty1 ?_)))))
 show wpAny _ _ (Builtin.Dict_items.pairFromOwner (.ref it) 6 es[i].key es[i].val) _ _ _
 exact wpAny_mono (k _ _ h1 g2 sb) (fun v s' q => wpAny_pure ⟨v,rfl,wpAny_pure q⟩) fun _ _ z => z
theorem pair_first {key val:Value} {Q:Value→Shared→Prop} (g:ItF s.heap it d .none f1 i es.size ep ok ov)
  (k:∀ h',ItF h' it d (rawInt s.heap.objs.size) (.bool false) i es.size ep key val→h'.get? s.heap.objs.size=some { cls:=.type "tuple",data:=.seq #[key,val] }→h'.objs.size=s.heap.objs.size + 1→(∀ b o,b ≠ it→s.heap.get? b=some o→h'.get? b=some o)→Q (.ref s.heap.objs.size) { s with heap:=h' }) :
  wpAny (model prog w) A (Builtin.Dict_items.pairFromOwner (.ref it) 6 key val) Q E s:=by
 have hil:it < s.heap.objs.size:=Heap.lt_size g
 unfold Builtin.Dict_items.pairFromOwner
 refine wpAny_bind (wpAny_newTuple ?_)
 have g1:ItF (s.heap.push { cls:=.type "tuple",data:=.seq #[key,val] }) it d .none f1 i es.size ep ok ov:=Heap.get?_push_of_some _ g
 have t1:(s.heap.push { cls:=.type "tuple",data:=.seq #[key,val] }).get? s.heap.objs.size=some { cls:=.type "tuple",data:=.seq #[key,val] }:=Heap.get?_push_size _ rfl
 have z1:(s.heap.push { cls:=.type "tuple",data:=.seq #[key,val] }).objs.size=s.heap.objs.size + 1:=Heap.size_push ..
 have k1:∀ b o,b ≠ it→s.heap.get? b=some o→(s.heap.push { cls:=.type "tuple",data:=.seq #[key,val] }).get? b=some o:=fun b o _ e => Heap.get?_push_of_some _ e
 show wpAny _ _ (Builtin.Dict_items.ownedTupleIsFree (.ref it) >>= _) _ _ { s with heap:=s.heap.push { cls:=.type "tuple",data:=.seq #[key,val] } }
 generalize s.heap.push { cls:=.type "tuple",data:=.seq #[key,val] } = h1 at g1 t1 z1 k1
 unfold Builtin.Dict_items.ownedTupleIsFree
 refine wpAny_bind (wpAny_bind (wpAny_field g1 rfl (x:=.none) rfl (wpAny_pure ?_)))
 simp only [if_true]
 refine wpAny_bind (wpAny_field g1 rfl (x:=ok) rfl (wpAny_bind (wpAny_field g1 rfl (x:=ov) rfl ?_)))
 refine wpAny_bind (wpAny_setField_rec g1 (by simp) fun h2 g2 b2 => ?_)
 refine wpAny_bind (wpAny_setField_rec g2 (by simp) fun h3 g3 b3 => ?_)
 refine wpAny_bind (wpAny_setField_rec g3 (by simp) fun h4 g4 b4 => ?_)
 refine wpAny_bind (wpAny_setField_rec g4 (by simp) fun h5 g5 b5 => ?_)
 have all:∀ b o,b ≠ it→h1.get? b=some o→h5.get? b=some o:=fun b o n e => Heap.SameBut.extBut b5 b o n (Heap.SameBut.extBut b4 b o n (Heap.SameBut.extBut b3 b o n (Heap.SameBut.extBut b2 b o n e)))
 have sz:h5.objs.size=s.heap.objs.size + 1:=by
  have q2:h2.objs.size=h1.objs.size:=b2.1
  have q3:h3.objs.size=h2.objs.size:=b3.1
  have q4:h4.objs.size=h3.objs.size:=b4.1
  have q5:h5.objs.size=h4.objs.size:=b5.1
  omega
 exact wpAny_bind (wpAny_letGo (wpAny_pure (k h5 g5 (all _ _ (Nat.ne_of_gt hil) t1) sz fun b o n e => all b o n (k1 b o n e))))
theorem pair_more {key val:Value} {a:Addr} {oa:Obj} {f:Bool} {Q:Value→Shared→Prop} (g:ItF s.heap it d (rawInt a) (.bool f) i es.size ep ok ov) (ha:s.heap.get? a=some oa)
  (k:∀ h',ItF h' it d (rawInt a) (.bool true) i es.size ep ok ov→h'.get? s.heap.objs.size=some { cls:=.type "tuple",data:=.seq #[key,val] }→h'.objs.size=s.heap.objs.size + 1→(∀ b o,b ≠ it→s.heap.get? b=some o→h'.get? b=some o)→Q (.ref s.heap.objs.size) { s with heap:=h' }) :
  wpAny (model prog w) A (Builtin.Dict_items.pairFromOwner (.ref it) 6 key val) Q E s:=by
 have hil:it < s.heap.objs.size:=Heap.lt_size g
 unfold Builtin.Dict_items.pairFromOwner
 refine wpAny_bind (wpAny_newTuple ?_)
 have g1:ItF (s.heap.push { cls:=.type "tuple",data:=.seq #[key,val] }) it d (rawInt a) (.bool f) i es.size ep ok ov:=Heap.get?_push_of_some _ g
 have t1:(s.heap.push { cls:=.type "tuple",data:=.seq #[key,val] }).get? s.heap.objs.size=some { cls:=.type "tuple",data:=.seq #[key,val] }:=Heap.get?_push_size _ rfl
 have a1:=Heap.get?_push_of_some { cls:=.type "tuple",data:=.seq #[key,val] } ha
 have z1:(s.heap.push { cls:=.type "tuple",data:=.seq #[key,val] }).objs.size=s.heap.objs.size + 1:=Heap.size_push ..
 have k1:∀ b o,b ≠ it→s.heap.get? b=some o→(s.heap.push { cls:=.type "tuple",data:=.seq #[key,val] }).get? b=some o:=fun b o _ e => Heap.get?_push_of_some _ e
 show wpAny _ _ (Builtin.Dict_items.ownedTupleIsFree (.ref it) >>= _) _ _ { s with heap:=s.heap.push { cls:=.type "tuple",data:=.seq #[key,val] } }
 generalize s.heap.push { cls:=.type "tuple",data:=.seq #[key,val] } = h1 at g1 t1 z1 k1 a1
 unfold Builtin.Dict_items.ownedTupleIsFree
 refine wpAny_bind (wpAny_bind (wpAny_field g1 rfl (x:=rawInt a) rfl ?_))
 show wpAny _ _ (loadIfAlive ((a:Int).toNat) >>= _) _ _ _
 rw [Int.toNat_natCast]
 refine wpAny_bind (PySem.W.kdx_alive a1 ?_)
 simp only [Option.isNone_some,Bool.false_eq_true,if_false]
 refine wpAny_bind (wpAny_field g1 rfl (x:=.bool f) rfl ?_)
 cases f with
 | true =>
  rw [if_neg (by decide)]
  refine wpAny_pure ?_
  simp only [Bool.false_eq_true,if_false]
  exact wpAny_pure (k h1 g1 t1 z1 k1)
 | false =>
  rw [if_pos (by decide)]
  refine wpAny_bind (wpAny_setField_rec g1 (by simp) fun h2 g2 b2 => wpAny_pure ?_)
  simp only [Bool.false_eq_true,if_false]
  exact wpAny_pure (k h2 g2 (Heap.SameBut.extBut b2 _ _ (Nat.ne_of_gt hil) t1) (by have q2:h2.objs.size=h1.objs.size:=b2.1; omega) fun b o n e => Heap.SameBut.extBut b2 b o n (k1 b o n e))
theorem nx_end {Q:Option Value→Shared→Prop} (hh:A.handled=none) (g:ItF s.heap it d f0 f1 es.size es.size ep ok ov) (hd:RawD s.heap d es ep)
  (k:∀ h',Heap.ExtBut it s.heap h'→Q none { s with heap:=h' }):wpAny (model prog w) A (pyNext (.ref it)) Q E s:=by
 obtain ⟨o,e1,e2,e3⟩:=hd
 have ty:s.TypeIs (.ref it) "dict_itemiterator" := ⟨_,g,rfl⟩
 unfold pyNext
 refine wpAny_bind (wpAny_attempt (wpAny_callSpecial?_slot ty PySem.F.slot_dict_itemiterator_next (wpAny_call_entry PySem.F.slot_dict_itemiterator_next ty PySem.F.entry_dict_itemiterator_next ?_ (PySem.F.args_dict_itemiterator_next_1 _))))
 refine wpAny_bind (wpAny_pure (wpAny_bind (wpAny_bind (wpAny_bind (wpAny_typeNameOfWhole_itemiter ty (wpAny_pure (wpAny_bind (wpAny_fieldsOf g rfl ?_))))))))
 simp only [owns_it,if_true]
 show wpAny _ _ (if (Value.ref d == Value.none)=true then _ else _) _ _ _
 rw [if_neg (by intro z; cases z)]
 refine wpAny_bind (wpAny_pure (wpAny_bind (wpAny_dictEntries e1 e3 ?_)))
 rw [if_neg (by simp)]
 refine wpAny_bind (wpAny_pure (wpAny_bind (wpAny_dictEpoch e1 e3 ?_)))
 rw [if_neg (by simp)]
 refine wpAny_pure ?_
 have n0 : ¬ ((es.size:Int) < 0):=by omega
 simp only [n0,if_false,Int.toNat_natCast,Array.getElem?_eq_none (Nat.le_refl _)]
 refine wpAny_bind (wpAny_bind (wpAny_typeNameOfWhole_itemiter ty (wpAny_pure ?_)))
 show wpAny _ _ (setField (.ref it) 2 .none >>= _) _ _ s
 refine wpAny_bind (wpAny_setField g rfl (by simp) ?_)
 show wpAny _ _ (newExc (Value.type "StopIteration") [] >>= fun e => raiseNew e) _ _ _
 refine stop_j hh fun e h' kp ⟨ob,ge,gc⟩ => ?_
 refine wpAny_bind (wpAny_isInstance (T := "StopIteration") (b:=true) ⟨ob,ge,gc⟩ isSubtype_stop ?_)
 exact wpAny_pure (k _ fun b o n e => kp b o (Heap.SameBut.extBut (Heap.SameBut.update ..) b o n e))
def ItS (h:Heap) (it d S:Addr) (i n ep:Nat):Prop:=(i=0∧∃ ok ov,ItF h it d .none (.bool false) 0 n ep ok ov) ∨ ∃ (a:Addr) (f:Bool) (ok ov:Value) (oa:Obj),ItF h it d (rawInt a) (.bool f) i n ep ok ov∧h.get? a=some oa∧a ≠ it∧a ≠ S
theorem ItS.keep {h h' : Heap} {S:Addr} {n:Nat} (x:ItS h it d S i n ep) (nS:it ≠ S) (k:∀ b o,b ≠ S→h.get? b=some o→h'.get? b=some o):ItS h' it d S i n ep:=by
 rcases x with ⟨e,ok,ov,g⟩ | ⟨a,f,ok,ov,oa,g,ga,n1,n2⟩
 ·exact .inl ⟨e,ok,ov,k _ _ nS g⟩
 ·exact .inr ⟨a,f,ok,ov,oa,k _ _ nS g,k _ _ n2 ga,n1,n2⟩
theorem its_next {S:Addr} {Q:Option Value→Shared→Prop} (x:ItS s.heap it d S i es.size ep) (hS:S < s.heap.objs.size) (hd:RawD s.heap d es ep) (hi:i < es.size)
  (k:∀ h',ItS h' it d S (i + 1) es.size ep→h'.get? s.heap.objs.size=some { cls:=.type "tuple",data:=.seq #[es[i].key,es[i].val] }→h'.objs.size=s.heap.objs.size + 1→(∀ b o,b ≠ it→s.heap.get? b=some o→h'.get? b=some o)→Q (some (.ref s.heap.objs.size)) { s with heap:=h' }) :
  wpAny (model prog w) A (pyNext (.ref it)) Q E s:=by
 rcases x with ⟨rfl,ok,ov,g⟩ | ⟨a,f,ok,ov,oa,g,ga,n1,n2⟩
 ·refine nx_pre g hd hi fun A' E' h1 g1 sb => ?_
  have z1:h1.objs.size=s.heap.objs.size:=sb.1
  have hil:it < s.heap.objs.size:=Heap.lt_size g
  refine pair_first (s:={ s with heap:=h1 }) g1 fun h' g2 t2 z2 k2 => ?_
  dsimp only at g2 t2 z2 k2 ⊢
  rw [z1] at g2 t2 z2 ⊢
  exact k h' (.inr ⟨_,_,_,_,_,g2,t2,Nat.ne_of_gt hil,Nat.ne_of_gt hS⟩) t2 z2 fun b o n e => k2 b o n (Heap.SameBut.extBut sb b o n e)
 ·refine nx_pre g hd hi fun A' E' h1 g1 sb => ?_
  have z1:h1.objs.size=s.heap.objs.size:=sb.1
  refine pair_more (s:={ s with heap:=h1 }) g1 (Heap.SameBut.extBut sb _ _ n1 ga) fun h' g2 t2 z2 k2 => ?_
  dsimp only at g2 t2 z2 k2 ⊢
  rw [z1] at t2 z2 ⊢
  have k3:∀ b o,b ≠ it→s.heap.get? b=some o→h'.get? b=some o:=fun b o n e => k2 b o n (Heap.SameBut.extBut sb b o n e)
  exact k h' (.inr ⟨a,true,ok,ov,oa,g2,k3 _ _ n1 ga,n1,n2⟩) t2 z2 k3
theorem its_end {S:Addr} {Q:Option Value→Shared→Prop} (hh:A.handled=none) (x:ItS s.heap it d S es.size es.size ep) (hd:RawD s.heap d es ep)
  (k:∀ h',Heap.ExtBut it s.heap h'→Q none { s with heap:=h' }):wpAny (model prog w) A (pyNext (.ref it)) Q E s:=by
 rcases x with ⟨e,ok,ov,g⟩ | ⟨a,f,ok,ov,oa,g,_⟩
 ·have g' : ∀ m,m=0→ItF s.heap it d .none (.bool false) m es.size ep ok ov:=fun m z => by subst z; exact g
  exact nx_end hh (g' _ e) hd k
 ·exact nx_end hh g hd k
def PairsAt (h:Heap) (es:Array DictEntry) (as:List Addr):Prop:=∀ (j:Nat) (a:Addr),as[j]? = some a→∃ e,es[j]? = some e∧h.get? a=some { cls:=.type "tuple",data:=.seq #[e.key,e.val] }
theorem pairs_keep {h h' : Heap} {as:List Addr} (p:PairsAt h es as) (k:∀ a ∈ as,∀ o,h.get? a=some o→h'.get? a=some o):PairsAt h' es as:=fun j a e => by
 obtain ⟨x,e1,e2⟩:=p j a e
 exact ⟨x,e1,k a (List.mem_of_getElem? e) _ e2⟩
theorem loop_its {R:Result→Shared→Prop} {S I:Addr} (hh:A.handled=none) (hSI:S ≠ I) (hSd:S ≠ d) (hId:I ≠ d) (hn:es.size ≤ sizeLine) (res:Value) {h0:Heap}
  (hR:∀ (h' : Heap) (c:Nat) (acc:Array Value) (as:List Addr),(∀ b o,b ≠ S→b ≠ I→h0.get? b=some o→h'.get? b=some o)→h'.get? S=some { cls:=.type "list",data:=.seq acc c }→as.length=es.size→PairsAt h' es as→(∀ a ∈ as,h0.objs.size ≤ a)→acc.toList=as.map Value.ref→R (.ok (.ret res)) { s with heap:=h' }) :
  ∀ (k i:Nat) (h:Heap) (c:Nat) (acc:Array Value) (as:List Addr),es.size - i=k→i ≤ es.size→ItS h I d S i es.size ep→RawD h d es ep→(∀ b o,b ≠ S→b ≠ I→h0.get? b=some o→h.get? b=some o)→h0.objs.size ≤ h.objs.size→h.get? S=some { cls:=.type "list",data:=.seq acc c }→acc.toList=as.map Value.ref→as.length=i→PairsAt h es as→(∀ a ∈ as,h0.objs.size ≤ a∧a ≠ S∧a ≠ I) →
   codeAny (model prog w) A (.builtin "list.extend.loop" ⟨[.ref S,.ref I,res],[]⟩) R { s with heap:=h }:=by
 intro k
 induction k with
 | zero =>
  intro i h c acc as hk hi st rd kp sz gS ha hl pa na
  have ei:i=es.size:=by omega
  subst ei
  refine codeAny_builtin PySem.F.entry_extend_loop ?_
  rw [Around.under_plainId PySem.F.plain_extend_loop _]
  show wpAny _ A.in1 (pyNext (.ref I) >>= _) _ _ _
  refine wpAny_bind (its_end (s:={ s with heap:=h }) hh st rd fun h' x => wpAny_pure (hR h' c acc as (fun b o n1 n2 e => x b o n2 (kp b o n1 n2 e)) (x _ _ hSI gS) hl (pairs_keep pa fun a m o e => x a o (na a m).2.2 e) (fun a m => (na a m).1) ha))
 | succ k ih =>
  intro i h c acc as hk hi st rd kp sz gS ha hl pa na
  have il:i < es.size:=by omega
  refine codeAny_builtin PySem.F.entry_extend_loop ?_
  rw [Around.under_plainId PySem.F.plain_extend_loop _]
  show wpAny _ A.in1 (pyNext (.ref I) >>= _) _ _ _
  refine wpAny_bind (its_next (s:={ s with heap:=h }) st (Heap.lt_size gS) rd il fun h' st' t' z' x => ?_)
  dsimp only at t' z' x ⊢
  have gS':=x _ _ hSI gS
  have asz:acc.size=i:=by rw [← Array.length_toList,ha,List.length_map,hl]
  show wpAny _ A.in1 (updateSeq S (·.push (.ref h.objs.size)) >>= _) _ _ _
  have oth:∀ b o,b ≠ S→h'.get? b=some o→(h'.update S (Obj.mapSeq (·.push (.ref h.objs.size)))).get? b=some o:=fun b o n e => (Heap.get?_update_other _ _ (Ne.symm n)).trans e
  have Il:I < h.objs.size:=by
   rcases st with ⟨_,_,_,g⟩ | ⟨_,_,_,_,_,g,_⟩ <;> exact Heap.lt_size g
  have sn:h.objs.size ≠ S:=Nat.ne_of_gt (Heap.lt_size gS)
  refine wpAny_bind (wpAny_updateSeq gS' rfl (wpAny_pure ⟨plainId_quiet PySem.F.plain_extend_loop _,ih (i + 1) _ _ (acc.push (.ref h.objs.size)) (as ++ [h.objs.size]) (by omega) il (st'.keep (Ne.symm hSI) oth) (rd.keep fun o e => oth d o (Ne.symm hSd) (x d o (Ne.symm hId) e)) (fun b o n1 n2 e => oth b o n1 (x b o n2 (kp b o n1 n2 e))) ?_ (Heap.get?_update_self _ gS' rfl) ?_ ?_ ?_ ?_⟩) (by rw [asz]; omega) (by show (acc.push _).size ≤ sizeLine + 1; rw [Array.size_push,asz]; omega))
  ·rw [Heap.size_update]
   show h0.objs.size ≤ h'.objs.size
   omega
  ·rw [Array.toList_push,ha,List.map_append]; rfl
  ·rw [List.length_append,hl]; rfl
  ·intro j a e
   by_cases jl:j < as.length
   ·rw [List.getElem?_append_left jl] at e
    obtain ⟨y,e1,e2⟩:=pa j a e
    have na':=na a (List.mem_of_getElem? e)
    exact ⟨y,e1,oth a _ na'.2.1 (x a _ na'.2.2 e2)⟩
   ·rw [List.getElem?_append_right (by omega)] at e
    have j0:j=i:=by
     have:=(List.getElem?_eq_some_iff.mp e).1
     simp only [List.length_cons,List.length_nil] at this
     omega
    subst j0
    rw [hl,Nat.sub_self] at e
    cases e
    exact ⟨es[j],Array.getElem?_eq_getElem il,oth _ _ sn t'⟩
  ·intro a m
   rcases List.mem_append.mp m with m | m
   ·exact na a m
   ·rw [List.mem_singleton.mp m]
    exact ⟨sz,sn,Nat.ne_of_gt Il⟩
theorem iter_its {v:Addr} {Q:Value→Shared→Prop} (hv:s.heap.IsItemsView v d) (hd:RawD s.heap d es ep)
  (k:Q (.ref s.heap.objs.size) { s with heap:=s.heap.push { cls:=.type "dict_itemiterator",data:=.fields #[.none,.bool false,.ref d,.int 0 0,.int es.size 0,.int ep 0,.none,.none] } }):wpAny (model prog w) A (pyIter (.ref v)) Q E s:=by
 obtain ⟨o,e1,e2,e3⟩:=hd
 have ty:=hv.typeIs
 obtain ⟨ov,g1,g2,g3⟩:=hv
 refine wpAny_pyIter_slot ty PySem.F.slot_dict_items_iter (wpAny_call_entry PySem.F.slot_dict_items_iter ty PySem.F.entry_dict_items_iter ?_ (PySem.F.args_dict_items_iter_1 _))
 unfold Builtin.«dict_items.__iter__» Builtin.Dict_items.dictOf Builtin.Dict_items.newIterator
 refine wpAny_bind (wpAny_pure (wpAny_bind (wpAny_bind (wpAny_field g1 g3 (x:=.ref d) rfl (wpAny_pure (wpAny_bind (wpAny_bind (wpAny_dictEntries e1 e3 (wpAny_bind (wpAny_dictEpoch e1 e3 ?_))))))))))
 simp only [owns_it,if_true]
 refine wpAny_newObj_type (wpAny_pure ⟨_,rfl, "dict_itemiterator",_,⟨_,Heap.get?_push_size _ rfl,rfl⟩,PySem.F.slot_dict_itemiterator_next.lookup,?_⟩) ?_
 ·simpa [rawInt,Builtin.Dict_items.ownedTupleFields] using k
 ·simp only [sizeOk,Builtin.Dict_items.ownedTupleFields,List.size_toArray,List.length_append,List.length_cons,List.length_nil]
  decide
theorem collect_its {v:Addr} {Q:List Value→Shared→Prop} (hh:A.handled=none) (hv:s.heap.IsItemsView v d) (hd:RawD s.heap d es ep) (hn:es.size ≤ sizeLine)
  (k:∀ (h' : Heap) (as:List Addr),(∀ b o,s.heap.get? b=some o→h'.get? b=some o)→as.length=es.size→PairsAt h' es as→(∀ a ∈ as,s.heap.objs.size ≤ a)→Q (as.map Value.ref) { s with heap:=h' }):wpAny (model prog w) A (collect (.ref v)) Q E s:=by
 have vl:v < s.heap.objs.size:=let ⟨_,e,_⟩:=hv; Heap.lt_size e
 have dl:d < s.heap.objs.size:=let ⟨_,e,_⟩:=hd; Heap.lt_size e
 have ext:∀ (s:Shared) (R:Result→Shared→Prop) (S:Addr) (n0:Nat),s.heap.IsItemsView v d→RawD s.heap d es ep→s.heap.get? S=some { cls:=.type "list",data:=.seq #[] n0 }→S ≠ v→S ≠ d →
   (∀ (h' : Heap) (c:Nat) (acc:Array Value) (as:List Addr),(∀ b o,b ≠ S→s.heap.get? b=some o→h'.get? b=some o)→h'.get? S=some { cls:=.type "list",data:=.seq acc c }→as.length=es.size→PairsAt h' es as→(∀ a ∈ as,s.heap.objs.size ≤ a)→acc.toList=as.map Value.ref→R (.ok (.ret (.ref S))) { s with heap:=h' }) →
   wpAny (model prog w) A.in1 (Builtin.List.listExtendWith (.ref S) (.ref v) (.ref S)) (fun fin s' => match fin with | .done f => R (.ok f) s' | .again c' => c'.quiet=true∧codeAny (model prog w) A c' R s') (fun e s' => R (.error e) s') s:=by
  intro s R S n0 hv hd gS nv nd hR
  have dl:d < s.heap.objs.size:=let ⟨_,e,_⟩:=hd; Heap.lt_size e
  have Sl:S < s.heap.objs.size:=Heap.lt_size gS
  unfold Builtin.List.listExtendWith
  refine wpAny_bind (wpAny_typeOf (T := "dict_items") hv.typeIs ?_)
  have e1:Builtin.List.listSameRef (.ref S) (.ref v)=false:=by simp [Builtin.List.listSameRef,nv]
  have e2:(Value.type "dict_items" == Value.type "list")=false:=by decide
  have e3:(Value.type "dict_items" == Value.type "tuple")=false:=by decide
  simp only [e1,e2,e3,Bool.or_false,Bool.false_eq_true,if_false]
  refine wpAny_bind (iter_its hv hd ?_)
  have g1:=Heap.get?_push_of_some { cls:=.type "dict_itemiterator",data:=.fields #[.none,.bool false,.ref d,.int 0 0,.int es.size 0,.int ep 0,.none,.none] } gS
  have it1:ItF (s.heap.push { cls:=.type "dict_itemiterator",data:=.fields #[.none,.bool false,.ref d,.int 0 0,.int es.size 0,.int ep 0,.none,.none] }) s.heap.objs.size d .none (.bool false) 0 es.size ep .none .none:=Heap.get?_push_size _ rfl
  have k1:∀ b o,s.heap.get? b=some o→(s.heap.push { cls:=.type "dict_itemiterator",data:=.fields #[.none,.bool false,.ref d,.int 0 0,.int es.size 0,.int ep 0,.none,.none] }).get? b=some o:=fun b o e => Heap.get?_push_of_some _ e
  have z1:s.heap.objs.size ≤ (s.heap.push { cls:=.type "dict_itemiterator",data:=.fields #[.none,.bool false,.ref d,.int 0 0,.int es.size 0,.int ep 0,.none,.none] }).objs.size:=by rw [Heap.size_push]; omega
  have hv1:(s.heap.push { cls:=.type "dict_itemiterator",data:=.fields #[.none,.bool false,.ref d,.int 0 0,.int es.size 0,.int ep 0,.none,.none] }).IsItemsView v d:=let ⟨o,e,x⟩:=hv; ⟨o,k1 _ _ e,x⟩
  generalize s.heap.push { cls:=.type "dict_itemiterator",data:=.fields #[.none,.bool false,.ref d,.int 0 0,.int es.size 0,.int ep 0,.none,.none] } = h1 at g1 it1 k1 z1 hv1
  have go:∀ (h2:Heap) (c:Nat),(∀ b o,b ≠ S→h1.get? b=some o→h2.get? b=some o)→h1.objs.size ≤ h2.objs.size→h2.get? S=some { cls:=.type "list",data:=.seq #[] c }→codeAny (model prog w) A (.builtin "list.extend.loop" ⟨[.ref S,.ref s.heap.objs.size,.ref S],[]⟩) R { s with heap:=h2 }:=fun h2 c k2 z2 g2 => by
   refine loop_its (h0:=s.heap) hh (Nat.ne_of_lt Sl) nd (Nat.ne_of_gt dl) hn (.ref S) (fun h' c acc as q1 q2 q3 q4 q5 q6 => ?_) es.size 0 h2 c #[] [] rfl (Nat.zero_le _) (.inl ⟨rfl,_,_,k2 _ _ (Nat.ne_of_gt Sl) it1⟩) (hd.keep fun o e => k2 _ _ (Ne.symm nd) (k1 _ _ e)) (fun b o n1 _ e => k2 b o n1 (k1 b o e)) (Nat.le_trans z1 z2) g2 rfl rfl (fun j a e => by cases e) (fun a m => by cases m)
   exact hR h' c acc as (fun b o n e => q1 b o n (Nat.ne_of_lt (Heap.lt_size e)) e) q2 q3 q4 q5 q6
  refine wpAny_bind (wpAny_holding (PySem.W.kdx_hint (hv1.typeIs (s:={ s with heap:=h1 })) ?_))
  refine wpAny_ite_split (fun _ => ?_) (fun _ => wpAny_pure ⟨plainId_quiet PySem.F.plain_extend_loop _,go h1 n0 (fun b o _ e => e) (Nat.le_refl _) g1⟩)
  refine wpAny_bind (wpAny_rule (wpAny_bind ?_))
  show wpAny _ _ (updateSeq S (·.push .none) >>= fun _ => updateSeq S (·.pop)) _ _ _
  refine wpAny_bind (wpAny_updateSeq g1 rfl ?_)
  have g2:=Heap.get?_update_self (Obj.mapSeq (·.push Value.none)) g1 rfl
  refine wpAny_updateSeq (hz:=by seq_fits) g2 rfl ?_
  have g3:=Heap.get?_update_self (Obj.mapSeq (·.pop)) g2 rfl
  refine wpAny_pure ⟨plainId_quiet PySem.F.plain_extend_loop _,go _ _ (fun b o n e => ?_) ?_ g3⟩
  ·exact (Heap.get?_update_other _ _ (Ne.symm n)).trans ((Heap.get?_update_other _ _ (Ne.symm n)).trans e)
  ·rw [Heap.size_update,Heap.size_update]; exact Nat.le_refl _
 have key:∀ R:Result→Shared→Prop,(∀ (h' : Heap) (c:Nat) (acc:Array Value) (as:List Addr),(∀ b o,s.heap.get? b=some o→h'.get? b=some o)→h'.get? s.heap.objs.size=some { cls:=.type "list",data:=.seq acc c }→as.length=es.size→PairsAt h' es as→(∀ a ∈ as,s.heap.objs.size ≤ a)→acc.toList=as.map Value.ref→R (.ok (.ret (.ref s.heap.objs.size))) { s with heap:=h' }) →
   codeAny (model prog w) A (.builtin "proto.collect" ⟨[.ref v],[]⟩) R s:=by
  intro R hR
  refine codeAny_builtin PySem.F.entry_proto_collect ?_
  rw [Around.under_plainId PySem.F.plain_proto_collect _]
  show wpAny _ A.in1 (newList [] >>= fun q => again (.builtin "list.__iadd__" ⟨[q,.ref v],[]⟩)) _ _ s
  refine wpAny_bind (wpAny_newObj_type (wpAny_pure ⟨plainId_quiet PySem.F.plain_list_iadd _,codeAny_builtin PySem.F.entry_list_iadd ?_⟩))
  rw [Around.under_plainId PySem.F.plain_list_iadd _]
  show wpAny _ A.in1 (Builtin.List.listExtendWith (.ref s.heap.objs.size) (.ref v) (.ref s.heap.objs.size)) _ _ _
  refine ext { s with heap:=s.heap.push { cls:=.type "list",data:=.seq ([]:List Value).toArray } } R s.heap.objs.size 0 (let ⟨o,e,x⟩:=hv; ⟨o,Heap.get?_push_of_some _ e,x⟩) (hd.keep fun o e => Heap.get?_push_of_some _ e) (Heap.get?_push_size _ rfl) (Nat.ne_of_gt vl) (Nat.ne_of_gt dl) fun h' c acc as q1 q2 q3 q4 q5 q6 => ?_
  refine hR h' c acc as (fun b o e => q1 b o (Nat.ne_of_lt (Heap.lt_size e)) (Heap.get?_push_of_some _ e)) q2 q3 q4 (fun a m => ?_) q6
  have:=q5 a m
  rw [Heap.size_push] at this
  omega
 unfold collect
 refine wpAny_bind (wpAny_runValue (key _ fun h' c acc as q1 q2 q3 q4 q5 q6 => ?_))
 show wpAny _ A (load s.heap.objs.size >>= _) _ _ _
 refine wpAny_bind (wpAny_load q2 (wpAny_pure ?_))
 have:=k h' as q1 q3 q4 q5
 rw [← q6] at this
 exact this
end
end L2
namespace L2
open PySem PySem.Spec PyProof.Rows
def PrI (h:Heap) (v:Value) (u:List Int) (m:Int):Prop:=∃ (a:Addr) (o:Obj) (ka:Value) (t:Tok) (n:Nat),v = .ref a∧h.get? a=some o∧o.cls = .type "tuple" ∧ o.data = .seq #[ka,.int m t] n∧TupI h ka u
def kfP (h:Heap) (v:Value):List Int:=match v with
 | .ref a => match h.get? a with
  | some o => match o.data with
   | .seq its _ => kfI h (its.getD 0 .none)
   | _ => []
  | none => []
 | _ => []
def kfM (h:Heap) (v:Value):Int:=match v with
 | .ref a => match h.get? a with
  | some o => match o.data with
   | .seq its _ => vInt (its.getD 1 .none)
   | _ => 0
  | none => 0
 | _ => 0
theorem PrI.kf {h:Heap} {v:Value} {u:List Int} {m:Int} (p:PrI h v u m):kfP h v=u∧kfM h v=m:=by
 obtain ⟨a,o,ka,t,n,rfl,e,c,d,x⟩:=p
 unfold kfP kfM
 dsimp only
 rw [e]
 dsimp only
 rw [d]
 exact ⟨x.kf,rfl⟩
theorem PrI.keep {h h' : Heap} {v:Value} {u:List Int} {m:Int} (p:PrI h v u m) (k:∀ (b:Addr) (o:Obj),o.cls = .type "tuple" → h.get? b=some o→h'.get? b=some o):PrI h' v u m:=by
 obtain ⟨a,o,ka,t,n,rfl,e,c,d,x⟩:=p
 exact ⟨a,o,ka,t,n,rfl,k a o c e,c,d,x.keep' k⟩
theorem ints_items {P:Program} {w:World} : ∀ {vs:List Value} {u:List Int},IntsAre vs u→ItemsAre (intKind P w) u vs
 | _,_,.nil => .nil
 | _,_,.cons n t h => .cons (intKind_is _ _ _ _) (ints_items h)
theorem lexB_lt:∀ (u v:List Int),HT.lexLt u v=lexB u v
 | [],[] => rfl
 | [],_ :: _ => rfl
 | _ :: _,[] => rfl
 | a :: u,b :: v => by rw [HT.lexLt_cons,lexB_lt u v]; rfl
section
variable {prog:Program} {w:World} {A:Around} {E:Value→Shared→Prop} {s:Shared}
theorem lt_pairs {x y:Value} {u v:List Int} {m n:Int} {Q:Bool→Shared→Prop} (hu:A.units < cLine) (hx:PrI s.heap x u m) (hy:PrI s.heap y v n) (hm:u=v→m=n) (h:Q (lexB u v) s):wpAny (model prog w) A (keyLt' (tuples' false) x y) Q E s:=by
 obtain ⟨a,o,ka,t,z,rfl,e,c,d,tx⟩:=hx
 obtain ⟨a',o',ka',t',z',rfl,e',c',d',ty⟩:=hy
 obtain ⟨p,op,ip,np,rfl,g1,g2,g3,g4⟩:=tx
 obtain ⟨q,oq,iq,nq,rfl,k1,k2,k3,k4⟩:=ty
 refine PySem.W.kat_lt e d e' d' (PySem.W.kat_cons ?_)
 refine wpAny_eqBool_tuple (knd:=intKind prog w) hu ⟨op,ip,np,g1,g2,g3,ints_items g4⟩ ⟨oq,iq,nq,k1,k2,k3,ints_items k4⟩ ?_
 by_cases z:u=v
 ·rw [decide_eq_true z]
  refine PySem.W.kat_yes (PySem.W.kat_cons ((intKind prog w).eqBool (a:=m) (b:=n) (intKind_is _ _ _ _) (intKind_is _ _ _ _) ?_))
  rw [decide_eq_true (hm z)]
  refine PySem.W.kat_yes (PySem.W.kat_nil ?_)
  rw [z,lexB_irr] at h
  exact h
 ·rw [decide_eq_false z]
  refine PySem.W.kat_no (PySem.W.kat_one _ _ ?_)
  refine HT.lt_tupInts (items:=ip) (items2:=iq) ⟨op,g1,g2,np,g3⟩ ⟨oq,k1,k2,nq,k3⟩ g4 k4 hu ?_
  rw [lexB_lt]
  exact h
theorem kind_pairs {vs:List Value} (hv:∀ v ∈ vs,∃ u m,PrI s.heap v u m) (h1:vs ≠ []) {Q:SortKind→Shared→Prop} (h:Q (tuples' false) s):wpAny (model prog w) A (keyKind' vs.toArray) Q E s:=by
 have key:∀ vs:List Value,(∀ v ∈ vs,∃ u m,PrI s.heap v u m)→∃ fs:List Value,PySem.W.KatTups s.heap vs fs∧fs.length=vs.length∧∀ f ∈ fs,∃ u,TupI s.heap f u:=by
  intro vs
  induction vs with
  | nil => exact fun _ => ⟨[],trivial,rfl,fun f m => by cases m⟩
  | cons v vs ih =>
   intro hv
   obtain ⟨fs,f1,f2,f3⟩:=ih fun z m => hv z (List.mem_cons_of_mem _ m)
   obtain ⟨u,m,a,o,ka,t,n,rfl,e,c,d,x⟩:=hv v List.mem_cons_self
   refine ⟨ka :: fs,⟨⟨a,o,_,n,rfl,e,c,d,rfl⟩,f1⟩,by simp [f2],fun f q => ?_⟩
   rcases List.mem_cons.mp q with rfl | q
   ·exact ⟨u,x⟩
   ·exact f3 f q
 obtain ⟨fs,f1,f2,f3⟩:=key vs hv
 refine PySem.W.kat_kind (T:=.type "tuple") f1 ?_ (fun v m => ?_) (by decide) h
 ·cases vs with
  | nil => exact absurd rfl h1
  | cons _ _ => rw [f2]; simp
 ·obtain ⟨u,a,o,its,n,rfl,e,c,_⟩:=f3 v m
  exact fun A Q E s k q => wpAny_typeOf (T := "tuple") ⟨o,k _ _ e,c⟩ q
end
end L2
namespace L2
open PySem PySem.Spec PyProof.Rows
def IView (v d:Addr):Heap→Prop:=fun h => h.IsItemsView v d
def PrL (H:Hp) (xs:List V) (us:List (List Int × Int)):Prop:=xs.length=us.length∧∀ (i:Nat) (x:V) (u:List Int × Int),xs[i]? = some x→us[i]? = some u→∃ a b:Addr,x = .ref a∧H a=some (.tup [.ref b,.int u.2])∧H b=some (.tup (u.1.map V.int))
theorem meets_its (prog:Program) (w:World) (d:Addr) (hd:(d == sysModules)=false):MeetsIn prog w (Builtin.«dict.items» ⟨[.ref d],[]⟩) (fun _ R s => s.TypeIs (.ref d) "dict" ∧ R (.ok (.ret (.ref s.heap.objs.size))) { s with heap:=s.heap.push { cls:=.type "dict_items",data:=.fields #[.ref d] } }) :=
 .of_wp fun A R s ⟨ty,h⟩ => by
  unfold Builtin.«dict.items» Builtin.Dict.noArgs
  refine wpAny_bind (wpAny_bind (wpAny_notOrdered_dict ty ?_))
  show wpAny _ _ (pure d) _ _ s
  refine wpAny_pure ?_
  show wpAny _ _ (Builtin.Dict.showsAll d >>= _) _ _ s
  unfold Builtin.Dict.showsAll
  rw [if_neg (by rw [hd]; decide)]
  exact wpAny_bind (wpAny_pure (wpAny_bind (wpAny_newObj_type (wpAny_pure ⟨_,rfl,h⟩))))
theorem paired_at {α β:Type} {F:α→β→Prop} {l1:List α} {l2:List β} (p:Paired F l1 l2):l1.length=l2.length∧∀ (j:Nat) (a:α) (b:β),l1[j]? = some a→l2[j]? = some b→F a b:=by
 induction p with
 | nil => exact ⟨rfl,fun j a b e => by cases e⟩
 | cons h t ih =>
  refine ⟨by simp [ih.1],fun j a b e1 e2 => ?_⟩
  cases j with
  | zero => cases e1; cases e2; exact h
  | succ j => exact ih.2 j a b (by simpa using e1) (by simpa using e2)
def cont (h:Heap) (b:Addr):Option HO:=match h.get? b with
 | some o => match o.data with
  | .seq its _ => match its.toList with
   | [.ref ka,.int m _] => some (.tup [.ref ka,.int m])
   | _ => none
  | _ => none
 | none => none
def adr:Value→Addr
 | .ref a => a
 | _ => 0
def withPairs (H:Hp) (h:Heap) (l:Addr) (al:List Addr):Hp:=fun b => match H b with
 | some o => some o
 | none => if b=l then some (.lst (al.map V.ref)) else if b ∈ al then cont h b else none
theorem Inv.more {X:Cx} {pins:List (Addr × Obj)} {σ:List (Option V)} {H H' : Hp} {s:Shared} {h' : Heap} {t' : Nat} (I:Inv X pins σ H s) (k:∀ b u,s.heap.get? b=some u→h'.get? b=some u) (old:∀ b o,H b=some o→H' b=some o) (new:∀ b o,H b=none→H' b=some o→s.heap.get? b=none∧ObjOk X.prog X.w H' h' b o):Inv X pins σ H' { s with heap:=h',toks:=t' }:=by
 refine I.un ⟨fun b u q _ _ _ => k b u q,fun b u q _ _ _ => ⟨u.slots,k b u q⟩,fun b u q n _ => ?_,fun b u q _ => ⟨u,k b u q⟩,fun b xs q => old b _ q,fun b u xs q => old b _ q,fun b ps q => ⟨#[],by rw [old b _ q]; simp⟩⟩ fun b o e => ?_
 ·cases z:H' b with
  | none => rfl
  | some o => rw [(new b o n z).1] at q; cases q
 ·cases z:H b with
  | none => exact (new b o z e).2
  | some o' =>
   have:=old b o' z
   rw [e] at this
   cases this
   exact (I.hok b o z).stay (fun c v _ q => k c v q) (fun c q => old c _ q) fun c xs q => old c _ q
section
variable {X:Cx}
def tDItems (td:TE):TE:=fun σ H Q => td σ H fun x H1 => ∃ d kvs,x = .ref d∧H1 d=some (.dT kvs)∧∀ v,H1 v=none→Q (.ref v) (upd H1 v (.ext (IView v d)))
theorem pe_ditems {o:Expr} {td:TE} {apos cpos:PySem.Pos} (ho:PE X o td) (hbase:attributeBase o "items" X.env (eval o X.env)=eval o X.env:=by rfl) (hline:(apos.endLine == cpos.line)=true:=by rfl):PE X (.Call (.Attribute o "items" apos) [] [] cpos) (tDItems td):=by
 intro pins s σ H Q I h
 refine wpAny_Call_method0_late hbase hline (thn (ho pins s σ H _ I h) fun u s1 ⟨x,H1,I1,rx,d,kvs,ex,hd,q⟩ => ?_)
 subst ex
 cases rx
 obtain ⟨t1,t2,t3⟩:=isD_at I1 (.inr ⟨kvs,.inl hd⟩)
 refine ⟨"dict", "dict.items",PySem.F.plainAttrs_dict,PySem.F.slot_dict_items,PySem.F.type_dict_items,t1,t2,Calls.callWith_builtin rfl (PySem.evalArgs_none ?_)⟩
 refine call_meetsIn PySem.F.slot_dict_items t1 PySem.F.entry_dict_items (PySem.F.args_dict_items_1 _) (meets_its X.prog X.w d t3) ⟨t1,?_⟩
 have g:(s1.heap.push { cls:=.type "dict_items",data:=.fields #[.ref d] }).get? s1.heap.objs.size=some { cls:=.type "dict_items",data:=.fields #[.ref d] }:=Heap.get?_push_size _ rfl
 exact ⟨.ref s1.heap.objs.size,_,I1.laid (t':=s1.toks) (o:=.ext (IView s1.heap.objs.size d)) (fun b o e => Heap.get?_push_of_some _ e) (Nat.le_refl _) ⟨⟨_,g,rfl,rfl⟩,⟨_,g⟩,fun h1 h2 ⟨ob,e,c⟩ k => ⟨ob,k ob e,c⟩⟩,rfl,q _ (I1.hok.fresh (Nat.le_refl _))⟩
end
end L2
namespace L2
open PySem PySem.Spec PyProof.Rows
section
variable {prog:Program} {w:World} {A:Around} {E:Value→Shared→Prop} {s:Shared}
theorem sort_pairsW {a:Addr} {vs:List Value} {n:Nat} {P:Fin→Shared→Prop} (hu:A.units < cLine) (hb:s.heap.get? a=some (seqObj "list" vs.toArray n)) (h64:vs.length ≤ 1000) (hv:∀ v ∈ vs,∃ u m,PrI s.heap v u m)
  (hm:∀ v ∈ vs,∀ v' ∈ vs,kfP s.heap v=kfP s.heap v'→kfM s.heap v=kfM s.heap v')
  (h:∀ out:Array Value,out.toList.Perm vs→(out.toList.map (kfP s.heap)).Pairwise (fun x y => lexB y x=false)→P (.done (.ret .none)) { s with heap:=sortedHeap s.heap a vs out }):wpAny (model prog w) A (Builtin.«list.sort» ⟨[.ref a],[]⟩) P E s:=by
 have kt:∀ h' : Heap,(∀ b o,b ≠ a→s.heap.get? b=some o→h'.get? b=some o)→∀ v ∈ vs,∃ u m,PrI h' v u m∧kfP s.heap v=u∧kfM s.heap v=m:=fun h' k v q => by
  obtain ⟨u,m,t⟩:=hv v q
  exact ⟨u,m,t.keep (tup_keep hb rfl k),t.kf.1,t.kf.2⟩
 have mz:∀ p,p ∈ (pairsOf vs).toList→p.1=p.2∧p.1 ∈ vs:=fun p q => by rw [pairsOf_toList] at q; exact mem_zip_self q
 refine sort_genW (k0:=tuples' false) (rk:=fun v => rnk (vs.map (kfP s.heap)) (kfP s.heap v)) hb (Nat.le_trans h64 (by decide)) (fun h2 h' k E' Q' q => ?_) (fun h' k E' x y Q' hx hy q => ?_) fun xs pm up => ?_
 ·refine kind_pairs (s:={ s with heap:=h' }) (fun v hv' => ?_) (fun z => by rw [z] at h2; simp at h2) q
  obtain ⟨u,m,t,_⟩:=kt h' k v hv'
  exact ⟨u,m,t⟩
 ·obtain ⟨u,m,t,eu,em⟩:=kt h' k x.1 (mz x hx).2
  obtain ⟨u',m',t',eu',em'⟩:=kt h' k y.1 (mz y hy).2
  refine lt_pairs (s:={ s with heap:=h' }) hu t t' (fun z => ?_) ?_
  ·rw [← em,← em']
   exact hm _ (mz x hx).2 _ (mz y hy).2 (by rw [eu,eu',z])
  have m1:kfP s.heap x.1 ∈ vs.map (kfP s.heap):=List.mem_map.mpr ⟨_,(mz x hx).2,rfl⟩
  have m2:kfP s.heap y.1 ∈ vs.map (kfP s.heap):=List.mem_map.mpr ⟨_,(mz y hy).2,rfl⟩
  have e3:lexB u u' = decide (rnk (vs.map (kfP s.heap)) (kfP s.heap x.1) < rnk (vs.map (kfP s.heap)) (kfP s.heap y.1)):=by rw [rnk_ok m1 m2,eu,eu']
  rw [e3]
  exact q
 ·have pl:xs.toList.Perm (vs.zip vs):=by rw [← pairsOf_toList]; exact Array.perm_iff_toList_perm.mp pm
  have ps:(xs.map (·.2)).toList.Perm vs:=by
   rw [Array.toList_map]
   have:=pl.map (·.2)
   rw [List.map_snd_zip (Nat.le_refl _)] at this
   exact this
  refine h (xs.map (·.2)) ps ?_
  rw [List.pairwise_iff_getElem]
  intro i j hi hj ij
  have lx:(xs.map (·.2)).toList.length=xs.size:=by rw [Array.length_toList,Array.size_map]
  rw [List.length_map,lx] at hi hj
  have hz:xs.size=(pairsOf vs).size:=pm.size_eq
  have q:=up i j (Nat.le_of_lt ij) (by omega)
  have mi:xs[i] ∈ (pairsOf vs).toList:=(Array.perm_iff_toList_perm.mp pm).subset (Array.getElem_mem_toList hi)
  have mj:xs[j] ∈ (pairsOf vs).toList:=(Array.perm_iff_toList_perm.mp pm).subset (Array.getElem_mem_toList hj)
  unfold RK at q
  rw [Array.getElem?_eq_getElem hi,Array.getElem?_eq_getElem hj] at q
  dsimp only at q
  have e:=rnk_ok (ks:=vs.map (kfP s.heap)) (x:=kfP s.heap xs[j].1) (y:=kfP s.heap xs[i].1) (List.mem_map.mpr ⟨_,(mz _ mj).2,rfl⟩) (List.mem_map.mpr ⟨_,(mz _ mi).2,rfl⟩)
  rw [decide_eq_false (by omega)] at e
  simp only [List.getElem_map,Array.getElem_toList,Array.getElem_map]
  rw [← (mz _ mi).1,← (mz _ mj).1]
  exact e.symm
theorem sorted_itsW {v d:Addr} {es:Array DictEntry} {ep:Nat} {Q:Value→Shared→Prop} (hu:A.in1.in1.units < cLine) (hh:A.handled=none) (hv:s.heap.IsItemsView v d) (hd:RawD s.heap d es ep) (h64:es.size ≤ 1000) {ks:List (List Int × Int)} (hl:es.size=ks.length)
  (he:∀ (j:Nat) (e:DictEntry) (k:List Int × Int),es[j]? = some e→ks[j]? = some k→TupI s.heap e.key k.1∧∃ t,e.val = .int k.2 t) (hn:(ks.map (·.1)).Nodup)
  (h:∀ (out:Array Value) (ws:List (List Int × Int)) (h1 h' : Heap) (e:Nat),(∀ b ob,s.heap.get? b=some ob→h1.get? b=some ob)→(∀ b ob,h1.get? b=some ob→h'.get? b=some ob)→out.size=ws.length→(∀ (i:Nat) (v:Value) (u:List Int × Int),out[i]? = some v→ws[i]? = some u→∃ (a ka:Addr) (t:Tok),v = .ref a∧s.heap.objs.size ≤ a∧h1.get? a=some { cls:=.type "tuple",data:=.seq #[.ref ka,.int u.2 t] }∧(∃ en ∈ es.toList,en.key = .ref ka)∧TupI s.heap (.ref ka) u.1)→ws.Perm ks→ws.Pairwise (fun x y => lexB y.1 x.1=false)→h'.get? h1.objs.size=some (seqObj "list" out e)→Q (.ref h1.objs.size) { s with heap:=h' }) :
  wpAny (model prog w) A (call (.builtin "sorted") [.ref v]) Q E s:=by
 refine Calls.call_function_entry kind_sorted plain_sorted entry_sorted (args_sorted1 _) ?_
 unfold Builtin.«sorted»
 refine wpAny_bind (m:=checkCount "sorted" 1 1 _) (wpAny_pure (wpAny_bind (collect_its (by simp [hh]) hv hd (Nat.le_of_lt (small1000 (by omega))) fun h1 as kp la pa na => ?_)))
 have PR:∀ (j:Nat) (a:Addr) (k:List Int × Int),as[j]? = some a→ks[j]? = some k→PrI h1 (.ref a) k.1 k.2∧∃ (ka:Addr) (t:Tok),h1.get? a=some { cls:=.type "tuple",data:=.seq #[.ref ka,.int k.2 t] }∧(∃ en ∈ es.toList,en.key = .ref ka)∧TupI s.heap (.ref ka) k.1:=fun j a k e1 e2 => by
  obtain ⟨e,x1,x2⟩:=pa j a e1
  obtain ⟨y1,t,y2⟩:=he j e k x1 e2
  rw [y2] at x2
  refine ⟨⟨a,_,e.key,t,_,rfl,x2,rfl,rfl,y1.keep' fun b o _ q => kp b o q⟩,?_⟩
  have y1':=y1
  obtain ⟨ka,o,its,n,ek,_⟩:=y1'
  rw [ek] at x2 y1
  exact ⟨ka,t,x2,⟨e,by rw [← Array.getElem?_toList] at x1; exact List.mem_of_getElem? x1,ek⟩,y1⟩
 have lz:as.length=ks.length:=by omega
 refine wpAny_bind (wpAny_newList ?_)
 have hoL:(h1.push { cls:=.type "list",data:=.seq (as.map Value.ref).toArray }).get? h1.objs.size=some (seqObj "list" (as.map Value.ref).toArray 0):=Heap.get?_push_size _ rfl
 have kp2:∀ (b:Addr) (o:Obj),o.cls = .type "tuple" → h1.get? b=some o→(h1.push { cls:=.type "list",data:=.seq (as.map Value.ref).toArray }).get? b=some o:=fun b o _ e => Heap.get?_push_of_some _ e
 have at_:∀ v ∈ as.map Value.ref,∃ (j:Nat) (a:Addr) (k:List Int × Int),v = .ref a∧as[j]? = some a∧ks[j]? = some k:=fun v m => by
  obtain ⟨a,ma,rfl⟩:=List.mem_map.mp m
  obtain ⟨j,hj⟩:=List.mem_iff_getElem?.mp ma
  have jl:=(List.getElem?_eq_some_iff.mp hj).1
  exact ⟨j,a,ks[j],rfl,hj,List.getElem?_eq_getElem (by omega)⟩
 refine wpAny_bind (wpAny_holding (wpAny_call_entry slot_list_sort ⟨_,hoL,rfl⟩ entry_list_sort (sort_pairsW (s:={ s with heap:=h1.push { cls:=.type "list",data:=.seq (as.map Value.ref).toArray } }) ?_ hoL (by rw [List.length_map]; omega) (fun v q => ?_) (fun v q v' q' ev => ?_) fun out po so => ⟨_,rfl,?_⟩) (args_list_sort _)))
 ·exact hu
 ·obtain ⟨j,a,k,rfl,e1,e2⟩:=at_ v q
  exact ⟨_,_,(PR j a k e1 e2).1.keep kp2⟩
 ·obtain ⟨j,a,k,rfl,e1,e2⟩:=at_ v q
  obtain ⟨j',a',k',rfl,e1',e2'⟩:=at_ v' q'
  have p1:=((PR j a k e1 e2).1.keep kp2).kf
  have p2:=((PR j' a' k' e1' e2').1.keep kp2).kf
  dsimp only at ev ⊢
  rw [p1.1,p2.1] at ev
  rw [p1.2,p2.2]
  have jj:j=j':=by
   have l1:(ks.map (·.1))[j]? = some k.1:=by rw [List.getElem?_map,e2]; rfl
   have l2:(ks.map (·.1))[j']? = some k.1:=by rw [List.getElem?_map,e2',ev]; rfl
   obtain ⟨b1,c1⟩:=List.getElem?_eq_some_iff.mp l1
   obtain ⟨b2,c2⟩:=List.getElem?_eq_some_iff.mp l2
   exact (List.getElem_inj hn).mp (c1.trans c2.symm)
  subst jj
  rw [e2] at e2'
  cases e2'
  rfl
 ·obtain ⟨e,hE⟩:=sortedHeap_at (out:=out) hoL
  generalize hH:h1.push { cls:=.type "list",data:=.seq (as.map Value.ref).toArray } = H1 at *
  have kf:∀ (j:Nat) (a:Addr) (k:List Int × Int),as[j]? = some a→ks[j]? = some k→(kfP H1 (.ref a),kfM H1 (.ref a))=k:=fun j a k e1 e2 => by
   have p1:=((PR j a k e1 e2).1.keep kp2).kf
   rw [p1.1,p1.2]
  have ek:(as.map Value.ref).map (fun v => (kfP H1 v,kfM H1 v))=ks:=by
   apply List.ext_getElem?
   intro i
   rw [List.getElem?_map,List.getElem?_map]
   by_cases z:i < as.length
   ·have e1:as[i]? = some as[i]:=List.getElem?_eq_getElem z
    have e2:ks[i]? = some ks[i]:=List.getElem?_eq_getElem (by omega)
    rw [e1,e2]
    show some (kfP H1 (.ref as[i]),kfM H1 (.ref as[i]))=_
    rw [kf i _ _ e1 e2]
   ·rw [List.getElem?_eq_none (by omega),List.getElem?_eq_none (by omega)]
    rfl
  refine wpAny_pure ⟨_,rfl,h out (out.toList.map (fun v => (kfP H1 v,kfM H1 v))) h1 _ e kp (fun b ob z => ?_) (by rw [List.length_map,Array.length_toList]) (fun i v u h3 h4 => ?_) ?_ ?_ hE⟩
  ·have hlt:b < h1.objs.size:=Heap.lt_size z
   have hlt2:b < H1.objs.size:=by rw [← hH,Heap.size_push]; exact Nat.lt_succ_of_lt hlt
   rw [sortedHeap_old (Nat.ne_of_lt hlt) hlt2]
   rw [← hH]
   exact Heap.get?_push_of_some _ z
  ·rw [List.getElem?_map,Array.getElem?_toList,h3] at h4
   cases h4
   have mv:v ∈ as.map Value.ref:=po.mem_iff.mp (by rw [← Array.getElem?_toList] at h3; exact List.mem_of_getElem? h3)
   obtain ⟨j,a,k,rfl,e1,e2⟩:=at_ v mv
   obtain ⟨ka,t,y1,y2,y3⟩:=(PR j a k e1 e2).2
   have:=kf j a k e1 e2
   have k1:kfP H1 (.ref a)=k.1:=congrArg Prod.fst this
   have k2:kfM H1 (.ref a)=k.2:=congrArg Prod.snd this
   dsimp only
   rw [k1,k2]
   exact ⟨a,ka,t,rfl,na a (List.mem_of_getElem? e1),y1,y2,y3⟩
  ·have p1:=po.map (fun v => (kfP H1 v,kfM H1 v))
   rw [ek] at p1
   exact p1
  ·rw [List.pairwise_map] at so ⊢
   exact so
end
end L2
namespace L2
open PySem PySem.Spec PyProof.Rows
section
variable {X:Cx}
theorem call_sortedIW {k:Nat} (hr:Room k X.A):CallR X (.builtin "sorted") (fun xs H Q => ∃ (v d:Addr) (ks:List (List Int × Int)),xs=[.ref v]∧H v=some (.ext (IView v d))∧H d=some (.dT (ks.map fun k => (k.1.map Sum.inl,V.int k.2)))∧ks.length ≤ 1000 ∧
  ∀ (l:Addr) (ps:List V) (ws:List (List Int × Int)) (H' : Hp),H l=none→(∀ b o,H b=some o→H' b=some o)→H' l=some (.lst ps)→PrL H' ps ws→ws.Perm ks→ws.Pairwise (fun x y => lexB y.1 x.1=false)→Q (.ref l) H'):=by
 intro pins s σ H xs us Q I r h
 obtain ⟨v,d,ks,rfl,hv,hd,h64,q⟩:=h
 obtain ⟨u,rfl,rx⟩:=vals1 r
 cases rx
 obtain ⟨iv,_,_⟩:=(show ObjOk X.prog X.w H s.heap v (.ext (IView v d)) from I.hok v _ hv)
 obtain ⟨_,hsys,xs,rel,o,es,ep,ho,hx,hdat,hes,hn⟩:=(show ObjOk X.prog X.w H s.heap d (.dT _) from I.hok d _ hd)
 obtain ⟨rl,ra⟩:=paired_at rel
 rw [List.length_map] at rl
 have row:∀ (j:Nat) (e:DictEntry) (k:List Int × Int),es[j]? = some e→ks[j]? = some k→∃ (ka:Addr) (t:Tok),e.key = .ref ka∧e.val = .int k.2 t∧H ka=some (.tup (k.1.map V.int)):=fun j e k e1 e2 => by
  rw [← Array.getElem?_toList,hes,List.getElem?_map] at e1
  cases z:xs[j]? with
  | none => rw [z] at e1; cases e1
  | some x =>
   rw [z] at e1
   cases e1
   have g:=ra j _ x (by rw [List.getElem?_map,e2]; rfl) z
   obtain ⟨g1,g2,g3⟩:=g
   have g3:RelV (V.int k.2) x.2.2:=g3
   obtain ⟨t,g4⟩:=g3
   refine ⟨x.2.1,t,rfl,g4,?_⟩
   have g2:H x.2.1=some (.tup ((k.1.map Sum.inl).map kV)):=g2
   rw [List.map_map] at g2
   exact g2
 have tupI:∀ (ka:Addr) (u:List Int),H ka=some (.tup (u.map V.int))→TupI s.heap (.ref ka) u:=fun ka u g => by
  obtain ⟨_,its,rv,o,e,c,n,dd⟩:=(show ObjOk X.prog X.w H s.heap ka (.tup (u.map V.int)) from I.hok ka _ g)
  exact ⟨ka,o,its.toArray,n,rfl,e,c,dd,by rw [List.toList_toArray]; exact intsAre_of rv⟩
 have sz:es.size=ks.length:=by rw [← Array.length_toList,hes,List.length_map,← rl]
 have nd:(ks.map (·.1)).Nodup:=by
  have e:xs.map (·.1)=(ks.map (·.1)).map (fun u => u.map Sum.inl):=by
   apply List.ext_getElem?
   intro j
   rw [List.getElem?_map,List.map_map,List.getElem?_map]
   cases z:xs[j]? with
   | none => rw [List.getElem?_eq_none (by have:=List.getElem?_eq_none_iff.mp z; omega)]; rfl
   | some x =>
    have jl:=(List.getElem?_eq_some_iff.mp z).1
    have e2:ks[j]? = some ks[j]:=List.getElem?_eq_getElem (by omega)
    have g:=ra j _ x (by rw [List.getElem?_map,e2]; rfl) z
    rw [e2]
    show some x.1=some _
    rw [← g.1]
    rfl
  rw [e] at hn
  exact (List.pairwise_map.mp hn).imp fun h e => h (by rw [e])
 have hu:X.A.in1.in1.units < cLine:=by
  have:=hr.un
  show X.A.units + 1 + 1 < cLine
  omega
 refine sorted_itsW (ks:=ks) hu hr.hd iv ⟨o,ho,hx,hdat⟩ (by omega) sz (fun j e k e1 e2 => ?_) nd fun out ws h1 h' e kp kp2 lo hout pm sr hl => ?_
 ·obtain ⟨ka,t,g1,g2,g3⟩:=row j e k e1 e2
  rw [g1]
  exact ⟨tupI _ _ g3,t,g2⟩
 ·have hw:∀ (i:Nat) (v:Value) (u:List Int × Int),out[i]? = some v→ws[i]? = some u→∃ (a ka:Addr) (t:Tok),v = .ref a∧s.heap.objs.size ≤ a∧h1.get? a=some { cls:=.type "tuple",data:=.seq #[.ref ka,.int u.2 t] }∧H ka=some (.tup (u.1.map V.int)):=fun i v u e1 e2 => by
   obtain ⟨a,ka,t,x1,x2,x3,⟨en,x4,x5⟩,x6⟩:=hout i v u e1 e2
   obtain ⟨j,hj⟩:=List.mem_iff_getElem?.mp x4
   rw [Array.getElem?_toList] at hj
   have jl:=(Array.getElem?_eq_some_iff.mp hj).1
   have kj:ks[j]? = some ks[j]:=List.getElem?_eq_getElem (by omega)
   obtain ⟨ka',t',y1,y2,y3⟩:=row j en _ hj kj
   rw [x5] at y1
   cases y1
   have:=x6.kf.symm.trans (tupI _ _ y3).kf
   rw [← this] at y3
   exact ⟨a,ka,t,x1,x2,x3,y3⟩
  have fresh:∀ a,s.heap.objs.size ≤ a→H a=none:=fun a q => I.hok.fresh q
  have I1:Inv X pins σ H { s with heap:=h1 }:=I.kept (t':=s.toks) kp
  have fl:H h1.objs.size=none:=I1.hok.fresh (Nat.le_refl _)
  have gone:∀ a,s.heap.objs.size ≤ a→s.heap.get? a=none:=fun a q => by
   cases z:s.heap.get? a with
   | none => rfl
   | some o => exact absurd (Heap.lt_size z) (Nat.not_lt.mpr q)
  have gl:s.heap.get? h1.objs.size=none:=by
   cases z:s.heap.get? h1.objs.size with
   | none => rfl
   | some o => exact absurd (Heap.lt_size (kp _ _ z)) (Nat.lt_irrefl _)
  have atI:∀ a ∈ out.toList.map adr,∃ (ka:Addr) (t:Tok) (u:List Int × Int),s.heap.objs.size ≤ a∧h1.get? a=some { cls:=.type "tuple",data:=.seq #[.ref ka,.int u.2 t] }∧H ka=some (.tup (u.1.map V.int)):=fun a m => by
   obtain ⟨v,mv,ev⟩:=List.mem_map.mp m
   obtain ⟨i,hi⟩:=List.mem_iff_getElem?.mp mv
   rw [Array.getElem?_toList] at hi
   have il:=(Array.getElem?_eq_some_iff.mp hi).1
   obtain ⟨a',ka,t,x1,x2,x3,x4⟩:=hw i v _ hi (List.getElem?_eq_getElem (by omega))
   rw [x1] at ev
   have ev:a' = a:=ev
   subst ev
   exact ⟨ka,t,_,x2,x3,x4⟩
  have ct:∀ (a ka:Addr) (m:Int) (t:Tok),h1.get? a=some { cls:=.type "tuple",data:=.seq #[.ref ka,.int m t] }→cont h1 a=some (.tup [.ref ka,.int m]):=fun a ka m t g => by
   unfold cont
   rw [g]
  have wp:∀ (a ka:Addr) (m:Int) (t:Tok),a ∈ out.toList.map adr→s.heap.objs.size ≤ a→h1.get? a=some { cls:=.type "tuple",data:=.seq #[.ref ka,.int m t] }→withPairs H h1 h1.objs.size (out.toList.map adr) a=some (.tup [.ref ka,.int m]):=fun a ka m t ma sa g => by
   unfold withPairs
   rw [fresh a sa]
   dsimp only
   rw [if_neg (Nat.ne_of_lt (Heap.lt_size g)),if_pos ma,ct a ka m t g]
  have old:∀ b o,H b=some o→withPairs H h1 h1.objs.size (out.toList.map adr) b=some o:=fun b o q => by
   unfold withPairs
   rw [q]
  have wl:withPairs H h1 h1.objs.size (out.toList.map adr) h1.objs.size=some (.lst ((out.toList.map adr).map V.ref)):=by
   unfold withPairs
   rw [fl]
   dsimp only
   rw [if_pos rfl]
  have o64:out.size ≤ 1000:=by rw [lo,pm.length_eq]; omega
  have I2:Inv X pins σ (withPairs H h1 h1.objs.size (out.toList.map adr)) { s with heap:=h',toks:=s.toks }:=by
   refine Inv.more I (fun b u z => kp2 b u (kp b u z)) old fun b ob nb hb => ?_
   have hb':=hb
   unfold withPairs at hb'
   rw [nb] at hb'
   dsimp only at hb'
   by_cases zl:b=h1.objs.size
   ·subst zl
    rw [if_pos rfl] at hb'
    cases hb'
    refine ⟨gl,?_,out.toList,e,?_,?_⟩
    ·rw [List.length_map,List.length_map,Array.length_toList]
     exact Nat.le_of_lt (small1000 (by omega))
    ·have vr:∀ l:List Value,(∀ v ∈ l,∃ a,v=Value.ref a)→Vals ((l.map adr).map V.ref) l:=by
      intro l
      induction l with
      | nil => exact fun _ => .nil
      | cons v l ih =>
       intro hl
       obtain ⟨a,rfl⟩:=hl v List.mem_cons_self
       exact .cons rfl (ih fun z m => hl z (List.mem_cons_of_mem _ m))
     refine vr _ fun v mv => ?_
     obtain ⟨i,hi⟩:=List.mem_iff_getElem?.mp mv
     rw [Array.getElem?_toList] at hi
     have il:=(Array.getElem?_eq_some_iff.mp hi).1
     obtain ⟨a',ka,t,x1,_⟩:=hw i v _ hi (List.getElem?_eq_getElem (by omega))
     exact ⟨a',x1⟩
    ·rw [hl]
   ·rw [if_neg zl] at hb'
    by_cases zm:b ∈ out.toList.map adr
    ·rw [if_pos zm] at hb'
     obtain ⟨ka,t,u,x1,x2,x3⟩:=atI b zm
     rw [ct b ka _ t x2] at hb'
     cases hb'
     exact ⟨gone b x1,(by show 2 ≤ sizeLine; decide),[.ref ka,.int u.2 t],.cons rfl (.cons ⟨t,rfl⟩ .nil),_,kp2 _ _ x2,rfl,_,rfl⟩
    ·rw [if_neg zm] at hb'
     cases hb'
  refine ⟨.ref h1.objs.size,_,I2,rfl,q _ _ ws _ fl old wl ⟨?_,fun i x u e1 e2 => ?_⟩ pm sr⟩
  ·rw [List.length_map,List.length_map,Array.length_toList,lo]
  ·rw [List.getElem?_map,List.getElem?_map,Array.getElem?_toList] at e1
   cases z:out[i]? with
   | none => rw [z] at e1; cases e1
   | some v =>
    rw [z] at e1
    obtain ⟨a,ka,t,x1,x2,x3,x4⟩:=hw i v u z e2
    subst x1
    cases e1
    refine ⟨a,ka,rfl,wp a ka _ t ?_ x2 x3,old _ _ x4⟩
    rw [← Array.getElem?_toList] at z
    exact List.mem_map.mpr ⟨_,List.mem_of_getElem? z,rfl⟩
end
end L2
set_option maxHeartbeats 4000000
namespace L2
open PySem PySem.Spec PyProof.Rows
section
variable {X:Cx}
section
variable {prog:Program} {w:World} {A:Around} {R:Result→Shared→Prop} {s:Shared}
abbrev e2 (elt tg iter:Expr) (ifs:List Expr) (tg2 iter2:Expr) (ifs2:List Expr) (scope:Scope) (pos:PySem.Pos):Expr:=.ListComp elt [⟨tg,iter,ifs,0⟩,⟨tg2,iter2,ifs2,0⟩] scope pos
end
end
end L2
set_option maxHeartbeats 1000000
namespace L2
open PySem PySem.Spec PyProof.Rows
def putI (ks:List (List Int × Int)) (u:List Int) (z:Int):List (List Int × Int):=if (ks.any fun k => decide (k.1=u))=true then ks.map fun k => if k.1=u then (k.1,z) else k else ks ++ [(u,z)]
def getI (ks:List (List Int × Int)) (u:List Int):Int:=((ks.find? fun k => decide (k.1=u)).map (·.2)).getD 0
def emb (k:List Int × Int):List Key × V:=(k.1.map Sum.inl,V.int k.2)
theorem inlM:∀ {u v:List Int},u.map (Sum.inl:Int→Key)=v.map Sum.inl→u=v
 | [],[],_ => rfl
 | [],_ :: _,h => by cases h
 | _ :: _,[],h => by cases h
 | a :: u,b :: v,h => by
  rw [List.map_cons,List.map_cons] at h
  obtain ⟨h1,h2⟩:=List.cons.inj h
  rw [inlM h2,Sum.inl.inj h1]
theorem emb_key (k:List Int × Int) (u:List Int):decide ((emb k).1=u.map Sum.inl)=decide (k.1=u):=by
 by_cases h:k.1=u
 ·rw [decide_eq_true h]; exact decide_eq_true (by unfold emb; rw [h])
 ·rw [decide_eq_false h]; exact decide_eq_false fun q => h (inlM q)
theorem any_emb (ks:List (List Int × Int)) (u:List Int):((ks.map emb).any fun k => decide (k.1=u.map Sum.inl))=ks.any fun k => decide (k.1=u):=by
 induction ks with
 | nil => rfl
 | cons k ks ih => rw [List.map_cons,List.any_cons,List.any_cons,ih,emb_key]
theorem put_emb (ks:List (List Int × Int)) (u:List Int) (z:Int):putK (ks.map emb) (u.map Sum.inl) (V.int z)=(putI ks u z).map emb:=by
 unfold putK putI
 rw [any_emb]
 by_cases h:(ks.any fun k => decide (k.1=u))=true
 ·rw [if_pos h,if_pos h,List.map_map,List.map_map]
  refine List.map_congr_left fun k _ => ?_
  show (if (emb k).1=u.map Sum.inl then ((emb k).1,V.int z) else emb k)=emb (if k.1=u then (k.1,z) else k)
  have e:=emb_key k u
  by_cases q:k.1=u
  ·rw [if_pos q,if_pos (of_decide_eq_true (by rw [e]; exact decide_eq_true q))]; rfl
  ·rw [if_neg q,if_neg (of_decide_eq_false (by rw [e]; exact decide_eq_false q))]
 ·rw [if_neg h,if_neg h,List.map_append]; rfl
theorem val_emb (ks:List (List Int × Int)) (u:List Int):(valV (ks.map emb) (u.map Sum.inl)).getD (.int 0)=V.int (getI ks u):=by
 induction ks with
 | nil => rfl
 | cons k ks ih =>
  rw [List.map_cons]
  have e:=emb_key k u
  unfold getI
  rw [List.find?_cons]
  by_cases q:k.1=u
  ·rw [decide_eq_true q]
   rw [valV_pos (of_decide_eq_true (by rw [e]; exact decide_eq_true q))]
   rfl
  ·rw [decide_eq_false q]
   rw [valV_neg (of_decide_eq_false (by rw [e]; exact decide_eq_false q))]
   exact ih
theorem putI_len (ks:List (List Int × Int)) (u:List Int) (z:Int):(putI ks u z).length ≤ ks.length + 1:=by
 unfold putI
 split
 ·rw [List.length_map]; omega
 ·rw [List.length_append]; exact Nat.le_refl _
def totU (W:List (Int × List Int)) (u:List Int):Int:=((W.filter fun e => decide (e.2=u)).map (·.1)).sum
theorem totU_snoc (W:List (Int × List Int)) (e:Int × List Int) (u:List Int):totU (W ++ [e]) u=totU W u + if e.2=u then e.1 else 0:=by
 unfold totU
 rw [List.filter_append,List.map_append,List.sum_append]
 by_cases h:e.2=u
 ·rw [if_pos h]; simp [h]
 ·rw [if_neg h]; simp [h]
theorem totU_none {W:List (Int × List Int)} {u:List Int} (h:u ∉ W.map (·.2)):totU W u=0:=by
 unfold totU
 have:W.filter (fun e => decide (e.2=u))=[]:=List.filter_eq_nil_iff.mpr fun e he => by
  intro q
  exact h (List.mem_map.mpr ⟨e,he,of_decide_eq_true q⟩)
 rw [this]
 rfl
structure DIs (W:List (Int × List Int)) (ks:List (List Int × Int)):Prop where
 nd:(ks.map (·.1)).Nodup
 mem:∀ u,u ∈ ks.map (·.1) ↔ u ∈ W.map (·.2)
 val:∀ k ∈ ks,k.2=totU W k.1
 len:ks.length ≤ W.length
theorem DIs.nil:DIs [] []:=⟨List.Pairwise.nil,fun u => Iff.rfl,fun k h => (by cases h),Nat.le_refl _⟩
theorem DIs.get {W:List (Int × List Int)} {ks:List (List Int × Int)} (d:DIs W ks) (u:List Int):getI ks u=totU W u:=by
 unfold getI
 cases h:ks.find? fun k => decide (k.1=u) with
 | none =>
  rw [totU_none]
  ·rfl
  ·intro q
   obtain ⟨k,hk,e⟩:=List.mem_map.mp ((d.mem u).mpr q)
   have:=List.find?_eq_none.mp h k hk
   exact this (decide_eq_true e)
 | some k =>
  have e:=List.find?_some h
  have m:=List.mem_of_find?_eq_some h
  have e:k.1=u:=of_decide_eq_true e
  show k.2=_
  rw [d.val k m,e]
theorem DIs.put {W:List (Int × List Int)} {ks:List (List Int × Int)} (d:DIs W ks) (e:Int × List Int):DIs (W ++ [e]) (putI ks e.2 (getI ks e.2 + e.1)):=by
 have gt:=d.get e.2
 have mk:(ks.any fun k => decide (k.1=e.2))=true ↔ e.2 ∈ ks.map (·.1):=by
  rw [List.any_eq_true,List.mem_map]
  constructor
  ·rintro ⟨k,hk,q⟩; exact ⟨k,hk,of_decide_eq_true q⟩
  ·rintro ⟨k,hk,q⟩; exact ⟨k,hk,decide_eq_true q⟩
 refine ⟨?_,fun u => ?_,fun k hk => ?_,?_⟩
 ·unfold putI
  by_cases h:(ks.any fun k => decide (k.1=e.2))=true
  ·rw [if_pos h,List.map_map]
   have:(fun k:List Int × Int => k.1) ∘ (fun k => if k.1=e.2 then (k.1,getI ks e.2 + e.1) else k)=fun k => k.1:=by
    funext k
    show (if k.1=e.2 then (k.1,getI ks e.2 + e.1) else k).1=k.1
    split <;> rfl
   rw [this]
   exact d.nd
  ·rw [if_neg h,List.map_append]
   refine List.nodup_append.mpr ⟨d.nd,by simp,fun a ha b hb => ?_⟩
   have hb:b=e.2:=by simpa using hb
   rintro rfl
   exact h (mk.mpr (hb ▸ ha))
 ·rw [List.map_append,List.mem_append]
  have:u ∈ (putI ks e.2 (getI ks e.2 + e.1)).map (·.1) ↔ u ∈ ks.map (·.1) ∨ u=e.2:=by
   unfold putI
   by_cases h:(ks.any fun k => decide (k.1=e.2))=true
   ·rw [if_pos h,List.map_map]
    have q:(fun k:List Int × Int => k.1) ∘ (fun k => if k.1=e.2 then (k.1,getI ks e.2 + e.1) else k)=fun k => k.1:=by
     funext k
     show (if k.1=e.2 then (k.1,getI ks e.2 + e.1) else k).1=k.1
     split <;> rfl
    rw [q]
    constructor
    ·exact .inl
    ·rintro (z | z)
     ·exact z
     ·rw [z]; exact mk.mp h
   ·rw [if_neg h,List.map_append,List.mem_append]
    simp
  rw [this,d.mem u]
  simp
 ·rw [totU_snoc]
  unfold putI at hk
  by_cases h:(ks.any fun k => decide (k.1=e.2))=true
  ·rw [if_pos h] at hk
   obtain ⟨k',hk',rfl⟩:=List.mem_map.mp hk
   by_cases q:k'.1=e.2
   ·rw [if_pos q]
    show getI ks e.2 + e.1=totU W k'.1 + if e.2=k'.1 then e.1 else 0
    rw [if_pos q.symm,gt,q]
   ·rw [if_neg q,if_neg (fun z => q z.symm),Int.add_zero]
    exact d.val k' hk'
  ·rw [if_neg h] at hk
   rcases List.mem_append.mp hk with hk | hk
   ·rw [if_neg,Int.add_zero]
    ·exact d.val k hk
    ·intro z
     exact h (mk.mpr (List.mem_map.mpr ⟨k,hk,z.symm⟩))
   ·rw [List.mem_singleton.mp hk]
    show getI ks e.2 + e.1=_
    rw [if_pos rfl,gt]
 ·have:=putI_len ks e.2 (getI ks e.2 + e.1)
  have:=d.len
  rw [List.length_append]
  simp only [List.length_cons,List.length_nil]
  omega
end L2
namespace L2
open PySem PySem.Spec PyProof.Rows
theorem Same.nw {p:Addr} {H H' : Hp} {o:HO} (a:Same H H') (h:H' p=none):Same H (upd H' p o):=fun c u e => by
 have:=a c u e
 rw [upd_ne (ne_of_none this h)]; exact this
theorem Same.ow {p:Addr} {H H' : Hp} {o:HO} (a:Same H H') (h:H p=none):Same H (upd H' p o):=fun c u e => by
 rw [upd_ne (ne_of_none e h)]; exact a c u e
def RL (L:List (List Int × List Int)) (u v:List Int):Prop:=(u,v) ∈ L ∨ (v,u) ∈ L
end L2
namespace L2
open PySem PySem.Spec PyProof.Rows
def nv (m:Nat):V:=.int (m:Int)
def pc (p:Nat × Nat):List Int:=[(p.1:Int),(p.2:Int)]
end L2
set_option maxHeartbeats 4000000
set_option maxHeartbeats 1000000
namespace L2
open PySem PySem.Spec PyProof.Rows
abbrev PR:=Int × Int × Int × Bool
abbrev WL2:=List (Int × List Int)
end L2
namespace L2
open PySem PySem.Spec PyProof.Rows
section
variable {K:PySem.W.Frag} {H:Hp} {Q:VK} {Z:L2.St→Hp→Prop}
theorem iteB {b:Bool} {A B:Prop} (h:b=false) (x:B):if b=true then A else B:=by
 rw [h]
 exact iteF x
end
end L2
namespace L2
open PySem PySem.Spec PyProof.Rows
section
variable {K:PySem.W.Frag} {H:Hp} {Q:VK} {Z:L2.St→Hp→Prop}
def dkS (ks:List (List Int × Int)) (e:Int × List Int):List (List Int × Int):=putI ks e.2 (getI ks e.2 + e.1)
def dkF (W:WL2):List (List Int × Int):=W.foldl dkS []
theorem dkF_snoc (W:WL2) (e:Int × List Int):dkF (W ++ [e])=dkS (dkF W) e:=by unfold dkF; rw [List.foldl_append]; rfl
theorem dkF_take {W:WL2} {i:Nat} {e:Int × List Int} (h:W[i]? = some e):dkF (W.take (i + 1))=dkS (dkF (W.take i)) e:=by rw [take_succ' h,dkF_snoc]
theorem dkF_is (W:WL2):DIs W (dkF W):=by
 have key:∀ i,DIs (W.take i) (dkF (W.take i)):=by
  intro i
  induction i with
  | zero => exact DIs.nil
  | succ i ih =>
   cases e:W[i]? with
   | none =>
    have:W.length ≤ i:=List.getElem?_eq_none_iff.mp e
    rw [List.take_of_length_le (by omega)]
    rw [List.take_of_length_le (by omega)] at ih
    exact ih
   | some x =>
    rw [dkF_take e,take_succ' e]
    exact ih.put x
 have:=key W.length
 rw [List.take_length] at this
 exact this
def SrO (ws ks:List (List Int × Int)):Prop:=ws.Perm ks∧ws.Pairwise (fun x y => lexB y.1 x.1=false)
def spSortsW:Sp:=fun vs H Q _ => ∃ (a:Addr) (xs:List V) (W:WL2),vs=[.ref a]∧H a=some (.lst xs)∧Wg H xs W∧W.length ≤ 900∧∀ (l:Addr) (ps:List V) (ws:List (List Int × Int)) (H' : Hp),H l=none→H' l=some (.lst ps)→PrL H' ps ws→SrO ws (dkF W)→Same H H'→Q (.ref l) H'
def tSorts20 (K:PySem.W.Frag):TS:=tSeq (tAsg tDNewT (gName 1)) (tSeq (tFor (iList K (tVar 0)) (gTup K 2 (gCons (gName 2) (gCons (gName 3) gNil))) (sDPut (tVar 1) (tVar 3) (tOp (rI0 fun i j => V.int (i + j)) (tDGet2 (tVar 1) (tVar 3) (tC (V.int 0))) (tVar 2)))) (tRet (tCB (fun xs H Q => ∃ v d ks,xs=[V.ref v]∧H v=some (HO.ext (IView v d))∧H d=some (HO.dT (List.map (fun k => (List.map Sum.inl k.fst,V.int k.snd)) ks))∧ks.length ≤ 1000∧∀ (l:Addr) (ps:List V) (ws:List (List Int × Int)) (H' : Hp),H l=none→(∀ (b:Addr) (o:HO),H b=some o→H' b=some o)→H' l=some (HO.lst ps)→PrL H' ps ws→ws.Perm ks→List.Pairwise (fun x y => lexB y.fst x.fst=false) ws→Q (V.ref l) H') (tCons (tDItems (tVar 1)) tNil))))
end
end L2
namespace L2
open PySem PySem.Spec PyProof.Rows
section
variable {K:PySem.W.Frag} {H:Hp} {Q:VK} {Z:L2.St→Hp→Prop}
theorem sorts_reads {a:Addr} {xs:List V} {W:WL2} (ha:H a=some (.lst xs)) (g:Wg H xs W) (wl:W.length ≤ 900) (k:∀ (l:Addr) (ps:List V) (ws:List (List Int × Int)) (H' : Hp),H l=none→H' l=some (.lst ps)→PrL H' ps ws→SrO ws (dkF W)→Same H H'→Q (.ref l) H'):tSorts20 K { nx:=Z,rt:=Q } [some (.ref a),none,none,none] H:=by
 refine fun d fd0 => ?_
 have s1:=Same.nw (o:=.dT []) (Same.refl H) fd0
 have hd1:(upd H d (.dT [])) d=some (.dT (([]:List (List Int × Int)).map emb)):=upd_same
 generalize upd H d (.dT [])=H1 at s1 hd1 ⊢
 refine ⟨_,rfl,a,rfl,⟨_,SqL.of (s1 _ _ ha)⟩,for_list (K:=K) (a:=a) (xs:=xs) (fun i σ H' => ∃ (x2 x3:Option V),σ=[some (.ref a),some (.ref d),x2,x3]∧H' d=some (.dT ((dkF (W.take i)).map emb))∧Same H H') ⟨_,_,rfl,hd1,s1⟩ (fun i σ H' _ h => by obtain ⟨_,_,_,_,z⟩:=h; exact SqL.of (z _ _ ha)) ?_ ?_⟩
 ·rintro i x σ H2 hx ⟨x2,x3,rfl,hd2,s2⟩
  obtain ⟨e,he,q,wq,rfl,hq,hw⟩:=(g.up s2.tups).at' hx
  have hw' : H2 wq=some (.tup ((e.2.map Sum.inl).map kV)):=by rw [List.map_map]; exact hw
  have kl:(dkF (W.take i)).length ≤ 1000:=by have:=(dkF_is (W.take i)).len; rw [List.length_take] at this; omega
  refine ⟨q,_,rfl,SqT.of hq,rfl,_,_,rfl,_,_,rfl,rfl,?_⟩
  refine ⟨_,rfl,d,rfl,.inr ⟨_,.inl hd2⟩,_,rfl,_,DGet.t (k:=e.2.map Sum.inl) hd2 hw',_,rfl,getI (dkF (W.take i)) e.2,e.1,val_emb (dkF (W.take i)) e.2,rfl,_,rfl,_,rfl,d,_,rfl,DPut.t (k:=e.2.map Sum.inl) hd2 hw' (Nat.lt_of_le_of_lt (by rw [List.length_map]; exact kl:((dkF (W.take i)).map emb).length ≤ 1000) (by decide)),?_⟩
  refine ⟨_,_,rfl,?_,Same.ow s2 fd0⟩
  rw [upd_same,dkF_take he]
  exact congrArg (fun z => some (HO.dT z)) (put_emb (dkF (W.take i)) e.2 (getI (dkF (W.take i)) e.2 + e.1))
 ·rintro σ H2 ⟨x2,x3,rfl,hd2,s2⟩
  rw [List.take_of_length_le (by rw [g.1]; exact Nat.le_refl _)] at hd2
  have kl:=(dkF_is W).len
  refine ⟨_,rfl,d,_,rfl,hd2,fun v hv => ⟨v,d,dkF W,rfl,upd_same,?_,by omega,fun l ps ws H' f1 old h2 pr pm sr => ?_⟩⟩
  ·rw [upd_ne (ne_of_none hd2 hv)]
   exact hd2
  ·have s3:=Same.nw (o:=.ext (IView v d)) s2 hv
   exact k l ps ws H' (s3.free f1) h2 pr ⟨pm,sr⟩ (s3.trans fun b o q => old b o q)
end
end L2
namespace Toy
open PySem L2 PyProof.Rows
def top (i:Nat):Stmt:=PySem.Challenge.pw_farcords_k08_whole_weighings_keep_sums.main.body.getD i (.Pass ⟨0,0,0,0⟩)
structure Kn (P:Program) (w:World) (K:PySem.W.Frag) (mg:Str→Option Value) (base:Heap) (x:Str) (k:Nat) (ps:List Str) (sp:Sp):Prop where
 ex:∃ (f:Addr) (fd:FuncData),FnOk P w K mg base CX0 k f fd ps sp∧mg x=some (.ref f)∧PySem.W.keepIn K (.ref f)=true∧Binds K fd ps []
theorem pe_callD {X:Cx} {x:Str} {k j:Nat} {ps:List Str} {sp:Sp} {e:Expr} {es:List Expr} {t:TA} {p pos:PySem.Pos} (G:Kn X.prog X.w X.K X.mg X.base x k ps sp) (hr:Room j X.A) (hg:Gl X x) (ha:PA X (e :: es) t) (hle:k ≤ j:=by decide)
  (hdb:(x == ("__debug__" : Str))=false:=by decide)
  (he:starEach (e :: es) X.env=(false,eval e X.env) :: starEach es X.env:=by rfl) (hpl:(backTo pos (starEach es X.env)).any (·.1)=false:=by rfl):PE X (.Call (.Name x p) (e :: es) [] pos) (tCall sp [] E0 t):=by
 obtain ⟨f,fd,F,hm,hk,hb⟩:=G.ex
 exact pe_call F (hr.mono hle) hg hm hk hb .nil pass0 ha hdb he hpl
structure Txt (mg:Str→Option Value):Prop where
 len:mg "len" = none
 range:mg "range" = none
 min:mg "min" = none
 max:mg "max" = none
 isinstance:mg "isinstance" = none
 bool:mg "bool" = none
 int:mg "int" = none
 tuple:mg "tuple" = none
 list:mg "list" = none
 str:mg "str" = none
 all:mg "all" = none
 sum:mg "sum" = none
 sorted:mg "sorted" = none
def Purse (H:Hp) (d:Addr):Prop:=∃ a b:Int,H d=some (.lst [.int a,.int b])∧0 ≤ b∧b < 2147483648
def But (d:Addr) (H H' : Hp):Prop:=∀ c o,H c=some o→c ≠ d→H' c=some o
theorem But.refl (d:Addr) (H:Hp):But d H H:=fun _ _ e _ => e
theorem But.trans {d:Addr} {H H1 H2:Hp} (a:But d H H1) (b:But d H1 H2):But d H H2:=fun c o e n => b c o (a c o e n) n
theorem But.upd {d:Addr} {H H' : Hp} {o:HO} (a:But d H H'):But d H (upd H' d o):=fun c u e n => by rw [upd_ne n]; exact a c u e n
theorem But.new {d p:Addr} {H H' : Hp} {o:HO} (a:But d H H') (h:H' p=none):But d H (L2.upd H' p o):=fun c u e n => by
 have:=a c u e n
 rw [upd_ne (ne_of_none this h)]; exact this
theorem Purse.new {d p:Addr} {H:Hp} {o:HO} (a:Purse H d) (h:H p=none):Purse (L2.upd H p o) d:=by
 obtain ⟨x,y,e,r⟩:=a
 exact ⟨x,y,by rw [upd_ne (ne_of_none e h)]; exact e,r⟩
theorem Same.but {d:Addr} {H0 H H' : Hp} (s:Same H0 H) (f:H0 d=none) (e:But d H H'):Same H0 H':=fun b o q => e b o (s b o q) (fun z => by rw [z,f] at q; cases q)
theorem Same.new {p:Addr} {H H' : Hp} {o:HO} (a:Same H H') (h:H' p=none):Same H (L2.upd H' p o):=fun c u e => by
 have:=a c u e
 rw [upd_ne (ne_of_none this h)]; exact this
theorem log_ok {m:Int} (h0:0 < m) (h:m < 10 ^ 100):m.natAbs.log2 < 9000:=by
 have h2:m.natAbs < 2 ^ 400:=by
  have:(10:Int) ^ 100 ≤ 2 ^ 400:=by decide +kernel
  omega
 have:=(Nat.log2_lt (n:=m.natAbs) (k:=400) (by omega)).mpr h2
 omega
theorem bits_ok {m:Int} (h0:0 < m) (h:m < 10 ^ 100):((Builtin.Int.intBits m:Nat):Int) ≤ 400:=by
 have h2:m.natAbs < 2 ^ 400:=by
  have:(10:Int) ^ 100 ≤ 2 ^ 400:=by decide +kernel
  omega
 have:=(Nat.log2_lt (n:=m.natAbs) (k:=400) (by omega)).mpr h2
 have hne:(m == 0)=false:=by simp; omega
 unfold Builtin.Int.intBits
 simp only [hne]
 simp
 omega
section
variable {P:Program} {w:World} {K:PySem.W.Frag} {mg:Str→Option Value} {base:Heap}
abbrev s__law_cell_at:Stmt:=top 16
theorem sc__law_cell_at:FnScope ["_law_script", "_law_k"] ["_law_script", "_law_k"] (defScope s__law_cell_at):=⟨rfl,rfl,rfl,by decide +kernel,rfl,by decide +kernel,by decide +kernel⟩
def spCell (K:PySem.W.Frag):Sp:=fun vs H Q _ => ∃ (a:Addr) (ns:List Int) (k:Int),vs=[.ref a,.int k]∧SqL K H a (ns.map V.int)∧0 ≤ k∧∀ n:Int,Q (.int n) H
theorem ok_cell {f:Addr} {fd:FuncData} (F:Fun K "_law_cell_at" "_law_cell_at" s__law_cell_at f fd) (M:Txt mg):FnOk P w K mg base CX0 1 f fd ["_law_script", "_law_k"] (spCell K):=by
 have sc:=sc__law_cell_at
 refine F.ok sc (fun vs H Q E h => ?_) (fun cdv A outer s H vs Q E hr h => ?_)
 ·obtain ⟨a,ns,k,rfl,_⟩:=h
  rfl
 ·obtain ⟨a,ns,i,rfl,hS,h0,k⟩:=h
  refine ⟨_,(pss_cons (ps_if (pt_cmpR op_lt (pv 1) (pe_callB (call_lenK (K:=K)) (by rfl) M.len PySem.boot_len (pa_Name (pv 0) pa_nil)) (nomark _)) (pss_one (ps_ret (pe_ix (ix_listK (K:=K)) (pv 0) (pv 1) (fun _ _ => rfl)))) pss_nil)
   (pss_one (ps_ret pe_int))),?_⟩
  refine ⟨_,rfl,_,rfl,a,_,rfl,.inl hS,_,_,rfl,rfl,_,rfl,?_⟩
  refine ite2 (fun e => ?_) (fun e => ?_)
  ·have e:=of_decide_eq_true e
   rw [List.length_map] at e
   have hlt:i.toNat < ns.length:=by omega
   refine ⟨_,rfl,_,rfl,a,_,_,V.int (ns[i.toNat]),rfl,rfl,hS,?_,k _⟩
   have:=atI_nat (xs:=ns.map V.int) (j:=i.toNat) (v:=V.int (ns[i.toNat])) (by rw [List.getElem?_map,List.getElem?_eq_getElem hlt]; rfl)
   rw [Int.toNat_of_nonneg h0] at this
   exact this
  ·exact k 0
abbrev s__law_purse:Stmt:=top 17
theorem sc__law_purse:FnScope ["_law_script", "_law_at", "_law_cell", "_law_seed", "_law_k"] ["_law_script", "_law_at"] (defScope s__law_purse):=⟨rfl,rfl,rfl,by decide +kernel,rfl,by decide +kernel,by decide +kernel⟩
def spPurse (K:PySem.W.Frag):Sp:=fun vs H Q _ => ∃ (a:Addr) (ns:List Int) (k:Int),vs=[.ref a,.int k]∧SqL K H a (ns.map V.int)∧0 ≤ k∧k ≤ 1000∧∀ (d:Addr) (H' : Hp),H d=none→Purse H' d→Same H H'→Q (.ref d) H'
theorem ok_purse {f:Addr} {fd:FuncData} (F:Fun K "_law_purse" "_law_purse" s__law_purse f fd) (M:Txt mg) (G_law_cell_at:Kn P w K mg base "_law_cell_at" 1 ["_law_script", "_law_k"] (spCell K)):FnOk P w K mg base CX0 2 f fd ["_law_script", "_law_at"] (spPurse K):=by
 have sc:=sc__law_purse
 refine F.ok sc (fun vs H Q E h => ?_) (fun cdv A outer s H vs Q E hr h => ?_)
 ·obtain ⟨a,ns,k,rfl,_⟩:=h
  rfl
 ·obtain ⟨a,ns,i,rfl,hS,h0,h1,k⟩:=h
  refine ⟨_,(pss_cons (ps_set (i:=2) sc.nd rfl (Or.inl rfl) (pe_callD G_law_cell_at hr rfl (pa_Name (pv 0) (pa_Name (pv 1) pa_nil))))
   (pss_cons (ps_if (pt_cmpR op_ge (pv 2) (pe_op op_pow pe_int pe_int) (nomark _)) (pss_one (ps_ret (pe_lst (pa_o2 (pv 2) pe_int pa_nil)))) pss_nil)
   (pss_cons (ps_set (i:=3) sc.nd rfl (Or.inl rfl) (pe_op op_add (pe_op op_mul pe_int (pv 1)) pe_int))
   (pss_cons (ps_for PassesOwn.never rfl (pi_range1 rfl M.range (pa_Constant pe_int pa_nil)) (pg_name (i:=4) sc.nd rfl (Or.inl rfl))
   (pss_cons (ps_set (i:=3) sc.nd rfl (Or.inl rfl) (pe_op op_add (pe_op op_add (pe_op op_mul (pv 3) pe_int) (pe_op op_mod (pe_callD G_law_cell_at hr rfl (pa_Name (pv 0) (pa_BinOp (pe_op op_add (pv 1) (pv 4)) pa_nil))) pe_int)) (pe_op op_mul pe_int (pv 4))))
   (pss_one (ps_set (i:=3) sc.nd rfl (Or.inl rfl) (pe_op op_mod (pv 3) pe_int)))))
   (pss_one (ps_ret (pe_lst (pa_o2 pe_int (pe_op op_add (pv 3) pe_int) pa_nil)))))))),?_⟩
  refine ⟨_,rfl,_,rfl,a,ns,i,rfl,hS,h0,fun cell => ?_⟩
  refine ⟨_,rfl,_,_,rfl,rfl,⟨by decide,by decide,by decide⟩,_,_,rfl,rfl,_,rfl,?_⟩
  refine ite2 (fun e => ?_) (fun e => ?_)
  ·refine ⟨_,rfl,(by show 2 ≤ sizeLine; decide),fun d hd => ?_⟩
   exact k d _ hd ⟨_,_,upd_same,by decide,by decide⟩ (Same.new (Same.refl _) hd)
  ·refine ⟨_,rfl,_,_,rfl,rfl,.inl ⟨by decide,by decide⟩,_,_,rfl,rfl,?_⟩
   refine ⟨9,rfl,by decide,by decide,for_range (n:=9) (fun j σ H' => ∃ (c kk:Option V) (seed:Int),σ=[some (.ref a),some (.int i),c,some (.int seed),kk]∧0 ≤ seed∧seed < 2147483629∧H' = H) ⟨_,_,_,rfl,by omega,by omega,rfl⟩ ?_ ?_⟩
   ·rintro j σ H' hj ⟨c,kk,seed,rfl,hs0,hs1,rfl⟩
    refine ⟨_,rfl,_,_,rfl,rfl,.inl ⟨by omega,by omega⟩,?_⟩
    refine ⟨_,rfl,_,rfl,_,rfl,_,_,rfl,rfl,a,ns,_,rfl,hS,by omega,fun cell' => ?_⟩
    refine ⟨_,_,rfl,rfl,(by show (0:Int) < 2147483647; decide),_,_,rfl,rfl,_,rfl,_,_,rfl,rfl,.inl ⟨by decide,by decide⟩,_,_,rfl,rfl,?_⟩
    refine ⟨_,rfl,_,_,rfl,rfl,(by show (0:Int) < 2147483629; decide),?_⟩
    exact ⟨_,_,_,rfl,Int.emod_nonneg _ (by decide),Int.emod_lt_of_pos _ (by decide),rfl⟩
   ·rintro σ H' ⟨c,kk,seed,rfl,hs0,hs1,rfl⟩
    refine ⟨_,rfl,_,_,rfl,rfl,(by show 2 ≤ sizeLine; decide),fun d hd => ?_⟩
    exact k d _ hd ⟨_,_,upd_same,by omega,by omega⟩ (Same.new (Same.refl _) hd)
abbrev s__law_take:Stmt:=top 18
theorem sc__law_take:FnScope ["_law_draw", "_law_many_here", "_law_digit", "_law_found", "_law_k"] ["_law_draw", "_law_many_here"] (defScope s__law_take):=⟨rfl,rfl,rfl,by decide +kernel,rfl,by decide +kernel,by decide +kernel⟩
def spTake:Sp:=fun vs H Q _ => ∃ (d:Addr) (m:Int),vs=[.ref d,.int m]∧Purse H d∧0 < m∧m < 10 ^ 100∧∀ (r:Int) (H' : Hp),0 ≤ r→r < m→Purse H' d→But d H H'→Q (.int r) H'
theorem ok_take {f:Addr} {fd:FuncData} (F:Fun K "_law_take" "_law_take" s__law_take f fd) (M:Txt mg):FnOk P w K mg base CX0 1 f fd ["_law_draw", "_law_many_here"] spTake:=by
 have sc:=sc__law_take
 refine F.ok sc (fun vs H Q E h => ?_) (fun cdv A outer s H vs Q E hr h => ?_)
 ·obtain ⟨a,k,rfl,_⟩:=h
  rfl
 ·obtain ⟨d,m,rfl,⟨a,b,hd,hb0,hb1⟩,hm0,hm1,k⟩:=h
  have hlog:=log_ok hm0 hm1
  have hbits:=bits_ok hm0 hm1
  refine ⟨_,(pss_cons (ps_if (pt_cmpR op_eq (pe_ix (ix_listK (K:=K)) (pv 0) pe_int (fun _ _ => rfl)) pe_int (nomark _)) (pss_cons (ps_set (i:=2) sc.nd rfl (Or.inl rfl) (pe_op op_mod (pe_ix (ix_listK (K:=K)) (pv 0) pe_int (fun _ _ => rfl)) (pv 1)))
   (pss_cons (ps_asg (pe_op op_fdivL (pe_ix (ix_listK (K:=K)) (pv 0) pe_int (fun _ _ => rfl)) (pv 1)) (pg_sub (pv 0) pe_int set_list))
   (pss_one (ps_ret (pv 2))))) pss_nil)
   (pss_cons (ps_set (i:=3) sc.nd rfl (Or.inl rfl) pe_int)
   (pss_cons (ps_for PassesOwn.never rfl (pi_range1 rfl M.range (pa_BinOp (pe_op op_add pe_int (pe_op op_fdivL (pe_bm0 PySem.F.plainAttrs_int PySem.F.slot_int_bit_length PySem.F.type_int_bit_length mt_bits (pv 1)) pe_int)) pa_nil)) (pg_name (i:=4) sc.nd rfl (Or.inl rfl))
   (pss_cons (ps_asg (pe_op op_mod (pe_op op_mul (pe_ix (ix_listK (K:=K)) (pv 0) pe_int (fun _ _ => rfl)) pe_int) pe_int) (pg_sub (pv 0) pe_int set_list))
   (pss_one (ps_set (i:=3) sc.nd rfl (Or.inl rfl) (pe_op op_add (pe_op op_mul (pv 3) pe_int) (pe_op op_mod (pe_op op_mul (pe_ix (ix_listK (K:=K)) (pv 0) pe_int (fun _ _ => rfl)) (pe_ix (ix_listK (K:=K)) (pv 0) pe_int (fun _ _ => rfl))) pe_int))))))
   (pss_one (ps_ret (pe_op op_mod (pe_op op_fdivL (pv 3) pe_int) (pv 1))))))),?_⟩
  refine ⟨_,rfl,d,_,_,_,rfl,rfl,SqL.of hd,rfl,rfl,_,rfl,?_⟩
  refine ite2 (fun e => ?_) (fun e => ?_)
  ·refine ⟨_,rfl,d,_,_,_,rfl,rfl,SqL.of hd,rfl,_,rfl,_,_,rfl,rfl,hm0,?_⟩
   refine ⟨_,rfl,d,_,_,_,rfl,rfl,SqL.of hd,rfl,_,rfl,_,_,rfl,rfl,⟨hm0,hlog⟩,_,rfl,d,_,_,_,rfl,rfl,hd,rfl,?_⟩
   refine ⟨_,rfl,?_⟩
   exact k _ _ (Int.emod_nonneg _ (by omega)) (Int.emod_lt_of_pos _ hm0) ⟨_,_,upd_same,hb0,hb1⟩ (But.upd (But.refl _ _))
  ·refine ⟨_,rfl,rfl,_,rfl,rfl,_,_,rfl,rfl,⟨by decide,by decide⟩,_,_,rfl,rfl,?_⟩
   refine ⟨_,rfl,by omega,by omega,for_range (fun j σ H' => ∃ (c kk:Option V) (found b' : Int),σ=[some (.ref d),some (.int m),c,some (.int found),kk]∧H' d=some (.lst [.int a,.int b'])∧0 ≤ b'∧b' < 2147483648∧But d H H') ⟨_,_,_,b,rfl,hd,hb0,hb1,But.refl _ _⟩ ?_ ?_⟩
   ·rintro j σ H' hj ⟨c,kk,found,b',rfl,hd',hb0',hb1',bt⟩
    refine ⟨_,rfl,d,_,_,_,rfl,rfl,SqL.of hd',rfl,_,_,rfl,rfl,.inl ⟨by omega,by omega⟩,_,_,rfl,rfl,(by show (0:Int) < 2147483647; decide),_,rfl,d,_,_,_,rfl,rfl,hd',rfl,?_⟩
    have z0:0 ≤ b' * 48271 % 2147483647:=Int.emod_nonneg _ (by decide)
    have z1:b' * 48271 % 2147483647 < 2147483647:=Int.emod_lt_of_pos _ (by decide)
    refine ⟨_,rfl,_,_,rfl,rfl,.inr ⟨by decide,by decide⟩,?_⟩
    refine ⟨_,rfl,d,_,_,_,rfl,rfl,SqL.of upd_same,rfl,_,rfl,d,_,_,_,rfl,rfl,SqL.of upd_same,rfl,_,_,rfl,rfl,.inl ⟨by omega,by omega⟩,_,_,rfl,rfl,(by show (0:Int) < 2147483629; decide),_,_,rfl,rfl,?_⟩
    exact ⟨_,_,_,_,rfl,upd_same,z0,by omega,But.upd bt⟩
   ·rintro σ H' ⟨c,kk,found,b',rfl,hd',hb0',hb1',bt⟩
    refine ⟨_,rfl,_,_,rfl,rfl,⟨by decide,by decide⟩,_,rfl,_,_,rfl,rfl,hm0,?_⟩
    exact k _ _ (Int.emod_nonneg _ (by omega)) (Int.emod_lt_of_pos _ hm0) ⟨_,_,hd',hb0',hb1'⟩ bt
end
end Toy
namespace Toy
open PySem L2 PyProof.Rows
theorem Purse.ne {H:Hp} {d p:Addr} (P:Purse H d) (h:H p=none):p ≠ d:=by
 obtain ⟨x,y,e,_⟩:=P
 exact (ne_of_none e h).symm
theorem But.free {d p:Addr} {H H' : Hp} (e:But d H H') (hP:Purse H' d) (h:H' p=none):H p=none:=by
 cases z:H p with
 | none => rfl
 | some o =>
  by_cases q:p=d
  ·subst q
   obtain ⟨x,y,e',_⟩:=hP
   rw [h] at e'; cases e'
  ·rw [e p o z q] at h; cases h
theorem But.tups {d:Addr} {H H' : Hp} (B:But d H H') (P:Purse H d):Tups H H':=fun b ys e => B b _ e (fun z => by
 obtain ⟨x,y,e',_⟩:=P
 rw [z,e'] at e; cases e)
theorem But.own {d p:Addr} {H H' : Hp} {o:HO} (B:But d H H') (h:H p=none):But d H (L2.upd H' p o):=fun c u e n => by
 rw [upd_ne (ne_of_none e h)]; exact B c u e n
theorem Purse.own {d p:Addr} {H:Hp} {o:HO} (P:Purse H d) (h:p ≠ d):Purse (L2.upd H p o) d:=by
 obtain ⟨x,y,e,r⟩:=P
 exact ⟨x,y,by rw [upd_ne (Ne.symm h)]; exact e,r⟩
theorem But.same {d:Addr} {H H1 H2:Hp} (B:But d H H1) (s:Same H1 H2):But d H H2:=fun c o e n => s c o (B c o e n)
theorem Same.purse {d:Addr} {H H' : Hp} (s:Same H H') (P:Purse H d):Purse H' d:=by
 obtain ⟨x,y,e,r⟩:=P
 exact ⟨x,y,s _ _ e,r⟩
section
variable {P:Program} {w:World} {K:PySem.W.Frag} {mg:Str→Option Value} {base:Heap}
abbrev s__law_number:Stmt:=top 19
theorem sc__law_number:FnScope ["_law_draw", "_law_way", "_law_figure"] ["_law_draw"] (defScope s__law_number):=⟨rfl,rfl,rfl,by decide +kernel,rfl,by decide +kernel,by decide +kernel⟩
def spNumber:Sp:=fun vs H Q _ => ∃ (d:Addr),vs=[.ref d]∧Purse H d∧∀ (r:Int) (H' : Hp),-(10 ^ 62) < r→r < 10 ^ 62→Purse H' d→But d H H'→Q (.int r) H'
theorem ok_number {f:Addr} {fd:FuncData} (F:Fun K "_law_number" "_law_number" s__law_number f fd) (M:Txt mg) (G_law_take:Kn P w K mg base "_law_take" 1 ["_law_draw", "_law_many_here"] spTake):FnOk P w K mg base CX0 2 f fd ["_law_draw"] spNumber:=by
 have sc:=sc__law_number
 refine F.ok sc (fun vs H Q E h => ?_) (fun cdv A outer s H vs Q E hr h => ?_)
 ·obtain ⟨d,rfl,_⟩:=h
  rfl
 ·obtain ⟨d,rfl,hP,k⟩:=h
  refine ⟨_,(pss_cons (ps_set (i:=1) sc.nd rfl (Or.inl rfl) (pe_callD G_law_take hr rfl (pa_Name (pv 0) (pa_Constant pe_int pa_nil))))
   (pss_cons (ps_if (pt_cmpR op_lt (pv 1) pe_int (nomark _)) (pss_one (ps_ret (pe_op op_sub (pe_callD G_law_take hr rfl (pa_Name (pv 0) (pa_Constant pe_int pa_nil))) pe_int))) pss_nil)
   (pss_cons (ps_set (i:=2) sc.nd rfl (Or.inl rfl) (pe_callD G_law_take hr rfl (pa_Name (pv 0) (pa_Subscript (pe_ix (ix_listK (K:=K)) (pe_lst (pa_o3 (pe_op op_pow pe_int pe_int) (pe_op op_pow pe_int pe_int) (pe_op op_pow pe_int pe_int) pa_nil)) (pe_op op_sub (pv 1) pe_int) (fun _ _ => rfl)) pa_nil))))
   (pss_one (ps_ret (pe_op op_mul (pv 2) (pe_op op_sub pe_int (pe_op op_mul pe_int (pe_callD G_law_take hr rfl (pa_Name (pv 0) (pa_Constant pe_int pa_nil))))))))))),?_⟩
  refine ⟨_,rfl,d,8,rfl,hP,by decide,by decide,fun way H1 w0 w1 P1 B1 => ?_⟩
  refine ⟨_,rfl,_,_,rfl,rfl,_,rfl,ite2 (fun e => ?_) (fun e => ?_)⟩
  ·refine ⟨_,rfl,d,9,rfl,P1,by decide,by decide,fun r H2 r0 r1 P2 B2 => ⟨_,_,rfl,rfl,?_⟩⟩
   exact k _ H2 (by omega) (by omega) P2 (B1.trans B2)
  ·have e:=of_decide_eq_false (Bool.eq_false_iff.mpr e)
   refine ⟨_,rfl,_,_,rfl,rfl,⟨by decide,by decide,by decide⟩,_,_,rfl,rfl,⟨by decide,by decide,by decide⟩,_,_,rfl,rfl,⟨by decide,by decide,by decide⟩,(by show 3 ≤ sizeLine; decide),fun l hl => ?_⟩
   have hc:way=5 ∨ way=6 ∨ way=7:=by omega
   rcases hc with rfl | rfl | rfl
   all_goals
    refine ⟨_,rfl,_,_,rfl,rfl,l,_,_,_,rfl,rfl,SqL.of upd_same,rfl,?_⟩
    refine ⟨d,_,rfl,P1.new hl,by decide,by decide,fun r H2 r0 r1 P2 B2 => ?_⟩
    refine ⟨_,rfl,_,rfl,d,2,rfl,P2,by decide,by decide,fun b H3 b0 b1 P3 B3 => ?_⟩
    refine ⟨_,_,rfl,rfl,.inl ⟨by decide,by decide⟩,_,_,rfl,rfl,_,_,rfl,rfl,.inr ⟨by omega,by omega⟩,?_⟩
    have r1' : r < 10 ^ 62:=Int.lt_of_lt_of_le r1 (by decide)
    have hb:b=0 ∨ b=1:=by omega
    rcases hb with rfl | rfl
    ·exact k _ H3 (by omega) (by omega) P3 (((B1.new hl).trans B2).trans B3)
    ·exact k _ H3 (by omega) (by omega) P3 (((B1.new hl).trans B2).trans B3)
abbrev s__law_weights:Stmt:=top 20
theorem sc__law_weights:FnScope ["_law_draw", "_law_wide_here"] ["_law_draw", "_law_wide_here"] (defScope s__law_weights):=⟨rfl,rfl,rfl,by decide +kernel,rfl,by decide +kernel,by decide +kernel⟩
def WdOk (wd:Int) (ns:List Int):Prop:=ns.length=wd.toNat∧∀ z ∈ ns,-(10 ^ 62) < z∧z < 10 ^ 62
def spWeights:Sp:=fun vs H Q _ => ∃ (d:Addr) (wd:Int),vs=[.ref d,.int wd]∧Purse H d∧1 ≤ wd∧wd ≤ 24∧∀ (p:Addr) (ns:List Int) (H' : Hp),H p=none→H' p=some (.tup (ns.map V.int))→WdOk wd ns→Purse H' d→But d H H'→Q (.ref p) H'
theorem ok_weights {f:Addr} {fd:FuncData} (F:Fun K "_law_weights" "_law_weights" s__law_weights f fd) (M:Txt mg) (G_law_number:Kn P w K mg base "_law_number" 2 ["_law_draw"] spNumber):FnOk P w K mg base CX0 3 f fd ["_law_draw", "_law_wide_here"] spWeights:=by
 have sc:=sc__law_weights
 refine F.ok sc (fun vs H Q E h => ?_) (fun cdv A outer s H vs Q E hr h => ?_)
 ·obtain ⟨d,wd,rfl,_⟩:=h
  rfl
 ·obtain ⟨d,wd,rfl,hP,w1,w2,k⟩:=h
  refine ⟨_,(pss_one (ps_ret (pe_callTy call_tuple_of (by rfl) M.tuple boot_tuple (pa_cons (pe_compG (xs:=["_law_k"]) (Nb:=["_law_draw", "_law_wide_here"]) rfl (pi_range1 rfl M.range (pa_Name (pv 1) pa_nil)) rfl (by show ∀ p ∈ (List.zip ["_law_draw", "_law_wide_here"] ["_law_draw", "_law_wide_here"]:List (Str × Str)),_; decide +kernel) (by decide +kernel) (fun cl C s₂ H₂ fp => (pg_name (i:=0) (by show List.Nodup (["_law_k", "_law_draw", "_law_wide_here"]:List Str); decide +kernel) rfl (Or.inl (lookup_relabel_local rfl)) (Or.inr (lookup_relabel_local rfl)))) (fun cl C s₂ H₂ fp => pif_nil) (fun cl C s₂ H₂ fp => (pe_callD G_law_number hr rfl (pa_Name (pv 1) pa_nil))) (by decide +kernel) rfl (by decide +kernel) (by show ∀ y ∈ (_:List (Str × NameKind)),y.2=NameKind.free→(defScope s__law_weights).names.lookup y.1=some .cell; decide +kernel)) pa_nil)))),?_⟩
  refine ⟨_,rfl,_,rfl,by omega,by omega,compR (fun i ys H' => (∃ ns:List Int,ys=ns.map V.int∧ns.length=i∧∀ z ∈ ns,-(10 ^ 62) < z∧z < 10 ^ 62)∧Purse H' d∧But d H H') ⟨⟨[],rfl,rfl,fun z hz => by simp at hz⟩,hP,But.refl _ _⟩ (by omega) (fun i ys H' h => by obtain ⟨⟨ns,rfl,e,_⟩,_⟩:=h; rw [List.length_map,e]; exact Nat.le_refl _) ?_ ?_⟩
  ·rintro i ys H' pre hp hi ⟨⟨ns,rfl,e,hbd⟩,P1,B1⟩
   rcases pre with _ | ⟨p0,_ | ⟨p1,pre⟩⟩
   ·cases hp
   ·refine ⟨⟨[some _],rfl,rfl⟩,?_⟩
    unfold tYes
    dsimp only
    rw [if_pos (rfl:true=true)]
    refine ⟨_,rfl,d,rfl,P1,fun r H2 r0 r1 P2 B2 => ?_⟩
    exact ⟨⟨ns ++ [r],by rw [List.map_append]; rfl,by rw [List.length_append,e]; rfl,fun z hz => by
     rcases List.mem_append.mp hz with q | q
     ·exact hbd z q
     ·rw [List.mem_singleton.mp q]; exact ⟨r0,r1⟩⟩,P2,B1.trans B2⟩
   ·cases hp
  ·rintro ys H' ⟨⟨ns,rfl,e,hbd⟩,P1,B1⟩ D hD
   refine ⟨D,_,rfl,.inl ⟨SqL.of upd_same,fun l hl => ?_⟩⟩
   have B2:=B1.new (o:=.lst (ns.map V.int)) hD
   have P2:=P1.new (o:=.lst (ns.map V.int)) hD
   exact k l ns _ (B2.free P2 hl) upd_same ⟨e,hbd⟩ (P2.new hl) (B2.new hl)
abbrev s__law_many:Stmt:=top 21
theorem sc__law_many:FnScope ["_law_draw"] ["_law_draw"] (defScope s__law_many):=⟨rfl,rfl,rfl,by decide +kernel,rfl,by decide +kernel,by decide +kernel⟩
def spMany:Sp:=fun vs H Q _ => ∃ (d:Addr),vs=[.ref d]∧Purse H d∧∀ (r:Int) (H' : Hp),1 ≤ r→r ≤ 10 ^ 59→Purse H' d→But d H H'→Q (.int r) H'
theorem ok_many {f:Addr} {fd:FuncData} (F:Fun K "_law_many" "_law_many" s__law_many f fd) (M:Txt mg) (G_law_take:Kn P w K mg base "_law_take" 1 ["_law_draw", "_law_many_here"] spTake):FnOk P w K mg base CX0 2 f fd ["_law_draw"] spMany:=by
 have sc:=sc__law_many
 refine F.ok sc (fun vs H Q E h => ?_) (fun cdv A outer s H vs Q E hr h => ?_)
 ·obtain ⟨d,rfl,_⟩:=h
  rfl
 ·obtain ⟨d,rfl,hP,k⟩:=h
  refine ⟨_,(pss_one (ps_ret (pe_op op_add pe_int (pe_callD G_law_take hr rfl (pa_Name (pv 0) (pa_Subscript (pe_ix (ix_listK (K:=K)) (pe_lst (pa_o4 pe_int pe_int pe_int (pe_op op_pow pe_int pe_int) (pa_o2 (pe_op op_pow pe_int pe_int) (pe_op op_pow pe_int pe_int) pa_nil))) (pe_callD G_law_take hr rfl (pa_Name (pv 0) (pa_Constant pe_int pa_nil))) (fun _ _ => rfl)) pa_nil)))))),?_⟩
  refine ⟨_,rfl,_,_,rfl,rfl,⟨by decide,by decide,by decide⟩,_,_,rfl,rfl,⟨by decide,by decide,by decide⟩,_,_,rfl,rfl,⟨by decide,by decide,by decide⟩,(by show 6 ≤ sizeLine; decide),fun l hl => ?_⟩
  have nl:=hP.ne hl
  refine ⟨_,rfl,d,6,rfl,hP.new hl,by decide,by decide,fun r H1 r0 r1 P1 B1 => ?_⟩
  have hl1:=B1 l _ upd_same nl
  have B2:But d H H1:=(But.new (But.refl d H) hl).trans B1
  have hc:r=0 ∨ r=1 ∨ r=2 ∨ r=3 ∨ r=4 ∨ r=5:=by omega
  rcases hc with rfl | rfl | rfl | rfl | rfl | rfl
  all_goals
   refine ⟨l,_,_,_,rfl,rfl,SqL.of hl1,rfl,?_⟩
   refine ⟨d,_,rfl,P1,by decide,by decide,fun r' H2 a0 a1 P2 B3 => ⟨_,_,rfl,rfl,?_⟩⟩
   have a1' : r' < 10 ^ 59:=Int.lt_of_lt_of_le a1 (by decide)
   exact k _ H2 (by omega) (by omega) P2 (B2.trans B3)
abbrev s__law_pieces:Stmt:=top 22
theorem sc__law_pieces:FnScope ["_law_draw", "_law_wide_here", "_law_most", "_law_pool", "_law_found", "_law_k", "_law_many_here"] ["_law_draw", "_law_wide_here", "_law_most"] (defScope s__law_pieces):=⟨rfl,rfl,rfl,by decide +kernel,rfl,by decide +kernel,by decide +kernel⟩
def Pieces (wd most:Int) (L:List (Int × List Int)):Prop:=L.length=most.toNat∧∀ e ∈ L,1 ≤ e.1∧e.1 ≤ 10 ^ 59∧WdOk wd e.2
def spPieces:Sp:=fun vs H Q _ => ∃ (d:Addr) (wd most:Int),vs=[.ref d,.int wd,.int most]∧Purse H d∧1 ≤ wd∧wd ≤ 24∧0 ≤ most∧most ≤ 1000∧∀ (a:Addr) (xs:List V) (L:List (Int × List Int)) (H' : Hp),H a=none→H' a=some (.lst xs)→Wg H' xs L→Pieces wd most L→Purse H' d→But d H H'→Q (.ref a) H'
theorem ok_pieces {f:Addr} {fd:FuncData} (F:Fun K "_law_pieces" "_law_pieces" s__law_pieces f fd) (M:Txt mg) (G_law_take:Kn P w K mg base "_law_take" 1 ["_law_draw", "_law_many_here"] spTake) (G_law_weights:Kn P w K mg base "_law_weights" 3 ["_law_draw", "_law_wide_here"] spWeights) (G_law_many:Kn P w K mg base "_law_many" 2 ["_law_draw"] spMany):FnOk P w K mg base CX0 4 f fd ["_law_draw", "_law_wide_here", "_law_most"] spPieces:=by
 have sc:=sc__law_pieces
 refine F.ok sc (fun vs H Q E h => ?_) (fun cdv A outer s H vs Q E hr h => ?_)
 ·obtain ⟨d,wd,most,rfl,_⟩:=h
  rfl
 ·obtain ⟨d,wd,most,rfl,hP,w1,w2,m0,m1,k⟩:=h
  refine ⟨_,(pss_cons (ps_compG (xs:=["_law_k"]) (Nb:=["_law_draw", "_law_wide_here", "_law_most", "_law_pool", "_law_found", "", "_law_many_here"]) (pg_name (i:=3) sc.nd rfl (Or.inl rfl)) rfl rfl (pi_range1 rfl M.range (pa_BinOp (pe_op op_add pe_int (pe_callD G_law_take hr rfl (pa_Name (pv 0) (pa_Constant pe_int pa_nil)))) pa_nil)) rfl (by show ∀ p ∈ (List.zip ["_law_draw", "_law_wide_here", "_law_most", "_law_pool", "_law_found", "", "_law_many_here"] ["_law_draw", "_law_wide_here", "_law_most", "_law_pool", "_law_found", "_law_k", "_law_many_here"]:List (Str × Str)),_; decide +kernel) (by decide +kernel) (fun cl C s₂ H₂ fp => (pg_name (i:=0) (by show List.Nodup (["_law_k", "_law_draw", "_law_wide_here", "_law_most", "_law_pool", "_law_found", "", "_law_many_here"]:List Str); decide +kernel) rfl (Or.inl (lookup_relabel_local rfl)) (Or.inr (lookup_relabel_local rfl)))) (fun cl C s₂ H₂ fp => pif_nil) (fun cl C s₂ H₂ fp => (pe_callD G_law_weights hr rfl (pa_Name (pv 1) (pa_Name (pv 2) pa_nil)))) (by decide +kernel) rfl (by decide +kernel) (by show ∀ y ∈ (_:List (Str × NameKind)),y.2=NameKind.free→(defScope s__law_pieces).names.lookup y.1=some .cell; decide +kernel))
   (pss_cons (ps_set (i:=4) sc.nd rfl (Or.inl rfl) (pe_lst pa_nil))
   (pss_cons (ps_for PassesOwn.never rfl (pi_range1 rfl M.range (pa_Name (pv 2) pa_nil)) (pg_name (i:=5) sc.nd rfl (Or.inl rfl))
   (pss_cons (ps_set (i:=6) sc.nd rfl (Or.inl rfl) (pe_callD G_law_many hr rfl (pa_Name (pv 0) pa_nil)))
   (pss_one (ps_expr (pe_bm PySem.F.plainAttrs_list PySem.F.slot_list_append PySem.F.type_list_append mt_append (pv 4) (pa_Tuple (pe_tup (pa_o2 (pv 6) (pe_ix (ix_listK (K:=K)) (pv 3) (pe_callD G_law_take hr rfl (pa_Name (pv 0) (pa_Call (pe_callB (call_lenK (K:=K)) (by rfl) M.len PySem.boot_len (pa_Name (pv 3) pa_nil)) pa_nil))) (fun _ _ => rfl)) pa_nil)) pa_nil))))))
   (pss_one (ps_ret (pv 4)))))),?_⟩
  refine ⟨_,rfl,d,4,rfl,hP,by decide,by decide,fun r H1 r0 r1 P1 B1 => ⟨_,_,rfl,rfl,?_⟩⟩
  refine ⟨_,rfl,by omega,by omega,compR (fun i ys H' => ys.length=i∧(∀ y ∈ ys,∃ (q:Addr) (ns:List Int),y=V.ref q∧H' q=some (.tup (ns.map V.int))∧WdOk wd ns)∧Purse H' d∧But d H H') ⟨rfl,fun y hy => by simp at hy,P1,B1⟩ (by omega) (fun i ys H' h => Nat.le_of_eq h.1) ?_ ?_⟩
  ·rintro i ys H' pre hp hi ⟨e,hy,P2,B2⟩
   rcases pre with _ | ⟨p0,_ | ⟨p1,pre⟩⟩
   ·cases hp
   ·refine ⟨⟨[some _],rfl,rfl⟩,?_⟩
    unfold tYes
    dsimp only
    rw [if_pos (rfl:true=true)]
    refine ⟨_,rfl,_,rfl,d,wd,rfl,P2,w1,w2,fun q ns H3 f3 h3 l3 P3 B3 => ?_⟩
    refine ⟨by rw [List.length_append,e]; rfl,fun y hm => ?_,P3,B2.trans B3⟩
    rcases List.mem_append.mp hm with z | z
    ·obtain ⟨q',ns',rfl,t',l'⟩:=hy y z
     exact ⟨q',ns',rfl,B3.tups P2 _ _ t',l'⟩
    ·rw [List.mem_singleton] at z
     subst z
     exact ⟨q,ns,rfl,h3,l3⟩
   ·cases hp
  ·rintro ys H2 ⟨e,hy,P2,B2⟩ D hD
   have P3:=P2.new (o:=.lst ys) hD
   have B3:=B2.new (o:=.lst ys) hD
   have fD:=B2.free P2 hD
   refine ⟨(by show 0 ≤ sizeLine; decide),fun b hb => ?_⟩
   have P4:=P3.new (o:=.lst []) hb
   have B4:=B3.new (o:=.lst []) hb
   have fb:=B3.free P3 hb
   have nbD:b ≠ D:=fun z => by rw [z,upd_same] at hb; cases hb
   have nDd:=P2.ne hD
   have nbd:=P3.ne hb
   have T4:Tups H2 (upd (upd H2 D (.lst ys)) b (.lst [])):=((Tups.refl H2).new hD).new hb
   refine ⟨_,rfl,_,rfl,by omega,by omega,for_range (n:=most.toNat) (fun i σ H' => ∃ (kk mm:Option V) (xs:List V) (L:List (Int × List Int)),σ=[some (.ref d),some (.int wd),some (.int most),some (.ref D),some (.ref b),kk,mm]∧H' b=some (.lst xs)∧H' D=some (.lst ys)∧Tups H2 H'∧Wg H' xs L∧L.length=i∧(∀ e ∈ L,1 ≤ e.1∧e.1 ≤ 10 ^ 59∧WdOk wd e.2)∧Purse H' d∧But d H H') ⟨_,_,[],[],rfl,upd_same,by rw [upd_ne (Ne.symm nbD)]; exact upd_same,T4,Wg.nil _,rfl,fun e he => by simp at he,P4,B4⟩ ?_ ?_⟩
   ·rintro i σ H5 hi ⟨kk,mm,xs,L,rfl,h5b,h5D,T5,g5,l5,q5,P5,B5⟩
    refine ⟨_,rfl,d,rfl,P5,fun mny H6 y0 y1 P6 B6 => ?_⟩
    have h6b:=B6 b _ h5b nbd
    have h6D:=B6 D _ h5D nDd
    refine ⟨_,rfl,.inl ⟨rfl,_,SqL.of h6b⟩,_,rfl,_,rfl,_,rfl,_,rfl,D,_,rfl,.inl (SqL.of h6D),d,_,rfl,P6,by omega,by omega,fun c H7 c0 c1 P7 B7 => ?_⟩
    have h7b:=B7 b _ h6b nbd
    have h7D:=B7 D _ h6D nDd
    have hc:c.toNat < ys.length:=by omega
    have T7:Tups H2 H7:=(T5.trans (B6.tups P5)).trans (B7.tups P6)
    obtain ⟨q,ns,eq,tq,lq⟩:=hy _ (List.getElem_mem hc)
    have tq7:=T7 _ _ tq
    refine ⟨D,_,_,V.ref q,rfl,rfl,SqL.of h7D,?_,(by show 2 ≤ sizeLine; decide),fun p hp => ?_⟩
    ·have:=atI_nat (xs:=ys) (j:=c.toNat) (v:=V.ref q) (by rw [List.getElem?_eq_getElem hc,eq])
     rw [Int.toNat_of_nonneg c0] at this
     exact this
    ·have npb:p ≠ b:=fun z => by rw [z,h7b] at hp; cases hp
     have h8b:(upd H7 p (.tup [.int mny,.ref q])) b=some (.lst xs):=by rw [upd_ne (Ne.symm npb)]; exact h7b
     have hxl:xs.length=i:=g5.1.trans l5
     refine ⟨b,xs,_,rfl,rfl,h8b,Nat.lt_of_le_of_lt (by omega:xs.length ≤ 1000) (by decide),?_⟩
     have P8:=P7.new (o:=.tup [.int mny,.ref q]) hp
     have B8:=((B5.trans B6).trans B7).new (o:=.tup [.int mny,.ref q]) hp
     have T8:Tups H7 (upd H7 p (.tup [.int mny,.ref q])):=(Tups.refl H7).new hp
     have T9:Tups (upd H7 p (.tup [.int mny,.ref q])) (upd (upd H7 p (.tup [.int mny,.ref q])) b (.lst (xs ++ [.ref p]))):=(Tups.refl _).lst h8b
     refine ⟨_,_,_,L ++ [(mny,ns)],rfl,upd_same,?_,(T7.trans T8).trans T9,?_,by rw [List.length_append,l5]; rfl,fun e he => ?_,P8.own nbd,B8.own fb⟩
     ·rw [upd_ne (Ne.symm nbD)]
      have:p ≠ D:=fun z => by rw [z,h7D] at hp; cases hp
      rw [upd_ne (Ne.symm this)]; exact h7D
     ·refine Wg.snoc (g5.up ((((B6.tups P5).trans (B7.tups P6)).trans T8).trans T9)) ⟨p,q,rfl,T9 _ _ upd_same,T9 _ _ (T8 _ _ tq7)⟩
     ·rcases List.mem_append.mp he with z | z
      ·exact q5 e z
      ·rw [List.mem_singleton] at z; subst z; exact ⟨y0,y1,lq⟩
   ·rintro σ H5 ⟨kk,mm,xs,L,rfl,h5b,h5D,T5,g5,l5,q5,P5,B5⟩
    exact ⟨_,rfl,k b xs L H5 fb h5b g5 ⟨l5,q5⟩ P5 B5⟩
end
end Toy
namespace Toy
open PySem L2 PyProof.Rows
theorem Same.own {p:Addr} {H H' : Hp} {o:HO} (a:Same H H') (h:H p=none):Same H (L2.upd H' p o):=fun c u e => by
 rw [upd_ne (ne_of_none e h)]; exact a c u e
theorem shStep_len (acc:List (Int × List Int)) (e:Int × List Int):(shStep acc e).length ≤ acc.length + 1:=by
 unfold shStep
 split
 ·split
  ·split
   ·rw [List.length_append,List.length_dropLast,List.length_singleton]; omega
   ·rw [List.length_append,List.length_singleton]; exact Nat.le_refl _
  ·rw [List.length_append,List.length_singleton]; exact Nat.le_refl _
 ·omega
theorem shape_len (L:List (Int × List Int)):(shape L).length ≤ L.length:=by
 have key:∀ (L acc:List (Int × List Int)),(L.foldl shStep acc).length ≤ acc.length + L.length:=by
  intro L
  induction L with
  | nil => intro acc; exact Nat.le_refl _
  | cons e L ih =>
   intro acc
   rw [List.foldl_cons,List.length_cons]
   have:=ih (shStep acc e)
   have:=shStep_len acc e
   omega
 have:=key L []
 unfold shape
 simpa using this
theorem shape_all {p:List Int→Prop} {L:List (Int × List Int)} (h:∀ e ∈ L,p e.2):∀ e ∈ shape L,p e.2:=by
 have key:∀ (L acc:List (Int × List Int)),(∀ e ∈ L,p e.2)→(∀ e ∈ acc,p e.2)→∀ e ∈ L.foldl shStep acc,p e.2:=by
  intro L
  induction L with
  | nil => intro acc _ h; exact h
  | cons x L ih =>
   intro acc hL ha
   rw [List.foldl_cons]
   refine ih _ (fun e he => hL e (List.mem_cons_of_mem _ he)) ?_
   have hx:=hL x List.mem_cons_self
   have snoc:∀ e ∈ acc ++ [x],p e.2:=fun e he => (List.mem_append.mp he).elim (ha e) fun z => by rw [List.mem_singleton] at z; subst z; exact hx
   unfold shStep
   split
   ·split
    ·split
     ·intro e he
      rcases List.mem_append.mp he with z | z
      ·exact ha e (List.dropLast_subset _ z)
      ·rw [List.mem_singleton] at z; subst z; exact hx
     ·exact snoc
    ·exact snoc
   ·exact ha
 exact key L [] h (fun e he => by simp at he)
section
variable {P:Program} {w:World} {K:PySem.W.Frag} {mg:Str→Option Value} {base:Heap}
abbrev s__law_shape:Stmt:=top 23
theorem sc__law_shape:FnScope ["_law_pieces_here", "_law_found", "_law_many_here", "_law_weights_here"] ["_law_pieces_here"] (defScope s__law_shape):=⟨rfl,rfl,rfl,by decide +kernel,rfl,by decide +kernel,by decide +kernel⟩
def spShape (K:PySem.W.Frag):Sp:=fun vs H Q _ => ∃ (a:Addr) (xs:List V) (L:List (Int × List Int)),vs=[.ref a]∧SqL K H a xs∧Wg H xs L∧L.length ≤ 1000∧∀ (b:Addr) (ys:List V) (H' : Hp),H b=none→H' b=some (.lst ys)→Wg H' ys (shape L)→Same H H'→Q (.ref b) H'
theorem ok_shape {f:Addr} {fd:FuncData} (F:Fun K "_law_shape" "_law_shape" s__law_shape f fd) (M:Txt mg):FnOk P w K mg base CX0 1 f fd ["_law_pieces_here"] (spShape K):=by
 have sc:=sc__law_shape
 refine F.ok sc (fun vs H Q E h => ?_) (fun cdv A outer s H vs Q E hr h => ?_)
 ·obtain ⟨a,xs,L,rfl,_⟩:=h
  rfl
 ·obtain ⟨a,xs,L,rfl,hS,g,hL,k⟩:=h
  refine ⟨_,(pss_cons (ps_set (i:=1) sc.nd rfl (Or.inl rfl) (pe_lst pa_nil))
   (pss_cons (ps_for PassesOwn.never rfl (pi_list (pv 0)) (pg_tup rfl (pgs_cons (pg_name (i:=2) sc.nd rfl (Or.inl rfl)) (pgs_cons (pg_name (i:=3) sc.nd rfl (Or.inl rfl)) pgs_nil)))
   (pss_one (ps_if (pt_cmpR op_gt (pv 2) pe_int (nomark _)) (pss_cons (ps_if (PW.pt (pw_and (pt_cmpR (op_neD hr) (pv 1) (pe_lst pa_nil) (nomark _)) (pw_and1 (pt_cmpR (op_eqD hr) (pe_ix (ix_tupK (K:=K)) (pe_ix (ix_listK (K:=K)) (pv 1) (pe_un un_neg pe_int) (fun _ _ => rfl)) pe_int (fun _ _ => rfl)) (pv 3) (nomark _))))) (pss_one (ps_set (i:=2) sc.nd rfl (Or.inl rfl) (pe_op op_add (pv 2) (pe_ix (ix_tupK (K:=K)) (pe_bm0 PySem.F.plainAttrs_list PySem.F.slot_list_pop PySem.F.type_list_pop mt_pop (pv 1)) pe_int (fun _ _ => rfl))))) pss_nil)
   (pss_one (ps_expr (pe_bm PySem.F.plainAttrs_list PySem.F.slot_list_append PySem.F.type_list_append mt_append (pv 1) (pa_Tuple (pe_tup (pa_o2 (pv 2) (pv 3) pa_nil)) pa_nil))))) pss_nil)))
   (pss_one (ps_ret (pv 1))))),?_⟩
  refine ⟨(by show 0 ≤ sizeLine; decide),fun b fb => ?_⟩
  refine ⟨_,rfl,a,rfl,⟨xs,(Same.new (Same.refl H) fb).seq hS⟩,for_list (K:=K) (a:=a) (xs:=xs) (fun i σ H' => ∃ (m v:Option V) (ys:List V),σ=[some (.ref a),some (.ref b),m,v]∧H' b=some (.lst ys)∧Wg H' ys (shape (L.take i))∧Same H H') ⟨_,_,[],rfl,upd_same,Wg.nil _,Same.new (Same.refl H) fb⟩ (fun i σ H' _ ⟨_,_,_,_,_,_,z⟩ => z.seq hS) ?_ ?_⟩
  ·rintro i x σ H1 hx ⟨m,v,ys,rfl,h1b,g1,s1⟩
   obtain ⟨e,hei,q,wq,rfl,hq,hw⟩:=g.at' hx
   have hq1:=s1 _ _ hq
   have hw1:=s1 _ _ hw
   have hi:i < L.length:=(List.getElem?_eq_some_iff.mp hei).1
   have lys:ys.length ≤ i:=by have:=shape_len (L.take i); have:=g1.1; rw [List.length_take] at *; omega
   refine ⟨q,_,rfl,SqT.of hq1,rfl,_,_,rfl,_,_,rfl,rfl,?_⟩
   refine ⟨_,rfl,_,_,rfl,rfl,_,rfl,ite2 (fun hc => ?_) (fun hc => ?_)⟩
   ·have hpos:0 < e.1:=of_decide_eq_true hc
    refine ⟨_,rfl,(by show 0 ≤ sizeLine; decide),fun l hl => ?_⟩
    have nlb:l ≠ b:=fun z => by rw [z,h1b] at hl; cases hl
    have s2:Same H (upd H1 l (.lst [])):=Same.new s1 hl
    have T2:Tups H1 (upd H1 l (.lst [])):=(Tups.refl H1).new hl
    have h2b:(upd H1 l (.lst [])) b=some (.lst ys):=by rw [upd_ne (Ne.symm nlb)]; exact h1b
    have hlN:(upd H1 l (.lst [])) l=some (.lst []):=upd_same
    have hw2:=T2 _ _ hw1
    have hq2:=T2 _ _ hq1
    have g2:=g1.up T2
    generalize upd H1 l (.lst [])=H2 at s2 T2 h2b hlN hw2 hq2 g2 ⊢
    refine ⟨_,_,g2.di (SqL.of h2b),di_nil (SqL.of hlN),lay_dL _,lay_dL _,dep_dL _,_,rfl,?_⟩
    rw [eqv_dL]
    cases hlast:(shape (L.take i)).getLast? with
    | none =>
     have hnil:shape (L.take i)=[]:=by
      cases z:shape (L.take i) with
      | nil => rfl
      | cons y r => rw [z] at hlast; simp at hlast
     rw [decide_eq_true hnil]
     refine iteF (iteF ?_)
     refine ⟨_,rfl,.inl ⟨rfl,_,SqL.of h2b⟩,_,rfl,_,rfl,(by show 2 ≤ sizeLine; decide),fun p hp => ?_⟩
     have npb:p ≠ b:=fun z => by rw [z,h2b] at hp; cases hp
     have h8b:=(upd_ne (H:=H2) (a:=p) (o:=.tup [.int e.1,.ref wq]) (Ne.symm npb)).trans h2b
     refine ⟨b,_,_,rfl,rfl,h8b,Nat.lt_of_le_of_lt (by have:=lys; omega:ys.length ≤ 1000) (by decide),?_⟩
     have T8:Tups H2 (upd H2 p (.tup [.int e.1,.ref wq])):=(Tups.refl _).new hp
     have T9:Tups (upd H2 p (.tup [.int e.1,.ref wq])) (upd (upd H2 p (.tup [.int e.1,.ref wq])) b (.lst (ys ++ [.ref p]))):=(Tups.refl _).lst h8b
     refine ⟨_,_,_,rfl,upd_same,?_,Same.own (Same.new s2 hp) fb⟩
     rw [shape_succ hei]; unfold shStep; rw [if_pos hpos]; rw [hlast]; dsimp only
     exact Wg.snoc (g2.up (T8.trans T9)) ⟨p,wq,rfl,T9 _ _ upd_same,T9 _ _ (T8 _ _ hw2)⟩
    | some l0 =>
     have hne:shape (L.take i) ≠ []:=fun z => by rw [z] at hlast; cases hlast
     rw [decide_eq_false hne]
     refine iteT ?_
     have hlen1:(shape (L.take i)).length - 1 < ys.length:=by
      have:0 < (shape (L.take i)).length:=List.length_pos_iff.mpr hne
      have:=g2.1; omega
     have hl0:(shape (L.take i))[ys.length - 1]? = some l0:=by rw [g2.1,← List.getLast?_eq_getElem?]; exact hlast
     obtain ⟨y0,hy0,q0,w0,rfl,hq0,hw0⟩:=g2.get hl0
     refine ⟨_,rfl,_,rfl,b,_,_,V.ref q0,rfl,rfl,SqL.of h2b,?_,q0,_,_,_,rfl,rfl,SqT.of hq0,rfl,_,rfl,_,_,di_ints hw0,di_ints hw2,lay_dT _,lay_dT _,(by rw [dep_dT]; decide),_,rfl,?_⟩
     ·have:ys=ys.dropLast ++ [V.ref q0]:=drop_get (by rw [List.getLast?_eq_getElem?]; exact hy0)
      rw [this]; exact atI_last _ _
     rw [eqv_dT]
     refine ite2 (fun hE => ?_) (fun hE => ?_)
     ·have hE:=of_decide_eq_true hE
      refine ⟨_,rfl,_,rfl,.inl ⟨rfl,_,SqL.of h2b⟩,b,ys,V.ref q0,rfl,rfl,h2b,hy0,?_⟩
      have T3:Tups H2 (upd H2 b (.lst ys.dropLast)):=(Tups.refl H2).lst h2b
      have s3:Same H (upd H2 b (.lst ys.dropLast)):=Same.own s2 fb
      have h3b:(upd H2 b (.lst ys.dropLast)) b=some (.lst ys.dropLast):=upd_same
      have hw3:=T3 _ _ hw2
      have hq03:=T3 _ _ hq0
      have g3:=(g2.up T3).pop
      have ld:ys.dropLast.length ≤ i:=by rw [List.length_dropLast]; omega
      generalize upd H2 b (.lst ys.dropLast)=H3 at s3 T3 h3b hw3 hq03 g3 ⊢
      refine ⟨q0,_,_,_,rfl,rfl,SqT.of hq03,rfl,_,_,rfl,rfl,?_⟩
      refine ⟨_,rfl,.inl ⟨rfl,_,SqL.of h3b⟩,_,rfl,_,rfl,(by show 2 ≤ sizeLine; decide),fun p hp => ?_⟩
      have npb:p ≠ b:=fun z => by rw [z,h3b] at hp; cases hp
      have h8b:=(upd_ne (H:=H3) (a:=p) (o:=.tup [.int (e.1 + l0.1),.ref wq]) (Ne.symm npb)).trans h3b
      refine ⟨b,_,_,rfl,rfl,h8b,Nat.lt_of_le_of_lt (by have:=ld; omega:ys.dropLast.length ≤ 1000) (by decide),?_⟩
      have T8:Tups H3 (upd H3 p (.tup [.int (e.1 + l0.1),.ref wq])):=(Tups.refl _).new hp
      have T9:Tups (upd H3 p (.tup [.int (e.1 + l0.1),.ref wq])) (upd (upd H3 p (.tup [.int (e.1 + l0.1),.ref wq])) b (.lst (ys.dropLast ++ [.ref p]))):=(Tups.refl _).lst h8b
      refine ⟨_,_,_,rfl,upd_same,?_,Same.own (Same.new s3 hp) fb⟩
      rw [shape_succ hei]; unfold shStep; rw [if_pos hpos]; rw [hlast]; dsimp only; rw [if_pos hE]
      exact Wg.snoc (g3.up (T8.trans T9)) ⟨p,wq,rfl,T9 _ _ upd_same,T9 _ _ (T8 _ _ hw3)⟩
     ·have hE:=of_decide_eq_false (Bool.eq_false_iff.mpr hE)
      refine ⟨_,rfl,.inl ⟨rfl,_,SqL.of h2b⟩,_,rfl,_,rfl,(by show 2 ≤ sizeLine; decide),fun p hp => ?_⟩
      have npb:p ≠ b:=fun z => by rw [z,h2b] at hp; cases hp
      have h8b:=(upd_ne (H:=H2) (a:=p) (o:=.tup [.int e.1,.ref wq]) (Ne.symm npb)).trans h2b
      refine ⟨b,_,_,rfl,rfl,h8b,Nat.lt_of_le_of_lt (by have:=lys; omega:ys.length ≤ 1000) (by decide),?_⟩
      have T8:Tups H2 (upd H2 p (.tup [.int e.1,.ref wq])):=(Tups.refl _).new hp
      have T9:Tups (upd H2 p (.tup [.int e.1,.ref wq])) (upd (upd H2 p (.tup [.int e.1,.ref wq])) b (.lst (ys ++ [.ref p]))):=(Tups.refl _).lst h8b
      refine ⟨_,_,_,rfl,upd_same,?_,Same.own (Same.new s2 hp) fb⟩
      rw [shape_succ hei]; unfold shStep; rw [if_pos hpos]; rw [hlast]; dsimp only; rw [if_neg hE]
      exact Wg.snoc (g2.up (T8.trans T9)) ⟨p,wq,rfl,T9 _ _ upd_same,T9 _ _ (T8 _ _ hw2)⟩
   ·have hc:=of_decide_eq_false (Bool.eq_false_iff.mpr hc)
    refine ⟨_,_,ys,rfl,h1b,?_,s1⟩
    rw [shape_succ hei]
    unfold shStep
    rw [if_neg hc]
    exact g1
  ·rintro σ H1 ⟨m,v,ys,rfl,h1b,g1,s1⟩
   have hlx:L.take xs.length=L:=by rw [g.1]; exact List.take_length
   rw [hlx] at g1
   exact ⟨_,rfl,k b ys H1 fb h1b g1 s1⟩
abbrev s__law_wide:Stmt:=top 24
theorem sc__law_wide:FnScope ["_law_draw"] ["_law_draw"] (defScope s__law_wide):=⟨rfl,rfl,rfl,by decide +kernel,rfl,by decide +kernel,by decide +kernel⟩
def spWide:Sp:=fun vs H Q _ => ∃ (d:Addr),vs=[.ref d]∧Purse H d∧∀ (r:Int) (H' : Hp),1 ≤ r→r ≤ 24→Purse H' d→But d H H'→Q (.int r) H'
theorem ok_wide {f:Addr} {fd:FuncData} (F:Fun K "_law_wide" "_law_wide" s__law_wide f fd) (M:Txt mg) (G_law_take:Kn P w K mg base "_law_take" 1 ["_law_draw", "_law_many_here"] spTake):FnOk P w K mg base CX0 2 f fd ["_law_draw"] spWide:=by
 have sc:=sc__law_wide
 refine F.ok sc (fun vs H Q E h => ?_) (fun cdv A outer s H vs Q E hr h => ?_)
 ·obtain ⟨d,rfl,_⟩:=h
  rfl
 ·obtain ⟨d,rfl,hP,k⟩:=h
  refine ⟨_,(pss_one (ps_ret (pe_ix (ix_listK (K:=K)) (pe_lst (pa_o2 (pe_op op_add pe_int (pe_callD G_law_take hr rfl (pa_Name (pv 0) (pa_Constant pe_int pa_nil)))) (pe_op op_add pe_int (pe_callD G_law_take hr rfl (pa_Name (pv 0) (pa_Constant pe_int pa_nil)))) pa_nil)) (pe_callTy call_int1 (by rfl) M.int boot_int (pa_cons (pe_cmpR op_eq (pe_callD G_law_take hr rfl (pa_Name (pv 0) (pa_Constant pe_int pa_nil))) pe_int (nomark _)) pa_nil)) (fun _ _ => rfl)))),?_⟩
  refine ⟨_,rfl,d,3,rfl,hP,by decide,by decide,fun r H1 r0 r1 P1 B1 => ⟨_,_,rfl,rfl,?_⟩⟩
  refine ⟨_,rfl,d,24,rfl,P1,by decide,by decide,fun r' H2 q0 q1 P2 B2 => ⟨_,_,rfl,rfl,(by show 2 ≤ sizeLine; decide),fun l hl => ?_⟩⟩
  have nl:=P2.ne hl
  refine ⟨_,rfl,d,8,rfl,P2.new hl,by decide,by decide,fun t H3 t0 t1 P3 B3 => ⟨rfl,?_⟩⟩
  have hl3:=B3 l _ upd_same nl
  have B:=((B1.trans B2).new hl).trans B3
  refine .inr ⟨_,rfl,?_⟩
  cases decide (V.int t=V.int 5) with
  | true => exact ⟨l,_,_,_,rfl,rfl,SqL.of hl3,rfl,k _ H3 (by omega) (by omega) P3 B⟩
  | false => exact ⟨l,_,_,_,rfl,rfl,SqL.of hl3,rfl,k _ H3 (by omega) (by omega) P3 B⟩
end
end Toy
namespace Toy
open PySem L2 PyProof.Rows
section
variable {P:Program} {w:World} {K:PySem.W.Frag} {mg:Str→Option Value} {base:Heap}
abbrev s__law_weighing:Stmt:=top 25
theorem sc__law_weighing:FnScope ["_law_draw", "_law_wide_here", "_law_most"] ["_law_draw", "_law_wide_here"] (defScope s__law_weighing):=⟨rfl,rfl,rfl,by decide +kernel,rfl,by decide +kernel,by decide +kernel⟩
theorem pieces_wide {wd most:Int} {L:List (Int × List Int)} (h:Pieces wd most L):∀ e ∈ shape L,WdOk wd e.2:=shape_all (p:=WdOk wd) fun e he => (h.2 e he).2.2
theorem pieces_good {wd most:Int} {L:List (Int × List Int)} (h:Pieces wd most L) (hm:most ≤ 40):Good 40 (10 ^ 62) (shape L):=by
 have g:=shape_good (C:=10 ^ 59) (by decide) (L:=L) fun e he => (h.2 e he).2.1
 have hl:L.length ≤ 40:=by rw [h.1]; omega
 refine ⟨Nat.le_trans g.len hl,g.pos,Int.le_trans g.sum ?_⟩
 have:(L.length:Int) ≤ 40:=by omega
 calc (L.length:Int) * 10 ^ 59 ≤ 40 * 10 ^ 59:=Int.mul_le_mul_of_nonneg_right this (by decide)
  _ ≤ 10 ^ 62:=by decide
def spWeighing:Sp:=fun vs H Q _ => ∃ (d:Addr) (wd:Int),vs=[.ref d,.int wd]∧Purse H d∧1 ≤ wd∧wd ≤ 24∧∀ (b:Addr) (ys:List V) (wd' most:Int) (L:List (Int × List Int)) (H' : Hp),H b=none→H' b=some (.lst ys)→Wg H' ys (shape L)→Pieces wd most L→most ≤ 40→Purse H' d→But d H H'→Q (.ref b) H'
theorem ok_weighing {f:Addr} {fd:FuncData} (F:Fun K "_law_weighing" "_law_weighing" s__law_weighing f fd) (M:Txt mg) (G_law_take:Kn P w K mg base "_law_take" 1 ["_law_draw", "_law_many_here"] spTake) (G_law_pieces:Kn P w K mg base "_law_pieces" 4 ["_law_draw", "_law_wide_here", "_law_most"] spPieces) (G_law_shape:Kn P w K mg base "_law_shape" 1 ["_law_pieces_here"] (spShape K)):FnOk P w K mg base CX0 5 f fd ["_law_draw", "_law_wide_here"] spWeighing:=by
 have sc:=sc__law_weighing
 refine F.ok sc (fun vs H Q E h => ?_) (fun cdv A outer s H vs Q E hr h => ?_)
 ·obtain ⟨d,wd,rfl,_⟩:=h
  rfl
 ·obtain ⟨d,wd,rfl,hP,w1,w2,k⟩:=h
  refine ⟨_,(pss_cons (ps_set (i:=2) sc.nd rfl (Or.inl rfl) (pe_ix (ix_listK (K:=K)) (pe_lst (pa_o2 (pe_callD G_law_take hr rfl (pa_Name (pv 0) (pa_Constant pe_int pa_nil))) (pe_callD G_law_take hr rfl (pa_Name (pv 0) (pa_Constant pe_int pa_nil))) pa_nil)) (pe_callTy call_int1 (by rfl) M.int boot_int (pa_cons (pe_cmpR op_eq (pe_callD G_law_take hr rfl (pa_Name (pv 0) (pa_Constant pe_int pa_nil))) pe_int (nomark _)) pa_nil)) (fun _ _ => rfl)) sw_sub)
   (pss_one (ps_ret (pe_callD G_law_shape hr rfl (pa_Call (pe_callD G_law_pieces hr rfl (pa_Name (pv 0) (pa_Name (pv 1) (pa_Name (pv 2) pa_nil)))) pa_nil))))),?_⟩
  refine ⟨_,rfl,d,7,rfl,hP,by decide,by decide,fun r H1 r0 r1 P1 B1 => ?_⟩
  refine ⟨_,rfl,d,41,rfl,P1,by decide,by decide,fun r' H2 q0 q1 P2 B2 => ⟨(by show 2 ≤ sizeLine; decide),fun l hl => ?_⟩⟩
  have nl:=P2.ne hl
  refine ⟨_,rfl,d,8,rfl,P2.new hl,by decide,by decide,fun t H3 t0 t1 P3 B3 => ⟨rfl,?_⟩⟩
  have hl3:=B3 l _ upd_same nl
  have B:=((B1.trans B2).new hl).trans B3
  have fin:∀ most:Int,0 ≤ most→most ≤ 40→spPieces [.ref d,.int wd,.int most] H3 (fun y H4 => spShape K ([y] ++ []) H4 Q E0) E0:=fun most m0 m1 => by
   refine ⟨d,wd,most,rfl,P3,w1,w2,m0,by omega,fun a xs L H4 fa ha g p P4 B4 => ?_⟩
   have hl4:L.length ≤ 40:=by rw [p.1]; omega
   refine ⟨a,xs,L,rfl,SqL.of ha,g,by omega,fun b ys H5 fb hb g5 s5 => ?_⟩
   exact k b ys wd most L H5 ((B.trans B4).free P4 fb) hb g5 p m1 (Same.purse s5 P4) ((B.trans B4).same s5)
  refine .inr ⟨_,rfl,?_⟩
  cases decide (V.int t=V.int 3) with
  | true => exact ⟨l,_,_,_,rfl,rfl,SqL.of hl3,rfl,_,rfl,_,rfl,_,rfl,fin r' (by omega) (by omega)⟩
  | false => exact ⟨l,_,_,_,rfl,rfl,SqL.of hl3,rfl,_,rfl,_,rfl,_,rfl,fin r (by omega) (by omega)⟩
end
end Toy
namespace Toy
open PySem L2 PyProof.Rows
def ends (L:List (Int × List Int)) (i:Nat):List Int:=(List.range (i + 1)).map fun j => tot (L.take j)
theorem ends_len (L:List (Int × List Int)) (i:Nat):(ends L i).length=i + 1:=by simp [ends]
theorem ends_snoc (L:List (Int × List Int)) (i:Nat):ends L (i + 1)=ends L i ++ [tot (L.take (i + 1))]:=by
 unfold ends
 rw [List.range_succ,List.map_append]; rfl
theorem ends_last (L:List (Int × List Int)) (i:Nat):atI ((ends L i).map V.int) (-1)=some (V.int (tot (L.take i))):=by
 have:(ends L i).map V.int=((List.range i).map fun j => V.int (tot (L.take j))) ++ [V.int (tot (L.take i))]:=by
  unfold ends
  rw [List.range_succ,List.map_append,List.map_append,List.map_map]; rfl
 rw [this]
 exact atI_last _ _
section
variable {P:Program} {w:World} {K:PySem.W.Frag} {mg:Str→Option Value} {base:Heap}
abbrev s__law_ends:Stmt:=top 26
theorem sc__law_ends:FnScope ["_law_weighing_here", "_law_found", "_law_many_here", "_law_weights_here"] ["_law_weighing_here"] (defScope s__law_ends):=⟨rfl,rfl,rfl,by decide +kernel,rfl,by decide +kernel,by decide +kernel⟩
def spEnds (K:PySem.W.Frag):Sp:=fun vs H Q _ => ∃ (a:Addr) (xs:List V) (L:List (Int × List Int)),vs=[.ref a]∧SqL K H a xs∧Wg H xs L∧L.length ≤ 1000∧∀ (b:Addr) (H' : Hp),H b=none→H' b=some (.lst ((ends L L.length).map V.int))→Same H H'→Q (.ref b) H'
theorem ok_ends {f:Addr} {fd:FuncData} (F:Fun K "_law_ends" "_law_ends" s__law_ends f fd) (M:Txt mg):FnOk P w K mg base CX0 1 f fd ["_law_weighing_here"] (spEnds K):=by
 have sc:=sc__law_ends
 refine F.ok sc (fun vs H Q E h => ?_) (fun cdv A outer s H vs Q E hr h => ?_)
 ·obtain ⟨a,xs,L,rfl,_⟩:=h
  rfl
 ·obtain ⟨a,xs,L,rfl,hS,g,hL,k⟩:=h
  refine ⟨_,(pss_cons (ps_set (i:=1) sc.nd rfl (Or.inl rfl) (pe_lst (pa_Constant pe_int pa_nil)))
   (pss_cons (ps_for PassesOwn.never rfl (pi_list (pv 0)) (pg_tup rfl (pgs_cons (pg_name (i:=2) sc.nd rfl (Or.inl rfl)) (pgs_cons (pg_name (i:=3) sc.nd rfl (Or.inl rfl)) pgs_nil)))
   (pss_one (ps_expr (pe_bm PySem.F.plainAttrs_list PySem.F.slot_list_append PySem.F.type_list_append mt_append (pv 1) (pa_BinOp (pe_op op_add (pe_ix (ix_listK (K:=K)) (pv 1) (pe_un un_neg pe_int) (fun _ _ => rfl)) (pv 2)) pa_nil)))))
   (pss_one (ps_ret (pv 1))))),?_⟩
  refine ⟨(by show 1 ≤ sizeLine; decide),fun b fb => ?_⟩
  refine ⟨_,rfl,a,rfl,⟨xs,(Same.new (Same.refl H) fb).seq hS⟩,for_list (K:=K) (a:=a) (xs:=xs) (fun i σ H' => ∃ (m v:Option V),σ=[some (.ref a),some (.ref b),m,v]∧H' b=some (.lst ((ends L i).map V.int))∧Same H H') ⟨_,_,rfl,upd_same,Same.new (Same.refl H) fb⟩ (fun i σ H' _ ⟨_,_,_,_,z⟩ => z.seq hS) ?_ ?_⟩
  ·rintro i x σ H1 hx ⟨m,v,rfl,h1b,s1⟩
   obtain ⟨e,hei,q,wq,rfl,hq,hw⟩:=g.at' hx
   have hq1:=s1 _ _ hq
   have hi:i < L.length:=(List.getElem?_eq_some_iff.mp hei).1
   refine ⟨q,_,rfl,SqT.of hq1,rfl,_,_,rfl,_,_,rfl,rfl,?_⟩
   refine ⟨_,rfl,.inl ⟨rfl,_,SqL.of h1b⟩,_,rfl,_,rfl,b,_,_,_,rfl,rfl,SqL.of h1b,ends_last L i,_,rfl,_,_,rfl,rfl,b,_,_,rfl,rfl,h1b,Nat.lt_of_le_of_lt (by rw [List.length_map,ends_len]; omega:((ends L i).map V.int).length ≤ 1001) (by decide),?_⟩
   refine ⟨_,_,rfl,?_,Same.own s1 fb⟩
   rw [upd_same,ends_snoc,tot_succ hei,List.map_append]
   rfl
  ·rintro σ H1 ⟨m,v,rfl,h1b,s1⟩
   rw [g.1] at h1b
   exact ⟨_,rfl,k b H1 fb h1b s1⟩
end
end Toy
namespace Toy
open PySem L2 PyProof.Rows
section
variable {P:Program} {w:World} {K:PySem.W.Frag} {mg:Str→Option Value} {base:Heap}
abbrev s_shaped:Stmt:=top 1
theorem sc_shaped:FnScope ["pieces", "runs", "many", "weights"] ["pieces"] (defScope s_shaped):=⟨rfl,rfl,rfl,by decide +kernel,rfl,by decide +kernel,by decide +kernel⟩
def spShaped (K:PySem.W.Frag):Sp:=fun vs H Q _ => ∃ (a:Addr) (xs:List V) (L:List (Int × List Int)),vs=[.ref a]∧SqL K H a xs∧Wg H xs L∧L.length ≤ 1000∧(∀ e ∈ L,0 ≤ e.1)∧∀ (b:Addr) (ys:List V) (H' : Hp),H b=none→H' b=some (.lst ys)→Wg H' ys (shape L)→Same H H'→Q (.ref b) H'
theorem ok_shaped {f:Addr} {fd:FuncData} (F:Fun K "shaped" "shaped" s_shaped f fd) (M:Txt mg):FnOk P w K mg base CX0 1 f fd ["pieces"] (spShaped K):=by
 have sc:=sc_shaped
 refine F.ok sc (fun vs H Q E h => ?_) (fun cdv A outer s H vs Q E hr h => ?_)
 ·obtain ⟨a,xs,L,rfl,_⟩:=h
  rfl
 ·obtain ⟨a,xs,L,rfl,hS,g,hL,hnn,k⟩:=h
  refine ⟨_,(pss_cons (ps_set (i:=1) sc.nd rfl (Or.inl rfl) (pe_lst pa_nil))
   (pss_cons (ps_for PassesOwn.never rfl (pi_list (pv 0)) (pg_tup rfl (pgs_cons (pg_name (i:=2) sc.nd rfl (Or.inl rfl)) (pgs_cons (pg_name (i:=3) sc.nd rfl (Or.inl rfl)) pgs_nil)))
   (pss_cons (ps_if (pt_cmpR op_eq (pv 2) pe_int (nomark _)) (pss_one ps_continue) pss_nil)
   (pss_one (ps_if (PW.pt (pw_and (pt_truth (pv 1) (fun _ => rfl)) (pw_and1 (pt_cmpR (op_eqD hr) (pe_ix (ix_tupK (K:=K)) (pe_ix (ix_listK (K:=K)) (pv 1) (pe_un un_neg pe_int) (fun _ _ => rfl)) pe_int (fun _ _ => rfl)) (pv 3) (nomark _))))) (pss_one (ps_asg (pe_tup (pa_o2 (pe_op op_add (pe_ix (ix_tupK (K:=K)) (pe_ix (ix_listK (K:=K)) (pv 1) (pe_un un_neg pe_int) (fun _ _ => rfl)) pe_int (fun _ _ => rfl)) (pv 2)) (pv 3) pa_nil)) (pg_sub (pv 1) (pe_un un_neg pe_int) set_list))) (pss_one (ps_expr (pe_bm PySem.F.plainAttrs_list PySem.F.slot_list_append PySem.F.type_list_append mt_append (pv 1) (pa_Tuple (pe_tup (pa_o2 (pv 2) (pv 3) pa_nil)) pa_nil))))))))
   (pss_one (ps_ret (pv 1))))),?_⟩
  refine ⟨(by show 0 ≤ sizeLine; decide),fun b fb => ?_⟩
  refine ⟨_,rfl,a,rfl,⟨xs,(Same.new (Same.refl H) fb).seq hS⟩,for_list (K:=K) (a:=a) (xs:=xs) (fun i σ H' => ∃ (m v:Option V) (ys:List V),σ=[some (.ref a),some (.ref b),m,v]∧H' b=some (.lst ys)∧Wg H' ys (shape (L.take i))∧Same H H') ⟨_,_,[],rfl,upd_same,Wg.nil _,Same.new (Same.refl H) fb⟩ (fun i σ H' _ ⟨_,_,_,_,_,_,z⟩ => z.seq hS) ?_ ?_⟩
  ·rintro i x σ H1 hx ⟨m,v,ys,rfl,h1b,g1,s1⟩
   obtain ⟨e,hei,q,wq,rfl,hq,hw⟩:=g.at' hx
   have hq1:=s1 _ _ hq
   have hw1:=s1 _ _ hw
   have hi:i < L.length:=(List.getElem?_eq_some_iff.mp hei).1
   have hge:=hnn e (List.mem_of_getElem? hei)
   have lys:ys.length ≤ i:=by have:=shape_len (L.take i); have:=g1.1; rw [List.length_take] at *; omega
   refine ⟨q,_,rfl,SqT.of hq1,rfl,_,_,rfl,_,_,rfl,rfl,?_⟩
   refine ⟨_,rfl,rfl,_,rfl,ite2 (fun hc => ?_) (fun hc => ?_)⟩
   ·have hc:=of_decide_eq_true hc
    have hz:e.1=0:=V.int.inj hc
    refine ⟨_,_,ys,rfl,h1b,?_,s1⟩
    rw [shape_succ hei]
    unfold shStep
    rw [if_neg (by omega)]
    exact g1
   ·have hc:=of_decide_eq_false (Bool.eq_false_iff.mpr hc)
    have hpos:0 < e.1:=by
     have:e.1 ≠ 0:=fun z => hc (by rw [z])
     omega
    refine ⟨_,rfl,_,.inl ⟨_,SqL.of h1b,rfl⟩,?_⟩
    cases hlast:(shape (L.take i)).getLast? with
    | none =>
     have hnil:shape (L.take i)=[]:=by
      cases z:shape (L.take i) with
      | nil => rfl
      | cons y r => rw [z] at hlast; simp at hlast
     have hy0:ys=[]:=List.length_eq_zero_iff.mp (by rw [g1.1,hnil]; rfl)
     have hyE:(!ys.isEmpty)=false:=by rw [hy0]; rfl
     rw [hyE]
     refine iteF (iteF ?_)
     refine ⟨_,rfl,.inl ⟨rfl,_,SqL.of h1b⟩,_,rfl,_,rfl,(by show 2 ≤ sizeLine; decide),fun p hp => ?_⟩
     have npb:p ≠ b:=fun z => by rw [z,h1b] at hp; cases hp
     have h8b:=(upd_ne (H:=H1) (a:=p) (o:=.tup [.int e.1,.ref wq]) (Ne.symm npb)).trans h1b
     refine ⟨b,_,_,rfl,rfl,h8b,Nat.lt_of_le_of_lt (by have:=lys; omega:ys.length ≤ 1000) (by decide),?_⟩
     have T8:Tups H1 (upd H1 p (.tup [.int e.1,.ref wq])):=(Tups.refl _).new hp
     have T9:Tups (upd H1 p (.tup [.int e.1,.ref wq])) (upd (upd H1 p (.tup [.int e.1,.ref wq])) b (.lst (ys ++ [.ref p]))):=(Tups.refl _).lst h8b
     refine ⟨_,_,_,rfl,upd_same,?_,Same.own (Same.new s1 hp) fb⟩
     rw [shape_succ hei]; unfold shStep; rw [if_pos hpos]; rw [hlast]; dsimp only
     exact Wg.snoc (g1.up (T8.trans T9)) ⟨p,wq,rfl,T9 _ _ upd_same,T9 _ _ (T8 _ _ hw1)⟩
    | some l0 =>
     have hne:shape (L.take i) ≠ []:=fun z => by rw [z] at hlast; cases hlast
     have hyn:ys ≠ []:=fun z => by
      have:=g1.1
      rw [z] at this
      exact hne (List.length_eq_zero_iff.mp this.symm)
     have hyE:(!ys.isEmpty)=true:=by cases ys with | nil => exact absurd rfl hyn | cons y r => rfl
     rw [hyE]
     refine iteT ?_
     have hl0:(shape (L.take i))[ys.length - 1]? = some l0:=by rw [g1.1,← List.getLast?_eq_getElem?]; exact hlast
     obtain ⟨y0,hy0,q0,w0,rfl,hq0,hw0⟩:=g1.get hl0
     have hyl:ys.getLast? = some (V.ref q0):=by rw [List.getLast?_eq_getElem?]; exact hy0
     have hat:atI ys (-1)=some (V.ref q0):=by
      have:ys=ys.dropLast ++ [V.ref q0]:=drop_get hyl
      rw [this]; exact atI_last _ _
     refine ⟨_,rfl,_,rfl,b,_,_,V.ref q0,rfl,rfl,SqL.of h1b,hat,q0,_,_,_,rfl,rfl,SqT.of hq0,rfl,_,rfl,_,_,di_ints hw0,di_ints hw1,lay_dT _,lay_dT _,(by rw [dep_dT]; decide),_,rfl,?_⟩
     rw [eqv_dT]
     refine ite2 (fun hE => ?_) (fun hE => ?_)
     ·have hE:=of_decide_eq_true hE
      refine ⟨_,rfl,_,rfl,b,_,_,V.ref q0,rfl,rfl,SqL.of h1b,hat,q0,_,_,_,rfl,rfl,SqT.of hq0,rfl,_,rfl,_,_,rfl,rfl,_,rfl,(by show 2 ≤ sizeLine; decide),fun p hp => ?_⟩
      have npb:p ≠ b:=fun z => by rw [z,h1b] at hp; cases hp
      have h8b:=(upd_ne (H:=H1) (a:=p) (o:=.tup [.int (l0.1 + e.1),.ref wq]) (Ne.symm npb)).trans h1b
      have hix:ixN ys.length (-1)=some (ys.length - 1):=by
       have:0 < ys.length:=List.length_pos_iff.mpr hyn
       unfold ixN
       rw [if_neg (by decide),if_pos (by omega)]
       congr 1; omega
      refine ⟨_,rfl,_,rfl,b,ys,_,ys.length - 1,rfl,rfl,h8b,hix,?_⟩
      have T8:Tups H1 (upd H1 p (.tup [.int (l0.1 + e.1),.ref wq])):=(Tups.refl _).new hp
      have T9:Tups (upd H1 p (.tup [.int (l0.1 + e.1),.ref wq])) (upd (upd H1 p (.tup [.int (l0.1 + e.1),.ref wq])) b (.lst (ys.set (ys.length - 1) (.ref p)))):=(Tups.refl _).lst h8b
      refine ⟨_,_,_,rfl,upd_same,?_,Same.own (Same.new s1 hp) fb⟩
      rw [shape_succ hei]; unfold shStep; rw [if_pos hpos,hlast]; dsimp only; rw [if_pos hE,set_last hyl]
      refine Wg.snoc ((g1.pop).up (T8.trans ?_)) ⟨p,wq,rfl,?_,?_⟩
      ·rw [set_last hyl] at T9; exact T9
      ·rw [set_last hyl] at T9
       show _=some (HO.tup [V.int (e.1 + l0.1),V.ref wq])
       rw [Int.add_comm e.1 l0.1]; exact T9 _ _ upd_same
      ·rw [set_last hyl] at T9; exact T9 _ _ (T8 _ _ hw1)
     ·have hE:=of_decide_eq_false (Bool.eq_false_iff.mpr hE)
      refine ⟨_,rfl,.inl ⟨rfl,_,SqL.of h1b⟩,_,rfl,_,rfl,(by show 2 ≤ sizeLine; decide),fun p hp => ?_⟩
      have npb:p ≠ b:=fun z => by rw [z,h1b] at hp; cases hp
      have h8b:=(upd_ne (H:=H1) (a:=p) (o:=.tup [.int e.1,.ref wq]) (Ne.symm npb)).trans h1b
      refine ⟨b,_,_,rfl,rfl,h8b,Nat.lt_of_le_of_lt (by have:=lys; omega:ys.length ≤ 1000) (by decide),?_⟩
      have T8:Tups H1 (upd H1 p (.tup [.int e.1,.ref wq])):=(Tups.refl _).new hp
      have T9:Tups (upd H1 p (.tup [.int e.1,.ref wq])) (upd (upd H1 p (.tup [.int e.1,.ref wq])) b (.lst (ys ++ [.ref p]))):=(Tups.refl _).lst h8b
      refine ⟨_,_,_,rfl,upd_same,?_,Same.own (Same.new s1 hp) fb⟩
      rw [shape_succ hei]; unfold shStep; rw [if_pos hpos]; rw [hlast]; dsimp only; rw [if_neg hE]
      exact Wg.snoc (g1.up (T8.trans T9)) ⟨p,wq,rfl,T9 _ _ upd_same,T9 _ _ (T8 _ _ hw1)⟩
  ·rintro σ H1 ⟨m,v,ys,rfl,h1b,g1,s1⟩
   have hlx:L.take xs.length=L:=by rw [g.1]; exact List.take_length
   rw [hlx] at g1
   exact ⟨_,rfl,k b ys H1 fb h1b g1 s1⟩
end
end Toy
namespace Toy
open PySem L2 PyProof.Rows
section
variable {P:Program} {w:World} {K:PySem.W.Frag} {mg:Str→Option Value} {base:Heap}
abbrev s_length:Stmt:=top 2
theorem sc_length:FnScope ["weighing"] ["weighing"] (defScope s_length):=⟨rfl,rfl,rfl,by decide +kernel,rfl,by decide +kernel,by decide +kernel⟩
def spLength (K:PySem.W.Frag):Sp:=fun vs H Q _ => ∃ (a:Addr) (xs:List V) (L:List (Int × List Int)),vs=[.ref a]∧SqL K H a xs∧Wg H xs L∧L.length ≤ 1000∧∀ H',Same H H'→Q (.int (tot L)) H'
theorem ok_length {f:Addr} {fd:FuncData} (F:Fun K "length" "length" s_length f fd) (M:Txt mg):FnOk P w K mg base CX0 1 f fd ["weighing"] (spLength K):=by
 have sc:=sc_length
 refine F.ok sc (fun vs H Q E h => ?_) (fun cdv A outer s H vs Q E hr h => ?_)
 ·obtain ⟨a,xs,L,rfl,_⟩:=h
  rfl
 ·obtain ⟨a,xs,L,rfl,hS,g,hL,k⟩:=h
  refine ⟨_,(pss_one (ps_ret (pe_callB (call_sum rfl) (by rfl) M.sum boot_sum (pa_cons (pe_compG (xs:=["many", "weights"]) (Nb:=["weighing"]) rfl (pi_list (pv 0)) rfl (by show ∀ p ∈ (List.zip ["weighing"] ["weighing"]:List (Str × Str)),_; decide +kernel) (by decide +kernel) (fun cl C s₂ H₂ fp => (pg_tupK (K:=K) (n:=2) rfl (pgs_cons (pg_name (i:=0) (by show List.Nodup (["many", "weights", "weighing"]:List Str); decide +kernel) rfl (Or.inl (lookup_relabel_local rfl)) (Or.inr (lookup_relabel_local rfl))) (pgs_cons (pg_name (i:=1) (by show List.Nodup (["many", "weights", "weighing"]:List Str); decide +kernel) rfl (Or.inl (lookup_relabel_local rfl)) (Or.inr (lookup_relabel_local rfl))) pgs_nil)))) (fun cl C s₂ H₂ fp => pif_nil) (fun cl C s₂ H₂ fp => (pv 0)) (by decide +kernel) rfl (by decide +kernel) (by show ∀ y ∈ (_:List (Str × NameKind)),y.2=NameKind.free→(defScope s_length).names.lookup y.1=some .cell; decide +kernel)) pa_nil)))),?_⟩
  refine ⟨_,rfl,a,rfl,⟨_,hS⟩,compL (K:=K) (a:=a) (xs:=xs) (fun i ys H' => ys=((L.take i).map (·.1)).map V.int∧H=H') ⟨rfl,rfl⟩ (by rw [g.1]; exact hL) (fun i ys H' h => by rw [h.1,List.length_map,List.length_map,List.length_take]; omega) (fun i ys H' _ h => by rw [← h.2]; exact hS) ?_ ?_⟩
  ·rintro i x ys H' pre hp hx ⟨rfl,rfl⟩
   obtain ⟨e,hei,q,wq,rfl,hq,hw⟩:=g.at' hx
   rcases pre with _ | ⟨p0,_ | ⟨p1,_ | ⟨p2,pre⟩⟩⟩
   ·cases hp
   ·cases hp
   ·refine ⟨q,_,rfl,SqT.of hq,rfl,_,_,rfl,_,_,rfl,rfl,⟨[some _,some _],rfl,rfl⟩,?_⟩
    unfold tYes
    dsimp only
    rw [if_pos (rfl:true=true)]
    refine ⟨_,rfl,?_,rfl⟩
    rw [take_succ' hei]
    simp
   ·cases hp
  ·rintro ys H' ⟨rfl,rfl⟩ D hD
   refine ⟨D,_,rfl,SqL.of upd_same,?_⟩
   have e:L.take xs.length=L:=by rw [g.1]; exact List.take_length
   rw [e]
   exact k _ (Same.new (Same.refl _) hD)
end
end Toy
namespace Toy
open PySem L2 PyProof.Rows
def Ly (H:Hp) (zs:List V) (L:WL) (bg:Int):Prop:=zs.length=L.length∧∀ i e,L[i]? = some e→∃ p wq,zs[i]? = some (V.ref p)∧H p=some (.tup [.int (bg + tot (L.take i)),.int (bg + tot (L.take (i + 1))),.ref wq])∧H wq=some (.tup (e.2.map V.int))
theorem Ly.up {H H' : Hp} {zs:List V} {L:WL} {bg:Int} (h:Ly H zs L bg) (t:Tups H H'):Ly H' zs L bg:=⟨h.1,fun i e he => by
 obtain ⟨p,wq,a,b,c⟩:=h.2 i e he
 exact ⟨p,wq,a,t _ _ b,t _ _ c⟩⟩
section
variable {P:Program} {w:World} {K:PySem.W.Frag} {mg:Str→Option Value} {base:Heap}
abbrev s_laid_from:Stmt:=top 4
theorem sc_laid_from:FnScope ["weighing", "begin", "stretches", "many", "weights"] ["weighing", "begin"] (defScope s_laid_from):=⟨rfl,rfl,rfl,by decide +kernel,rfl,by decide +kernel,by decide +kernel⟩
def spLaid (K:PySem.W.Frag):Sp:=fun vs H Q _ => ∃ (a:Addr) (xs:List V) (L:WL) (bg:Int),vs=[.ref a,.int bg]∧SqL K H a xs∧Wg H xs L∧L.length ≤ 1000∧∀ (b:Addr) (zs:List V) (H' : Hp),H b=none→H' b=some (.lst zs)→Ly H' zs L bg→Same H H'→Q (.ref b) H'
theorem ok_laid {f:Addr} {fd:FuncData} (F:Fun K "laid_from" "laid_from" s_laid_from f fd) (M:Txt mg):FnOk P w K mg base CX0 1 f fd ["weighing", "begin"] (spLaid K):=by
 have sc:=sc_laid_from
 refine F.ok sc (fun vs H Q E h => ?_) (fun cdv A outer s H vs Q E hr h => ?_)
 ·obtain ⟨a,xs,L,bg,rfl,_⟩:=h
  rfl
 ·obtain ⟨a,xs,L,bg,rfl,hS,g,hL,k⟩:=h
  refine ⟨_,(pss_cons (ps_set (i:=2) sc.nd rfl (Or.inl rfl) (pe_lst pa_nil))
   (pss_cons (ps_for PassesOwn.never rfl (pi_list (pv 0)) (pg_tup rfl (pgs_cons (pg_name (i:=3) sc.nd rfl (Or.inl rfl)) (pgs_cons (pg_name (i:=4) sc.nd rfl (Or.inl rfl)) pgs_nil)))
   (pss_cons (ps_expr (pe_bm PySem.F.plainAttrs_list PySem.F.slot_list_append PySem.F.type_list_append mt_append (pv 2) (pa_Tuple (pe_tup (pa_o3 (pv 1) (pe_op op_add (pv 1) (pv 3)) (pv 4) pa_nil)) pa_nil)))
   (pss_one (ps_aug (i:=1) sc.nd rfl (Or.inl rfl) (pv 3) ip_add))))
   (pss_one (ps_ret (pv 2))))),?_⟩
  refine ⟨(by show 0 ≤ sizeLine; decide),fun b fb => ?_⟩
  refine ⟨_,rfl,a,rfl,⟨xs,(Same.new (Same.refl H) fb).seq hS⟩,for_list (K:=K) (a:=a) (xs:=xs) (fun i σ H' => ∃ (m v:Option V) (zs:List V),σ=[some (.ref a),some (.int (bg + tot (L.take i))),some (.ref b),m,v]∧H' b=some (.lst zs)∧zs.length=i∧(∀ j e,j < i→L[j]? = some e→∃ p wq,zs[j]? = some (V.ref p)∧H' p=some (.tup [.int (bg + tot (L.take j)),.int (bg + tot (L.take (j + 1))),.ref wq])∧H' wq=some (.tup (e.2.map V.int)))∧Same H H') ⟨_,_,[],by rw [List.take_zero,tot_nil,Int.add_zero]; rfl,upd_same,rfl,fun j e hj => absurd hj (Nat.not_lt_zero _),Same.new (Same.refl H) fb⟩ (fun i σ H' _ ⟨_,_,_,_,_,_,_,z⟩ => z.seq hS) ?_ ?_⟩
  ·rintro i x σ H1 hx ⟨m,v,zs,rfl,h1b,lz,ly,s1⟩
   obtain ⟨e,hei,q,wq,rfl,hq,hw⟩:=g.at' hx
   have hi:i < L.length:=(List.getElem?_eq_some_iff.mp hei).1
   have hw1:=s1 _ _ hw
   refine ⟨q,_,rfl,SqT.of (s1 _ _ hq),rfl,_,_,rfl,_,_,rfl,rfl,?_⟩
   refine ⟨_,rfl,.inl ⟨rfl,_,SqL.of h1b⟩,_,rfl,_,rfl,_,rfl,_,_,rfl,rfl,_,rfl,(by show 3 ≤ sizeLine; decide),fun p hp => ?_⟩
   have npb:p ≠ b:=fun z => by rw [z,h1b] at hp; cases hp
   have h8b:=(upd_ne (H:=H1) (a:=p) (o:=.tup [.int (bg + tot (L.take i)),.int (bg + tot (L.take i) + e.1),.ref wq]) (Ne.symm npb)).trans h1b
   refine ⟨b,_,_,rfl,rfl,h8b,Nat.lt_of_le_of_lt (by omega:zs.length ≤ 1000) (by decide),?_⟩
   have T8:Tups H1 (upd H1 p (.tup [.int (bg + tot (L.take i)),.int (bg + tot (L.take i) + e.1),.ref wq])):=(Tups.refl _).new hp
   have T9:Tups (upd H1 p (.tup [.int (bg + tot (L.take i)),.int (bg + tot (L.take i) + e.1),.ref wq])) (upd (upd H1 p (.tup [.int (bg + tot (L.take i)),.int (bg + tot (L.take i) + e.1),.ref wq])) b (.lst (zs ++ [.ref p]))):=(Tups.refl _).lst h8b
   have T:=T8.trans T9
   have ets:bg + tot (L.take (i + 1))=bg + tot (L.take i) + e.1:=by rw [tot_succ hei]; omega
   refine ⟨_,rfl,_,rfl,_,_,rfl,rfl,some (.int e.1),some (.ref wq),_,?_,upd_same,by rw [List.length_append,lz]; rfl,fun j d hj hd => ?_,Same.own (Same.new s1 hp) fb⟩
   ·rw [ets]; rfl
   ·by_cases hji:j < i
    ·obtain ⟨p',w',a1,a2,a3⟩:=ly j d hji hd
     exact ⟨p',w',by rw [List.getElem?_append_left (by omega)]; exact a1,T _ _ a2,T _ _ a3⟩
    ·have e0:j=i:=by omega
     subst e0
     rw [hei] at hd
     cases hd
     refine ⟨p,wq,by rw [List.getElem?_append_right (by omega),lz,Nat.sub_self]; rfl,?_,T _ _ hw1⟩
     rw [ets]
     exact T9 _ _ upd_same
  ·rintro σ H1 ⟨m,v,zs,rfl,h1b,lz,ly,s1⟩
   have hxl:=g.1
   exact ⟨_,rfl,k b zs H1 fb h1b ⟨by omega,fun i e he => ly i e (by have:=(List.getElem?_eq_some_iff.mp he).1; omega) he⟩ s1⟩
abbrev s_part:Stmt:=top 5
theorem sc_part:FnScope ["weighing", "begin", "end", "pieces", "low", "high", "weights"] ["weighing", "begin", "end"] (defScope s_part):=⟨rfl,rfl,rfl,by decide +kernel,rfl,by decide +kernel,by decide +kernel⟩
def spPart (K:PySem.W.Frag):Sp:=fun vs H Q _ => ∃ (a:Addr) (xs:List V) (L:WL) (bg en:Int),vs=[.ref a,.int bg,.int en]∧SqL K H a xs∧Wg H xs L∧L.length ≤ 1000∧Pos L∧bg ≤ en∧∀ (b:Addr) (ys:List V) (H' : Hp),H b=none→H' b=some (.lst ys)→Wg H' ys (shape (cutP bg en 0 L))→Same H H'→Q (.ref b) H'
theorem ok_part {f:Addr} {fd:FuncData} (F:Fun K "part" "part" s_part f fd) (M:Txt mg) (Glaid_from:Kn P w K mg base "laid_from" 1 ["weighing", "begin"] (spLaid K)) (Gshaped:Kn P w K mg base "shaped" 1 ["pieces"] (spShaped K)):FnOk P w K mg base CX0 2 f fd ["weighing", "begin", "end"] (spPart K):=by
 have sc:=sc_part
 refine F.ok sc (fun vs H Q E h => ?_) (fun cdv A outer s H vs Q E hr h => ?_)
 ·obtain ⟨a,xs,L,bg,en,rfl,_⟩:=h
  rfl
 ·obtain ⟨a,xs,L,bg,en,rfl,hS,g,hL,hpos,hbe,k⟩:=h
  refine ⟨_,(pss_cons (ps_set (i:=3) sc.nd rfl (Or.inl rfl) (pe_lst pa_nil))
   (pss_cons (ps_for PassesOwn.never rfl (pi_list (pe_callD Glaid_from hr rfl (pa_Name (pv 0) (pa_Constant pe_int pa_nil)))) (pg_tup rfl (pgs_cons (pg_name (i:=4) sc.nd rfl (Or.inl rfl)) (pgs_cons (pg_name (i:=5) sc.nd rfl (Or.inl rfl)) (pgs_cons (pg_name (i:=6) sc.nd rfl (Or.inl rfl)) pgs_nil))))
   (pss_one (ps_if (PW.pt (pw_and (pt_cmpR op_lt (pv 4) (pv 2) (nomark _)) (pw_and1 (pt_cmpR op_lt (pv 1) (pv 5) (nomark _))))) (pss_one (ps_expr (pe_bm PySem.F.plainAttrs_list PySem.F.slot_list_append PySem.F.type_list_append mt_append (pv 3) (pa_Tuple (pe_tup (pa_o2 (pe_op op_sub (pe_callB (call_min2 rfl) (by rfl) M.min boot_min (pa_Name (pv 5) (pa_Name (pv 2) pa_nil))) (pe_callB (call_max2 rfl) (by rfl) M.max boot_max (pa_Name (pv 4) (pa_Name (pv 1) pa_nil)))) (pv 6) pa_nil)) pa_nil)))) pss_nil)))
   (pss_one (ps_ret (pe_callD Gshaped hr rfl (pa_Name (pv 3) pa_nil)))))),?_⟩
  refine ⟨(by show 0 ≤ sizeLine; decide),fun c fc => ?_⟩
  have s1:Same H (upd H c (.lst [])):=Same.new (Same.refl H) fc
  have hc1:(upd H c (.lst [])) c=some (.lst []):=upd_same
  generalize upd H c (.lst [])=H1 at s1 hc1 ⊢
  refine ⟨_,rfl,a,xs,L,0,rfl,s1.seq hS,g.up s1.tups,hL,fun b zs H2 fb hb ly s2 => ?_⟩
  have s02:=s1.trans s2
  refine ⟨b,rfl,⟨zs,SqL.of hb⟩,for_list (K:=K) (a:=b) (xs:=zs) (fun i σ H' => ∃ (x4 x5 x6:Option V) (ys:List V),σ=[some (.ref a),some (.int bg),some (.int en),some (.ref c),x4,x5,x6]∧H' c=some (.lst ys)∧H' b=some (.lst zs)∧Wg H' ys (cutP bg en 0 (L.take i))∧Tups H2 H'∧Same H H') ⟨_,_,_,[],rfl,s2 _ _ hc1,hb,Wg.nil _,Tups.refl _,s02⟩ (fun i σ H' _ ⟨_,_,_,_,_,_,z,_⟩ => SqL.of z) ?_ ?_⟩
  ·rintro i x σ H3 hx ⟨x4,x5,x6,ys,rfl,h3c,h3b,g3,T3,s3⟩
   have hi:i < L.length:=by rw [← ly.1]; exact (List.getElem?_eq_some_iff.mp hx).1
   have hei:=List.getElem?_eq_getElem hi
   obtain ⟨p,wq,a1,a2,a3⟩:=ly.2 i _ hei
   rw [hx] at a1
   cases a1
   have lys:ys.length ≤ 1000:=by
    rw [g3.1]
    have:=cutP_len bg en (L.take i) 0
    rw [List.length_take] at this
    omega
   have ets:(0:Int) + tot (L.take (i + 1))=0 + tot (L.take i) + (L[i]).1:=by rw [tot_succ hei]; omega
   have esn:cutP bg en 0 (L.take (i + 1))=cutP bg en 0 (L.take i) ++ piece bg en (0 + tot (L.take i)) (L[i]).1 (L[i]).2:=by rw [take_succ' hei,cutP_snoc]
   rw [ets] at a2
   refine ⟨p,_,rfl,SqT.of (T3 _ _ a2),rfl,_,_,rfl,_,_,rfl,_,_,rfl,rfl,?_⟩
   refine ⟨_,rfl,_,rfl,_,_,rfl,rfl,_,rfl,ite2 (fun c1 => ?_) (fun c1 => ?_)⟩
   ·have c1:=of_decide_eq_true c1
    refine ⟨_,rfl,_,rfl,_,_,rfl,rfl,_,rfl,ite2 (fun c2 => ?_) (fun c2 => ?_)⟩
    ·have c2:=of_decide_eq_true c2
     refine ⟨_,rfl,.inl ⟨rfl,_,SqL.of h3c⟩,_,rfl,_,rfl,_,_,rfl,_,rfl,_,rfl,_,_,rfl,_,_,rfl,rfl,_,rfl,(by show 2 ≤ sizeLine; decide),fun p' hp' => ?_⟩
     have npc:p' ≠ c:=fun z => by rw [z,h3c] at hp'; cases hp'
     have npb:p' ≠ b:=fun z => by rw [z,h3b] at hp'; cases hp'
     have nbc:b ≠ c:=fun z => by rw [z,hc1] at fb; cases fb
     have h8c:=(upd_ne (H:=H3) (a:=p') (o:=.tup [.int (L2.mn (0 + tot (L.take i) + (L[i]).1) en - L2.mx (0 + tot (L.take i)) bg),.ref wq]) (Ne.symm npc)).trans h3c
     refine ⟨c,ys,_,rfl,rfl,h8c,Nat.lt_of_le_of_lt lys (by decide),?_⟩
     have T8:Tups H3 (upd H3 p' (.tup [.int (L2.mn (0 + tot (L.take i) + (L[i]).1) en - L2.mx (0 + tot (L.take i)) bg),.ref wq])):=(Tups.refl _).new hp'
     have T9:Tups (upd H3 p' (.tup [.int (L2.mn (0 + tot (L.take i) + (L[i]).1) en - L2.mx (0 + tot (L.take i)) bg),.ref wq])) (upd (upd H3 p' (.tup [.int (L2.mn (0 + tot (L.take i) + (L[i]).1) en - L2.mx (0 + tot (L.take i)) bg),.ref wq])) c (.lst (ys ++ [.ref p']))):=(Tups.refl _).lst h8c
     refine ⟨_,_,_,_,rfl,upd_same,?_,?_,(T3.trans T8).trans T9,Same.own (Same.new s3 hp') fc⟩
     ·rw [upd_ne nbc,upd_ne (Ne.symm npb)]; exact h3b
     ·rw [esn]
      unfold piece
      rw [if_pos (show 0 + tot (L.take i) < en∧bg < 0 + tot (L.take i) + (L[i]).1 from ⟨c1,c2⟩)]
      exact Wg.snoc (g3.up (T8.trans T9)) ⟨p',wq,rfl,T9 _ _ upd_same,T9 _ _ (T8 _ _ (T3 _ _ a3))⟩
    ·have c2:=of_decide_eq_false (Bool.eq_false_iff.mpr c2)
     refine ⟨_,_,_,ys,rfl,h3c,h3b,?_,T3,s3⟩
     rw [esn]
     unfold piece
     rw [if_neg fun z => c2 z.2,List.append_nil]
     exact g3
   ·have c1:=of_decide_eq_false (Bool.eq_false_iff.mpr c1)
    refine iteF ⟨_,_,_,ys,rfl,h3c,h3b,?_,T3,s3⟩
    rw [esn]
    unfold piece
    rw [if_neg fun z => c1 z.1,List.append_nil]
    exact g3
  ·rintro σ H3 ⟨x4,x5,x6,ys,rfl,h3c,h3b,g3,T3,s3⟩
   have hlx:L.take zs.length=L:=by rw [ly.1]; exact List.take_length
   rw [hlx] at g3
   refine ⟨_,rfl,c,ys,_,rfl,SqL.of h3c,g3,Nat.le_trans (cutP_len bg en L 0) hL,cutP_nn hbe hpos,fun b' ys' H4 fb' hb' g4 s4 => ?_⟩
   exact k b' ys' H4 (s3.free fb') hb' g4 (s3.trans s4)
end
end Toy
namespace Toy
open PySem L2 PyProof.Rows
structure Gb (mg:Str→Option Value):Prop where
 zp:mg "zip" = none
 st:mg "set" = none
 dm:mg "divmod" = none
end Toy
namespace Toy
open PySem L2 PyProof.Rows
theorem first_zero {ss:List Int} (so:ss.Pairwise (· < ·)) (hb:∀ s ∈ ss,0 ≤ s) (z0:(0:Int) ∈ ss):ss[0]? = some 0:=by
 cases ss with
 | nil => cases z0
 | cons a r =>
  have ha:=hb a List.mem_cons_self
  rcases List.mem_cons.mp z0 with z | z
  ·rw [z]; rfl
  ·have:=(List.pairwise_cons.mp so).1 _ z
   omega
theorem last_long {ss:List Int} {lg:Int} (so:ss.Pairwise (· < ·)) (hb:∀ s ∈ ss,s ≤ lg) (zl:lg ∈ ss):ss[ss.length - 1]? = some lg:=by
 obtain ⟨i,hi⟩:=List.mem_iff_getElem?.mp zl
 obtain ⟨hlt,he⟩:=List.getElem?_eq_some_iff.mp hi
 by_cases z:i=ss.length - 1
 ·rw [← z]; exact hi
 ·have:=List.pairwise_iff_getElem.mp so i (ss.length - 1) hlt (by omega) (by omega)
  have h2:=hb _ (List.getElem_mem (show ss.length - 1 < ss.length by omega))
  omega
section
variable {P:Program} {w:World} {K:PySem.W.Frag} {mg:Str→Option Value} {base:Heap}
abbrev s__law_fitted:Stmt:=top 28
theorem sc__law_fitted:FnScope ["_law_draw", "_law_wide_here", "_law_long", "_law_spots", "_law_k", "_law_pool", "_law_found"] ["_law_draw", "_law_wide_here", "_law_long"] (defScope s__law_fitted):=⟨rfl,rfl,rfl,by decide +kernel,rfl,by decide +kernel,by decide +kernel⟩
structure Fit (wd:Int) (lg:Int) (L:Wl):Prop where
 nrm:Nrm wd.toNat L
 len:L.length ≤ 41
 sum:tot L=lg
 num:∀ e ∈ L,∀ z ∈ e.2,-(10 ^ 62) < z∧z < 10 ^ 62
def spFitted:Sp:=fun vs H Q _ => ∃ (d:Addr) (wd lg:Int),vs=[.ref d,.int wd,.int lg]∧Purse H d∧1 ≤ wd∧wd ≤ 24∧0 ≤ lg∧lg < 10 ^ 63∧∀ (b:Addr) (ys:List V) (L:Wl) (H' : Hp),b ≠ d→H' b=some (.lst ys)→Wg H' ys L→Fit wd lg L→Purse H' d→But d H H'→Q (.ref b) H'
theorem ok_fitted {f:Addr} {fd:FuncData} (F:Fun K "_law_fitted" "_law_fitted" s__law_fitted f fd) (M:Txt mg) (G_law_take:Kn P w K mg base "_law_take" 1 ["_law_draw", "_law_many_here"] spTake) (G_law_weights:Kn P w K mg base "_law_weights" 3 ["_law_draw", "_law_wide_here"] spWeights) (G_law_shape:Kn P w K mg base "_law_shape" 1 ["_law_pieces_here"] (spShape K)) (B:Gb mg):FnOk P w K mg base CX0 4 f fd ["_law_draw", "_law_wide_here", "_law_long"] spFitted:=by
 have sc:=sc__law_fitted
 refine F.ok sc (fun vs H Q E h => ?_) (fun cdv A outer s H vs Q E hr h => ?_)
 ·obtain ⟨d,wd,lg,rfl,_⟩:=h
  rfl
 ·obtain ⟨d,wd,lg,rfl,hP,w1,w2,g0,g1,k⟩:=h
  refine ⟨_,(pss_cons (ps_if (pt_cmpR op_eq (pv 2) pe_int (nomark _)) (pss_one (ps_ret (pe_lst pa_nil))) pss_nil)
   (pss_cons (ps_set (i:=3) sc.nd rfl (Or.inl rfl) (pe_lst (pa_o2 pe_int (pv 2) pa_nil)))
   (pss_cons (ps_for PassesOwn.never rfl (pi_range1 rfl M.range (pa_Subscript (pe_ix (ix_listK (K:=K)) (pe_lst (pa_o2 (pe_callD G_law_take hr rfl (pa_Name (pv 0) (pa_Constant pe_int pa_nil))) (pe_callD G_law_take hr rfl (pa_Name (pv 0) (pa_Constant pe_int pa_nil))) pa_nil)) (pe_callTy call_int1 (by rfl) M.int boot_int (pa_cons (pe_cmpR op_eq (pe_callD G_law_take hr rfl (pa_Name (pv 0) (pa_Constant pe_int pa_nil))) pe_int (nomark _)) pa_nil)) (fun _ _ => rfl)) pa_nil)) (pg_name (i:=4) sc.nd rfl (Or.inl rfl))
   (pss_one (ps_expr (pe_bm PySem.F.plainAttrs_list PySem.F.slot_list_append PySem.F.type_list_append mt_append (pv 3) (pa_Call (pe_callD G_law_take hr rfl (pa_Name (pv 0) (pa_Subscript (pe_ix (ix_listK (K:=K)) (pe_lst (pa_o2 (pv 2) (pe_callB (call_min2 rfl) (by rfl) M.min boot_min (pa_Name (pv 2) (pa_Constant pe_int pa_nil))) pa_nil)) (pe_callD G_law_take hr rfl (pa_Name (pv 0) (pa_Constant pe_int pa_nil))) (fun _ _ => rfl)) pa_nil))) pa_nil)))))
   (pss_cons (ps_set (i:=3) sc.nd rfl (Or.inl rfl) (pe_sortedSet rfl (pv 3) rfl M.sorted rfl B.st))
   (pss_cons (ps_compG (xs:=["_law_k"]) (Nb:=["_law_draw", "_law_wide_here", "_law_long", "_law_spots", "", "_law_pool", "_law_found"]) (pg_name (i:=5) sc.nd rfl (Or.inl rfl)) rfl rfl (pi_range1 rfl M.range (pa_BinOp (pe_op op_add pe_int (pe_callD G_law_take hr rfl (pa_Name (pv 0) (pa_Constant pe_int pa_nil)))) pa_nil)) rfl (by show ∀ p ∈ (List.zip ["_law_draw", "_law_wide_here", "_law_long", "_law_spots", "", "_law_pool", "_law_found"] ["_law_draw", "_law_wide_here", "_law_long", "_law_spots", "_law_k", "_law_pool", "_law_found"]:List (Str × Str)),_; decide +kernel) (by decide +kernel) (fun cl C s₂ H₂ fp => (pg_name (i:=0) (by show List.Nodup (["_law_k", "_law_draw", "_law_wide_here", "_law_long", "_law_spots", "", "_law_pool", "_law_found"]:List Str); decide +kernel) rfl (Or.inl (lookup_relabel_local rfl)) (Or.inr (lookup_relabel_local rfl)))) (fun cl C s₂ H₂ fp => pif_nil) (fun cl C s₂ H₂ fp => (pe_callD G_law_weights hr rfl (pa_Name (pv 1) (pa_Name (pv 2) pa_nil)))) (by decide +kernel) rfl (by decide +kernel) (by show ∀ y ∈ (_:List (Str × NameKind)),y.2=NameKind.free→(defScope s__law_fitted).names.lookup y.1=some .cell; decide +kernel))
   (pss_cons (ps_set (i:=6) sc.nd rfl (Or.inl rfl) (pe_lst pa_nil))
   (pss_cons (ps_for PassesOwn.never rfl (pi_range2 rfl M.range (pa_Constant pe_int (pa_Call (pe_callB (call_lenK (K:=K)) (by rfl) M.len PySem.boot_len (pa_Name (pv 3) pa_nil)) pa_nil))) (pg_name (i:=4) sc.nd rfl (Or.inl rfl))
   (pss_one (ps_expr (pe_bm PySem.F.plainAttrs_list PySem.F.slot_list_append PySem.F.type_list_append mt_append (pv 6) (pa_Tuple (pe_tup (pa_o2 (pe_op op_sub (pe_ix (ix_listK (K:=K)) (pv 3) (pv 4) (fun _ _ => rfl)) (pe_ix (ix_listK (K:=K)) (pv 3) (pe_op op_sub (pv 4) pe_int) (fun _ _ => rfl))) (pe_ix (ix_listK (K:=K)) (pv 5) (pe_callD G_law_take hr rfl (pa_Name (pv 0) (pa_Call (pe_callB (call_lenK (K:=K)) (by rfl) M.len PySem.boot_len (pa_Name (pv 5) pa_nil)) pa_nil))) (fun _ _ => rfl)) pa_nil)) pa_nil)))))
   (pss_one (ps_ret (pe_callD G_law_shape hr rfl (pa_Name (pv 6) pa_nil))))))))))),?_⟩
  refine ⟨_,rfl,rfl,_,rfl,ite2 (fun e => ?_) (fun e => ?_)⟩
  ·have e:lg=0:=V.int.inj (of_decide_eq_true e)
   exact ⟨(by show 0 ≤ sizeLine; decide),fun b hb => k b [] [] _ (hP.ne hb) upd_same (Wg.nil _) ⟨⟨fun e he => (by cases he),fun e he => (by cases he),trivial⟩,Nat.zero_le _,e.symm,fun e he => (by cases he)⟩ (hP.new hb) ((But.refl d H).new hb)⟩
  have lp:0 < lg:=by
   have:lg ≠ 0:=fun z => e (decide_eq_true (congrArg V.int z))
   omega
  refine ⟨_,rfl,(by show 2 ≤ sizeLine; decide),fun b hb => ?_⟩
  have nbd:=hP.ne hb
  have P0:=hP.new (o:=.lst [.int 0,.int lg]) hb
  have B0:=(But.refl d H).new (o:=.lst [.int 0,.int lg]) hb
  have hb0:(upd H b (.lst [.int 0,.int lg])) b=some (.lst (([0,lg]:List Int).map V.int)):=upd_same
  generalize upd H b (.lst [.int 0,.int lg])=H0 at P0 B0 hb0 ⊢
  refine ⟨_,rfl,d,6,rfl,P0,by decide,by decide,fun r1 H1 r10 r11 P1 B1 => ?_⟩
  refine ⟨_,rfl,d,40,rfl,P1,by decide,by decide,fun r2 H2 r20 r21 P2 B2 => ⟨(by show 2 ≤ sizeLine; decide),fun l hl => ?_⟩⟩
  have nl:=P2.ne hl
  refine ⟨_,rfl,d,8,rfl,P2.new hl,by decide,by decide,fun t H3 t0 t1 P3 B3 => ⟨rfl,.inr ⟨_,rfl,?_⟩⟩⟩
  have hl3:=B3 l _ upd_same nl
  have B03:=((B1.trans B2).new hl).trans B3
  have hb3:=B03 _ _ hb0 nbd
  have BH3:=B0.trans B03
  have key:∃ r:Int,atI [V.int r1,V.int r2] (if decide (V.int t=V.int 3)=true then 1 else 0)=some (V.int r)∧0 ≤ r∧r < 40:=by
   cases decide (V.int t=V.int 3) with
   | true => exact ⟨r2,rfl,r20,r21⟩
   | false => exact ⟨r1,rfl,r10,by omega⟩
  obtain ⟨r,hat,q0,q1⟩:=key
  refine ⟨l,_,_,_,rfl,rfl,SqL.of hl3,hat,r,rfl,by omega,by omega,?_⟩
  refine for_range (n:=r.toNat) (fun i σ H' => ∃ (kk:Option V) (ps:List Int),σ=[some (.ref d),some (.int wd),some (.int lg),some (.ref b),kk,none,none]∧H' b=some (.lst (ps.map V.int))∧ps.length=2 + i∧(∀ s ∈ ps,0 ≤ s∧s ≤ lg)∧(0:Int) ∈ ps∧lg ∈ ps∧Purse H' d∧But d H H')
    ⟨_,[0,lg],rfl,hb3,rfl,fun s hs => by
     rcases List.mem_cons.mp hs with rfl | hs
     ·omega
     ·rw [List.mem_singleton.mp hs]; omega,List.mem_cons_self,List.mem_cons_of_mem _ List.mem_cons_self,P3,BH3⟩ ?_ ?_
  ·rintro i σ H4 hi ⟨kk,ps,rfl,hb4,lps,bp,z0,zl,P4,B4⟩
   refine ⟨_,rfl,.inl ⟨rfl,_,SqL.of hb4⟩,_,rfl,_,rfl,_,rfl,_,_,rfl,(by show 2 ≤ sizeLine; decide),fun l2 hl2 => ?_⟩
   have nl2:=P4.ne hl2
   refine ⟨_,rfl,d,2,rfl,P4.new hl2,by decide,by decide,fun c H5 c0 c1 P5 B5 => ?_⟩
   have hl5:=B5 l2 _ upd_same nl2
   have B45:=((But.refl d H4).new hl2).trans B5
   have key:∃ m:Int,atI [V.int lg,V.int (if 12 < lg then 12 else lg)] c=some (V.int m)∧0 < m∧m ≤ lg:=by
    have hc:c=0 ∨ c=1:=by omega
    rcases hc with rfl | rfl
    ·exact ⟨lg,rfl,lp,Int.le_refl _⟩
    ·exact ⟨_,rfl,by split <;> omega,by split <;> omega⟩
   obtain ⟨m,hat2,m0,m1⟩:=key
   refine ⟨l2,_,_,_,rfl,rfl,SqL.of hl5,hat2,d,m,rfl,P5,m0,Int.lt_of_le_of_lt m1 (Int.lt_trans g1 (by decide)),fun s H6 s0 s1 P6 B6 => ?_⟩
   have hb6:=B6 _ _ (B45 _ _ hb4 nbd) nbd
   refine ⟨b,_,_,rfl,rfl,hb6,Nat.lt_of_le_of_lt (by rw [List.length_map]; omega:_ ≤ 1000) (by decide),?_⟩
   refine ⟨_,ps ++ [s],rfl,by rw [upd_same,List.map_append]; rfl,by rw [List.length_append,lps]; rfl,fun z hz => ?_,List.mem_append_left _ z0,List.mem_append_left _ zl,P6.own nbd,((B4.trans B45).trans B6).own hb⟩
   rcases List.mem_append.mp hz with z | z
   ·exact bp _ z
   ·rw [List.mem_singleton.mp z]; omega
  ·rintro σ H4 ⟨kk,ps,rfl,hb4,lps,bp,z0,zl,P4,B4⟩
   refine ⟨_,rfl,b,ps,rfl,SqL.of hb4,by omega,fun q ms hq hpm hs => ?_⟩
   have ml:ms.length ≤ 41:=by rw [hpm.length_eq]; exact Nat.le_trans (dd_len ps) (by omega)
   have mm:∀ s,s ∈ ms ↔ s ∈ ps:=fun s => by rw [hpm.mem_iff,dd_mem]
   have nd:ms.Nodup:=hpm.nodup_iff.mpr (dd_nodup ps)
   have so:ms.Pairwise (· < ·):=(hs.and nd).imp fun h => Int.lt_iff_le_and_ne.mpr h
   have bm:∀ s ∈ ms,0 ≤ s∧s ≤ lg:=fun s hs' => bp s ((mm s).mp hs')
   have fz:=first_zero so (fun s h => (bm s h).1) ((mm 0).mpr z0)
   have fl:=last_long so (fun s h => (bm s h).2) ((mm lg).mpr zl)
   have mp:0 < ms.length:=(List.getElem?_eq_some_iff.mp fz).1
   have B5:=B4.new (o:=.lst (ms.map V.int)) hq
   have P5:=P4.new (o:=.lst (ms.map V.int)) hq
   have nqd:=P4.ne hq
   have hq5:(upd H4 q (.lst (ms.map V.int))) q=some (.lst (ms.map V.int)):=upd_same
   generalize upd H4 q (.lst (ms.map V.int))=H5 at B5 P5 hq5 ⊢
   refine ⟨_,rfl,d,3,rfl,P5,by decide,by decide,fun r H6 r0 r1 P6 B6 => ⟨_,_,rfl,rfl,?_⟩⟩
   have hq6:=B6 _ _ hq5 nqd
   refine ⟨_,rfl,by omega,by omega,compR (fun i ys H' => ys.length=i∧(∀ y ∈ ys,∃ (q:Addr) (ns:List Int),y=V.ref q∧H' q=some (.tup (ns.map V.int))∧WdOk wd ns)∧H' q=some (.lst (ms.map V.int))∧Purse H' d∧But d H H') ⟨rfl,fun y hy => by simp at hy,hq6,P6,B5.trans B6⟩ (by omega) (fun i ys H' h => Nat.le_of_eq h.1) ?_ ?_⟩
   ·rintro i ys H' pre hp hi ⟨e,hy,hq',P2,B2⟩
    rcases pre with _ | ⟨p0,_ | ⟨p1,pre⟩⟩
    ·cases hp
    ·refine ⟨⟨[some _],rfl,rfl⟩,?_⟩
     unfold tYes
     dsimp only
     rw [if_pos (rfl:true=true)]
     refine ⟨_,rfl,_,rfl,d,wd,rfl,P2,w1,w2,fun q2 ns H3 f3 h3 l3 P3 B3 => ?_⟩
     refine ⟨by rw [List.length_append,e]; rfl,fun y hm => ?_,B3 _ _ hq' nqd,P3,B2.trans B3⟩
     rcases List.mem_append.mp hm with z | z
     ·obtain ⟨q',ns',rfl,t',l'⟩:=hy y z
      exact ⟨q',ns',rfl,B3.tups P2 _ _ t',l'⟩
     ·rw [List.mem_singleton] at z
      subst z
      exact ⟨q2,ns,rfl,h3,l3⟩
    ·cases hp
   ·rintro ys H2 ⟨e,hy,hq2,P2,B2⟩ D hD
    have P3:=P2.new (o:=.lst ys) hD
    have B3:=B2.new (o:=.lst ys) hD
    have nqD:q ≠ D:=fun z => by rw [← z,hq2] at hD; cases hD
    refine ⟨(by show 0 ≤ sizeLine; decide),fun c hc => ?_⟩
    have P4:=P3.new (o:=.lst []) hc
    have B4:=B3.new (o:=.lst []) hc
    have fc:=B3.free P3 hc
    have ncD:c ≠ D:=fun z => by rw [z,upd_same] at hc; cases hc
    have ncq:c ≠ q:=fun z => by rw [z,upd_ne nqD,hq2] at hc; cases hc
    have nDd:=P2.ne hD
    have ncd:=P3.ne hc
    have T4:Tups H2 (upd (upd H2 D (.lst ys)) c (.lst [])):=((Tups.refl H2).new hD).new hc
    have hq4:(upd (upd H2 D (.lst ys)) c (.lst [])) q=some (.lst (ms.map V.int)):=by rw [upd_ne (Ne.symm ncq),upd_ne nqD]; exact hq2
    have hD4:(upd (upd H2 D (.lst ys)) c (.lst [])) D=some (.lst ys):=by rw [upd_ne (Ne.symm ncD)]; exact upd_same
    have hc4:(upd (upd H2 D (.lst ys)) c (.lst [])) c=some (.lst []):=upd_same
    generalize upd (upd H2 D (.lst ys)) c (.lst [])=HS at P4 B4 T4 hq4 hD4 hc4 ⊢
    have ml' : (ms.map V.int).length ≤ 41:=by rw [List.length_map]; exact ml
    refine ⟨_,rfl,q,_,rfl,.inl (SqL.of hq4),1,_,rfl,⟨by decide,by decide,by omega,by omega⟩,for_range (fun i σ H' => ∃ (kk:Option V) (xs:List V) (L:Wl),σ=[some (.ref d),some (.int wd),some (.int lg),some (.ref q),kk,some (.ref D),some (.ref c)]∧H' c=some (.lst xs)∧H' D=some (.lst ys)∧H' q=some (.lst (ms.map V.int))∧Tups H2 H'∧Wg H' xs L∧L.length=i∧(∀ e ∈ L,1 ≤ e.1∧WdOk wd e.2)∧ms[i]? = some (tot L)∧Purse H' d∧But d H H') ⟨_,[],[],rfl,hc4,hD4,hq4,T4,Wg.nil _,rfl,fun e he => by simp at he,fz,P4,B4⟩ ?_ ?_⟩
    ·rintro i σ H5 hi ⟨kk,xs,L,rfl,h5c,h5D,h5q,T5,g5,l5,q5,ht5,P5,B5⟩
     rw [List.length_map] at hi
     have hv:ms[i + 1]? = some ms[i + 1]:=List.getElem?_eq_getElem (by omega)
     have hlt:tot L < ms[i + 1]:=by
      obtain ⟨a,ea⟩:=List.getElem?_eq_some_iff.mp ht5
      have:=List.pairwise_iff_getElem.mp so i (i + 1) a (by omega) (by omega)
      rw [ea] at this
      exact this
     generalize ms[i + 1]=v at hv hlt
     have au:atI (ms.map V.int) (1 + (i:Int) - 1)=some (V.int (tot L)):=by
      rw [show (1 + (i:Int) - 1)=((i:Nat):Int) by omega]
      exact atI_nat (by rw [List.getElem?_map,ht5]; rfl)
     have av:atI (ms.map V.int) (1 + (i:Int))=some (V.int v):=by
      rw [show (1 + (i:Int))=((i + 1:Nat):Int) by omega]
      exact atI_nat (by rw [List.getElem?_map,hv]; rfl)
     refine ⟨_,rfl,.inl ⟨rfl,_,SqL.of h5c⟩,_,rfl,_,rfl,q,_,_,_,rfl,rfl,SqL.of h5q,av,?_⟩
     refine ⟨_,rfl,_,rfl,_,_,rfl,rfl,q,_,_,_,rfl,rfl,SqL.of h5q,au,_,_,rfl,rfl,?_⟩
     refine ⟨_,rfl,_,rfl,_,rfl,D,_,rfl,.inl (SqL.of h5D),d,_,rfl,P5,by omega,by omega,fun cc H7 c0 c1 P7 B7 => ?_⟩
     have h7c:=B7 c _ h5c ncd
     have h7D:=B7 D _ h5D nDd
     have h7q:=B7 q _ h5q nqd
     have hcc:cc.toNat < ys.length:=by omega
     have T57:Tups H5 H7:=B7.tups P5
     have T7:Tups H2 H7:=T5.trans T57
     obtain ⟨q',ns,eq,tq,lq⟩:=hy _ (List.getElem_mem hcc)
     have tq7:=T7 _ _ tq
     refine ⟨D,_,_,V.ref q',rfl,rfl,SqL.of h7D,?_,(by show 2 ≤ sizeLine; decide),fun p hp => ?_⟩
     ·have:=atI_nat (xs:=ys) (j:=cc.toNat) (v:=V.ref q') (by rw [List.getElem?_eq_getElem hcc,eq])
      rw [Int.toNat_of_nonneg c0] at this
      exact this
     ·have npc:p ≠ c:=fun z => by rw [z,h7c] at hp; cases hp
      have npD:p ≠ D:=fun z => by rw [z,h7D] at hp; cases hp
      have npq:p ≠ q:=fun z => by rw [z,h7q] at hp; cases hp
      have h8c:(upd H7 p (.tup [.int (v - tot L),.ref q'])) c=some (.lst xs):=by rw [upd_ne (Ne.symm npc)]; exact h7c
      have hxl:xs.length=i:=g5.1.trans l5
      refine ⟨c,xs,_,rfl,rfl,h8c,Nat.lt_of_le_of_lt (by omega:xs.length ≤ 1000) (by decide),?_⟩
      have P8:=P7.new (o:=.tup [.int (v - tot L),.ref q']) hp
      have B8:=(B5.trans B7).new (o:=.tup [.int (v - tot L),.ref q']) hp
      have T8:Tups H7 (upd H7 p (.tup [.int (v - tot L),.ref q'])):=(Tups.refl H7).new hp
      have T9:Tups (upd H7 p (.tup [.int (v - tot L),.ref q'])) (upd (upd H7 p (.tup [.int (v - tot L),.ref q'])) c (.lst (xs ++ [.ref p]))):=(Tups.refl _).lst h8c
      refine ⟨_,_,L ++ [(v - tot L,ns)],rfl,upd_same,?_,?_,(T7.trans T8).trans T9,?_,by rw [List.length_append,l5]; rfl,fun e he => ?_,?_,P8.own ncd,B8.own fc⟩
      ·rw [upd_ne (Ne.symm ncD),upd_ne (Ne.symm npD)]; exact h7D
      ·rw [upd_ne (Ne.symm ncq),upd_ne (Ne.symm npq)]; exact h7q
      ·exact Wg.snoc (g5.up ((T57.trans T8).trans T9)) ⟨p,q',rfl,T9 _ _ upd_same,T9 _ _ (T8 _ _ tq7)⟩
      ·rcases List.mem_append.mp he with z | z
       ·exact q5 e z
       ·rw [List.mem_singleton] at z; subst z; exact ⟨by show 1 ≤ v - tot L; omega,lq⟩
      ·rw [hv,tot_append,tot_cons,tot_nil,show tot L + ((v - tot L) + 0)=v by omega]
    ·rintro σ H5 ⟨kk,xs,L,rfl,h5c,h5D,h5q,T5,g5,l5,q5,ht5,P5,B5⟩
     rw [List.length_map] at l5 ht5
     rw [show ((ms.length:Int) - 1).toNat=ms.length - 1 by omega] at l5 ht5
     rw [fl] at ht5
     refine ⟨_,rfl,c,xs,L,rfl,SqL.of h5c,g5,by omega,fun b2 ys2 H6 f6 h6 g6 s6 => ?_⟩
     refine k b2 ys2 (shape L) H6 (P5.ne f6) h6 g6 ⟨shape_nrm fun e he => (q5 e he).2.1,Nat.le_trans (shape_len L) (by omega),?_,fun e he z hz => ?_⟩ (Same.purse s6 P5) (B5.same s6)
     ·rw [shape_tot fun e he => by have:=(q5 e he).1; omega]
      exact (Option.some.inj ht5).symm
     ·exact (shape_all (p:=WdOk wd) (fun e he => (q5 e he).2) e he).2 z hz
end
end Toy
namespace Toy
open PySem L2 PyProof.Rows
def plusW (us vs:List Int):List Int:=List.zipWith (fun a b => a + b) us vs
section
variable {P:Program} {w:World} {K:PySem.W.Frag} {mg:Str→Option Value} {base:Heap}
def spPlus:Sp:=fun vs H Q _ => ∃ (p q:Addr) (us ws:List Int),vs=[.ref p,.ref q]∧H p=some (.tup (us.map V.int))∧H q=some (.tup (ws.map V.int))∧us.length ≤ 100∧us.length=ws.length∧∀ (r:Addr) (H' : Hp),H r=none→H' r=some (.tup ((plusW us ws).map V.int))→Same H H'→Q (.ref r) H'
abbrev s_sum_of_weights:Stmt:=top 7
theorem sc_sum_of_weights:FnScope ["one", "other"] ["one", "other"] (defScope s_sum_of_weights):=⟨rfl,rfl,rfl,by decide +kernel,rfl,by decide +kernel,by decide +kernel⟩
theorem ok_sow {f:Addr} {fd:FuncData} (F:Fun K "sum_of_weights" "sum_of_weights" s_sum_of_weights f fd) (M:Txt mg) (B:Gb mg):FnOk P w K mg base CX0 1 f fd ["one", "other"] spPlus:=by
 have sc:=sc_sum_of_weights
 refine F.ok sc (fun vs H Q E h => ?_) (fun cdv A outer s H vs Q E hr h => ?_)
 ·obtain ⟨p,q,us,ws,rfl,_⟩:=h
  rfl
 ·obtain ⟨p,q,us,ws,rfl,hp,hq,hl,he,k⟩:=h
  refine ⟨_,(pss_one (ps_ret (pe_callTy call_tuple_of (by rfl) M.tuple boot_tuple (pa_cons (pe_compG (xs:=["weight", "more"]) (Nb:=["one", "other"]) rfl (pi_zipT rfl B.zp (pa_Name (pv 0) (pa_Name (pv 1) pa_nil))) rfl (by show ∀ p ∈ (List.zip ["one", "other"] ["one", "other"]:List (Str × Str)),_; decide +kernel) (by decide +kernel) (fun cl C s₂ H₂ fp => (pg_tupK (K:=K) (n:=2) rfl (pgs_cons (pg_name (i:=0) (by show List.Nodup (["weight", "more", "one", "other"]:List Str); decide +kernel) rfl (Or.inl (lookup_relabel_local rfl)) (Or.inr (lookup_relabel_local rfl))) (pgs_cons (pg_name (i:=1) (by show List.Nodup (["weight", "more", "one", "other"]:List Str); decide +kernel) rfl (Or.inl (lookup_relabel_local rfl)) (Or.inr (lookup_relabel_local rfl))) pgs_nil)))) (fun cl C s₂ H₂ fp => pif_nil) (fun cl C s₂ H₂ fp => (pe_op op_add (pv 0) (pv 1))) (by decide +kernel) rfl (by decide +kernel) (by show ∀ y ∈ (_:List (Str × NameKind)),y.2=NameKind.free→(defScope s_sum_of_weights).names.lookup y.1=some .cell; decide +kernel)) pa_nil)))),?_⟩
  refine ⟨_,rfl,_,rfl,p,q,rfl,⟨_,SqT.of hp⟩,⟨_,SqT.of hq⟩,compZT (K:=K) (a:=p) (b:=q) (xs:=us.map V.int) (ys:=ws.map V.int) (n:=us.length) (fun i zs H' => zs=((plusW us ws).take i).map V.int∧Same H H') ⟨rfl,Same.refl H⟩ (by rw [List.length_map,List.length_map,← he,Nat.min_self]) (by omega) (fun i zs H' h => by rw [h.1,List.length_map,List.length_take]; omega) (fun i zs H' _ h => ⟨SqT.of (h.2 _ _ hp),SqT.of (h.2 _ _ hq)⟩) ?_ ?_⟩
  ·rintro i x y zs H' pre r hpre hx hy ⟨rfl,s1⟩ hr'
   have hx' : ∃ m,us[i]? = some m∧x=V.int m:=by
    rw [List.getElem?_map] at hx
    cases zz:us[i]? with
    | none => rw [zz] at hx; cases hx
    | some m => rw [zz] at hx; cases hx; exact ⟨m,rfl,rfl⟩
   have hy' : ∃ m,ws[i]? = some m∧y=V.int m:=by
    rw [List.getElem?_map] at hy
    cases zz:ws[i]? with
    | none => rw [zz] at hy; cases hy
    | some m => rw [zz] at hy; cases hy; exact ⟨m,rfl,rfl⟩
   obtain ⟨m,hm,rfl⟩:=hx'
   obtain ⟨m',hm',rfl⟩:=hy'
   rcases pre with _ | ⟨p0,_ | ⟨p1,_ | ⟨p2,pre⟩⟩⟩
   ·cases hpre
   ·cases hpre
   ·refine ⟨r,_,rfl,SqT.of upd_same,rfl,_,_,rfl,_,_,rfl,rfl,⟨[some _,some _],rfl,rfl⟩,?_⟩
    unfold tYes
    dsimp only
    rw [if_pos (rfl:true=true)]
    refine ⟨_,rfl,_,rfl,_,_,rfl,rfl,?_,Same.new s1 hr'⟩
    have ez:(plusW us ws)[i]? = some (m + m'):=by unfold plusW; rw [List.getElem?_zipWith,hm,hm']
    rw [take_succ' ez,List.map_append]
    rfl
   ·cases hpre
  ·rintro zs H' ⟨rfl,s1⟩ D hD
   have et:(plusW us ws).take us.length=plusW us ws:=List.take_of_length_le (by unfold plusW; rw [List.length_zipWith]; omega)
   rw [et]
   refine ⟨D,_,rfl,.inl ⟨SqL.of upd_same,fun l hl' => ?_⟩⟩
   have s2:=Same.new (o:=.lst ((plusW us ws).map V.int)) s1 hD
   exact k l _ (Same.free s2 hl') upd_same (Same.new s2 hl')
abbrev s__law_plus:Stmt:=top 27
theorem sc__law_plus:FnScope ["_law_one", "_law_other"] ["_law_one", "_law_other"] (defScope s__law_plus):=⟨rfl,rfl,rfl,by decide +kernel,rfl,by decide +kernel,by decide +kernel⟩
theorem ok_plus {f:Addr} {fd:FuncData} (F:Fun K "_law_plus" "_law_plus" s__law_plus f fd) (M:Txt mg) (B:Gb mg):FnOk P w K mg base CX0 1 f fd ["_law_one", "_law_other"] spPlus:=by
 have sc:=sc__law_plus
 refine F.ok sc (fun vs H Q E h => ?_) (fun cdv A outer s H vs Q E hr h => ?_)
 ·obtain ⟨p,q,us,ws,rfl,_⟩:=h
  rfl
 ·obtain ⟨p,q,us,ws,rfl,hp,hq,hl,he,k⟩:=h
  refine ⟨_,(pss_one (ps_ret (pe_callTy call_tuple_of (by rfl) M.tuple boot_tuple (pa_cons (pe_compG (xs:=["_law_a", "_law_b"]) (Nb:=["_law_one", "_law_other"]) rfl (pi_zipT rfl B.zp (pa_Name (pv 0) (pa_Name (pv 1) pa_nil))) rfl (by show ∀ p ∈ (List.zip ["_law_one", "_law_other"] ["_law_one", "_law_other"]:List (Str × Str)),_; decide +kernel) (by decide +kernel) (fun cl C s₂ H₂ fp => (pg_tupK (K:=K) (n:=2) rfl (pgs_cons (pg_name (i:=0) (by show List.Nodup (["_law_a", "_law_b", "_law_one", "_law_other"]:List Str); decide +kernel) rfl (Or.inl (lookup_relabel_local rfl)) (Or.inr (lookup_relabel_local rfl))) (pgs_cons (pg_name (i:=1) (by show List.Nodup (["_law_a", "_law_b", "_law_one", "_law_other"]:List Str); decide +kernel) rfl (Or.inl (lookup_relabel_local rfl)) (Or.inr (lookup_relabel_local rfl))) pgs_nil)))) (fun cl C s₂ H₂ fp => pif_nil) (fun cl C s₂ H₂ fp => (pe_op op_add (pv 0) (pv 1))) (by decide +kernel) rfl (by decide +kernel) (by show ∀ y ∈ (_:List (Str × NameKind)),y.2=NameKind.free→(defScope s__law_plus).names.lookup y.1=some .cell; decide +kernel)) pa_nil)))),?_⟩
  refine ⟨_,rfl,_,rfl,p,q,rfl,⟨_,SqT.of hp⟩,⟨_,SqT.of hq⟩,compZT (K:=K) (a:=p) (b:=q) (xs:=us.map V.int) (ys:=ws.map V.int) (n:=us.length) (fun i zs H' => zs=((plusW us ws).take i).map V.int∧Same H H') ⟨rfl,Same.refl H⟩ (by rw [List.length_map,List.length_map,← he,Nat.min_self]) (by omega) (fun i zs H' h => by rw [h.1,List.length_map,List.length_take]; omega) (fun i zs H' _ h => ⟨SqT.of (h.2 _ _ hp),SqT.of (h.2 _ _ hq)⟩) ?_ ?_⟩
  ·rintro i x y zs H' pre r hpre hx hy ⟨rfl,s1⟩ hr'
   have hx' : ∃ m,us[i]? = some m∧x=V.int m:=by
    rw [List.getElem?_map] at hx
    cases zz:us[i]? with
    | none => rw [zz] at hx; cases hx
    | some m => rw [zz] at hx; cases hx; exact ⟨m,rfl,rfl⟩
   have hy' : ∃ m,ws[i]? = some m∧y=V.int m:=by
    rw [List.getElem?_map] at hy
    cases zz:ws[i]? with
    | none => rw [zz] at hy; cases hy
    | some m => rw [zz] at hy; cases hy; exact ⟨m,rfl,rfl⟩
   obtain ⟨m,hm,rfl⟩:=hx'
   obtain ⟨m',hm',rfl⟩:=hy'
   rcases pre with _ | ⟨p0,_ | ⟨p1,_ | ⟨p2,pre⟩⟩⟩
   ·cases hpre
   ·cases hpre
   ·refine ⟨r,_,rfl,SqT.of upd_same,rfl,_,_,rfl,_,_,rfl,rfl,⟨[some _,some _],rfl,rfl⟩,?_⟩
    unfold tYes
    dsimp only
    rw [if_pos (rfl:true=true)]
    refine ⟨_,rfl,_,rfl,_,_,rfl,rfl,?_,Same.new s1 hr'⟩
    have ez:(plusW us ws)[i]? = some (m + m'):=by unfold plusW; rw [List.getElem?_zipWith,hm,hm']
    rw [take_succ' ez,List.map_append]
    rfl
   ·cases hpre
  ·rintro zs H' ⟨rfl,s1⟩ D hD
   have et:(plusW us ws).take us.length=plusW us ws:=List.take_of_length_le (by unfold plusW; rw [List.length_zipWith]; omega)
   rw [et]
   refine ⟨D,_,rfl,.inl ⟨SqL.of upd_same,fun l hl' => ?_⟩⟩
   have s2:=Same.new (o:=.lst ((plusW us ws).map V.int)) s1 hD
   exact k l _ (Same.free s2 hl') upd_same (Same.new s2 hl')
end
end Toy
namespace Toy
open PySem L2 PyProof.Rows
structure SumOf (A B R:Wl):Prop where
 nrm:Norm R
 sum:tot R=tot A
 at' : ∀ p,0 ≤ p→p < tot A→atW R p=plusW (atW A p) (atW B p)
 wid:∀ n:Nat,(∀ e ∈ A,e.2.length=n)→(∀ e ∈ B,e.2.length=n)→∀ e ∈ R,e.2.length=n
 len:R.length ≤ A.length + B.length + 1
theorem atW_at {A:Wl} {i:Nat} {e:Int × List Int} {p:Int} (hA:∀ e ∈ A,0 ≤ e.1) (he:A[i]? = some e) (h1:tot (A.take i) ≤ p) (h2:p < tot (A.take (i + 1))):atW A p=e.2:=by
 obtain ⟨hi,ee⟩:=List.getElem?_eq_some_iff.mp he
 have sp:A=A.take i ++ e :: A.drop (i + 1):=by
  conv => lhs; rw [← List.take_append_drop i A,List.drop_eq_getElem_cons hi,ee]
 rw [tot_succ he] at h2
 obtain ⟨m,u⟩:=e
 have h2:p < tot (A.take i) + m:=h2
 rw [congrArg (fun z => atW z p) sp]
 show atW (A.take i ++ (m,u) :: A.drop (i + 1)) p=u
 rw [atW_right (fun e he => hA e (List.mem_of_mem_take he)) h1,atW_lt (by omega)]
theorem atW_end {M:Wl} {m:Int} {u:List Int} {p:Int} (hM:∀ e ∈ M,0 ≤ e.1) (h1:tot M ≤ p) (h2:p < tot M + m):atW (M ++ [(m,u)]) p=u:=by
 rw [atW_right hM h1,atW_lt (by omega)]
def Cur (A:Wl) (i:Nat) (bg:Int):Prop:=(∃ e,A[i]? = some e∧tot (A.take i) ≤ bg∧bg < tot (A.take (i + 1))) ∨ (i=A.length∧bg=tot A)
theorem cur_at {A:Wl} (pA:∀ e ∈ A,0 < e.1) {i:Nat} (h:i ≤ A.length):Cur A i (tot (A.take i)):=by
 by_cases z:i < A.length
 ·refine .inl ⟨_,List.getElem?_eq_getElem z,Int.le_refl _,?_⟩
  rw [tot_succ (List.getElem?_eq_getElem z)]
  have:=pA _ (List.getElem_mem z)
  omega
 ·have e:i=A.length:=by omega
  exact .inr ⟨e,by rw [e,List.take_length]⟩
section
variable {P:Program} {w:World} {K:PySem.W.Frag} {mg:Str→Option Value} {base:Heap}
def spAdded:Sp:=fun vs H Q _ => ∃ (a b:Addr) (xs ys:List V) (A B:Wl) (wd:Nat),vs=[.ref a,.ref b]∧H a=some (.lst xs)∧H b=some (.lst ys)∧Wg H xs A∧Wg H ys B∧(∀ e ∈ A,0 < e.1)∧(∀ e ∈ B,0 < e.1)∧tot A=tot B∧A.length ≤ 200∧B.length ≤ 200∧wd ≤ 24∧(∀ e ∈ A,e.2.length=wd)∧(∀ e ∈ B,e.2.length=wd) ∧
 ∀ (r:Addr) (zs:List V) (R:Wl) (H' : Hp),H r=none→H' r=some (.lst zs)→Wg H' zs R→SumOf A B R→Same H H'→Q (.ref r) H'
abbrev s_added:Stmt:=top 11
theorem sc_added:FnScope ["one", "other", "stretches", "others", "pieces", "begin", "at", "by", "end"] ["one", "other"] (defScope s_added):=⟨rfl,rfl,rfl,by decide +kernel,rfl,by decide +kernel,by decide +kernel⟩
theorem ok_added {f:Addr} {fd:FuncData} (F:Fun K "added" "added" s_added f fd) (M:Txt mg) (Glaid_from:Kn P w K mg base "laid_from" 1 ["weighing", "begin"] (spLaid K)) (Gsum_of_weights:Kn P w K mg base "sum_of_weights" 1 ["one", "other"] spPlus) (Gshaped:Kn P w K mg base "shaped" 1 ["pieces"] (spShaped K)):FnOk P w K mg base CX0 2 f fd ["one", "other"] spAdded:=by
 have sc:=sc_added
 refine F.ok sc (fun vs H Q E h => ?_) (fun cdv A' outer s H vs Q E hr h => ?_)
 ·obtain ⟨a,b,xs,ys,A,B,wd,rfl,_⟩:=h
  rfl
 ·obtain ⟨a,b,xs,ys,A,B,wd,rfl,ha,hb,ga,gb,pA,pB,ht,lA,lB,w24,wA,wB,k⟩:=h
  refine ⟨_,(pss_cons (ps_set (i:=2) sc.nd rfl (Or.inl rfl) (pe_callD Glaid_from hr rfl (pa_Name (pv 0) (pa_Constant pe_int pa_nil))))
   (pss_cons (ps_set (i:=3) sc.nd rfl (Or.inl rfl) (pe_callD Glaid_from hr rfl (pa_Name (pv 1) (pa_Constant pe_int pa_nil))))
   (pss_cons (ps_set (i:=4) sc.nd rfl (Or.inl rfl) (pe_lst pa_nil))
   (pss_cons (ps_asg3 pe_int (pg_name (i:=5) sc.nd rfl (Or.inl rfl)) (pg_name (i:=6) sc.nd rfl (Or.inl rfl)) (pg_name (i:=7) sc.nd rfl (Or.inl rfl)))
   (pss_cons (ps_while PassesOwn.never (pt_cmpR op_lt (pv 6) (pe_callB (call_lenK (K:=K)) (by rfl) M.len PySem.boot_len (pa_Name (pv 2) pa_nil)) (nomark _)) (pss_cons (ps_set (i:=8) sc.nd rfl (Or.inl rfl) (pe_callB (call_min2 rfl) (by rfl) M.min boot_min (pa_Subscript (pe_ix (ix_tupK (K:=K)) (pe_ix (ix_listK (K:=K)) (pv 2) (pv 6) (fun _ _ => rfl)) pe_int (fun _ _ => rfl)) (pa_Subscript (pe_ix (ix_tupK (K:=K)) (pe_ix (ix_listK (K:=K)) (pv 3) (pv 7) (fun _ _ => rfl)) pe_int (fun _ _ => rfl)) pa_nil))))
   (pss_cons (ps_expr (pe_bm PySem.F.plainAttrs_list PySem.F.slot_list_append PySem.F.type_list_append mt_append (pv 4) (pa_Tuple (pe_tup (pa_o2 (pe_op op_sub (pv 8) (pv 5)) (pe_callD Gsum_of_weights hr rfl (pa_Subscript (pe_ix (ix_tupK (K:=K)) (pe_ix (ix_listK (K:=K)) (pv 2) (pv 6) (fun _ _ => rfl)) pe_int (fun _ _ => rfl)) (pa_Subscript (pe_ix (ix_tupK (K:=K)) (pe_ix (ix_listK (K:=K)) (pv 3) (pv 7) (fun _ _ => rfl)) pe_int (fun _ _ => rfl)) pa_nil))) pa_nil)) pa_nil)))
   (pss_cons (ps_set (i:=5) sc.nd rfl (Or.inl rfl) (pv 8))
   (pss_cons (ps_if (pt_cmpR op_eq (pe_ix (ix_tupK (K:=K)) (pe_ix (ix_listK (K:=K)) (pv 2) (pv 6) (fun _ _ => rfl)) pe_int (fun _ _ => rfl)) (pv 8) (nomark _)) (pss_one (ps_aug (i:=6) sc.nd rfl (Or.inl rfl) pe_int ip_add)) pss_nil)
   (pss_one (ps_if (pt_cmpR op_eq (pe_ix (ix_tupK (K:=K)) (pe_ix (ix_listK (K:=K)) (pv 3) (pv 7) (fun _ _ => rfl)) pe_int (fun _ _ => rfl)) (pv 8) (nomark _)) (pss_one (ps_aug (i:=7) sc.nd rfl (Or.inl rfl) pe_int ip_add)) pss_nil)))))))
   (pss_one (ps_ret (pe_callD Gshaped hr rfl (pa_Name (pv 4) pa_nil))))))))),?_⟩
  have nA:∀ e ∈ A,0 ≤ e.1:=fun e he => Int.le_of_lt (pA e he)
  have nB:∀ e ∈ B,0 ≤ e.1:=fun e he => Int.le_of_lt (pB e he)
  refine ⟨_,rfl,a,xs,A,0,rfl,SqL.of ha,ga,by omega,fun la za H1 f1 h1 y1 s1 => ?_⟩
  refine ⟨_,rfl,b,ys,B,0,rfl,SqL.of (s1 _ _ hb),gb.up s1.tups,by omega,fun lb zb H2 f2 h2 y2 s2 => ?_⟩
  refine ⟨(by show 0 ≤ sizeLine; decide),fun c hc => ?_⟩
  have s3:=Same.new (o:=.lst []) (Same.refl H2) hc
  have hc3:(upd H2 c (.lst [])) c=some (.lst []):=upd_same
  generalize upd H2 c (.lst [])=H3 at s3 hc3 ⊢
  have fc:H c=none:=(s1.trans s2).free hc
  have hla:=s3 _ _ (s2 _ _ h1)
  have hlb:=s3 _ _ h2
  have ya:=y1.up (s2.trans s3).tups
  have yb:=y2.up s3.tups
  have s03:=(s1.trans s2).trans s3
  have nca:c ≠ la:=fun z => by rw [z,s2 _ _ h1] at hc; cases hc
  have ncb:c ≠ lb:=fun z => by rw [z,h2] at hc; cases hc
  refine while_by (fun σ H' => ∃ (i j:Nat) (bg:Int) (x8:Option V) (zs:List V) (M:Wl),σ=[some (.ref a),some (.ref b),some (.ref la),some (.ref lb),some (.ref c),some (.int bg),some (.int i),some (.int j),x8]∧0 ≤ bg∧Cur A i bg∧Cur B j bg∧i ≤ A.length∧j ≤ B.length∧H' c=some (.lst zs)∧Wg H' zs M∧(∀ e ∈ M,0 < e.1)∧tot M=bg∧(∀ p,0 ≤ p→p < bg→atW M p=plusW (atW A p) (atW B p))∧(∀ e ∈ M,e.2.length=wd)∧M.length ≤ i + j∧Same H H'∧H' la=some (.lst za)∧H' lb=some (.lst zb)∧Tups H3 H')
   (fun σ _ => (A.length + B.length) - ((match σ[6]? with | some (some (V.int i)) => i.toNat | _ => 0) + (match σ[7]? with | some (some (V.int i)) => i.toNat | _ => 0)))
   ⟨0,0,0,_,[],[],rfl,Int.le_refl _,by have:=cur_at pA (Nat.zero_le A.length); rw [List.take_zero,tot_nil] at this; exact this,by have:=cur_at pB (Nat.zero_le B.length); rw [List.take_zero,tot_nil] at this; exact this,Nat.zero_le _,Nat.zero_le _,hc3,Wg.nil _,fun e he => (by cases he),rfl,fun p p0 p1 => (by omega),fun e he => (by cases he),Nat.zero_le _,s03,hla,hlb,Tups.refl _⟩ ?_ ?_
  ·rintro σ H4 ⟨i,j,bg,x8,zs,M,rfl,b0,cA,cB,li,lj,hc4,g4,pM,tM,aM,wM,lM,s4,hla4,hlb4,T4⟩
   refine ⟨_,rfl,_,rfl,la,_,rfl,.inl (SqL.of hla4),_,_,rfl,rfl,_,rfl,ite2 (fun q => ?_) (fun q => ?_)⟩
   ·have q:(i:Int) < (za.length:Int):=of_decide_eq_true q
    have hi:i < A.length:=by rw [← y1.1]; omega
    obtain ⟨e,he,ea1,ea2⟩:∃ e,A[i]? = some e∧tot (A.take i) ≤ bg∧bg < tot (A.take (i + 1)):=by
     rcases cA with z | ⟨z,_⟩
     ·exact z
     ·omega
    have bgA:bg < tot A:=Int.lt_of_lt_of_le ea2 (tot_take_le (fun e he => pA e he) (i + 1))
    obtain ⟨f',hf,fb1,fb2⟩:∃ e,B[j]? = some e∧tot (B.take j) ≤ bg∧bg < tot (B.take (j + 1)):=by
     rcases cB with z | ⟨_,z⟩
     ·exact z
     ·omega
    have hj:j < B.length:=(List.getElem?_eq_some_iff.mp hf).1
    obtain ⟨pa,wa,ha1,ha2,ha3⟩:=(ya.up T4).2 i e he
    obtain ⟨pb,wb,hb1,hb2,hb3⟩:=(yb.up T4).2 j f' hf
    refine ⟨_,rfl,_,rfl,la,_,_,V.ref pa,rfl,rfl,SqL.of hla4,atI_nat ha1,pa,_,_,_,rfl,rfl,SqT.of ha2,rfl,_,rfl,_,rfl,lb,_,_,V.ref pb,rfl,rfl,SqL.of hlb4,atI_nat hb1,pb,_,_,_,rfl,rfl,SqT.of hb2,rfl,_,_,rfl,?_⟩
    have key:∃ en:Int,(if 0 + tot (B.take (j + 1)) < 0 + tot (A.take (i + 1)) then 0 + tot (B.take (j + 1)) else 0 + tot (A.take (i + 1)))=en∧bg < en∧en ≤ tot (A.take (i + 1))∧en ≤ tot (B.take (j + 1))∧(en=tot (A.take (i + 1)) ∨ en=tot (B.take (j + 1))):=⟨_,rfl,by split <;> omega,by split <;> omega,by split <;> omega,by split <;> omega⟩
    obtain ⟨en,een,en0,en1,en2,en3⟩:=key
    rw [een]
    refine ⟨_,rfl,.inl ⟨rfl,_,SqL.of hc4⟩,_,rfl,_,rfl,_,_,rfl,rfl,_,rfl,_,rfl,la,_,_,V.ref pa,rfl,rfl,SqL.of hla4,atI_nat ha1,pa,_,_,_,rfl,rfl,SqT.of ha2,rfl,?_⟩
    refine ⟨_,rfl,_,rfl,lb,_,_,V.ref pb,rfl,rfl,SqL.of hlb4,atI_nat hb1,pb,_,_,_,rfl,rfl,SqT.of hb2,rfl,wa,wb,e.2,f'.2,rfl,ha3,hb3,by rw [wA e (List.mem_of_getElem? he)]; omega,by rw [wA e (List.mem_of_getElem? he),wB f' (List.mem_of_getElem? hf)],fun r H5 fr hr5 s5 => ⟨(by show 2 ≤ sizeLine; decide),fun pp hpp => ?_⟩⟩
    have s6:=Same.new (o:=.tup [.int (en - bg),.ref r]) s5 hpp
    have h6p:(upd H5 pp (.tup [.int (en - bg),.ref r])) pp=some (.tup [.int (en - bg),.ref r]):=upd_same
    have h6r:(upd H5 pp (.tup [.int (en - bg),.ref r])) r=some (.tup ((plusW e.2 f'.2).map V.int)):=by rw [upd_ne (ne_of_none hr5 hpp)]; exact hr5
    generalize upd H5 pp (.tup [.int (en - bg),.ref r])=H6 at s6 h6p h6r ⊢
    have hzl:zs.length ≤ 400:=by rw [g4.1]; omega
    refine ⟨c,zs,_,rfl,rfl,s6 _ _ hc4,Nat.lt_of_le_of_lt (by omega:zs.length ≤ 1000) (by decide),?_⟩
    have T7:Tups H6 (upd H6 c (.lst (zs ++ [.ref pp]))):=(Tups.refl H6).lst (s6 _ _ hc4)
    have h7c:(upd H6 c (.lst (zs ++ [.ref pp]))) c=some (.lst (zs ++ [.ref pp])):=upd_same
    have h7a:(upd H6 c (.lst (zs ++ [.ref pp]))) la=some (.lst za):=by rw [upd_ne (Ne.symm nca)]; exact s6 _ _ hla4
    have h7b:(upd H6 c (.lst (zs ++ [.ref pp]))) lb=some (.lst zb):=by rw [upd_ne (Ne.symm ncb)]; exact s6 _ _ hlb4
    have s7:Same H (upd H6 c (.lst (zs ++ [.ref pp]))):=fun d o z => by rw [upd_ne (ne_of_none z fc)]; exact s6 _ _ (s4 _ _ z)
    generalize upd H6 c (.lst (zs ++ [.ref pp]))=H7 at T7 h7c h7a h7b s7 ⊢
    have T47:Tups H4 H7:=s6.tups.trans T7
    have g7:Wg H7 (zs ++ [.ref pp]) (M ++ [(en - bg,plusW e.2 f'.2)]):=Wg.snoc (g4.up T47) ⟨pp,r,rfl,T7 _ _ h6p,T7 _ _ h6r⟩
    have nM:∀ e ∈ M,0 ≤ e.1:=fun e he => Int.le_of_lt (pM e he)
    have pM7:∀ x ∈ M ++ [(en - bg,plusW e.2 f'.2)],0 < x.1:=fun x hx => by
     rcases List.mem_append.mp hx with z | z
     ·exact pM x z
     ·rw [List.mem_singleton.mp z]; show 0 < en - bg; omega
    have tM7:tot (M ++ [(en - bg,plusW e.2 f'.2)])=en:=by rw [tot_append,tot_cons,tot_nil,tM]; show bg + (en - bg + 0)=en; omega
    have aM7:∀ p,0 ≤ p→p < en→atW (M ++ [(en - bg,plusW e.2 f'.2)]) p=plusW (atW A p) (atW B p):=fun p p0 p1 => by
     by_cases z:p < bg
     ·rw [atW_left nM p0 (by omega)]; exact aM p p0 z
     ·rw [atW_end nM (by omega) (by omega),atW_at nA he (by omega) (by omega),atW_at nB hf (by omega) (by omega)]
    have wM7:∀ x ∈ M ++ [(en - bg,plusW e.2 f'.2)],x.2.length=wd:=fun x hx => by
     rcases List.mem_append.mp hx with z | z
     ·exact wM x z
     ·rw [List.mem_singleton.mp z]
      show (plusW e.2 f'.2).length=wd
      unfold plusW
      rw [List.length_zipWith,wA e (List.mem_of_getElem? he),wB f' (List.mem_of_getElem? hf),Nat.min_self]
    have lM7:(M ++ [(en - bg,plusW e.2 f'.2)]).length=M.length + 1:=by rw [List.length_append]; rfl
    have sq7:=SqL.of (K:=K) h7a
    have ha27:=T47 _ _ ha2
    have hb27:=T47 _ _ hb2
    have T37:=T4.trans T47
    refine ⟨_,rfl,?_⟩
    refine ⟨_,rfl,_,rfl,la,_,_,V.ref pa,rfl,rfl,SqL.of h7a,atI_nat ha1,pa,_,_,_,rfl,rfl,SqT.of ha27,rfl,_,rfl,rfl,_,rfl,ite2 (fun u => ?_) (fun u => ?_)⟩
    ·have u:0 + tot (A.take (i + 1))=en:=V.int.inj (of_decide_eq_true u)
     refine ⟨_,rfl,_,_,rfl,rfl,?_⟩
     refine ⟨_,rfl,_,rfl,lb,_,_,V.ref pb,rfl,rfl,SqL.of h7b,atI_nat hb1,pb,_,_,_,rfl,rfl,SqT.of hb27,rfl,_,rfl,rfl,_,rfl,ite2 (fun u2 => ?_) (fun u2 => ?_)⟩
     ·have u2:0 + tot (B.take (j + 1))=en:=V.int.inj (of_decide_eq_true u2)
      refine ⟨_,rfl,_,_,rfl,rfl,⟨i + 1,j + 1,en,_,_,_,rfl,by omega,by rw [← show tot (A.take (i + 1))=en by omega]; exact cur_at pA hi,by rw [← show tot (B.take (j + 1))=en by omega]; exact cur_at pB hj,hi,hj,h7c,g7,pM7,tM7,aM7,wM7,by omega,s7,h7a,h7b,T37⟩,?_⟩
      show (A.length + B.length) - (((i:Int) + 1).toNat + ((j:Int) + 1).toNat) < (A.length + B.length) - ((i:Int).toNat + (j:Int).toNat)
      omega
     ·have u2 : ¬ 0 + tot (B.take (j + 1))=en:=fun z => u2 (decide_eq_true (congrArg V.int z))
      refine ⟨⟨i + 1,j,en,_,_,_,rfl,by omega,by rw [← show tot (A.take (i + 1))=en by omega]; exact cur_at pA hi,.inl ⟨f',hf,by omega,by omega⟩,hi,lj,h7c,g7,pM7,tM7,aM7,wM7,by omega,s7,h7a,h7b,T37⟩,?_⟩
      show (A.length + B.length) - (((i:Int) + 1).toNat + (j:Int).toNat) < (A.length + B.length) - ((i:Int).toNat + (j:Int).toNat)
      omega
    ·have u : ¬ 0 + tot (A.take (i + 1))=en:=fun z => u (decide_eq_true (congrArg V.int z))
     refine ⟨_,rfl,_,rfl,lb,_,_,V.ref pb,rfl,rfl,SqL.of h7b,atI_nat hb1,pb,_,_,_,rfl,rfl,SqT.of hb27,rfl,_,rfl,rfl,_,rfl,ite2 (fun u2 => ?_) (fun u2 => ?_)⟩
     ·have u2:0 + tot (B.take (j + 1))=en:=V.int.inj (of_decide_eq_true u2)
      refine ⟨_,rfl,_,_,rfl,rfl,⟨i,j + 1,en,_,_,_,rfl,by omega,.inl ⟨e,he,by omega,by omega⟩,by rw [← show tot (B.take (j + 1))=en by omega]; exact cur_at pB hj,li,hj,h7c,g7,pM7,tM7,aM7,wM7,by omega,s7,h7a,h7b,T37⟩,?_⟩
      show (A.length + B.length) - ((i:Int).toNat + ((j:Int) + 1).toNat) < (A.length + B.length) - ((i:Int).toNat + (j:Int).toNat)
      omega
     ·have u2 : ¬ 0 + tot (B.take (j + 1))=en:=fun z => u2 (decide_eq_true (congrArg V.int z))
      omega
   ·have q : ¬ (i:Int) < (za.length:Int):=fun z => q (decide_eq_true z)
    have e:i=A.length:=by rw [y1.1] at q; omega
    have ebg:bg=tot A:=by
     rcases cA with ⟨x,hx,_⟩ | ⟨_,z⟩
     ·have:=(List.getElem?_eq_some_iff.mp hx).1; omega
     ·exact z
    subst ebg
    have nM:∀ e ∈ M,0 ≤ e.1:=fun e he => Int.le_of_lt (pM e he)
    refine ⟨_,rfl,c,zs,M,rfl,SqL.of hc4,g4,by omega,nM,fun r zr H5 f5 h5 g5 s5 => ?_⟩
    refine k r zr (shape M) H5 (s4.free f5) h5 g5 ⟨shape_norm M,by rw [Toy.shape_tot nM]; exact tM,fun p p0 p1 => by rw [shape_at nM p0]; exact aM p p0 p1,fun n hA hB => ?_,Nat.le_trans (shape_len M) (by omega)⟩ (s4.trans s5)
    have ew:∀ x ∈ M,x.2.length=n:=fun x hx => by
     rw [wM x hx]
     cases A with
     | nil => rw [tot_nil] at tM; exact absurd (tot_ge (fun e he => pM e he) hx) (by have:=pM x hx; omega)
     | cons y A => rw [← wA y List.mem_cons_self]; exact hA y List.mem_cons_self
    exact shape_all (p:=fun u => u.length=n) ew
  ·intro σ H' Q1 Q2 hQ h
   obtain ⟨v0,e0,v1,e1,p1,l1,a1,a2,i3,j3,c1,c2,v4,c3,q4⟩:=h
   exact ⟨v0,e0,v1,e1,p1,l1,a1,a2,i3,j3,c1,c2,v4,c3,hQ _ _ q4⟩
end
end Toy
namespace Toy
open PySem L2 PyProof.Rows
section
variable {P:Program} {w:World} {K:PySem.W.Frag} {mg:Str→Option Value} {base:Heap}
def Few (us:List Int):Prop:=∀ z ∈ us,z.natAbs < 2 ^ 9000
abbrev s_weights_times:Stmt:=top 8
theorem sc_weights_times:FnScope ["weights", "times"] ["weights", "times"] (defScope s_weights_times):=⟨rfl,rfl,rfl,by decide +kernel,rfl,by decide +kernel,by decide +kernel⟩
def spTimes:Sp:=fun vs H Q _ => ∃ (p:Addr) (us:List Int) (k:Int),vs=[.ref p,.int k]∧H p=some (.tup (us.map V.int))∧us.length ≤ 100∧Few us∧k.natAbs < 2 ^ 9000∧∀ (r:Addr) (H' : Hp),H r=none→H' r=some (.tup ((us.map (· * k)).map V.int))→Same H H'→Q (.ref r) H'
theorem ok_times {f:Addr} {fd:FuncData} (F:Fun K "weights_times" "weights_times" s_weights_times f fd) (M:Txt mg):FnOk P w K mg base CX0 1 f fd ["weights", "times"] spTimes:=by
 have sc:=sc_weights_times
 refine F.ok sc (fun vs H Q E h => ?_) (fun cdv A outer s H vs Q E hr h => ?_)
 ·obtain ⟨p,us,k0,rfl,_⟩:=h
  rfl
 ·obtain ⟨p,us,k0,rfl,hp,hl,fw,kw,k⟩:=h
  refine ⟨_,(pss_one (ps_ret (pe_callTy call_tuple_of (by rfl) M.tuple boot_tuple (pa_cons (pe_compG (xs:=["weight"]) (Nb:=["weights", "times"]) rfl (pi_tup (pv 0)) rfl (by show ∀ p ∈ (List.zip ["weights", "times"] ["weights", "times"]:List (Str × Str)),_; decide +kernel) (by decide +kernel) (fun cl C s₂ H₂ fp => (pg_name (i:=0) (by show List.Nodup (["weight", "weights", "times"]:List Str); decide +kernel) rfl (Or.inl (lookup_relabel_local rfl)) (Or.inr (lookup_relabel_local rfl)))) (fun cl C s₂ H₂ fp => pif_nil) (fun cl C s₂ H₂ fp => (pe_op op_mulB (pv 0) (pv 2))) (by decide +kernel) rfl (by decide +kernel) (by show ∀ y ∈ (_:List (Str × NameKind)),y.2=NameKind.free→(defScope s_weights_times).names.lookup y.1=some .cell; decide +kernel)) pa_nil)))),?_⟩
  refine ⟨_,rfl,p,rfl,⟨_,SqT.of hp⟩,compT (K:=K) (a:=p) (xs:=us.map V.int) (fun i zs H' => zs=((us.map (· * k0)).take i).map V.int∧H=H') ⟨rfl,rfl⟩ (by rw [List.length_map]; omega) (fun i zs H' h => by rw [h.1,List.length_map,List.length_take]; omega) (fun i zs H' _ h => by rw [← h.2]; exact SqT.of hp) ?_ ?_⟩
  ·rintro i x zs H' pre hpre hx ⟨rfl,rfl⟩
   have hx' : ∃ m,us[i]? = some m∧x=V.int m:=by
    rw [List.getElem?_map] at hx
    cases zz:us[i]? with
    | none => rw [zz] at hx; cases hx
    | some m => rw [zz] at hx; cases hx; exact ⟨m,rfl,rfl⟩
   obtain ⟨m,hm,rfl⟩:=hx'
   rcases pre with _ | ⟨p0,_ | ⟨p1,pre⟩⟩
   ·cases hpre
   ·refine ⟨⟨[some _],rfl,rfl⟩,?_⟩
    unfold tYes
    dsimp only
    rw [if_pos (rfl:true=true)]
    refine ⟨_,rfl,_,rfl,_,_,rfl,rfl,⟨fw m (List.mem_of_getElem? hm),kw⟩,?_,rfl⟩
    have ez:(us.map (· * k0))[i]? = some (m * k0):=by rw [List.getElem?_map,hm]; rfl
    rw [take_succ' ez,List.map_append]
    rfl
   ·cases hpre
  ·rintro zs H' ⟨rfl,rfl⟩ D hD
   have et:(us.map (· * k0)).take (us.map V.int).length=us.map (· * k0):=List.take_of_length_le (by rw [List.length_map,List.length_map]; exact Nat.le_refl _)
   rw [et]
   refine ⟨D,_,rfl,.inl ⟨SqL.of upd_same,fun l hl' => ?_⟩⟩
   have s2:=Same.new (o:=.lst ((us.map (· * k0)).map V.int)) (Same.refl H) hD
   exact k l _ (Same.free s2 hl') upd_same (Same.new s2 hl')
abbrev s_rises_of:Stmt:=top 9
theorem sc_rises_of:FnScope ["stretches", "rises", "begin", "end", "weights", "noughts", "fall"] ["stretches"] (defScope s_rises_of):=⟨rfl,rfl,rfl,by decide +kernel,rfl,by decide +kernel,by decide +kernel⟩
def spRises:Sp:=fun vs H Q _ => ∃ (a:Addr) (xs:List V) (S:Sl) (n:Nat),vs=[.ref a]∧H a=some (.lst xs)∧Stg H xs S∧S.length ≤ 600∧n ≤ 24∧(∀ s ∈ S,s.2.2.length=n)∧(∀ s ∈ S,Few s.2.2)∧∀ (d:Addr) (kvs:List (Key × V)) (H' : Hp),H d=none→DR H' d n (evs S) kvs→Same H H'→Q (.ref d) H'
theorem ok_rises {f:Addr} {fd:FuncData} (F:Fun K "rises_of" "rises_of" s_rises_of f fd) (M:Txt mg) (Gweights_times:Kn P w K mg base "weights_times" 1 ["weights", "times"] spTimes) (Gsum_of_weights:Kn P w K mg base "sum_of_weights" 1 ["one", "other"] spPlus):FnOk P w K mg base CX0 2 f fd ["stretches"] spRises:=by
 have sc:=sc_rises_of
 refine F.ok sc (fun vs H Q E h => ?_) (fun cdv A outer s H vs Q E hr h => ?_)
 ·obtain ⟨a,xs,S,n,rfl,_⟩:=h
  rfl
 ·obtain ⟨a,xs,S,n,rfl,ha,g,hl,hn,wid,fw,k⟩:=h
  refine ⟨_,(pss_cons (ps_set (i:=1) sc.nd rfl (Or.inl rfl) pe_dnewK)
   (pss_cons (ps_for PassesOwn.never rfl (pi_list (pv 0)) (pg_tup rfl (pgs_cons (pg_name (i:=2) sc.nd rfl (Or.inl rfl)) (pgs_cons (pg_name (i:=3) sc.nd rfl (Or.inl rfl)) (pgs_cons (pg_name (i:=4) sc.nd rfl (Or.inl rfl)) pgs_nil))))
   (pss_cons (ps_set (i:=5) sc.nd rfl (Or.inl rfl) (pe_callD Gweights_times hr rfl (pa_Name (pv 4) (pa_Constant pe_int pa_nil))))
   (pss_cons (ps_set (i:=6) sc.nd rfl (Or.inl rfl) (pe_callD Gweights_times hr rfl (pa_Name (pv 4) (pa_UnaryOp (pe_un un_neg pe_int) pa_nil))))
   (pss_cons (ps_dput (hu_of hr) (pv 1) (pv 2) (pe_callD Gsum_of_weights hr rfl (pa_Call (pe_dget2 (hu_of hr) (pv 1) (pv 2) (pv 5) ⟨rfl,rfl,rfl,rfl⟩) (pa_Name (pv 4) pa_nil))) rfl)
   (pss_one (ps_dput (hu_of hr) (pv 1) (pv 3) (pe_callD Gsum_of_weights hr rfl (pa_Call (pe_dget2 (hu_of hr) (pv 1) (pv 3) (pv 5) ⟨rfl,rfl,rfl,rfl⟩) (pa_Name (pv 6) pa_nil))) rfl))))))
   (pss_one (ps_ret (pv 1))))),?_⟩
  intro d fd0
  have s1:=Same.new (o:=.dK []) (Same.refl H) fd0
  have D0:DR (upd H d (.dK [])) d n [] []:=DR.new upd_same
  generalize upd H d (.dK [])=H1 at s1 D0 ⊢
  refine ⟨_,rfl,a,rfl,⟨xs,SqL.of (s1 _ _ ha)⟩,for_list (K:=K) (a:=a) (xs:=xs) (fun i σ H' => ∃ (x2 x3 x4 x5 x6:Option V) (kvs:List (Key × V)),σ=[some (.ref a),some (.ref d),x2,x3,x4,x5,x6]∧DR H' d n (evs (S.take i)) kvs∧kvs.length ≤ 2 * i∧Same H H') ⟨_,_,_,_,_,[],rfl,D0,Nat.le_refl _,s1⟩ (fun i σ H' _ ⟨_,_,_,_,_,_,_,_,_,s⟩ => SqL.of (s _ _ ha)) ?_ ?_⟩
  ·rintro i x σ H' hx ⟨x2,x3,x4,x5,x6,kvs,rfl,D,lk,s2⟩
   obtain ⟨s,hsi,q,wq,rfl,hq,hw⟩:=g.at' hx
   have hmem:s ∈ S:=List.mem_of_getElem? hsi
   have hi:i < S.length:=(List.getElem?_eq_some_iff.mp hsi).1
   have hw2:=s2 _ _ hw
   have hws:=wid s hmem
   refine ⟨q,_,rfl,SqT.of (s2 _ _ hq),rfl,_,_,rfl,_,_,rfl,_,_,rfl,rfl,?_⟩
   refine ⟨_,rfl,wq,s.2.2,0,rfl,hw2,by omega,fw s hmem,by decide,fun r5 H3 f5 h5 s3 => ?_⟩
   refine ⟨_,rfl,_,rfl,wq,s.2.2,-1,rfl,s3 _ _ hw2,by omega,fw s hmem,by decide,fun r6 H4 f6 h6 s4 => ?_⟩
   have s34:=s3.trans s4
   have D4:=D.up (s34 _ _ D.hd) s34.tups
   have h54:=s4 _ _ h5
   have hw4:=s34 _ _ hw2
   obtain ⟨p,us,he,hp,lu,cu⟩:=D4.get s.1 h54 hws
   refine ⟨_,rfl,d,rfl,.inl ⟨_,.inl D4.hd⟩,_,rfl,_,rfl,_,DGet.k (k:=Sum.inl s.1) D4.hd,_,rfl,p,wq,us,s.2.2,by show [_,_]=_; rw [he],hp,hw4,by omega,by omega,fun r7 H5 f7 h7 s5 => ?_⟩
   have hd5:=s5 _ _ D4.hd
   refine ⟨_,rfl,_,rfl,d,_,rfl,DPut.k (k:=Sum.inl s.1) hd5 (Nat.lt_of_le_of_lt (show kvs.length ≤ 2000 by omega) (by decide)),?_⟩
   have T6:Tups H4 (upd H5 d (.dK (putK kvs (Sum.inl s.1) (.ref r7)))):=Tups.dk s5.tups hd5
   have n7:r7 ≠ d:=ne_of h7 hd5 (by intro z; cases z)
   have h76:(upd H5 d (.dK (putK kvs (Sum.inl s.1) (.ref r7)))) r7=some (.tup ((plusW us s.2.2).map V.int)):=by rw [upd_ne n7]; exact h7
   have lpu:(plusW us s.2.2).length=n:=by unfold plusW; rw [List.length_zipWith]; omega
   have D6:=D4.put (H':=upd H5 d (.dK (putK kvs (Sum.inl s.1) (.ref r7)))) (k:=s.1) (u:=s.2.2) h76 lpu (fun i => by unfold plusW; rw [co_plus i (by omega),cu]) upd_same T6
   have s6:Same H (upd H5 d (.dK (putK kvs (Sum.inl s.1) (.ref r7)))):=Same.own ((s2.trans s34).trans s5) fd0
   have h56:=T6 _ _ h54
   have h66:=T6 _ _ h6
   have lk6:=length_putK kvs (Sum.inl s.1) (V.ref r7)
   generalize upd H5 d (.dK (putK kvs (Sum.inl s.1) (.ref r7)))=H6 at D6 s6 h56 h66 ⊢
   generalize putK kvs (Sum.inl s.1) (.ref r7)=kv6 at D6 lk6
   obtain ⟨p2,us2,he2,hp2,lu2,cu2⟩:=D6.get s.2.1 h56 hws
   refine ⟨_,rfl,d,rfl,.inl ⟨_,.inl D6.hd⟩,_,rfl,_,rfl,_,DGet.k (k:=Sum.inl s.2.1) D6.hd,_,rfl,p2,r6,us2,s.2.2.map (· * -1),by show [_,_]=_; rw [he2],hp2,h66,by omega,by rw [List.length_map]; omega,fun r8 H7 f8 h8 s7 => ?_⟩
   have hd7:=s7 _ _ D6.hd
   refine ⟨_,rfl,_,rfl,d,_,rfl,DPut.k (k:=Sum.inl s.2.1) hd7 (Nat.lt_of_le_of_lt (show kv6.length ≤ 2000 by omega) (by decide)),?_⟩
   have T8:Tups H6 (upd H7 d (.dK (putK kv6 (Sum.inl s.2.1) (.ref r8)))):=Tups.dk s7.tups hd7
   have n8:r8 ≠ d:=ne_of h8 hd7 (by intro z; cases z)
   have h88:(upd H7 d (.dK (putK kv6 (Sum.inl s.2.1) (.ref r8)))) r8=some (.tup ((plusW us2 (s.2.2.map (· * -1))).map V.int)):=by rw [upd_ne n8]; exact h8
   have lpu2:(plusW us2 (s.2.2.map (· * -1))).length=n:=by unfold plusW; rw [List.length_zipWith,List.length_map]; omega
   have D8:=D6.put (H':=upd H7 d (.dK (putK kv6 (Sum.inl s.2.1) (.ref r8)))) (k:=s.2.1) (u:=s.2.2.map (· * -1)) h88 lpu2 (fun i => by unfold plusW; rw [co_plus i (by rw [List.length_map]; omega),cu2]) upd_same T8
   have lk8:=length_putK kv6 (Sum.inl s.2.1) (V.ref r8)
   refine ⟨_,_,_,_,_,putK kv6 (Sum.inl s.2.1) (.ref r8),rfl,?_,?_,Same.own (s6.trans s7) fd0⟩
   ·rw [take_succ' hsi,evs_app]
    rw [List.append_assoc] at D8
    exact D8
   ·omega
  ·rintro σ H' ⟨x2,x3,x4,x5,x6,kvs,rfl,D,lk,s2⟩
   have et:S.take xs.length=S:=by rw [g.1]; exact List.take_length
   rw [et] at D
   exact ⟨_,rfl,k d kvs H' fd0 D s2⟩
theorem rise_at {ms:List Int} (so:ms.Pairwise (· < ·)) {i j:Nat} {x y:Int} (hi:ms[i]? = some x) (hj:ms[j]? = some y) (h:i < j):x < y:=by
 obtain ⟨a,rfl⟩:=List.getElem?_eq_some_iff.mp hi
 obtain ⟨b,rfl⟩:=List.getElem?_eq_some_iff.mp hj
 exact List.pairwise_iff_getElem.mp so i j a b h
theorem rise_between {ms:List Int} (so:ms.Pairwise (· < ·)) {j:Nat} {x y k:Int} (hj:ms[j]? = some x) (hn:ms[j + 1]? = some y) (hk:k ∈ ms) (h:k < y):k ≤ x:=by
 obtain ⟨i,hi⟩:=List.mem_iff_getElem?.mp hk
 rcases Nat.lt_trichotomy i j with z | z | z
 ·exact Int.le_of_lt (rise_at so hi hj z)
 ·subst z; rw [hi] at hj; cases hj; exact Int.le_refl _
 ·rcases Nat.lt_or_eq_of_le (show j + 1 ≤ i from z) with q | q
  ·have:=rise_at so hn hi q; omega
  ·subst q; rw [hi] at hn; cases hn; omega
theorem rise_first {ms:List Int} (so:ms.Pairwise (· < ·)) {c:Int} (hc:c ∈ ms) (h:∀ k ∈ ms,c ≤ k):ms[0]? = some c:=by
 cases ms with
 | nil => cases hc
 | cons a ms =>
  have h1:=h a List.mem_cons_self
  rcases List.mem_cons.mp hc with z | z
  ·rw [z]; rfl
  ·have:=(List.pairwise_cons.mp so).1 c z
   omega
theorem rise_last {ms:List Int} (so:ms.Pairwise (· < ·)) {c:Int} (hc:c ∈ ms) (h:∀ k ∈ ms,k ≤ c):ms[ms.length - 1]? = some c:=by
 obtain ⟨i,hi⟩:=List.mem_iff_getElem?.mp hc
 have hl:=(List.getElem?_eq_some_iff.mp hi).1
 have hg:ms[ms.length - 1]? = some ms[ms.length - 1]:=List.getElem?_eq_getElem (by omega)
 have h1:=h _ (List.mem_of_getElem? hg)
 rcases Nat.lt_or_ge i (ms.length - 1) with z | z
 ·have:=rise_at so hi hg z; omega
 ·have e:i=ms.length - 1:=by omega
  rw [← e]; exact hi
theorem atW_endW {M:Wl} {m:Int} {u:List Int} {p:Int} (hM:∀ e ∈ M,0 ≤ e.1) (h1:tot M ≤ p) (h2:p < tot M + m):atW (M ++ [(m,u)]) p=u:=by
 rw [atW_right hM h1,atW_lt (by omega)]
structure HeapOf (n:Nat) (S:Sl) (c0 c1:Int) (R:Wl) (m:Nat):Prop where
 nrm:Norm R
 sum:tot R=c1 - c0
 wid:∀ e ∈ R,e.2.length=n
 at' : ∀ p,c0 ≤ p→p < c1→∀ i,co (atW R (p - c0)) i=FF S p i
 len:R.length ≤ m
abbrev s_heaped:Stmt:=top 10
theorem sc_heaped:FnScope ["stretches", "rises", "cuts", "weights", "pieces", "begin", "end"] ["stretches"] (defScope s_heaped):=⟨rfl,rfl,rfl,by decide +kernel,rfl,by decide +kernel,by decide +kernel⟩
def spHeaped:Sp:=fun vs H Q _ => ∃ (a:Addr) (xs:List V) (S:Sl) (n:Nat) (c0 c1:Int) (kk:List Int),vs=[.ref a]∧H a=some (.lst xs)∧Stg H xs S∧S ≠ []∧S.length ≤ 600∧n ≤ 24∧(∀ s ∈ S,s.2.2.length=n)∧(∀ s ∈ S,Few s.2.2)∧kk.length ≤ 200∧(∀ k,IsKey S k→k ∈ kk)∧IsKey S c0∧IsKey S c1∧(∀ k,IsKey S k→c0 ≤ k∧k ≤ c1) ∧
 ∀ (r:Addr) (zs:List V) (R:Wl) (H' : Hp),H r=none→H' r=some (.lst zs)→Wg H' zs R→HeapOf n S c0 c1 R kk.length→Same H H'→Q (.ref r) H'
theorem ok_heaped {f:Addr} {fd:FuncData} (F:Fun K "heaped" "heaped" s_heaped f fd) (M:Txt mg) (Grises_of:Kn P w K mg base "rises_of" 2 ["stretches"] spRises) (Gweights_times:Kn P w K mg base "weights_times" 1 ["weights", "times"] spTimes) (Gsum_of_weights:Kn P w K mg base "sum_of_weights" 1 ["one", "other"] spPlus) (Gshaped:Kn P w K mg base "shaped" 1 ["pieces"] (spShaped K)) (B:Gb mg):FnOk P w K mg base CX0 3 f fd ["stretches"] spHeaped:=by
 have sc:=sc_heaped
 refine F.ok sc (fun vs H Q E h => ?_) (fun cdv A outer s H vs Q E hr h => ?_)
 ·obtain ⟨a,xs,S,n,c0,c1,kk,rfl,_⟩:=h
  rfl
 ·obtain ⟨a,xs,S,n,c0,c1,kk,rfl,ha,g,ne,hl,hn,wid,fw,lk,hkk,k0,k1,kb,k⟩:=h
  refine ⟨_,(pss_cons (ps_if (pt_not (pt_truth (pv 0) (fun _ => rfl))) (pss_one (ps_ret (pe_lst pa_nil))) pss_nil)
   (pss_cons (ps_set (i:=1) sc.nd rfl (Or.inl rfl) (pe_callD Grises_of hr rfl (pa_Name (pv 0) pa_nil)))
   (pss_cons (ps_set (i:=2) sc.nd rfl (Or.inl rfl) (pe_callB (call_sortedKW rfl) (by rfl) M.sorted boot_sorted (pa_Call (pe_dkeys (pv 1)) pa_nil)))
   (pss_cons (ps_set (i:=3) sc.nd rfl (Or.inl rfl) (pe_callD Gweights_times hr rfl (pa_Subscript (pe_ix (ix_tupK (K:=K)) (pe_ix (ix_listK (K:=K)) (pv 0) pe_int (fun _ _ => rfl)) pe_int (fun _ _ => rfl)) (pa_Constant pe_int pa_nil))))
   (pss_cons (ps_set (i:=4) sc.nd rfl (Or.inl rfl) (pe_lst pa_nil))
   (pss_cons (ps_for PassesOwn.never rfl (pi_zip rfl B.zp (pa_Name (pv 2) (pa_Subscript (pe_slice sl_list (pv 2) (po_some pe_int) po_none) pa_nil))) (pg_tup rfl (pgs_cons (pg_name (i:=5) sc.nd rfl (Or.inl rfl)) (pgs_cons (pg_name (i:=6) sc.nd rfl (Or.inl rfl)) pgs_nil)))
   (pss_cons (ps_set (i:=3) sc.nd rfl (Or.inl rfl) (pe_callD Gsum_of_weights hr rfl (pa_Name (pv 3) (pa_Subscript (pe_dget (hu_of hr) (pv 1) (pv 5) (fun _ _ => rfl)) pa_nil))))
   (pss_one (ps_expr (pe_bm PySem.F.plainAttrs_list PySem.F.slot_list_append PySem.F.type_list_append mt_append (pv 4) (pa_Tuple (pe_tup (pa_o2 (pe_op op_sub (pv 6) (pv 5)) (pv 3) pa_nil)) pa_nil))))))
   (pss_one (ps_ret (pe_callD Gshaped hr rfl (pa_Name (pv 4) pa_nil)))))))))),?_⟩
  have hxl:∃ x0,xs[0]? = some x0:=by
   cases xs with
   | nil => exact absurd (List.eq_nil_of_length_eq_zero g.1.symm) ne
   | cons x _ => exact ⟨x,rfl⟩
  obtain ⟨x0,hx0⟩:=hxl
  have hemp:true = !xs.isEmpty:=by cases xs with
   | nil => cases hx0
   | cons _ _ => rfl
  refine ⟨_,rfl,true,.inl ⟨xs,SqL.of ha,hemp⟩,iteF ?_⟩
  refine ⟨_,rfl,a,xs,S,n,rfl,ha,g,hl,hn,wid,fw,fun d kvs H1 f1 D s1 => ?_⟩
  obtain ⟨ks,hks,nd,hkm⟩:=D.keys
  have km:∀ k,k ∈ ks ↔ IsKey S k:=fun k => (hkm k).trans evs_key
  have lks:ks.length ≤ kk.length:=nodup_le nd fun x hx => hkk x ((km x).mp hx)
  refine ⟨_,rfl,d,kvs,rfl,D.hd,fun v fv => ?_⟩
  have s2:=Same.new (o:=.ext (KView v d)) (Same.refl H1) fv
  have hv2:(upd H1 v (.ext (KView v d))) v=some (.ext (KView v d)):=upd_same
  generalize upd H1 v (.ext (KView v d))=H2 at s2 hv2 ⊢
  refine ⟨v,d,kvs,ks,rfl,hv2,s2 _ _ D.hd,hks,by omega,fun c ms fc hp hw => ?_⟩
  have s3:=Same.new (o:=.lst (ms.map V.int)) (Same.refl H2) fc
  have hc3:(upd H2 c (.lst (ms.map V.int))) c=some (.lst (ms.map V.int)):=upd_same
  generalize upd H2 c (.lst (ms.map V.int))=H3 at s3 hc3 ⊢
  have s13:=s2.trans s3
  have s03:=s1.trans s13
  have so:ms.Pairwise (· < ·):=rise_strict hw ((hp.nodup_iff).mpr nd)
  have mm:∀ k,k ∈ ms ↔ IsKey S k:=fun k => hp.mem_iff.trans (km k)
  have lms:ms.length ≤ kk.length:=by rw [hp.length_eq]; exact lks
  obtain ⟨e0,he0,q0,w0,rfl,hq0,hw0⟩:=g.at' hx0
  have me0:e0 ∈ S:=List.mem_of_getElem? he0
  have we0:=wid e0 me0
  refine ⟨_,rfl,a,_,_,_,rfl,rfl,SqL.of (s03 _ _ ha),atI_nat (j:=0) hx0,q0,_,_,_,rfl,rfl,SqT.of (s03 _ _ hq0),rfl,w0,e0.2.2,0,rfl,s03 _ _ hw0,by omega,fw e0 me0,by decide,fun wr H4 fw4 hwr s4 => ?_⟩
  refine ⟨(by show 0 ≤ sizeLine; decide),fun pc fpc => ?_⟩
  have s5:=Same.new (o:=.lst []) (Same.refl H4) fpc
  have hpc5:(upd H4 pc (.lst [])) pc=some (.lst []):=upd_same
  generalize upd H4 pc (.lst [])=H5 at s5 hpc5 ⊢
  have s35:=s4.trans s5
  refine ⟨_,rfl,_,rfl,?_⟩
  refine ⟨_,rfl,c,_,rfl,SqL.of (s35 _ _ hc3),fun c2 fc2 => ?_⟩
  rw [cut_one]
  have s6:=Same.new (o:=.lst ((ms.map V.int).drop 1)) (Same.refl H5) fc2
  have hc6:(upd H5 c2 (.lst ((ms.map V.int).drop 1))) c2=some (.lst ((ms.map V.int).drop 1)):=upd_same
  have hc56:=s6 _ _ (s35 _ _ hc3)
  have hpc6:=s6 _ _ hpc5
  have npc2:pc ≠ c2:=ne_of_none hpc5 fc2
  have fpcH:H pc=none:=(s03.trans s4).free fpc
  have npcc:pc ≠ c:=fun z => by rw [z,s4 _ _ hc3] at fpc; cases fpc
  have hd5:=s6 _ _ (s35 _ _ (s13 _ _ D.hd))
  have npcd:pc ≠ d:=fun z => by rw [z,s4 _ _ (s13 _ _ D.hd)] at fpc; cases fpc
  generalize upd H5 c2 (.lst ((ms.map V.int).drop 1))=H6 at s6 hc6 hc56 hpc6 hd5 ⊢
  have s36:=s35.trans s6
  have hm0:ms[0]? = some c0:=rise_first so ((mm c0).mpr k0) fun k hk => (kb k ((mm k).mp hk)).1
  have hml:ms[ms.length - 1]? = some c1:=rise_last so ((mm c1).mpr k1) fun k hk => (kb k ((mm k).mp hk)).2
  have lm1:1 ≤ ms.length:=by have:=(List.getElem?_eq_some_iff.mp hm0).1; omega
  have low:∀ i,FF S (c0 - 1) i=0:=fun i => FF_low i fun k hk => by have:=(kb k hk).1; omega
  refine ⟨c,c2,rfl,⟨_,SqL.of hc56⟩,⟨_,SqL.of hc6⟩,for_zip (K:=K) (a:=c) (b:=c2) (n:=ms.length - 1) (xs:=ms.map V.int) (ys:=(ms.map V.int).drop 1) (fun j σ H' => ∃ (x5 x6:Option V) (wq:Addr) (us:List Int) (zs:List V) (M:Wl) (cj pv:Int),σ=[some (.ref a),some (.ref d),some (.ref c),some (.ref wq),some (.ref pc),x5,x6]∧H' wq=some (.tup (us.map V.int))∧us.length=n∧ms[j]? = some cj∧pv < cj∧(∀ k ∈ ms,k < cj→k ≤ pv)∧(∀ i,co us i=FF S pv i)∧H' pc=some (.lst zs)∧Wg H' zs M∧M.length=j∧(∀ e ∈ M,0 < e.1)∧tot M=cj - c0∧(∀ p,c0 ≤ p→p < cj→∀ i,co (atW M (p - c0)) i=FF S p i)∧(∀ e ∈ M,e.2.length=n)∧Same H H'∧H' c=some (.lst (ms.map V.int))∧H' c2=some (.lst ((ms.map V.int).drop 1))∧H' d=some (.dK kvs)∧Tups H3 H')
   ⟨_,_,wr,e0.2.2.map (· * 0),[],[],c0,c0 - 1,rfl,s6 _ _ (s5 _ _ hwr),by rw [List.length_map]; exact we0,hm0,by omega,fun k hk hlt => by have:=(kb k ((mm k).mp hk)).1; omega,fun i => by rw [co_times,low,Int.mul_zero],hpc6,Wg.nil _,rfl,fun e he => (by cases he),by rw [tot_nil]; omega,fun p p0 p1 => (by omega),fun e he => (by cases he),s03.trans s36,hc56,hc6,hd5,s36.tups⟩ (by rw [List.length_drop,List.length_map]; omega) (fun j σ H' _ ⟨_,_,_,_,_,_,_,_,_,_,_,_,_,_,_,_,_,_,_,_,_,_,_,q1,q2,_⟩ => ⟨SqL.of q1,SqL.of q2⟩) ?_ ?_⟩
  ·rintro j x y σ H7 pr hx hy ⟨x5,x6,wq,us,zs,M,cj,pv,rfl,hwq,lus,hcj,pvl,pvk,cus,hpc7,g7,lM,pM,tM,aM,wM,s7,h7c,h7c2,h7d,T7⟩ hpr
   have ex:x=V.int cj:=by rw [List.getElem?_map,hcj] at hx; cases hx; rfl
   obtain ⟨cn,hcn,ey⟩:∃ cn,ms[j + 1]? = some cn∧y=V.int cn:=by
    rw [List.getElem?_drop,List.getElem?_map,Nat.add_comm 1 j] at hy
    cases z:ms[j + 1]? with
    | none => rw [z] at hy; cases hy
    | some cn => rw [z] at hy; cases hy; exact ⟨cn,rfl,rfl⟩
   subst ex ey
   have ltn:cj < cn:=rise_at so hcj hcn (Nat.lt_succ_self _)
   have hj1:j + 1 < ms.length:=(List.getElem?_eq_some_iff.mp hcn).1
   have s8:=Same.new (o:=.tup [.int cj,.int cn]) (Same.refl H7) hpr
   have f8:(upd H7 pr (.tup [.int cj,.int cn])) pr=some (.tup [.int cj,.int cn]):=upd_same
   generalize upd H7 pr (.tup [.int cj,.int cn])=H8 at s8 f8 ⊢
   refine ⟨pr,_,rfl,SqT.of f8,rfl,_,_,rfl,_,_,rfl,rfl,?_⟩
   have D8:DR H8 d n (evs S) kvs:=D.up (s8 _ _ h7d) ((s13.tups.trans T7).trans s8.tups)
   have mcj:IsKey S cj:=(mm cj).mp (List.mem_of_getElem? hcj)
   cases zv:valV kvs (Sum.inl cj:Key) with
   | none => exact absurd (by rw [hks]; exact List.mem_map.mpr ⟨cj,(km cj).mpr mcj,rfl⟩) (valV_not zv)
   | some vv =>
    obtain ⟨p,vs,rfl,hp8,lvs,cvs⟩:=D8.vals cj vv zv
    have dg:DGet H8 d (.int cj) (some (.ref p)):=by
     have q:=DGet.k (k:=Sum.inl cj) D8.hd
     rw [zv] at q
     exact q
    refine ⟨_,rfl,_,rfl,_,rfl,d,_,rfl,dg,wq,p,us,vs,rfl,s8 _ _ hwq,hp8,by omega,by omega,fun r H9 fr hr9 s9 => ?_⟩
    have s89:=s8.trans s9
    refine ⟨_,rfl,.inl ⟨rfl,_,SqL.of (s89 _ _ hpc7)⟩,_,rfl,_,rfl,_,_,rfl,rfl,_,rfl,(by show 2 ≤ sizeLine; decide),fun pp hpp => ?_⟩
    have sA:=Same.new (o:=.tup [.int (cn - cj),.ref r]) s89 hpp
    have fA:(upd H9 pp (.tup [.int (cn - cj),.ref r])) pp=some (.tup [.int (cn - cj),.ref r]):=upd_same
    have rA:(upd H9 pp (.tup [.int (cn - cj),.ref r])) r=some (.tup ((plusW us vs).map V.int)):=by rw [upd_ne (ne_of_none hr9 hpp)]; exact hr9
    generalize upd H9 pp (.tup [.int (cn - cj),.ref r])=HA at sA fA rA ⊢
    refine ⟨pc,zs,_,rfl,rfl,sA _ _ hpc7,Nat.lt_of_le_of_lt (by rw [g7.1]; omega:zs.length ≤ 1000) (by decide),?_⟩
    have TA:Tups HA (upd HA pc (.lst (zs ++ [.ref pp]))):=(Tups.refl HA).lst (sA _ _ hpc7)
    have cw:∀ i,co (plusW us vs) i=FF S cj i:=fun i => by
     unfold plusW
     rw [co_plus i (by omega),cus,cvs,RE_evs]
     refine (FF_step i pvl fun k hk hle => ?_).symm
     rcases Int.lt_or_eq_of_le hle with q | q
     ·exact .inl (pvk k ((mm k).mpr hk) q)
     ·exact .inr q
    have btw:∀ k ∈ ms,k < cn→k ≤ cj:=fun k hk hlt => rise_between so hcj hcn hk hlt
    refine ⟨_,_,r,plusW us vs,_,M ++ [(cn - cj,plusW us vs)],cn,cj,rfl,TA _ _ rA,by unfold plusW; rw [List.length_zipWith]; omega,hcn,ltn,btw,cw,upd_same,Wg.snoc (g7.up (sA.tups.trans TA)) ⟨pp,r,rfl,TA _ _ fA,TA _ _ rA⟩,by rw [List.length_append,lM]; rfl,?_,?_,?_,?_,?_,by rw [upd_ne (Ne.symm npcc)]; exact sA _ _ h7c,by rw [upd_ne (Ne.symm npc2)]; exact sA _ _ h7c2,by rw [upd_ne (Ne.symm npcd)]; exact sA _ _ h7d,T7.trans (sA.tups.trans TA)⟩
    ·intro z hz
     rcases List.mem_append.mp hz with q | q
     ·exact pM z q
     ·rw [List.mem_singleton.mp q]; show 0 < cn - cj; omega
    ·rw [tot_append,tot_cons,tot_nil,tM]; show cj - c0 + (cn - cj + 0)=_; omega
    ·intro p' p0 p1 i
     have nM:∀ e ∈ M,0 ≤ e.1:=fun e he => Int.le_of_lt (pM e he)
     by_cases z:p' < cj
     ·rw [atW_left nM (by omega) (by omega)]; exact aM p' p0 z i
     ·have e9:atW (M ++ [(cn - cj,plusW us vs)]) (p' - c0)=plusW us vs:=atW_endW nM (by omega) (by omega)
      rw [e9,cw]
      exact (FF_same i (by omega) fun k hk hle => btw k ((mm k).mpr hk) (by omega)).symm
    ·intro z hz
     rcases List.mem_append.mp hz with q | q
     ·exact wM z q
     ·rw [List.mem_singleton.mp q]
      show (plusW us vs).length=n
      unfold plusW
      rw [List.length_zipWith]; omega
    ·intro b o z
     rw [upd_ne (ne_of_none z fpcH)]
     exact sA _ _ (s7 _ _ z)
  ·rintro σ H7 ⟨x5,x6,wq,us,zs,M,cj,pv,rfl,hwq,lus,hcj,pvl,pvk,cus,hpc7,g7,lM,pM,tM,aM,wM,s7,h7c,h7c2,h7d,T7⟩
   rw [hml] at hcj
   cases hcj
   have nM:∀ e ∈ M,0 ≤ e.1:=fun e he => Int.le_of_lt (pM e he)
   refine ⟨_,rfl,pc,zs,M,rfl,SqL.of hpc7,g7,by omega,nM,fun r zr H8 f8 h8 g8 s8 => ?_⟩
   refine k r zr (shape M) H8 (s7.free f8) h8 g8 ⟨shape_norm M,by rw [Toy.shape_tot nM,tM],shape_all (p:=fun u => u.length=n) wM,fun p p0 p1 i => ?_,?_⟩ (s7.trans s8)
   ·rw [shape_at nM (by omega)]; exact aM p p0 p1 i
   ·have:=shape_len M; omega
theorem wst_len {t:Int} : ∀ {A:Wl} {lo:Int},(wst t A lo).length=3 * A.length
 | [],_ => rfl
 | e :: A,lo => by
  show (ws1 t e lo ++ wst t A (lo + e.1)).length=3 * (A.length + 1)
  rw [List.length_append,wst_len]
  show 3 + _=_
  omega
theorem mem_wst2 {t:Int} : ∀ {A:Wl} {lo:Int} {s:Int × Int × List Int},s ∈ wst t A lo→∃ e ∈ A,s.2.2=e.2 ∨ s.2.2=e.2.map (· * (e.1 / t))
 | [],lo,s,h => by cases h
 | e :: A,lo,s,h => by
  rcases List.mem_append.mp (show s ∈ ws1 t e lo ++ wst t A (lo + e.1) from h) with h | h
  ·refine ⟨e,List.mem_cons_self,?_⟩
   unfold ws1 at h
   rcases List.mem_cons.mp h with rfl | h
   ·exact .inr rfl
   rcases List.mem_cons.mp h with rfl | h
   ·exact .inl rfl
   ·rw [List.mem_singleton.mp h]; exact .inl rfl
  ·obtain ⟨d,hd,q⟩:=mem_wst2 h
   exact ⟨d,List.mem_cons_of_mem _ hd,q⟩
theorem nat_few {z:Int} (h : -(10 ^ 200) < z∧z < 10 ^ 200):z.natAbs < 2 ^ 9000:=by
 have h1:z.natAbs < 10 ^ 200:=by omega
 exact Nat.lt_trans h1 (by decide)
theorem div_small {a t:Int} (h0:0 < a) (h1:a < 10 ^ 66) (ht:0 < t):0 ≤ a / t∧a / t < 10 ^ 66:=by
 refine ⟨Int.ediv_nonneg (by omega) (by omega),?_⟩
 have:=Int.ediv_le_self t (by omega:0 ≤ a)
 omega
theorem few_mul {z k:Int} (h : -(10 ^ 130) < z∧z < 10 ^ 130) (h0:0 ≤ k) (h1:k < 10 ^ 66):(z * k).natAbs < 2 ^ 9000:=by
 rw [Int.natAbs_mul]
 have a1:z.natAbs ≤ 10 ^ 130:=by omega
 have a2:k.natAbs ≤ 10 ^ 66:=by omega
 exact Nat.lt_of_le_of_lt (Nat.mul_le_mul a1 a2) (by decide)
abbrev s_wound:Stmt:=top 13
theorem sc_wound:FnScope ["weighing", "t", "stretches", "low", "high", "weights", "rounds", "left", "begin"] ["weighing", "t"] (defScope s_wound):=⟨rfl,rfl,rfl,by decide +kernel,rfl,by decide +kernel,by decide +kernel⟩
def spWound:Sp:=fun vs H Q _ => ∃ (a:Addr) (xs:List V) (A:Wl) (n:Nat) (t:Int),vs=[.ref a,.int t]∧H a=some (.lst xs)∧Wg H xs A∧A ≠ []∧A.length ≤ 150∧n ≤ 24∧(∀ e ∈ A,e.2.length=n)∧(∀ e ∈ A,0 < e.1∧e.1 < 10 ^ 66)∧(∀ e ∈ A,∀ z ∈ e.2,-(10 ^ 130) < z∧z < 10 ^ 130)∧0 < t∧t < 10 ^ 66 ∧
 ∀ (r:Addr) (zs:List V) (R:Wl) (H' : Hp),H r=none→H' r=some (.lst zs)→Wg H' zs R→HeapOf n (wst t A 0) 0 t R (A.length + 3)→Same H H'→Q (.ref r) H'
theorem ok_wound {f:Addr} {fd:FuncData} (F:Fun K "wound" "wound" s_wound f fd) (M:Txt mg) (Glaid_from:Kn P w K mg base "laid_from" 1 ["weighing", "begin"] (spLaid K)) (Gweights_times:Kn P w K mg base "weights_times" 1 ["weights", "times"] spTimes) (Gheaped:Kn P w K mg base "heaped" 3 ["stretches"] spHeaped) (B:Gb mg):FnOk P w K mg base CX0 4 f fd ["weighing", "t"] spWound:=by
 have sc:=sc_wound
 refine F.ok sc (fun vs H Q E h => ?_) (fun cdv A outer s H vs Q E hr h => ?_)
 ·obtain ⟨a,xs,A,n,t,rfl,_⟩:=h
  rfl
 ·obtain ⟨a,xs,A,n,t,rfl,ha,g,ne,hl,hn,wid,pos,num,t0,t1,k⟩:=h
  refine ⟨_,(pss_cons (ps_set (i:=2) sc.nd rfl (Or.inl rfl) (pe_lst pa_nil))
   (pss_cons (ps_for PassesOwn.never rfl (pi_list (pe_callD Glaid_from hr rfl (pa_Name (pv 0) (pa_Constant pe_int pa_nil)))) (pg_tup rfl (pgs_cons (pg_name (i:=3) sc.nd rfl (Or.inl rfl)) (pgs_cons (pg_name (i:=4) sc.nd rfl (Or.inl rfl)) (pgs_cons (pg_name (i:=5) sc.nd rfl (Or.inl rfl)) pgs_nil))))
   (pss_cons (ps_asg (pe_callB call_divmodL (by rfl) B.dm boot_divmod (pa_BinOp (pe_op op_sub (pv 4) (pv 3)) (pa_Name (pv 1) pa_nil))) (pg_tup rfl (pgs_cons (pg_name (i:=6) sc.nd rfl (Or.inl rfl)) (pgs_cons (pg_name (i:=7) sc.nd rfl (Or.inl rfl)) pgs_nil))))
   (pss_cons (ps_set (i:=8) sc.nd rfl (Or.inl rfl) (pe_op op_mod (pv 3) (pv 1)))
   (pss_cons (ps_expr (pe_bm PySem.F.plainAttrs_list PySem.F.slot_list_append PySem.F.type_list_append mt_append (pv 2) (pa_Tuple (pe_tup (pa_o3 pe_int (pv 1) (pe_callD Gweights_times hr rfl (pa_Name (pv 5) (pa_Name (pv 6) pa_nil))) pa_nil)) pa_nil)))
   (pss_cons (ps_expr (pe_bm PySem.F.plainAttrs_list PySem.F.slot_list_append PySem.F.type_list_append mt_append (pv 2) (pa_Tuple (pe_tup (pa_o3 (pv 8) (pe_callB (call_min2 rfl) (by rfl) M.min boot_min (pa_BinOp (pe_op op_add (pv 8) (pv 7)) (pa_Name (pv 1) pa_nil))) (pv 5) pa_nil)) pa_nil)))
   (pss_one (ps_expr (pe_bm PySem.F.plainAttrs_list PySem.F.slot_list_append PySem.F.type_list_append mt_append (pv 2) (pa_Tuple (pe_tup (pa_o3 pe_int (pe_callB (call_max2 rfl) (by rfl) M.max boot_max (pa_BinOp (pe_op op_sub (pe_op op_add (pv 8) (pv 7)) (pv 1)) (pa_Constant pe_int pa_nil))) (pv 5) pa_nil)) pa_nil)))))))))
   (pss_one (ps_ret (pe_callD Gheaped hr rfl (pa_Name (pv 2) pa_nil)))))),?_⟩
  refine ⟨(by show 0 ≤ sizeLine; decide),fun st fst => ?_⟩
  have s1:=Same.new (o:=.lst []) (Same.refl H) fst
  have hst1:(upd H st (.lst [])) st=some (.lst []):=upd_same
  generalize upd H st (.lst [])=H1 at s1 hst1 ⊢
  refine ⟨_,rfl,a,xs,A,0,rfl,SqL.of (s1 _ _ ha),g.up s1.tups,by omega,fun lb lz H2 f2 h2 ly s2 => ⟨lb,rfl,⟨lz,SqL.of h2⟩,?_⟩⟩
  have s12:=s1.trans s2
  have hst2:=s2 _ _ hst1
  have nsl:st ≠ lb:=fun z => by rw [z] at hst1; rw [hst1] at f2; cases f2
  have ft:∀ e ∈ A,Few e.2:=fun e he z hz => nat_few (by have:=num e he z hz; omega)
  have lt9:t.natAbs.log2 < 9000:=(Nat.log2_lt (by omega)).mpr (nat_few (by omega))
  refine for_list (K:=K) (a:=lb) (xs:=lz) (fun i σ H' => ∃ (x3 x4 x5 x6 x7 x8:Option V) (zs:List V),σ=[some (.ref a),some (.int t),some (.ref st),x3,x4,x5,x6,x7,x8]∧H' st=some (.lst zs)∧Stg H' zs (wst t (A.take i) 0)∧Same H H'∧H' lb=some (.lst lz)∧Tups H2 H') ⟨_,_,_,_,_,_,[],rfl,hst2,Stg.nil _,s12,h2,Tups.refl _⟩ (fun i σ H' _ ⟨_,_,_,_,_,_,_,_,_,_,_,q,_⟩ => SqL.of q) ?_ ?_
  ·rintro i x σ H3 hx ⟨x3,x4,x5,x6,x7,x8,zs,rfl,hst3,g3,s3,hlb3,T3⟩
   have hi:i < A.length:=by have:=(List.getElem?_eq_some_iff.mp hx).1; rw [ly.1] at this; exact this
   obtain ⟨e,he⟩:∃ e,A[i]? = some e:=⟨A[i],List.getElem?_eq_getElem hi⟩
   have hem:e ∈ A:=List.mem_of_getElem? he
   obtain ⟨q,wq,hq1,hq2,hq3⟩:=ly.2 i e he
   rw [hx] at hq1
   cases hq1
   have hw3:=T3 _ _ hq3
   have ehl:(0 + tot (A.take (i + 1))) - (0 + tot (A.take i))=e.1:=by rw [tot_succ he]; omega
   have lzs:zs.length ≤ 450:=by rw [g3.1,wst_len,List.length_take]; omega
   obtain ⟨d0,d1⟩:=div_small (pos e hem).1 (pos e hem).2 t0
   have wlen:=wid e hem
   refine ⟨q,_,rfl,SqT.of (T3 _ _ hq2),rfl,_,_,rfl,_,_,rfl,_,_,rfl,rfl,?_⟩
   refine ⟨_,rfl,_,rfl,_,_,rfl,rfl,_,rfl,_,t,rfl,⟨t0,lt9⟩,fun dp hdp => ?_⟩
   rw [ehl]
   have s4:=Same.new (o:=.tup [.int (e.1 / t),.int (e.1 % t)]) (Same.refl H3) hdp
   have f4:(upd H3 dp (.tup [.int (e.1 / t),.int (e.1 % t)])) dp=some (.tup [.int (e.1 / t),.int (e.1 % t)]):=upd_same
   generalize upd H3 dp (.tup [.int (e.1 / t),.int (e.1 % t)])=H4 at s4 f4 ⊢
   refine ⟨dp,_,rfl,SqT.of f4,rfl,_,_,rfl,_,_,rfl,rfl,?_⟩
   refine ⟨_,rfl,_,rfl,_,_,rfl,rfl,t0,?_⟩
   refine ⟨_,rfl,.inl ⟨rfl,_,SqL.of (s4 _ _ hst3)⟩,_,rfl,_,rfl,_,rfl,wq,e.2,e.1 / t,rfl,s4 _ _ hw3,by omega,ft e hem,nat_few (by omega),fun r5 H5 f5 h5 s5 => ⟨(by show 3 ≤ sizeLine; decide),fun p1 hp1 => ?_⟩⟩
   have s6:=Same.new (o:=.tup [.int 0,.int t,.ref r5]) (s4.trans s5) hp1
   have f6:(upd H5 p1 (.tup [.int 0,.int t,.ref r5])) p1=some (.tup [.int 0,.int t,.ref r5]):=upd_same
   have r6:(upd H5 p1 (.tup [.int 0,.int t,.ref r5])) r5=some (.tup ((e.2.map (· * (e.1 / t))).map V.int)):=by rw [upd_ne (ne_of_none h5 hp1)]; exact h5
   generalize upd H5 p1 (.tup [.int 0,.int t,.ref r5])=H6 at s6 f6 r6 ⊢
   have hst6:=s6 _ _ hst3
   refine ⟨st,zs,_,rfl,rfl,hst6,Nat.lt_of_le_of_lt (by omega:zs.length ≤ 1000) (by decide),?_⟩
   have T7:Tups H6 (upd H6 st (.lst (zs ++ [.ref p1]))):=(Tups.refl H6).lst hst6
   have hst7:(upd H6 st (.lst (zs ++ [.ref p1]))) st=some (.lst (zs ++ [.ref p1])):=upd_same
   have s7:Same H (upd H6 st (.lst (zs ++ [.ref p1]))):=Same.own (s3.trans s6) fst
   have hlb7:(upd H6 st (.lst (zs ++ [.ref p1]))) lb=some (.lst lz):=by rw [upd_ne (Ne.symm nsl)]; exact s6 _ _ hlb3
   have g7:=Stg.snoc (g3.up (s6.tups.trans T7)) (s:=(0,t,e.2.map (· * (e.1 / t)))) ⟨p1,r5,rfl,T7 _ _ f6,T7 _ _ r6⟩
   have hw7:=T7 _ _ (s6.tups _ _ hw3)
   have T37:=T3.trans (s6.tups.trans T7)
   generalize upd H6 st (.lst (zs ++ [.ref p1]))=H7 at hst7 s7 hlb7 g7 hw7 T37 ⊢
   refine ⟨_,rfl,.inl ⟨rfl,_,SqL.of hst7⟩,_,rfl,_,rfl,_,rfl,_,_,rfl,rfl,_,rfl,_,_,rfl,_,rfl,(by show 3 ≤ sizeLine; decide),fun p2 hp2 => ?_⟩
   have sh:∀ z:HO,upd H7 p2 z p2=some z:=fun z => upd_same
   generalize hlo:0 + tot (A.take i)=lo at *
   have s8:=Same.new (o:=.tup [.int (lo % t),.int (mn (lo % t + e.1 % t) t),.ref wq]) (Same.refl H7) hp2
   have f8:(upd H7 p2 (.tup [.int (lo % t),.int (mn (lo % t + e.1 % t) t),.ref wq])) p2=some (.tup [.int (lo % t),.int (mn (lo % t + e.1 % t) t),.ref wq]):=upd_same
   have e8:(HO.tup [(fun i j => V.int (i % j)) lo t,V.int (if t < lo % t + e.1 % t then t else lo % t + e.1 % t),V.ref wq]) = .tup [.int (lo % t),.int (mn (lo % t + e.1 % t) t),.ref wq]:=rfl
   rw [e8]
   generalize upd H7 p2 (.tup [.int (lo % t),.int (mn (lo % t + e.1 % t) t),.ref wq])=H8 at s8 f8 ⊢
   have hst8:=s8 _ _ hst7
   have l8:(zs ++ [V.ref p1]).length=zs.length + 1:=by rw [List.length_append]; rfl
   refine ⟨st,_,_,rfl,rfl,hst8,Nat.lt_of_le_of_lt (by omega:(zs ++ [V.ref p1]).length ≤ 1000) (by decide),?_⟩
   have T9:Tups H8 (upd H8 st (.lst ((zs ++ [.ref p1]) ++ [.ref p2]))):=(Tups.refl H8).lst hst8
   have hst9:(upd H8 st (.lst ((zs ++ [.ref p1]) ++ [.ref p2]))) st=some (.lst ((zs ++ [.ref p1]) ++ [.ref p2])):=upd_same
   have s9:Same H (upd H8 st (.lst ((zs ++ [.ref p1]) ++ [.ref p2]))):=Same.own (s7.trans s8) fst
   have hlb9:(upd H8 st (.lst ((zs ++ [.ref p1]) ++ [.ref p2]))) lb=some (.lst lz):=by rw [upd_ne (Ne.symm nsl)]; exact s8 _ _ hlb7
   have hw9:=T9 _ _ (s8.tups _ _ hw7)
   have g9:=Stg.snoc (g7.up (s8.tups.trans T9)) (s:=(lo % t,mn (lo % t + e.1 % t) t,e.2)) ⟨p2,wq,rfl,T9 _ _ f8,hw9⟩
   have T39:=T37.trans (s8.tups.trans T9)
   generalize upd H8 st (.lst ((zs ++ [.ref p1]) ++ [.ref p2]))=H9 at hst9 s9 hlb9 g9 hw9 T39 ⊢
   refine ⟨_,rfl,.inl ⟨rfl,_,SqL.of hst9⟩,_,rfl,_,rfl,_,_,rfl,rfl,_,rfl,_,_,rfl,rfl,_,_,rfl,_,rfl,(by show 3 ≤ sizeLine; decide),fun p3 hp3 => ?_⟩
   have sA:=Same.new (o:=.tup [.int 0,.int (mx (lo % t + e.1 % t - t)),.ref wq]) (Same.refl H9) hp3
   have fA:(upd H9 p3 (.tup [.int 0,.int (mx (lo % t + e.1 % t - t)),.ref wq])) p3=some (.tup [.int 0,.int (mx (lo % t + e.1 % t - t)),.ref wq]):=upd_same
   have eA:(HO.tup [V.int 0,V.int (if (0:Int) > lo % t + e.1 % t - t then 0 else lo % t + e.1 % t - t),V.ref wq]) = .tup [.int 0,.int (mx (lo % t + e.1 % t - t)),.ref wq]:=rfl
   rw [eA]
   generalize upd H9 p3 (.tup [.int 0,.int (mx (lo % t + e.1 % t - t)),.ref wq])=HA at sA fA ⊢
   have hstA:=sA _ _ hst9
   have lA:((zs ++ [V.ref p1]) ++ [V.ref p2]).length=zs.length + 2:=by rw [List.length_append,l8]; rfl
   refine ⟨st,_,_,rfl,rfl,hstA,Nat.lt_of_le_of_lt (by omega:((zs ++ [V.ref p1]) ++ [V.ref p2]).length ≤ 1000) (by decide),?_⟩
   have TB:Tups HA (upd HA st (.lst (((zs ++ [.ref p1]) ++ [.ref p2]) ++ [.ref p3]))):=(Tups.refl HA).lst hstA
   have gB:=Stg.snoc (g9.up (sA.tups.trans TB)) (s:=(0,mx (lo % t + e.1 % t - t),e.2)) ⟨p3,wq,rfl,TB _ _ fA,TB _ _ (sA.tups _ _ hw9)⟩
   refine ⟨_,_,_,_,_,_,_,rfl,upd_same,?_,Same.own (s9.trans sA) fst,by rw [upd_ne (Ne.symm nsl)]; exact sA _ _ hlb9,T39.trans (sA.tups.trans TB)⟩
   have ew:wst t (A.take (i + 1)) 0=((wst t (A.take i) 0 ++ [(0,t,e.2.map (· * (e.1 / t)))]) ++ [(lo % t,mn (lo % t + e.1 % t) t,e.2)]) ++ [(0,mx (lo % t + e.1 % t - t),e.2)]:=by
    rw [take_succ' he,wst_snoc,hlo,List.append_assoc,List.append_assoc]
    rfl
   rw [ew]
   exact gB
  ·rintro σ H3 ⟨x3,x4,x5,x6,x7,x8,zs,rfl,hst3,g3,s3,hlb3,T3⟩
   have et:A.take lz.length=A:=by rw [ly.1]; exact List.take_length
   rw [et] at g3
   have nA:∃ e A',A=e :: A':=by
    cases A with
    | nil => exact absurd rfl ne
    | cons e A' => exact ⟨e,A',rfl⟩
   have kin:∀ s ∈ wst t A 0,(s.1=0 ∨ s.1 ∈ (ends A A.length).map (· % t))∧(s.2.1=0 ∨ s.2.1=t ∨ s.2.1 ∈ (ends A A.length).map (· % t)):=fun s hs => by
    obtain ⟨_,_,_,_,_,q1,q2⟩:=mem_wst t0 hs
    have key:∀ z,(∃ j,j ≤ A.length∧z=(0 + tot (A.take j)) % t)→z ∈ (ends A A.length).map (· % t):=fun z ⟨j,hj,e⟩ => by
     refine List.mem_map.mpr ⟨tot (A.take j),?_,by rw [e,Int.zero_add]⟩
     unfold ends
     exact List.mem_map.mpr ⟨j,List.mem_range.mpr (by omega),rfl⟩
    exact ⟨q1.imp id (key _),q2.imp id (Or.imp id (key _))⟩
   obtain ⟨e0,A',eA⟩:=nA
   have k0:(0,t,e0.2.map (· * (e0.1 / t))) ∈ wst t A 0:=by rw [eA]; exact List.mem_append_left _ List.mem_cons_self
   refine ⟨_,rfl,st,zs,wst t A 0,n,0,t,0 :: t :: (ends A A.length).map (· % t),rfl,hst3,g3,fun z => (by rw [z] at k0; cases k0),by rw [wst_len]; omega,hn,fun s hs => ?_,fun s hs => ?_,?_,fun z ⟨s,hs,hz⟩ => ?_,⟨_,k0,.inl rfl⟩,⟨_,k0,.inr rfl⟩,fun z ⟨s,hs,hz⟩ => ?_,fun r zr R H4 f4 h4 g4 hR s4 => ?_⟩
   ·obtain ⟨_,_,_,_,⟨e,he,q⟩,_⟩:=mem_wst t0 hs
    rw [q]; exact wid e he
   ·obtain ⟨e,he,q | q⟩:=mem_wst2 hs
    ·rw [q]; exact ft e he
    ·rw [q]
     intro z hz
     obtain ⟨y,hy,rfl⟩:=List.mem_map.mp hz
     obtain ⟨d0,d1⟩:=div_small (pos e he).1 (pos e he).2 t0
     exact few_mul (num e he y hy) d0 d1
   ·simp only [List.length_cons,List.length_map,ends_len]; omega
   ·obtain ⟨q1,q2⟩:=kin s hs
    rcases hz with rfl | rfl
    ·rcases q1 with q | q
     ·rw [q]; exact List.mem_cons_self
     ·exact List.mem_cons_of_mem _ (List.mem_cons_of_mem _ q)
    ·rcases q2 with q | q | q
     ·rw [q]; exact List.mem_cons_self
     ·rw [q]; exact List.mem_cons_of_mem _ List.mem_cons_self
     ·exact List.mem_cons_of_mem _ (List.mem_cons_of_mem _ q)
   ·obtain ⟨q1,q2,q3,q4,_⟩:=mem_wst t0 hs
    rcases hz with rfl | rfl
    ·exact ⟨q1,q2⟩
    ·exact ⟨q3,q4⟩
   ·have ek:(0 :: t :: (ends A A.length).map (· % t)).length=A.length + 3:=by simp only [List.length_cons,List.length_map,ends_len]
    rw [ek] at hR
    exact k r zr R H4 (s3.free f4) h4 g4 hR (s3.trans s4)
end
end Toy
namespace Toy
open PySem L2 PyProof.Rows
theorem wg_app {H:Hp} {xs ys:List V} {A B:Wl} (a:Wg H xs A) (b:Wg H ys B):Wg H (xs ++ ys) (A ++ B):=by
 refine ⟨by rw [List.length_append,List.length_append,a.1,b.1],fun i x e h1 h2 => ?_⟩
 by_cases z:i < xs.length
 ·rw [List.getElem?_append_left z] at h1
  rw [List.getElem?_append_left (a.1 ▸ z)] at h2
  exact a.2 i x e h1 h2
 ·rw [List.getElem?_append_right (by omega)] at h1
  rw [List.getElem?_append_right (by have:=a.1; omega),← a.1] at h2
  exact b.2 _ x e h1 h2
end Toy
namespace Toy
open PySem L2 PyProof.Rows
structure PutOf (A C:Wl) (bg:Int) (R:Wl):Prop where
 nrm:Norm R
 sum:tot R=tot A
 at' : ∀ p,0 ≤ p→p < tot A→atW R p=if bg ≤ p∧p < bg + tot C then plusW (atW A p) (atW C (p - bg)) else atW A p
 len:R.length ≤ 900
section
variable {P:Program} {w:World} {K:PySem.W.Frag} {mg:Str→Option Value} {base:Heap}
abbrev s_put_to:Stmt:=top 12
theorem sc_put_to:FnScope ["weighing", "begin", "other", "end", "between"] ["weighing", "begin", "other"] (defScope s_put_to):=⟨rfl,rfl,rfl,by decide +kernel,rfl,by decide +kernel,by decide +kernel⟩
def spPut:Sp:=fun vs H Q _ => ∃ (a b:Addr) (xs ys:List V) (A C:Wl) (bg:Int) (wd:Nat),vs=[.ref a,.int bg,.ref b]∧H a=some (.lst xs)∧H b=some (.lst ys)∧Wg H xs A∧Wg H ys C∧Norm A∧(∀ e ∈ C,0 < e.1)∧0 ≤ bg∧bg + tot C ≤ tot A∧A.length ≤ 200∧C.length ≤ 200∧wd ≤ 24∧(∀ e ∈ A,e.2.length=wd)∧(∀ e ∈ C,e.2.length=wd) ∧
 ∀ (r:Addr) (zs:List V) (R:Wl) (H' : Hp),H r=none→H' r=some (.lst zs)→Wg H' zs R→PutOf A C bg R→Same H H'→Q (.ref r) H'
theorem ok_put {f:Addr} {fd:FuncData} (F:Fun K "put_to" "put_to" s_put_to f fd) (M:Txt mg) (Glength:Kn P w K mg base "length" 1 ["weighing"] (spLength K)) (Gpart:Kn P w K mg base "part" 2 ["weighing", "begin", "end"] (spPart K)) (Gadded:Kn P w K mg base "added" 2 ["one", "other"] spAdded) (Gshaped:Kn P w K mg base "shaped" 1 ["pieces"] (spShaped K)):FnOk P w K mg base CX0 3 f fd ["weighing", "begin", "other"] spPut:=by
 have sc:=sc_put_to
 refine F.ok sc (fun vs H Q E h => ?_) (fun cdv A' outer s H vs Q E hr h => ?_)
 ·obtain ⟨a,b,xs,ys,A,C,bg,wd,rfl,_⟩:=h
  rfl
 ·obtain ⟨a,b,xs,ys,A,C,bg,wd,rfl,ha,hb,ga,gc,nA,pC,b0,b1,lA,lC,w24,wA,wC,k⟩:=h
  refine ⟨_,(pss_cons (ps_set (i:=3) sc.nd rfl (Or.inl rfl) (pe_op op_add (pv 1) (pe_callD Glength hr rfl (pa_Name (pv 2) pa_nil))))
   (pss_cons (ps_set (i:=4) sc.nd rfl (Or.inl rfl) (pe_callD Gadded hr rfl (pa_Call (pe_callD Gpart hr rfl (pa_Name (pv 0) (pa_Name (pv 1) (pa_Name (pv 3) pa_nil)))) (pa_Name (pv 2) pa_nil))))
   (pss_one (ps_ret (pe_callD Gshaped hr rfl (pa_BinOp (pe_op op_cat (pe_op op_cat (pe_callD Gpart hr rfl (pa_Name (pv 0) (pa_Constant pe_int (pa_Name (pv 1) pa_nil)))) (pv 4)) (pe_callD Gpart hr rfl (pa_Name (pv 0) (pa_Name (pv 3) (pa_Call (pe_callD Glength hr rfl (pa_Name (pv 0) pa_nil)) pa_nil))))) pa_nil)))))),?_⟩
  have pA:∀ e ∈ A,0 < e.1:=nA.pos
  have c0:0 ≤ tot C:=tot_pos0 fun e he => Int.le_of_lt (pC e he)
  refine ⟨_,rfl,_,rfl,b,ys,C,rfl,SqL.of hb,gc,by omega,fun H1 s1 => ⟨_,_,rfl,rfl,?_⟩⟩
  refine ⟨_,rfl,_,rfl,_,rfl,a,xs,A,bg,bg + tot C,rfl,SqL.of (s1 _ _ ha),ga.up s1.tups,by omega,pA,by omega,fun p1 z1 H2 f2 h2 g2 s2 => ?_⟩
  have s02:=s1.trans s2
  have l2:(shape (cutP bg (bg + tot C) 0 A)).length ≤ 200:=Nat.le_trans (shape_len _) (Nat.le_trans (cutP_len _ _ _ _) lA)
  have w2:∀ e ∈ shape (cutP bg (bg + tot C) 0 A),e.2.length=wd:=shape_all (p:=fun u => u.length=wd) (cutP_all (p:=fun u => u.length=wd) wA)
  have l0:(shape (cutP 0 bg 0 A)).length ≤ 200:=Nat.le_trans (shape_len _) (Nat.le_trans (cutP_len _ _ _ _) lA)
  have l9:(shape (cutP (bg + tot C) (tot A) 0 A)).length ≤ 200:=Nat.le_trans (shape_len _) (Nat.le_trans (cutP_len _ _ _ _) lA)
  have e2:shape (cutP bg (bg + tot C) 0 A)=takeF (tot C) (dropF bg A):=by rw [part_eq nA b0 (by omega),show bg + tot C - bg=tot C by omega]
  have e0:shape (cutP 0 bg 0 A)=takeF bg (dropF 0 A):=by rw [part_eq nA (Int.le_refl _) b0,Int.sub_zero]
  have e9:shape (cutP (bg + tot C) (tot A) 0 A)=takeF (tot A - (bg + tot C)) (dropF (bg + tot C) A):=part_eq nA (by omega) b1
  have pD:∀ x,∀ e ∈ dropF x A,0 < e.1:=fun x => (dropF_norm nA).pos
  have p2:∀ e ∈ shape (cutP bg (bg + tot C) 0 A),0 < e.1:=(shape_norm _).pos
  have p0:∀ e ∈ shape (cutP 0 bg 0 A),0 < e.1:=(shape_norm _).pos
  have p9:∀ e ∈ shape (cutP (bg + tot C) (tot A) 0 A),0 < e.1:=(shape_norm _).pos
  have t2:tot (shape (cutP bg (bg + tot C) 0 A))=tot C:=by rw [e2,tot_takeF (pD _) c0 (by rw [tot_dropF pA b0 (by omega)]; omega)]
  have t0:tot (shape (cutP 0 bg 0 A))=bg:=by rw [e0,tot_takeF (pD _) b0 (by rw [tot_dropF pA (Int.le_refl _) (by omega)]; omega)]
  have t9:tot (shape (cutP (bg + tot C) (tot A) 0 A))=tot A - (bg + tot C):=by rw [e9,tot_takeF (pD _) (by omega) (by rw [tot_dropF pA (by omega) b1]; omega)]
  have a2:∀ p,0 ≤ p→p < tot C→atW (shape (cutP bg (bg + tot C) 0 A)) p=atW A (p + bg):=fun p q0 q1 => by rw [e2,atW_takeF (pD _) q0 q1,atW_dropF pA b0 q0]
  have a0:∀ p,0 ≤ p→p < bg→atW (shape (cutP 0 bg 0 A)) p=atW A p:=fun p q0 q1 => by rw [e0,atW_takeF (pD _) q0 q1,atW_dropF pA (Int.le_refl _) q0,Int.add_zero]
  have a9:∀ p,0 ≤ p→p < tot A - (bg + tot C)→atW (shape (cutP (bg + tot C) (tot A) 0 A)) p=atW A (p + (bg + tot C)):=fun p q0 q1 => by rw [e9,atW_takeF (pD _) q0 q1,atW_dropF pA (by omega) q0]
  generalize shape (cutP bg (bg + tot C) 0 A)=X2 at *
  refine ⟨_,rfl,p1,b,z1,ys,X2,C,wd,rfl,h2,s02 _ _ hb,g2,gc.up s02.tups,p2,pC,t2,l2,lC,w24,w2,wC,fun r zr R H3 f3 h3 g3 so s3 => ?_⟩
  have s03:=s02.trans s3
  refine ⟨_,rfl,_,rfl,a,xs,A,0,bg,rfl,SqL.of (s03 _ _ ha),ga.up s03.tups,by omega,pA,b0,fun q0 y0 H4 f4 h4 g4 s4 => ?_⟩
  have tR:tot R=tot C:=by rw [so.sum]; exact t2
  have lR:R.length ≤ 401:=by have:=so.len; omega
  have nX0:∀ e ∈ shape (cutP 0 bg 0 A),0 ≤ e.1:=fun e he => Int.le_of_lt (p0 e he)
  have nR:∀ e ∈ R,0 ≤ e.1:=fun e he => Int.le_of_lt (so.nrm.pos e he)
  have nX9:∀ e ∈ shape (cutP (bg + tot C) (tot A) 0 A),0 ≤ e.1:=fun e he => Int.le_of_lt (p9 e he)
  have ly0:y0.length ≤ 200:=by rw [g4.1]; exact l0
  have lzr:zr.length ≤ 401:=by rw [g3.1]; exact lR
  refine ⟨_,rfl,q0,r,_,_,rfl,rfl,h4,s4 _ _ h3,Nat.le_trans (show y0.length + zr.length ≤ 1000 by omega) (by decide),fun c1 hc1 => ?_⟩
  have s5:=Same.new (o:=.lst (y0 ++ zr)) (Same.refl H4) hc1
  have f5:(upd H4 c1 (.lst (y0 ++ zr))) c1=some (.lst (y0 ++ zr)):=upd_same
  generalize upd H4 c1 (.lst (y0 ++ zr))=H5 at s5 f5 ⊢
  have s05:=(s03.trans s4).trans s5
  refine ⟨_,rfl,_,rfl,_,rfl,a,xs,A,rfl,SqL.of (s05 _ _ ha),ga.up s05.tups,by omega,fun H6 s6 => ?_⟩
  have s06:=s05.trans s6
  refine ⟨a,xs,A,bg + tot C,tot A,rfl,SqL.of (s06 _ _ ha),ga.up s06.tups,by omega,pA,b1,fun q9 y9 H7 f7 h7 g7 s7 => ?_⟩
  have s07:=s06.trans s7
  have ly9:y9.length ≤ 200:=by rw [g7.1]; exact l9
  refine ⟨c1,q9,_,_,rfl,rfl,s7 _ _ (s6 _ _ f5),h7,Nat.le_trans (show (y0 ++ zr).length + y9.length ≤ 1000 by rw [List.length_append]; omega) (by decide),fun c2 hc2 => ?_⟩
  have s8:=Same.new (o:=.lst ((y0 ++ zr) ++ y9)) (Same.refl H7) hc2
  have f8:(upd H7 c2 (.lst ((y0 ++ zr) ++ y9))) c2=some (.lst ((y0 ++ zr) ++ y9)):=upd_same
  generalize upd H7 c2 (.lst ((y0 ++ zr) ++ y9))=H8 at s8 f8 ⊢
  have s48:=((s5.trans s6).trans s7).trans s8
  have gL:Wg H8 ((y0 ++ zr) ++ y9) ((shape (cutP 0 bg 0 A) ++ R) ++ shape (cutP (bg + tot C) (tot A) 0 A)):=wg_app (wg_app (g4.up s48.tups) (g3.up (s4.trans s48).tups)) (g7.up s8.tups)
  have lL:((shape (cutP 0 bg 0 A) ++ R) ++ shape (cutP (bg + tot C) (tot A) 0 A)).length ≤ 900:=by rw [List.length_append,List.length_append]; omega
  have nX:∀ e ∈ shape (cutP 0 bg 0 A) ++ R,0 ≤ e.1:=fun e he => (List.mem_append.mp he).elim (nX0 e) (nR e)
  have nL:∀ e ∈ (shape (cutP 0 bg 0 A) ++ R) ++ shape (cutP (bg + tot C) (tot A) 0 A),0 ≤ e.1:=fun e he => (List.mem_append.mp he).elim (nX e) (nX9 e)
  have tX:tot (shape (cutP 0 bg 0 A) ++ R)=bg + tot C:=by rw [tot_append,t0,tR]
  refine ⟨c2,_,_,rfl,SqL.of f8,gL,by omega,nL,fun rr zz H9 f9 h9 g9 s9 => ?_⟩
  refine k rr zz _ H9 ((s07.trans s8).free f9) h9 g9 ⟨shape_norm _,by rw [Toy.shape_tot nL,tot_append,tX,t9]; omega,fun p q1 q2 => ?_,Nat.le_trans (shape_len _) lL⟩ ((s07.trans s8).trans s9)
  rw [shape_at nL q1]
  by_cases z:p < bg
  ·rw [if_neg (by omega),List.append_assoc,atW_left nX0 q1 (by omega)]
   exact a0 p q1 z
  ·by_cases z2:p < bg + tot C
   ·rw [if_pos (by omega),atW_left nX q1 (by omega),atW_right nX0 (by omega),t0,so.at' (p - bg) (by omega) (by omega),a2 (p - bg) (by omega) (by omega),show p - bg + bg=p by omega]
   ·rw [if_neg (by omega),atW_right nX (by omega),tX,a9 _ (by omega) (by omega),show p - (bg + tot C) + (bg + tot C)=p by omega]
end
end Toy
namespace Toy
open PySem L2 PyProof.Rows
section
variable {P:Program} {w:World} {K:PySem.W.Frag} {mg:Str→Option Value} {base:Heap}
abbrev s_backward:Stmt:=top 6
theorem sc_backward:FnScope ["weighing"] ["weighing"] (defScope s_backward):=⟨rfl,rfl,rfl,by decide +kernel,rfl,by decide +kernel,by decide +kernel⟩
def spBack (K:PySem.W.Frag):Sp:=fun vs H Q _ => ∃ (a:Addr) (xs:List V),vs=[.ref a]∧SqL K H a xs∧∀ p,H p=none→Q (.ref p) (upd H p (.lst xs.reverse))
theorem ok_backward {f:Addr} {fd:FuncData} (F:Fun K "backward" "backward" s_backward f fd) (M:Txt mg):FnOk P w K mg base CX0 1 f fd ["weighing"] (spBack K):=by
 have sc:=sc_backward
 refine F.ok sc (fun vs H Q E h => ?_) (fun cdv A outer s H vs Q E hr h => ?_)
 ·obtain ⟨a,xs,rfl,_⟩:=h
  rfl
 ·obtain ⟨a,xs,rfl,hS,k⟩:=h
  refine ⟨_,(pss_one (ps_ret (pe_rev (pv 0) (po_some (pe_un un_neg pe_int))))),?_⟩
  exact ⟨_,rfl,_,rfl,_,rfl,rfl,a,xs,rfl,hS,k⟩
end
theorem Wg.rev {H:Hp} {xs:List V} {L:WL} (h:Wg H xs L):Wg H xs.reverse L.reverse:=by
 refine ⟨by rw [List.length_reverse,List.length_reverse,h.1],fun i x e h1 h2 => ?_⟩
 have hi:i < xs.length:=by have:=(List.getElem?_eq_some_iff.mp h1).1; rwa [List.length_reverse] at this
 rw [List.getElem?_reverse hi] at h1
 rw [List.getElem?_reverse (by rw [← h.1]; exact hi),← h.1] at h2
 exact h.2 _ x e h1 h2
end Toy
namespace Toy
open PySem L2 PyProof.Rows
structure InSt (L:List (Int × List Int)) (p:Int) (j:Nat) (e:Int × List Int):Prop where
 get:L[j]? = some e
 lo:tot (L.take j) ≤ p
 hi:p < tot (L.take (j + 1))
 pos:∀ e ∈ L,0 < e.1
section
variable {P:Program} {w:World} {K:PySem.W.Frag} {mg:Str→Option Value} {base:Heap}
abbrev s_weights_at:Stmt:=top 3
theorem sc_weights_at:FnScope ["weighing", "place", "at"] ["weighing", "place"] (defScope s_weights_at):=⟨rfl,rfl,rfl,by decide +kernel,rfl,by decide +kernel,by decide +kernel⟩
def spAt (K:PySem.W.Frag):Sp:=fun vs H Q _ => ∃ (a:Addr) (xs:List V) (L:List (Int × List Int)) (p:Int) (j:Nat) (e:Int × List Int) (q wq:Addr),vs=[.ref a,.int p]∧SqL K H a xs∧Wg H xs L∧InSt L p j e∧xs[j]? = some (.ref q)∧H q=some (.tup [.int e.1,.ref wq])∧Q (.ref wq) H
theorem ok_at {f:Addr} {fd:FuncData} (F:Fun K "weights_at" "weights_at" s_weights_at f fd) (M:Txt mg):FnOk P w K mg base CX0 1 f fd ["weighing", "place"] (spAt K):=by
 have sc:=sc_weights_at
 refine F.ok sc (fun vs H Q E h => ?_) (fun cdv A outer s H vs Q E hr h => ?_)
 ·obtain ⟨a,xs,L,p,j,e,q,wq,rfl,_⟩:=h
  rfl
 ·obtain ⟨a,xs,L,p,j,e,q,wq,rfl,hS,g,st,hxj,hq,k⟩:=h
  refine ⟨_,(pss_cons (ps_set (i:=2) sc.nd rfl (Or.inl rfl) pe_int)
   (pss_cons (ps_while PassesOwn.never (pt_cmpR op_ge (pv 1) (pe_ix (ix_tupK (K:=K)) (pe_ix (ix_listK (K:=K)) (pv 0) (pv 2) (fun _ _ => rfl)) pe_int (fun _ _ => rfl)) (nomark _)) (pss_cons (ps_aug (i:=1) sc.nd rfl (Or.inl rfl) (pe_ix (ix_tupK (K:=K)) (pe_ix (ix_listK (K:=K)) (pv 0) (pv 2) (fun _ _ => rfl)) pe_int (fun _ _ => rfl)) ip_sub)
   (pss_one (ps_aug (i:=2) sc.nd rfl (Or.inl rfl) pe_int ip_add))))
   (pss_one (ps_ret (pe_ix (ix_tupK (K:=K)) (pe_ix (ix_listK (K:=K)) (pv 0) (pv 2) (fun _ _ => rfl)) pe_int (fun _ _ => rfl)))))),?_⟩
  have hj:j < L.length:=(List.getElem?_eq_some_iff.mp st.get).1
  refine while_by (fun σ H' => ∃ at' : Nat,σ=[some (.ref a),some (.int (p - tot (L.take at'))),some (.int at')]∧at' ≤ j∧H' = H) (fun σ _ => j - (match σ[2]? with | some (some (V.int i)) => i.toNat | _ => 0)) ⟨0,by rw [List.take_zero,tot_nil,Int.sub_zero]; rfl,Nat.zero_le _,rfl⟩ ?_ ?_
  ·rintro σ H' ⟨n,rfl,hn,rfl⟩
   have hnl:n < L.length:=by omega
   obtain ⟨x,hx,qn,wn,rfl,hqn,hwn⟩:=g.get (List.getElem?_eq_getElem hnl)
   have tn:=tot_succ (List.getElem?_eq_getElem hnl)
   refine ⟨_,rfl,_,rfl,_,rfl,a,xs,_,_,rfl,rfl,hS,atI_nat hx,qn,_,_,_,rfl,rfl,SqT.of hqn,rfl,_,_,rfl,rfl,_,rfl,ite2 (fun hc => ?_) (fun hc => ?_)⟩
   ·have hc:=of_decide_eq_true hc
    have hnj:n + 1 ≤ j:=by
     apply Classical.byContradiction
     intro z
     have e0:n=j:=by omega
     subst e0
     have:=st.hi
     omega
    refine ⟨_,rfl,_,rfl,_,rfl,a,xs,_,_,rfl,rfl,hS,atI_nat hx,qn,_,_,_,rfl,rfl,SqT.of hqn,rfl,_,_,rfl,rfl,?_⟩
    refine ⟨_,rfl,_,_,rfl,rfl,⟨n + 1,?_,hnj,rfl⟩,?_⟩
    ·rw [tn]
     show [some (V.ref a),some (V.int (p - tot (List.take n L) - (L[n]).1)),some (V.int ((n:Int) + 1))]=_
     rw [show p - tot (List.take n L) - (L[n]).1=p - (tot (List.take n L) + (L[n]).1) by omega]
     rfl
    ·show j - ((n:Int) + 1).toNat < j - (n:Int).toNat
     omega
   ·have hc:=of_decide_eq_false (Bool.eq_false_iff.mpr hc)
    have e0:n=j:=by
     apply Classical.byContradiction
     intro z
     have:=tot_mono st.pos (show n + 1 ≤ j by omega)
     have:=st.lo
     omega
    subst e0
    rw [hxj] at hx
    cases hx
    exact ⟨_,rfl,_,rfl,a,xs,_,_,rfl,rfl,hS,atI_nat hxj,q,_,_,_,rfl,rfl,SqT.of hq,rfl,k⟩
  ·intro σ H' Q1 Q2 hQ h
   obtain ⟨v0,e0,v1,e1,v2,e2,p1,l1,i1,x1,a1,a2,a3,a4,p2,l2,i2,x2,b1,b2,b3,b4,i3,j3,c1,c2,v4,c3,q4⟩:=h
   exact ⟨v0,e0,v1,e1,v2,e2,p1,l1,i1,x1,a1,a2,a3,a4,p2,l2,i2,x2,b1,b2,b3,b4,i3,j3,c1,c2,v4,c3,hQ _ _ q4⟩
end
end Toy
namespace Toy
open PySem L2 PyProof.Rows
def sumP (f:Int→Int):Nat→Int
 | 0 => 0
 | n + 1 => sumP f n + f (n:Int)
theorem sumP_congr {f g:Int→Int} : ∀ {n:Nat},(∀ p:Int,0 ≤ p→p < (n:Int)→f p=g p)→sumP f n=sumP g n
 | 0,_ => rfl
 | n + 1,h => by
  show sumP f n + f (n:Int)=sumP g n + g (n:Int)
  rw [sumP_congr fun p h0 h1 => h p h0 (by omega),h (n:Int) (by omega) (by omega)]
theorem sumP_add (f:Int→Int) (a:Nat):∀ b:Nat,sumP f (a + b)=sumP f a + sumP (fun p => f (p + (a:Int))) b
 | 0 => by show sumP f a=sumP f a + 0; omega
 | b + 1 => by
  show sumP f (a + b) + f ((a + b:Nat):Int)=sumP f a + (sumP (fun p => f (p + (a:Int))) b + f ((b:Int) + (a:Int)))
  rw [sumP_add f a b,show ((a + b:Nat):Int)=(b:Int) + (a:Int) by omega]
  omega
theorem sumP_const (c:Int):∀ n:Nat,sumP (fun _ => c) n=c * (n:Int)
 | 0 => by show (0:Int)=c * ((0:Nat):Int); simp
 | n + 1 => by
  show sumP (fun _ => c) n + c=c * ((n + 1:Nat):Int)
  rw [sumP_const c n,show ((n + 1:Nat):Int)=(n:Int) + 1 by omega,Int.mul_add,Int.mul_one]
theorem sumP_plus (f g:Int→Int):∀ n:Nat,sumP (fun p => f p + g p) n=sumP f n + sumP g n
 | 0 => rfl
 | n + 1 => by
  show sumP (fun p => f p + g p) n + (f n + g n)=sumP f n + f n + (sumP g n + g n)
  rw [sumP_plus f g n]; omega
theorem sumP_zero:∀ n:Nat,sumP (fun _ => 0) n=0
 | 0 => rfl
 | n + 1 => by show sumP (fun _ => 0) n + 0=0; rw [sumP_zero n]; rfl
theorem sumP_swap (f:Int→Int→Int) (m:Nat):∀ n:Nat,sumP (fun p => sumP (fun j => f p j) m) n=sumP (fun j => sumP (fun p => f p j) n) m
 | 0 => by show (0:Int)=sumP (fun _ => 0) m; rw [sumP_zero]
 | n + 1 => by
  show sumP (fun p => sumP (fun j => f p j) m) n + sumP (fun j => f n j) m=sumP (fun j => sumP (fun p => f p j) n + f n j) m
  rw [sumP_swap f m n,← sumP_plus]
theorem sumP_delta {c x:Int} : ∀ {n:Nat},0 ≤ c→sumP (fun p => if c=p then x else 0) n=if c < (n:Int) then x else 0
 | 0,h => by show (0:Int)=_; rw [if_neg (by omega)]
 | n + 1,h => by
  show sumP (fun p => if c=p then x else 0) n + (if c=(n:Int) then x else 0)=_
  rw [sumP_delta h]
  by_cases e:c=(n:Int)
  ·rw [if_neg (by omega),if_pos e,if_pos (by omega)]; omega
  ·rw [if_neg e]
   by_cases l:c < (n:Int)
   ·rw [if_pos l,if_pos (by omega)]; omega
   ·rw [if_neg l,if_neg (by omega)]; rfl
theorem sumP_bound {f:Int→Int} {B:Int} : ∀ {n:Nat},(∀ p:Int,0 ≤ p→p < (n:Int)→-B ≤ f p∧f p ≤ B)→-(B * (n:Int)) ≤ sumP f n∧sumP f n ≤ B * (n:Int)
 | 0,_ => by show -(B * ((0:Nat):Int)) ≤ 0∧0 ≤ B * ((0:Nat):Int); simp
 | n + 1,h => by
  have i:=sumP_bound (n:=n) fun p h0 h1 => h p h0 (by omega)
  have j:=h (n:Int) (by omega) (by omega)
  show -(B * ((n + 1:Nat):Int)) ≤ sumP f n + f n∧sumP f n + f n ≤ B * ((n + 1:Nat):Int)
  rw [show ((n + 1:Nat):Int)=(n:Int) + 1 by omega,Int.mul_add,Int.mul_one]
  omega
def tW (L:Wl) (i:Nat):Int:=(L.map fun e => e.1 * co e.2 i).sum
theorem tW_cons (e:Int × List Int) (L:Wl) (i:Nat):tW (e :: L) i=e.1 * co e.2 i + tW L i:=by unfold tW; rw [List.map_cons,List.sum_cons]
theorem tW_sum (i:Nat):∀ {L:Wl},(∀ e ∈ L,0 ≤ e.1)→tW L i=sumP (fun p => co (atW L p) i) (tot L).toNat
 | [],_ => rfl
 | e :: L,h => by
  have e0:=h e List.mem_cons_self
  have hL:=fun x hx => h x (List.mem_cons_of_mem e hx)
  have t0:=tot_pos0 (M:=L) hL
  rw [tW_cons,tot_cons,show (e.1 + tot L).toNat=e.1.toNat + (tot L).toNat by omega,sumP_add,tW_sum i hL]
  congr 1
  ·rw [sumP_congr (g:=fun _ => co e.2 i) fun p p0 p1 => by rw [show e=(e.1,e.2) from rfl,atW_lt (by omega)],sumP_const,Int.toNat_of_nonneg e0,Int.mul_comm]
  ·refine sumP_congr fun p p0 p1 => ?_
   rw [show e=(e.1,e.2) from rfl,atW_ge (by omega),Int.toNat_of_nonneg e0,show p + e.1 - e.1=p by omega]
theorem tW_rev (L:Wl) (i:Nat):tW L.reverse i=tW L i:=by
 unfold tW
 rw [List.map_reverse,List.sum_reverse]
theorem div_next {x t p:Int} (ht:0 < t) (hp:0 ≤ p) (hpt:p < t):(x + 1 + t - 1 - p) / t - (x + t - 1 - p) / t=if x % t=p then 1 else 0:=by
 rw [ahead_at ht hp hpt,ahead_at (x:=x) ht hp hpt]
 have r0:=Int.emod_nonneg x (show t ≠ 0 by omega)
 have r1:=Int.emod_lt_of_pos x ht
 obtain ⟨a1,a2⟩:=sum_split (lo:=x) (m:=1) ht
 rw [a1,a2]
 by_cases t1:t=1
 ·subst t1
  have e1:x % 1=0:=by omega
  have ep:p=0:=by omega
  subst ep
  rw [e1]
  simp
  omega
 ·have d1:(1:Int) / t=0:=Int.ediv_eq_zero_of_lt (by omega) (by omega)
  have m1:(1:Int) % t=1:=Int.emod_eq_of_lt (by omega) (by omega)
  rw [d1,m1]
  by_cases c:x % t + 1 < t
  ·rw [if_pos c,if_pos c]
   by_cases e:x % t=p
   ·rw [if_pos e,if_pos (by omega),if_neg (by omega)]; omega
   ·rw [if_neg e]
    by_cases l:p < x % t
    ·rw [if_pos l,if_pos (by omega)]; omega
    ·rw [if_neg l,if_neg (by omega)]; omega
  ·rw [if_neg c,if_neg c]
   by_cases e:x % t=p
   ·rw [if_pos e,if_neg (by omega),if_neg (by omega)]; omega
   ·rw [if_neg e,if_neg (by omega),if_pos (by omega)]; omega
theorem cnt_sum {t p lo c:Int} (ht:0 < t) (hp:0 ≤ p) (hpt:p < t):∀ m:Nat,sumP (fun j => if (lo + j) % t=p then c else 0) m=c * ((lo + (m:Int) + t - 1 - p) / t - (lo + t - 1 - p) / t)
 | 0 => by
  show (0:Int)=c * ((lo + ((0:Nat):Int) + t - 1 - p) / t - (lo + t - 1 - p) / t)
  rw [show lo + ((0:Nat):Int) + t - 1 - p=lo + t - 1 - p by omega,Int.sub_self,Int.mul_zero]
 | m + 1 => by
  show sumP (fun j => if (lo + j) % t=p then c else 0) m + (if (lo + (m:Int)) % t=p then c else 0)=_
  rw [cnt_sum ht hp hpt m]
  have h:=div_next (x:=lo + (m:Int)) ht hp hpt
  rw [show lo + ((m + 1:Nat):Int) + t - 1 - p=lo + (m:Int) + 1 + t - 1 - p by omega]
  generalize (lo + (m:Int) + 1 + t - 1 - p) / t=u at h ⊢
  generalize (lo + (m:Int) + t - 1 - p) / t=v at h ⊢
  generalize (lo + t - 1 - p) / t=w
  by_cases e:(lo + (m:Int)) % t=p
  ·rw [if_pos e] at h ⊢
   rw [show u - w=(v - w) + 1 by omega,Int.mul_add,Int.mul_one]
  ·rw [if_neg e] at h ⊢
   rw [show u - w=v - w by omega,Int.add_zero]
theorem GG_sum {t p:Int} (ht:0 < t) (hp:0 ≤ p) (hpt:p < t) (i:Nat):∀ {L:Wl} {lo:Int},(∀ e ∈ L,0 ≤ e.1)→GG t p i L lo=sumP (fun j => if (lo + j) % t=p then co (atW L j) i else 0) (tot L).toNat
 | [],lo,_ => rfl
 | e :: L,lo,h => by
  have e0:=h e List.mem_cons_self
  have hL:=fun x hx => h x (List.mem_cons_of_mem e hx)
  have t0:=tot_pos0 (M:=L) hL
  rw [tot_cons,show (e.1 + tot L).toNat=e.1.toNat + (tot L).toNat by omega,sumP_add]
  have e1:GG t p i (e :: L) lo=co e.2 i * ((lo + e.1 + t - 1 - p) / t - (lo + t - 1 - p) / t) + GG t p i L (lo + e.1):=rfl
  rw [e1,GG_sum ht hp hpt i hL]
  congr 1
  ·have h2:=cnt_sum (lo:=lo) (c:=co e.2 i) ht hp hpt e.1.toNat
   rw [Int.toNat_of_nonneg e0] at h2
   rw [← h2]
   refine sumP_congr fun q q0 q1 => ?_
   rw [show e=(e.1,e.2) from rfl,atW_lt (by omega)]
  ·refine sumP_congr fun q q0 q1 => ?_
   rw [show e=(e.1,e.2) from rfl,atW_ge (by omega),Int.toNat_of_nonneg e0,show q + e.1 - e.1=q by omega,show lo + (q + e.1)=lo + e.1 + q by omega]
def wv (t:Int) (A:Wl) (p:Int) (i:Nat):Int:=sumP (fun j => if j % t=p then co (atW A j) i else 0) (tot A).toNat
theorem wv_GG {t p:Int} (ht:0 < t) (hp:0 ≤ p) (hpt:p < t) (i:Nat) {A:Wl} (h:∀ e ∈ A,0 ≤ e.1):GG t p i A 0=wv t A p i:=by
 rw [GG_sum ht hp hpt i h]
 exact sumP_congr fun j _ _ => by rw [Int.zero_add]
theorem wv_all {t:Int} (ht:0 < t) (A:Wl) (i:Nat) (h:∀ e ∈ A,0 ≤ e.1):sumP (fun p => wv t A p i) t.toNat=tW A i:=by
 unfold wv
 rw [sumP_swap,tW_sum i h]
 refine sumP_congr fun j j0 j1 => ?_
 rw [sumP_delta (Int.emod_nonneg j (by omega)),if_pos]
 rw [Int.toNat_of_nonneg (by omega)]
 exact Int.emod_lt_of_pos j ht
theorem wv_twice {t m p:Int} (ht:0 < t) (hm:0 < m) (A R:Wl) (i:Nat) (tR:tot R=t * m) (hR:∀ q,0 ≤ q→q < t * m→co (atW R q) i=wv (t * m) A q i):wv t R p i=wv t A p i:=by
 have tm:0 < t * m:=Int.mul_pos ht hm
 unfold wv at hR ⊢
 rw [tR]
 have e1:sumP (fun j => if j % t=p then co (atW R j) i else 0) (t * m).toNat=sumP (fun q => sumP (fun j => if q % t=p then (if j % (t * m)=q then co (atW A j) i else 0) else 0) (tot A).toNat) (t * m).toNat:=by
  refine sumP_congr fun q q0 q1 => ?_
  rw [Int.toNat_of_nonneg (by omega)] at q1
  by_cases c:q % t=p
  ·rw [if_pos c,hR q q0 q1]
   exact sumP_congr fun j _ _ => by rw [if_pos c]
  ·rw [if_neg c]
   rw [sumP_congr (g:=fun _ => 0) fun j _ _ => by rw [if_neg c],sumP_zero]
 rw [e1,sumP_swap]
 refine sumP_congr fun j j0 j1 => ?_
 have md:(j % (t * m)) % t=j % t:=Int.emod_emod_of_dvd j (Int.dvd_mul_right t m)
 have e2:sumP (fun q => if q % t=p then (if j % (t * m)=q then co (atW A j) i else 0) else 0) (t * m).toNat=sumP (fun q => if j % (t * m)=q then (if j % t=p then co (atW A j) i else 0) else 0) (t * m).toNat:=by
  refine sumP_congr fun q q0 q1 => ?_
  by_cases c:j % (t * m)=q
  ·rw [if_pos c,if_pos c,← c,md]
  ·rw [if_neg c,if_neg c]; split <;> rfl
 rw [e2,sumP_delta (Int.emod_nonneg j (by omega)),if_pos]
 rw [Int.toNat_of_nonneg (by omega)]
 exact Int.emod_lt_of_pos j tm
theorem wv_plus {t p:Int} {A B R:Wl} (i:Nat) (tA:tot A=tot R) (tB:tot B=tot R) (h:∀ q,0 ≤ q→q < tot R→co (atW R q) i=co (atW A q) i + co (atW B q) i):wv t R p i=wv t A p i + wv t B p i:=by
 unfold wv
 rw [tA,tB,← sumP_plus]
 refine sumP_congr fun q q0 q1 => ?_
 by_cases c:q % t=p
 ·rw [if_pos c,if_pos c,if_pos c,h q q0 (by omega)]
 ·rw [if_neg c,if_neg c,if_neg c]; rfl
theorem wv_bound {t p B:Int} {A:Wl} (i:Nat) (hB:0 ≤ B) (h0:0 ≤ tot A) (h:∀ q,0 ≤ q→q < tot A→-B ≤ co (atW A q) i∧co (atW A q) i ≤ B) : -(B * tot A) ≤ wv t A p i∧wv t A p i ≤ B * tot A:=by
 have:=sumP_bound (f:=fun j => if j % t=p then co (atW A j) i else 0) (B:=B) (n:=(tot A).toNat) fun q q0 q1 => by
  split
  ·exact h q q0 (by omega)
  ·omega
 rw [Int.toNat_of_nonneg h0] at this
 exact this
theorem tW_plus {A B R:Wl} (i:Nat) (pA:∀ e ∈ A,0 ≤ e.1) (pB:∀ e ∈ B,0 ≤ e.1) (pR:∀ e ∈ R,0 ≤ e.1) (tA:tot A=tot R) (tB:tot B=tot R) (h:∀ q,0 ≤ q→q < tot R→co (atW R q) i=co (atW A q) i + co (atW B q) i):tW R i=tW A i + tW B i:=by
 rw [tW_sum i pR,tW_sum i pA,tW_sum i pB,tA,tB,← sumP_plus]
 exact sumP_congr fun q q0 q1 => h q q0 (by omega)
theorem mem_atW:∀ {R:Wl},(∀ e ∈ R,0 < e.1)→∀ {e:Int × List Int},e ∈ R→∃ p,0 ≤ p∧p < tot R∧atW R p=e.2
 | [],_,e,h => by cases h
 | x :: R,pos,e,h => by
  have x0:=pos x List.mem_cons_self
  have hR:=fun z hz => pos z (List.mem_cons_of_mem x hz)
  have t0:=tot_pos0 (M:=R) fun z hz => Int.le_of_lt (hR z hz)
  rcases List.mem_cons.mp h with z | z
  ·refine ⟨0,Int.le_refl _,by rw [tot_cons]; omega,?_⟩
   rw [z,show x=(x.1,x.2) from rfl,atW_lt (by exact x0)]
  ·obtain ⟨p,p0,p1,pe⟩:=mem_atW hR z
   refine ⟨p + x.1,by omega,by rw [tot_cons]; omega,?_⟩
   rw [show x=(x.1,x.2) from rfl,atW_ge (by show x.1 ≤ p + x.1; omega),show p + x.1 - x.1=p by omega]
   exact pe
def kW (ks:List (List Int × Int)) (i:Nat):Int:=(ks.map fun k => k.2 * co k.1 i).sum
theorem kW_map {ks:List (List Int × Int)} {u:List Int} {z:Int} (i:Nat) (h:∀ k ∈ ks,k.1 ≠ u):(ks.map fun k => if k.1=u then (k.1,z) else k)=ks:=by
 induction ks with
 | nil => rfl
 | cons k ks ih =>
  rw [List.map_cons,if_neg (h k List.mem_cons_self),ih fun x hx => h x (List.mem_cons_of_mem _ hx)]
theorem kW_put {u:List Int} {x:Int} (i:Nat):∀ {ks:List (List Int × Int)},(ks.map (·.1)).Nodup→kW (putI ks u (getI ks u + x)) i=kW ks i + x * co u i
 | [],_ => by
  show kW ([] ++ [(u,0 + x)]) i=0 + x * co u i
  unfold kW
  simp
 | k :: ks,nd => by
  have nd2:=(List.nodup_cons.mp (show ((k :: ks).map (·.1)).Nodup from nd)).2
  have nd1:=(List.nodup_cons.mp (show ((k :: ks).map (·.1)).Nodup from nd)).1
  by_cases e:k.1=u
  ·have hn:∀ y ∈ ks,y.1 ≠ u:=fun y hy z => nd1 (List.mem_map.mpr ⟨y,hy,by rw [z]; exact e.symm⟩)
   have ga:getI (k :: ks) u=k.2:=by unfold getI; rw [List.find?_cons,decide_eq_true e]; rfl
   unfold putI
   rw [if_pos (by rw [List.any_cons,decide_eq_true e]; rfl),List.map_cons,if_pos e,kW_map i hn,ga]
   unfold kW
   rw [List.map_cons,List.map_cons,List.sum_cons,List.sum_cons,e]
   show (k.2 + x) * co u i + _=k.2 * co u i + _ + x * co u i
   rw [Int.add_mul]
   omega
  ·have ih:=kW_put (u:=u) (x:=x) i nd2
   have ga:getI (k :: ks) u=getI ks u:=by unfold getI; rw [List.find?_cons,decide_eq_false e]
   rw [ga]
   have pe:putI (k :: ks) u (getI ks u + x)=k :: putI ks u (getI ks u + x):=by
    unfold putI
    rw [List.any_cons,decide_eq_false e,Bool.false_or]
    by_cases c:(ks.any fun k => decide (k.1=u))=true
    ·rw [if_pos c,if_pos c,List.map_cons,if_neg e]
    ·rw [if_neg c,if_neg c]; rfl
   rw [pe]
   unfold kW at ih ⊢
   rw [List.map_cons,List.sum_cons,List.map_cons,List.sum_cons,ih]
   omega
theorem kW_dk (W:Wl) (i:Nat):kW (dkF W) i=tW W i:=by
 have key:∀ n,kW (dkF (W.take n)) i=tW (W.take n) i:=by
  intro n
  induction n with
  | zero => rfl
  | succ n ih =>
   cases e:W[n]? with
   | none =>
    have:W.length ≤ n:=List.getElem?_eq_none_iff.mp e
    rw [List.take_of_length_le (by omega)]
    rw [List.take_of_length_le (by omega)] at ih
    exact ih
   | some x =>
    rw [dkF_take e]
    show kW (putI (dkF (W.take n)) x.2 (getI (dkF (W.take n)) x.2 + x.1)) i=_
    rw [kW_put i (dkF_is _).nd,ih,take_succ' e]
    unfold tW
    rw [List.map_append,List.sum_append]
    simp
 have:=key W.length
 rw [List.take_length] at this
 exact this
theorem kW_perm {ws ks:List (List Int × Int)} (h:ws.Perm ks) (i:Nat):kW ws i=kW ks i:=by
 unfold kW
 have:=h.map fun k:List Int × Int => k.2 * co k.1 i
 generalize ws.map (fun k => k.2 * co k.1 i)=a at this ⊢
 generalize ks.map (fun k => k.2 * co k.1 i)=b at this ⊢
 induction this with
 | nil => rfl
 | cons x _ ih => simp only [List.sum_cons,ih]
 | swap x y l => simp only [List.sum_cons]; omega
 | trans _ _ i1 i2 => exact i1.trans i2
end Toy
namespace Toy
open PySem L2 PyProof.Rows
theorem norm_adj:∀ {R:Wl},Norm R→Adj (R.map (·.2))
 | [],_ => trivial
 | [_],_ => trivial
 | e :: d :: r,⟨_,h2,h3⟩ => ⟨h2,norm_adj (R:=d :: r) h3⟩
theorem norm_one {A B:Wl} (a:Norm A) (b:Norm B) (ht:tot A=tot B) (hp:∀ p,0 ≤ p→p < tot A→atW A p=atW B p):A=B :=
 nrm_one (fun e he => by have:=a.pos e he; omega) (fun e he => by have:=b.pos e he; omega) (norm_adj a) (norm_adj b) ht hp
theorem plusW_noughtL:∀ {us:List Int} {n:Nat},us.length=n→plusW (List.replicate n 0) us=us
 | [],n,h => by subst h; rfl
 | u :: us,0,h => by cases h
 | u :: us,n + 1,h => by
  show (0 + u) :: plusW (List.replicate n 0) us=u :: us
  rw [plusW_noughtL (us:=us) (n:=n) (by simpa using h),Int.zero_add]
theorem atW_len:∀ {A:Wl} {n:Nat} {p:Int},(∀ e ∈ A,e.2.length=n)→p < tot A→0 ≤ p→(atW A p).length=n
 | [],n,p,h,h1,h0 => by rw [tot_nil] at h1; omega
 | (a,u) :: A,n,p,h,h1,h0 => by
  by_cases z:p < a
  ·rw [atW_lt z]; exact h (a,u) List.mem_cons_self
  ·rw [atW_ge (by omega)]
   rw [tot_cons] at h1
   have h1:p < a + tot A:=h1
   exact atW_len (fun e he => h e (List.mem_cons_of_mem _ he)) (by omega) (by omega)
theorem atW_mem:∀ {A:Wl} {p:Int},p < tot A→0 ≤ p→∃ e ∈ A,atW A p=e.2
 | [],p,h1,h0 => by rw [tot_nil] at h1; omega
 | (a,u) :: A,p,h1,h0 => by
  by_cases z:p < a
  ·exact ⟨(a,u),List.mem_cons_self,atW_lt z⟩
  ·rw [tot_cons] at h1
   have h1:p < a + tot A:=h1
   obtain ⟨e,he,q⟩:=atW_mem (A:=A) (p:=p - a) (by omega) (by omega)
   exact ⟨e,List.mem_cons_of_mem _ he,by rw [atW_ge (by omega)]; exact q⟩
theorem plus_co {u v:List Int} (h:u.length=v.length) (i:Nat):co (plusW u v) i=co u i + co v i:=by
 unfold plusW
 exact co_plus i h
theorem co_in {u:List Int} {B:Int} (hB:0 ≤ B) (h:∀ z ∈ u,-B ≤ z∧z ≤ B) (i:Nat) : -B ≤ co u i∧co u i ≤ B:=by
 unfold co
 rw [List.getD_eq_getElem?_getD]
 cases e:u[i]? with
 | none => show -B ≤ 0∧0 ≤ B; omega
 | some z => exact h z (List.mem_of_getElem? e)
theorem in_co {u:List Int} {z:Int} (h:z ∈ u):∃ i,co u i=z:=by
 obtain ⟨i,hi⟩:=List.mem_iff_getElem?.mp h
 exact ⟨i,by unfold co; rw [List.getD_eq_getElem?_getD,hi]; rfl⟩
structure Wk (n:Nat) (B:Int) (A:Wl):Prop where
 nrm:Norm A
 wid:∀ e ∈ A,e.2.length=n
 num:∀ e ∈ A,∀ z ∈ e.2,-B ≤ z∧z ≤ B
 b0:0 ≤ B
section
variable {n:Nat} {B B' t m:Int} {A C R S:Wl} {k:Nat}
theorem Wk.pos (w:Wk n B A):∀ e ∈ A,0 ≤ e.1:=fun e he => Int.le_of_lt (w.nrm.pos e he)
theorem Wk.at (w:Wk n B A) (p:Int) (p0:0 ≤ p) (p1:p < tot A) (i:Nat) : -B ≤ co (atW A p) i∧co (atW A p) i ≤ B:=by
 obtain ⟨e,he,q⟩:=atW_mem p1 p0
 rw [q]
 exact co_in w.b0 (w.num e he) i
theorem Wk.t0 (w:Wk n B A):0 ≤ tot A:=tot_pos0 w.pos
theorem num_of (nR:Norm R) (h:∀ p,0 ≤ p→p < tot R→∀ i,-B ≤ co (atW R p) i∧co (atW R p) i ≤ B):∀ e ∈ R,∀ z ∈ e.2,-B ≤ z∧z ≤ B:=fun e he z hz => by
 obtain ⟨p,p0,p1,pe⟩:=mem_atW nR.pos he
 obtain ⟨i,hi⟩:=in_co hz
 have:=h p p0 p1 i
 rw [pe,hi] at this
 exact this
theorem w_at (h:HeapOf n (wst t A 0) 0 t R k) (t0:0 < t) (pA:∀ e ∈ A,0 ≤ e.1) {p:Int} (p0:0 ≤ p) (p1:p < t) (i:Nat):co (atW R p) i=wv t A p i:=by
 have e:=h.at' p p0 p1 i
 rw [Int.sub_zero] at e
 rw [e,FF_wst t0 p0 p1,wv_GG t0 p0 p1 i pA]
theorem w_tot (h:HeapOf n (wst t A 0) 0 t R k):tot R=t:=by rw [h.sum,Int.sub_zero]
theorem w_ok (w:Wk n B A) (h:HeapOf n (wst t A 0) 0 t R k) (t0:0 < t):Wk n (B * tot A) R:=by
 refine ⟨h.nrm,h.wid,num_of h.nrm fun p p0 p1 i => ?_,Int.mul_nonneg w.b0 w.t0⟩
 rw [w_tot h] at p1
 rw [w_at h t0 w.pos p0 p1 i]
 exact wv_bound i w.b0 w.t0 fun q q0 q1 => w.at q q0 q1 i
theorem w_tW (w:Wk n B A) (h:HeapOf n (wst t A 0) 0 t R k) (t0:0 < t) (i:Nat):tW R i=tW A i:=by
 rw [tW_sum i fun e he => Int.le_of_lt (h.nrm.pos e he),w_tot h,← wv_all t0 A i w.pos]
 refine sumP_congr fun p p0 p1 => ?_
 exact w_at h t0 w.pos p0 (by omega) i
theorem w_twice {R1 R2:Wl} {k1 k2:Nat} (w:Wk n B A) (t0:0 < t) (m0:0 < m) (h1:HeapOf n (wst (t * m) A 0) 0 (t * m) R1 k1) (h2:HeapOf n (wst t R1 0) 0 t R2 k2) (h:HeapOf n (wst t A 0) 0 t R k):R2=R:=by
 have tm:0 < t * m:=Int.mul_pos t0 m0
 refine norm_one h2.nrm h.nrm (by rw [w_tot h2,w_tot h]) fun p p0 p1 => ?_
 rw [w_tot h2] at p1
 refine co_ext (by rw [atW_len h2.wid (by rw [w_tot h2]; exact p1) p0,atW_len h.wid (by rw [w_tot h]; exact p1) p0]) fun i => ?_
 rw [w_at h2 t0 (fun e he => Int.le_of_lt (h1.nrm.pos e he)) p0 p1 i,w_at h t0 w.pos p0 p1 i]
 exact wv_twice t0 m0 A R1 i (w_tot h1) fun q q0 q1 => w_at h1 tm w.pos q0 q1 i
theorem s_co (wA:Wk n B A) (wC:Wk n B' C) (tt:tot A=tot C) (h:SumOf A C R) (p:Int) (p0:0 ≤ p) (p1:p < tot A) (i:Nat):co (atW R p) i=co (atW A p) i + co (atW C p) i:=by
 rw [h.at' p p0 p1,plus_co (by rw [atW_len wA.wid p1 p0,atW_len wC.wid (by omega) p0])]
theorem s_ok (wA:Wk n B A) (wC:Wk n B' C) (tt:tot A=tot C) (h:SumOf A C R):Wk n (B + B') R:=by
 refine ⟨h.nrm,h.wid n wA.wid wC.wid,num_of h.nrm fun p p0 p1 i => ?_,by have:=wA.b0; have:=wC.b0; omega⟩
 rw [h.sum] at p1
 rw [s_co wA wC tt h p p0 p1 i]
 have a:=wA.at p p0 p1 i
 have c:=wC.at p p0 (by omega) i
 omega
theorem s_tW (wA:Wk n B A) (wC:Wk n B' C) (tt:tot A=tot C) (h:SumOf A C R) (i:Nat):tW R i=tW A i + tW C i :=
 tW_plus i wA.pos wC.pos (fun e he => Int.le_of_lt (h.nrm.pos e he)) h.sum.symm (by rw [h.sum,tt]) fun q q0 q1 => s_co wA wC tt h q q0 (by rw [← h.sum]; exact q1) i
theorem w_plus {X Y:Wl} {k1 k2 k3:Nat} (wA:Wk n B A) (wC:Wk n B' C) (tt:tot A=tot C) (t0:0 < t) (s:SumOf A C R) (hX:HeapOf n (wst t R 0) 0 t X k1) (hA:HeapOf n (wst t A 0) 0 t S k2) {S' : Wl} (hC:HeapOf n (wst t C 0) 0 t S' k3) (y:SumOf S S' Y):X=Y:=by
 have yS:tot Y=t:=by rw [y.sum,w_tot hA]
 have wS:=w_ok wA hA t0
 have wS':=w_ok wC hC t0
 have wR:=s_ok wA wC tt s
 refine norm_one hX.nrm y.nrm (by rw [w_tot hX,yS]) fun p p0 p1 => ?_
 rw [w_tot hX] at p1
 refine co_ext (by rw [atW_len hX.wid (by rw [w_tot hX]; exact p1) p0,atW_len (y.wid n hA.wid hC.wid) (by rw [yS]; exact p1) p0]) fun i => ?_
 rw [w_at hX t0 wR.pos p0 p1 i,s_co wS wS' (by rw [w_tot hA,w_tot hC]) y p p0 (by rw [w_tot hA]; exact p1) i,w_at hA t0 wA.pos p0 p1 i,w_at hC t0 wC.pos p0 p1 i]
 exact wv_plus i s.sum.symm (by rw [s.sum,tt]) fun q q0 q1 => s_co wA wC tt s q q0 (by rw [← s.sum]; exact q1) i
structure PtO (A:Wl) (b e:Int) (P:Wl):Prop where
 nrm:Norm P
 sum:tot P=e - b
 at' : ∀ p,0 ≤ p→p < e - b→atW P p=atW A (p + b)
theorem part_o (nA:Norm A) {b e:Int} (b0:0 ≤ b) (be:b ≤ e) (et:e ≤ tot A):PtO A b e (shape (cutP b e 0 A)):=by
 have pA:∀ x ∈ A,0 < x.1:=nA.pos
 have e2:shape (cutP b e 0 A)=takeF (e - b) (dropF b A):=part_eq nA b0 be
 have pD:∀ x ∈ dropF b A,0 < x.1:=(dropF_norm nA).pos
 refine ⟨shape_norm _,?_,fun p p0 p1 => ?_⟩
 ·rw [e2,tot_takeF pD (by omega) (by rw [tot_dropF pA b0 (by omega)]; omega)]
 ·rw [e2,atW_takeF pD p0 p1,atW_dropF pA b0 p0]
theorem part_wid (wid:∀ e ∈ A,e.2.length=n) {b e:Int} : ∀ x ∈ shape (cutP b e 0 A),x.2.length=n:=shape_all (p:=fun u => u.length=n) (cutP_all (p:=fun u => u.length=n) wid)
theorem part_two (nA:Norm A) {s:Int} {P1 P2:Wl} (s0:0 ≤ s) (st:s ≤ tot A) (h1:PtO A 0 s P1) (h2:PtO A s (tot A) P2):shape (P1 ++ P2)=A:=by
 have n1:∀ e ∈ P1,0 ≤ e.1:=fun e he => Int.le_of_lt (h1.nrm.pos e he)
 have n2:∀ e ∈ P2,0 ≤ e.1:=fun e he => Int.le_of_lt (h2.nrm.pos e he)
 have nn:∀ e ∈ P1 ++ P2,0 ≤ e.1:=fun e he => (List.mem_append.mp he).elim (n1 e) (n2 e)
 have t1:tot P1=s:=by rw [h1.sum]; omega
 refine norm_one (shape_norm _) nA (by rw [Toy.shape_tot nn,tot_append,t1,h2.sum]; omega) fun p p0 p1 => ?_
 rw [Toy.shape_tot nn,tot_append,t1,h2.sum] at p1
 rw [shape_at nn p0]
 by_cases c:p < s
 ·rw [atW_left n1 p0 (by rw [t1]; exact c),h1.at' p p0 (by omega),Int.add_zero]
 ·rw [atW_right n1 (by rw [t1]; omega),t1,h2.at' (p - s) (by omega) (by omega),show p - s + s=p by omega]
theorem part_sum (wA:Wk n B A) (wC:Wk n B' C) (tt:tot A=tot C) {s:Int} (s0:0 ≤ s) (st:s ≤ tot A) (h:SumOf A C R) {P PA PC Y:Wl} (hP:PtO R s (tot A) P) (hA:PtO A s (tot A) PA) (hC:PtO C s (tot A) PC) (y:SumOf PA PC Y):P=Y:=by
 refine norm_one hP.nrm y.nrm (by rw [hP.sum,y.sum,hA.sum]) fun p p0 p1 => ?_
 rw [hP.sum] at p1
 rw [hP.at' p p0 p1,y.at' p p0 (by rw [hA.sum]; exact p1),hA.at' p p0 p1,hC.at' p p0 p1,h.at' (p + s) (by omega) (by omega)]
theorem put_part (wA:Wk n B A) {s lg:Int} {L P:Wl} (s0:0 ≤ s) (ls:s + tot A ≤ lg) (h:PutOf [(lg,List.replicate n 0)] A s L) (hP:PtO L s (s + tot A) P):P=A:=by
 have t0:=wA.t0
 have tb:tot [(lg,List.replicate n (0:Int))]=lg:=by rw [tot_cons,tot_nil]; exact Int.add_zero _
 refine norm_one hP.nrm wA.nrm (by rw [hP.sum]; omega) fun p p0 p1 => ?_
 rw [hP.sum] at p1
 rw [hP.at' p p0 p1,h.at' (p + s) (by omega) (by rw [tb]; omega),if_pos ⟨by omega,by omega⟩,atW_lt (by omega),show p + s - s=p by omega]
 exact plusW_noughtL (atW_len wA.wid (by omega) p0)
theorem put_at {s lg:Int} {L:Wl} (t0:0 ≤ tot A) (s0:0 ≤ s) (ls:s + tot A < lg) (h:PutOf [(lg,List.replicate n 0)] A s L):atW L (s + tot A)=List.replicate n 0:=by
 have tb:tot [(lg,List.replicate n (0:Int))]=lg:=by rw [tot_cons,tot_nil]; exact Int.add_zero _
 rw [h.at' (s + tot A) (by omega) (by rw [tb]; omega),if_neg (fun z => absurd z.2 (by omega)),atW_lt (by omega)]
end
theorem totU_le:∀ {W:Wl},(∀ e ∈ W,0 ≤ e.1)→∀ u,0 ≤ totU W u∧totU W u ≤ tot W
 | [],_,u => ⟨Int.le_refl _,Int.le_refl _⟩
 | e :: W,h,u => by
  have ih:=totU_le (W:=W) (fun x hx => h x (List.mem_cons_of_mem _ hx)) u
  have e0:=h e List.mem_cons_self
  rw [tot_cons]
  unfold totU at ih ⊢
  rw [List.filter_cons]
  split
  ·rw [List.map_cons,List.sum_cons]; omega
  ·omega
theorem inst_at {L:Wl} (nL:Norm L) {p:Int} (p0:0 ≤ p) (p1:p < tot L):∃ (j:Nat) (e:Int × List Int),InSt L p j e∧atW L p=e.2:=by
 have key:∀ (M:Wl) (p:Int),(∀ e ∈ M,0 < e.1)→0 ≤ p→p < tot M→∃ (j:Nat) (e:Int × List Int),M[j]? = some e∧tot (M.take j) ≤ p∧p < tot (M.take (j + 1))∧atW M p=e.2:=by
  intro M
  induction M with
  | nil => intro p _ h0 h1; rw [tot_nil] at h1; omega
  | cons x M ih =>
   intro p hp h0 h1
   by_cases c:p < x.1
   ·refine ⟨0,x,rfl,by rw [List.take_zero,tot_nil]; exact h0,?_,?_⟩
    ·show p < tot (x :: List.take 0 M)
     rw [tot_cons,List.take_zero,tot_nil]; omega
    ·rw [show x=(x.1,x.2) from rfl,atW_lt (by exact c)]
   ·rw [tot_cons] at h1
    obtain ⟨j,e,a1,a2,a3,a4⟩:=ih (p - x.1) (fun e he => hp e (List.mem_cons_of_mem _ he)) (by omega) (by omega)
    refine ⟨j + 1,e,by rw [List.getElem?_cons_succ]; exact a1,?_,?_,?_⟩
    ·rw [List.take_succ_cons,tot_cons]; omega
    ·rw [List.take_succ_cons,tot_cons]; omega
    ·rw [show x=(x.1,x.2) from rfl,atW_ge (by show x.1 ≤ p; omega)]; exact a4
 obtain ⟨j,e,a1,a2,a3,a4⟩:=key L p nL.pos p0 p1
 exact ⟨j,e,⟨a1,a2,a3,nL.pos⟩,a4⟩
end Toy
namespace Toy
open PySem L2 PyProof.Rows
section
variable {K:PySem.W.Frag} {H:Hp} {Q:VK} {Z:L2.St→Hp→Prop}
def spAll8:Sp:=fun vs H Q _ => ∃ (l:Addr) (wd:Int) (ps:List V) (ws:List (List Int × Int)),vs=[.ref l,.int wd]∧H l=some (.lst ps)∧PrL H ps ws∧ws.length ≤ 1000∧1 ≤ wd∧wd ≤ 24∧(∀ k ∈ ws,k.1.length=wd.toNat)∧(∀ k ∈ ws,k.2.natAbs < 2 ^ 9000∧Few k.1)∧∀ (c:Addr) (u:List Int) (H' : Hp),Same H H'→H' c=some (.tup (u.map V.int))→u.length=wd.toNat→(∀ i,co u i=kW ws i)→Q (.ref c) H'
structure Kp8 (n:Nat) (A C:Wl) (t mo s:Int):Prop where
 wA:Wk n (10 ^ 62) A
 wC:Wk n (10 ^ 62) C
 ne:A ≠ []
 lA:A.length ≤ 41
 lC:C.length ≤ 41
 tt:tot A=tot C
 tb:tot A < 10 ^ 63
 t0:0 < t
 t1:t < 10 ^ 64
 m0:1 ≤ mo
 m1:mo ≤ 9
 s0:0 ≤ s
 s1:s ≤ tot A
def spKept8:Sp:=fun vs H Q _ => ∃ (a b:Addr) (xs ys:List V) (A C:Wl) (wd t mo s:Int),vs=[.ref a,.ref b,.int wd,.int t,.int mo,.int s]∧H a=some (.lst xs)∧Wg H xs A∧H b=some (.lst ys)∧Wg H ys C∧1 ≤ wd∧wd ≤ 24∧Kp8 wd.toNat A C t mo s∧∀ H',Same H H'→Q (.bl true) H'
def tAllR (K:PySem.W.Frag):TS:=(tSeq (tFor (iList K (tVar 0)) (gTup K 2 (gCons (gName 3) (gCons (gName 4) gNil))) (tAsg (tCall spPlus [] E0 (tCons (tVar 2) (tCons (tCB (fun xs H_1 Q => ∃ p ys,xs=[V.ref p]∧((SqL K H_1 p ys∧∀ (l:Addr),H_1 l=none→Q (V.ref l) (upd H_1 l (HO.tup ys))) ∨ SqT K H_1 p ys∧Q (V.ref p) H_1)) (tCons (tCompG 1 (iTup K (tVar 3)) (gName 0) tYes (tOp (rI CMulB fun i j => V.int (i * j)) (tVar 5) (tVar 0))) tNil)) tNil))) (gName 2))) (tRet (tVar 2)))
def tAll8 (K:PySem.W.Frag):TS:=tSeq (tAsg (tOp (rMulT1 K) (tTup (tCons (tC (V.int 0)) tNil)) (tVar 1)) (gName 2)) (tAllR K)
def tKeE (K:PySem.W.Frag):TS:=(tSeq (tAsg (tLst (tCons (tTup (tCons (tOp (rI0 fun i j => V.int (i + j)) (tOp (rI0 fun i j => V.int (i + j)) (tVar 9) (tVar 5)) (tC (V.int 3))) (tCons (tOp (rMulT1 K) (tTup (tCons (tC (V.int 0)) tNil)) (tVar 2)) tNil))) tNil)) (gName 10)) (tSeq (tAsg (tCall spPut [] E0 (tCons (tVar 10) (tCons (tVar 5) (tCons (tVar 0) tNil)))) (gName 11)) (tRet (tAndV (tOp (rEqD K fun b => b) (tCall (spPart K) [] E0 (tCons (tVar 11) (tCons (tVar 5) (tCons (tOp (rI0 fun i j => V.int (i + j)) (tVar 5) (tVar 9)) tNil)))) (tVar 0)) (tOp (rEqD K fun b => b) (tCall (spAt K) [] E0 (tCons (tVar 11) (tCons (tOp (rI0 fun i j => V.int (i + j)) (tVar 5) (tVar 9)) tNil))) (tOp (rMulT1 K) (tTup (tCons (tC (V.int 0)) tNil)) (tVar 2)))))))
def tKeD (K:PySem.W.Frag):TS:=(tSeq (tAsg (tCall (spLength K) [] E0 (tCons (tVar 0) tNil)) (gName 9)) (tSeq (tIfS (tTest (tOp (rEqD K fun b => !b) (tCall (spShaped K) [] E0 (tCons (tOp rCat (tCall (spPart K) [] E0 (tCons (tVar 0) (tCons (tC (V.int 0)) (tCons (tVar 5) tNil)))) (tCall (spPart K) [] E0 (tCons (tVar 0) (tCons (tVar 5) (tCons (tVar 9) tNil))))) tNil)) (tVar 0))) (tRet (tC (V.bl false))) tNext) (tSeq (tIfS (tTest (tOp (rEqD K fun b => !b) (tCall (spPart K) [] E0 (tCons (tVar 7) (tCons (tVar 5) (tCons (tVar 9) tNil)))) (tCall spAdded [] E0 (tCons (tCall (spPart K) [] E0 (tCons (tVar 0) (tCons (tVar 5) (tCons (tVar 9) tNil)))) (tCons (tCall (spPart K) [] E0 (tCons (tVar 1) (tCons (tVar 5) (tCons (tVar 9) tNil)))) tNil))))) (tRet (tC (V.bl false))) tNext) (tKeE K))))
def tKeC (K:PySem.W.Frag):TS:=(tSeq (tIfS (tOr (tTest (tOp (rEqD K fun b => !b) (tCall spWound [] E0 (tCons (tCall spWound [] E0 (tCons (tVar 0) (tCons (tOp (rI CMul fun i j => V.int (i * j)) (tVar 3) (tVar 4)) tNil))) (tCons (tVar 3) tNil))) (tVar 8))) (tTest (tOp (rEqD K fun b => !b) (tCall spWound [] E0 (tCons (tVar 7) (tCons (tVar 3) tNil))) (tCall spAdded [] E0 (tCons (tVar 8) (tCons (tCall spWound [] E0 (tCons (tVar 1) (tCons (tVar 3) tNil))) tNil)))))) (tRet (tC (V.bl false))) tNext) (tKeD K))
def tKeB (K:PySem.W.Frag):TS:=(tSeq (tAsg (tCall spWound [] E0 (tCons (tVar 0) (tCons (tVar 3) tNil))) (gName 8)) (tSeq (tIfS (tOr (tTest (tOp (rEqD K fun b => !b) (tCall spAll8 [] E0 (tCons (tCall spSortsW [] E0 (tCons (tVar 8) tNil)) (tCons (tVar 2) tNil))) (tVar 6))) (tOr (tTest (tOp rNe (tCall (spLength K) [] E0 (tCons (tVar 8) tNil)) (tVar 3))) (tTest (tOp (rEqD K fun b => !b) (tCall spAll8 [] E0 (tCons (tCall spSortsW [] E0 (tCons (tCall (spBack K) [] E0 (tCons (tVar 0) tNil)) tNil)) (tCons (tVar 2) tNil))) (tVar 6))))) (tRet (tC (V.bl false))) tNext) (tKeC K)))
def tKept8 (K:PySem.W.Frag):TS:=tSeq (tAsg (tCall spAll8 [] E0 (tCons (tCall spSortsW [] E0 (tCons (tVar 0) tNil)) (tCons (tVar 2) tNil))) (gName 6)) (tSeq (tAsg (tCall spAdded [] E0 (tCons (tVar 0) (tCons (tVar 1) tNil))) (gName 7)) (tSeq (tIfS (tTest (tOp (rEqD K fun b => !b) (tCall spAll8 [] E0 (tCons (tCall spSortsW [] E0 (tCons (tVar 7) tNil)) (tCons (tVar 2) tNil))) (tCall spPlus [] E0 (tCons (tVar 6) (tCons (tCall spAll8 [] E0 (tCons (tCall spSortsW [] E0 (tCons (tVar 1) tNil)) (tCons (tVar 2) tNil))) tNil))))) (tRet (tC (V.bl false))) tNext) (tKeB K)))
def tLaw8b (K:PySem.W.Frag):TS:=(tSeq (tAsg (tOp (rIxL K) (tCall (spEnds K) [] E0 (tCons (tVar 4) tNil)) (tUn (rU fun i => V.int (-i)) (tC (V.int 1)))) (gName 5)) (tSeq (tAsg (tCall spFitted [] E0 (tCons (tVar 2) (tCons (tVar 3) (tCons (tVar 5) tNil)))) (gName 6)) (tSeq (tAsg (tOp (rI0 fun i j => V.int (i + j)) (tC (V.int 1)) (tCall spTake [] E0 (tCons (tVar 2) (tCons (tOp (rIxL K) (tLst (tCons (tC (V.int 9)) (tCons (tOp (rI CPow fun i j => V.int (i ^ j.toNat)) (tC (V.int 10)) (tC (V.int 6))) (tCons (tVar 5) tNil)))) (tCall spTake [] E0 (tCons (tVar 2) (tCons (tC (V.int 3)) tNil)))) tNil)))) (gName 7)) (tIfS (tNot (tB (tCall spKept8 [] E0 (tCons (tVar 4) (tCons (tVar 6) (tCons (tVar 3) (tCons (tVar 7) (tCons (tOp (rI0 fun i j => V.int (i + j)) (tC (V.int 1)) (tCall spTake [] E0 (tCons (tVar 2) (tCons (tC (V.int 9)) tNil)))) (tCons (tCall spTake [] E0 (tCons (tVar 2) (tCons (tOp (rI0 fun i j => V.int (i + j)) (tVar 5) (tC (V.int 1))) tNil))) tNil))))))))) (tRet (tC (V.bl false))) tNext))))
def tLaw8 (K:PySem.W.Frag):TS:=tSeq (tFor (iRng1 (tCons (tOp (rI0 fun i j => V.int (i + j)) (tC (V.int 1)) (tCB (fun xs H Q => ∃ i j,xs=[V.int i,V.int j]∧Q (V.int (if j < i then j else i)) H) (tCons (tC (V.int 4)) (tCons (tCB (fun xs H Q => ∃ p ys,xs=[V.ref p]∧(SqL K H p ys ∨ SqT K H p ys)∧Q (V.int ys.length) H) (tCons (tVar 0) tNil)) tNil)))) tNil)) (gName 1) (tSeq (tAsg (tCall (spPurse K) [] E0 (tCons (tVar 0) (tCons (tVar 1) tNil))) (gName 2)) (tSeq (tAsg (tCall spWide [] E0 (tCons (tVar 2) tNil)) (gName 3)) (tSeq (tAsg (tCall spWeighing [] E0 (tCons (tVar 2) (tCons (tVar 3) tNil))) (gName 4)) (tSeq (tIfS (tTest (tOp (rEqD K fun b => b) (tVar 4) (tLst tNil))) (tAsg (tLst (tCons (tTup (tCons (tCall spMany [] E0 (tCons (tVar 2) tNil)) (tCons (tCall spWeights [] E0 (tCons (tVar 2) (tCons (tVar 3) tNil))) tNil))) tNil)) (gName 4)) tNext) (tLaw8b K)))))) (tRet (tC (V.bl true)))
end
end Toy
namespace Toy
open PySem L2 PyProof.Rows
section
variable {K:PySem.W.Frag} {H:Hp} {Q:VK} {Z:L2.St→Hp→Prop}
theorem PrL_up {H H' : Hp} {ys:List V} {S:List (List Int × Int)} (h:PrL H ys S) (t:Tups H H'):PrL H' ys S:=⟨h.1,fun i y e h1 h2 => by
 obtain ⟨q,w,e1,e2,e3⟩:=h.2 i y e h1 h2
 exact ⟨q,w,e1,t _ _ e2,t _ _ e3⟩⟩
theorem mulT_reads {σ:L2.St} {j:Nat} {wd:Int} (hj:σ[j]? = some (some (.int wd))) (w1:1 ≤ wd) (w2:wd ≤ 24) (k:∀ (c:Addr) (H1:Hp),Same H H1→H1 c=some (.tup ((List.replicate wd.toNat (0:Int)).map V.int))→Q (.ref c) H1):tOp (rMulT1 K) (tTup (tCons (tC (V.int 0)) tNil)) (tVar j) σ H Q:=by
 refine ⟨(by show 1 ≤ sizeLine; decide),fun z hz => ?_⟩
 have s1:=Same.nw (o:=.tup [.int 0]) (Same.refl H) hz
 have f1:(upd H z (.tup [.int 0])) z=some (.tup [.int 0]):=upd_same
 refine ⟨_,hj,z,wd,.int 0,rfl,rfl,SqT.of f1,w1,by omega,fun e => ?_,fun e p hp => ?_⟩
 ·refine k z _ s1 ?_
  rw [e]
  exact f1
 ·refine k p _ (s1.nw hp) ?_
  rw [upd_same,List.map_replicate]
theorem co_timesL (u:List Int) (m:Int) (i:Nat):co (u.map (m * ·)) i=m * co u i:=by
 unfold co
 rw [List.getD_eq_getElem?_getD,List.getD_eq_getElem?_getD,List.getElem?_map]
 cases u[i]? with
 | none => show (0:Int)=m * 0; rw [Int.mul_zero]
 | some z => rfl
theorem kW_take {ws:List (List Int × Int)} {j:Nat} {k:List Int × Int} (h:ws[j]? = some k) (i:Nat):kW (ws.take (j + 1)) i=kW (ws.take j) i + k.2 * co k.1 i:=by
 rw [take_succ' h]
 unfold kW
 rw [List.map_append,List.sum_append]
 simp
theorem allR_reads {l c0:Addr} {wd:Int} {ps:List V} {ws:List (List Int × Int)} (hl:H l=some (.lst ps)) (pr:PrL H ps ws) (w2:wd ≤ 24) (wid:∀ k ∈ ws,k.1.length=wd.toNat) (few:∀ k ∈ ws,k.2.natAbs < 2 ^ 9000∧Few k.1) (h0:H c0=some (.tup ((List.replicate wd.toNat (0:Int)).map V.int)))
  (k:∀ (c:Addr) (u:List Int) (H' : Hp),Same H H'→H' c=some (.tup (u.map V.int))→u.length=wd.toNat→(∀ i,co u i=kW ws i)→Q (.ref c) H'):tAllR K { nx:=Z,rt:=Q } [some (.ref l),some (.int wd),some (.ref c0),none,none] H:=by
 refine ⟨_,rfl,l,rfl,⟨_,SqL.of hl⟩,for_list (K:=K) (a:=l) (xs:=ps) (fun j σ H' => ∃ (x3 x4:Option V) (c:Addr) (u:List Int),σ=[some (.ref l),some (.int wd),some (.ref c),x3,x4]∧Same H H'∧H' c=some (.tup (u.map V.int))∧u.length=wd.toNat∧∀ i,co u i=kW (ws.take j) i) ⟨_,_,c0,List.replicate wd.toNat 0,rfl,Same.refl H,h0,List.length_replicate,fun i => by rw [co_nought]; rfl⟩ (fun j σ H' _ h => by obtain ⟨_,_,_,_,_,s',_⟩:=h; exact SqL.of (s' _ _ hl)) ?_ ?_⟩
 ·rintro j y σ H1 hy ⟨x3,x4,c,u,rfl,s1,hc,ul,cu⟩
  have jl:j < ws.length:=by rw [← pr.1]; exact (List.getElem?_eq_some_iff.mp hy).1
  have ek:ws[j]? = some ws[j]:=List.getElem?_eq_getElem jl
  obtain ⟨a,b,rfl,ha,hb⟩:=pr.2 j y ws[j] hy ek
  have mk:ws[j] ∈ ws:=List.getElem_mem jl
  generalize ws[j]=kk at ek ha hb mk
  have ha1:=s1 _ _ ha
  have hb1:=s1 _ _ hb
  have kw:=wid kk mk
  obtain ⟨f1,f2⟩:=few kk mk
  refine ⟨a,_,rfl,SqT.of ha1,rfl,_,_,rfl,_,_,rfl,rfl,?_⟩
  refine ⟨_,rfl,_,rfl,b,rfl,⟨_,SqT.of hb1⟩,compT (K:=K) (a:=b) (xs:=kk.1.map V.int) (fun i zs H' => zs=((kk.1.map (kk.2 * ·)).take i).map V.int∧H1=H') ⟨rfl,rfl⟩ (by rw [List.length_map]; omega) (fun i zs H' h => by rw [h.1,List.length_map,List.length_take]; exact Nat.min_le_left _ _) (fun i zs H' _ h => by rw [← h.2]; exact SqT.of hb1) ?_ ?_⟩
  ·rintro i x zs H' pre hpre hx ⟨rfl,rfl⟩
   rw [List.getElem?_map] at hx
   cases zz:kk.1[i]? with
   | none => rw [zz] at hx; cases hx
   | some m =>
    rw [zz] at hx
    cases hx
    rcases pre with _ | ⟨p0,_ | ⟨p1,pre⟩⟩
    ·cases hpre
    ·refine ⟨⟨[some _],rfl,rfl⟩,?_⟩
     unfold tYes
     dsimp only
     rw [if_pos (rfl:true=true)]
     refine ⟨_,rfl,_,rfl,_,_,rfl,rfl,⟨f1,f2 m (List.mem_of_getElem? zz)⟩,?_,rfl⟩
     have ez:(kk.1.map (kk.2 * ·))[i]? = some (kk.2 * m):=by rw [List.getElem?_map,zz]; rfl
     rw [take_succ' ez,List.map_append]
     rfl
    ·cases hpre
  ·rintro zs H' ⟨rfl,rfl⟩ D hD
   have et:(kk.1.map (kk.2 * ·)).take (kk.1.map V.int).length=kk.1.map (kk.2 * ·):=List.take_of_length_le (by rw [List.length_map,List.length_map]; exact Nat.le_refl _)
   rw [et]
   have s2:=Same.nw (o:=.lst ((kk.1.map (kk.2 * ·)).map V.int)) (Same.refl H1) hD
   refine ⟨D,_,rfl,.inl ⟨SqL.of upd_same,fun l2 hl2 => ?_⟩⟩
   have s3:=s2.nw (o:=.tup ((kk.1.map (kk.2 * ·)).map V.int)) hl2
   refine ⟨c,l2,u,kk.1.map (kk.2 * ·),rfl,s3 _ _ hc,upd_same,by omega,by rw [List.length_map,ul,kw],fun r H4 fr hr s4 => ?_⟩
   refine ⟨_,_,r,plusW u (kk.1.map (kk.2 * ·)),rfl,s1.trans (s3.trans s4),hr,?_,fun i => ?_⟩
   ·unfold plusW
    rw [List.length_zipWith,List.length_map,ul,kw]
    exact Nat.min_self _
   ·rw [plus_co (by rw [List.length_map,ul,kw]),cu i,co_timesL,kW_take ek]
 ·rintro σ H1 ⟨x3,x4,c,u,rfl,s1,hc,ul,cu⟩
  rw [pr.1,List.take_length] at cu
  exact ⟨_,rfl,k c u H1 s1 hc ul cu⟩
theorem all8_reads {l:Addr} {wd:Int} {ps:List V} {ws:List (List Int × Int)} (hl:H l=some (.lst ps)) (pr:PrL H ps ws) (w1:1 ≤ wd) (w2:wd ≤ 24) (wid:∀ k ∈ ws,k.1.length=wd.toNat) (few:∀ k ∈ ws,k.2.natAbs < 2 ^ 9000∧Few k.1)
  (k:∀ (c:Addr) (u:List Int) (H' : Hp),Same H H'→H' c=some (.tup (u.map V.int))→u.length=wd.toNat→(∀ i,co u i=kW ws i)→Q (.ref c) H'):tAll8 K { nx:=Z,rt:=Q } [some (.ref l),some (.int wd),none,none,none] H:=by
 refine mulT_reads (K:=K) (wd:=wd) rfl w1 w2 fun c H1 s1 hc => ?_
 exact allR_reads (K:=K) (s1 _ _ hl) (PrL_up pr s1.tups) w2 wid few hc fun c' u H2 s2 h2 ul cu => k c' u H2 (s1.trans s2) h2 ul cu
theorem srt_keys {n:Nat} {B:Int} {X:Wl} {ws:List (List Int × Int)} (pos:∀ e ∈ X,0 ≤ e.1) (wid:∀ e ∈ X,e.2.length=n) (num:∀ e ∈ X,∀ z ∈ e.2,-B ≤ z∧z ≤ B) (hB:B < 10 ^ 200) (tX:tot X < 10 ^ 200) (so:SrO ws (dkF X)):(∀ k ∈ ws,k.1.length=n)∧(∀ k ∈ ws,k.2.natAbs < 2 ^ 9000∧Few k.1)∧ws.length ≤ X.length∧∀ i,kW ws i=tW X i:=by
 have D:=dkF_is X
 have key:∀ k ∈ ws,∃ e ∈ X,e.2=k.1:=fun k hk => by
  have:=(D.mem k.1).mp (List.mem_map.mpr ⟨k,so.1.mem_iff.mp hk,rfl⟩)
  obtain ⟨e,he,q⟩:=List.mem_map.mp this
  exact ⟨e,he,q⟩
 refine ⟨fun k hk => ?_,fun k hk => ⟨?_,?_⟩,by rw [so.1.length_eq]; exact D.len,fun i => by rw [kW_perm so.1,kW_dk]⟩
 ·obtain ⟨e,he,q⟩:=key k hk
  rw [← q]; exact wid e he
 ·rw [D.val k (so.1.mem_iff.mp hk)]
  have:=totU_le pos k.1
  exact nat_few (by omega)
 ·obtain ⟨e,he,q⟩:=key k hk
  intro z hz
  rw [← q] at hz
  have:=num e he z hz
  exact nat_few (by omega)
theorem as_reads {σ:L2.St} {tx:TE} {j:Nat} {wd B:Int} {X:Wl} (hj:σ[j]? = some (some (.int wd))) (w1:1 ≤ wd) (w2:wd ≤ 24) (pos:∀ e ∈ X,0 ≤ e.1) (wid:∀ e ∈ X,e.2.length=wd.toNat) (num:∀ e ∈ X,∀ z ∈ e.2,-B ≤ z∧z ≤ B) (hB:B < 10 ^ 200) (tX:tot X < 10 ^ 200) (lX:X.length ≤ 900) (ev:∀ P:VK,(∀ (x:Addr) (xs:List V) (H0:Hp),Same H H0→H0 x=some (.lst xs)→Wg H0 xs X→P (.ref x) H0)→tx σ H P)
  (k:∀ (c:Addr) (u:List Int) (H' : Hp),Same H H'→H' c=some (.tup (u.map V.int))→u.length=wd.toNat→(∀ i,co u i=tW X i)→Q (.ref c) H'):tCall spAll8 [] E0 (tCons (tCall spSortsW [] E0 (tCons tx tNil)) (tCons (tVar j) tNil)) σ H Q:=by
 refine ev _ fun x xs H0 s0 hx gx => ?_
 refine ⟨x,xs,X,rfl,hx,gx,lX,fun l ps ws H1 f1 h1 pr so s1 => ?_⟩
 obtain ⟨a1,a2,a3,a4⟩:=srt_keys pos wid num hB tX so
 refine ⟨_,hj,l,wd,ps,ws,rfl,h1,pr,by omega,w1,w2,a1,a2,fun c u H2 s2 hc ul cu => ?_⟩
 exact k c u H2 (s0.trans (s1.trans s2)) hc ul fun i => by rw [cu i,a4 i]
theorem tot_rev (L:Wl):tot L.reverse=tot L:=by unfold tot; rw [List.map_reverse,List.sum_reverse]
end
end Toy
namespace Toy
open PySem L2 PyProof.Rows
section
variable {K:PySem.W.Frag} {H:Hp} {Q:VK} {Z:L2.St→Hp→Prop}
theorem tot_some {A:Wl} (ne:A ≠ []) (pos:∀ e ∈ A,0 < e.1):0 < tot A:=by
 cases A with
 | nil => exact absurd rfl ne
 | cons e A =>
  rw [tot_cons]
  have:=pos e List.mem_cons_self
  have:=tot_pos0 (M:=A) fun x hx => Int.le_of_lt (pos x (List.mem_cons_of_mem _ hx))
  omega
section
variable {a b:Addr} {xs ys:List V} {A C:Wl} {wd t mo s:Int} {x6 x7 x8 x9 x10 x11:Option V}
theorem keE_reads (ha:H a=some (.lst xs)) (ga:Wg H xs A) (w1:1 ≤ wd) (w2:wd ≤ 24) (kp:Kp8 wd.toNat A C t mo s) (k:∀ H',Same H H'→Q (.bl true) H'):tKeE K { nx:=Z,rt:=Q } [some (.ref a),some (.ref b),some (.int wd),some (.int t),some (.int mo),some (.int s),x6,x7,x8,some (.int (tot A)),none,none] H:=by
 have t0:=kp.wA.t0
 have s0:=kp.s0
 have lA:=kp.lA
 refine ⟨_,rfl,_,rfl,_,_,rfl,rfl,_,_,rfl,rfl,mulT_reads (K:=K) (wd:=wd) rfl w1 w2 fun z H1 s1 hz => ⟨(by show 2 ≤ sizeLine; decide),fun e he => ?_⟩⟩
 have s2:=Same.nw (o:=.tup [.int (tot A + s + 3),.ref z]) (Same.refl H1) he
 have fe:(upd H1 e (.tup [.int (tot A + s + 3),.ref z])) e=some (.tup [.int (tot A + s + 3),.ref z]):=upd_same
 generalize upd H1 e (.tup [.int (tot A + s + 3),.ref z])=H2 at s2 fe ⊢
 refine ⟨(by show 1 ≤ sizeLine; decide),fun bl hbl => ?_⟩
 have s3:=Same.nw (o:=.lst [.ref e]) (Same.refl H2) hbl
 have fb:(upd H2 bl (.lst [.ref e])) bl=some (.lst [.ref e]):=upd_same
 generalize upd H2 bl (.lst [.ref e])=H3 at s3 fb ⊢
 have s13:=s2.trans s3
 have s03:=s1.trans s13
 have gb:Wg H3 [.ref e] [(tot A + s + 3,List.replicate wd.toNat 0)]:=Wg.snoc (Wg.nil _) ⟨e,z,rfl,s3 _ _ fe,s13 _ _ hz⟩
 have tb:tot [(tot A + s + 3,List.replicate wd.toNat (0:Int))]=tot A + s + 3:=by rw [tot_cons,tot_nil]; exact Int.add_zero _
 refine ⟨_,rfl,_,rfl,_,rfl,bl,a,[.ref e],xs,[(tot A + s + 3,List.replicate wd.toNat 0)],A,s,wd.toNat,rfl,fb,s03 _ _ ha,gb,ga.up s03.tups,(by show 0 < tot A + s + 3; omega),kp.wA.nrm.pos,s0,by rw [tb]; omega,(by show 1 ≤ 200; decide),by omega,by omega,fun x hx => (by rw [List.mem_singleton.mp hx]; exact List.length_replicate),kp.wA.wid,fun r zs L H4 fr hr gL po s4 => ?_⟩
 have tL:tot L=tot A + s + 3:=by rw [po.sum,tb]
 have lL:=po.len
 have sA4:=s03.trans s4
 refine ⟨_,rfl,_,rfl,_,rfl,_,rfl,_,_,rfl,rfl,r,zs,L,s,s + tot A,rfl,SqL.of hr,gL,by omega,po.nrm.pos,by omega,fun pb py H5 f5 h5 g5 s5 => ?_⟩
 have eP:=put_part kp.wA s0 (by omega) po (part_o po.nrm s0 (by omega) (by rw [tL]; omega))
 rw [eP] at g5
 have sA5:=sA4.trans s5
 refine ⟨_,rfl,_,_,g5.di (SqL.of h5),(ga.up sA5.tups).di (SqL.of (sA5 _ _ ha)),lay_dL _,lay_dL _,dep_dL _,_,rfl,?_⟩
 rw [eqv_dL,decide_eq_true rfl]
 refine iteT ?_
 obtain ⟨j,e2,st,ea⟩:=inst_at po.nrm (p:=s + tot A) (by omega) (by rw [tL]; omega)
 have gL5:=gL.up s5.tups
 obtain ⟨x,hx,q,wq,rfl,hq,hw⟩:=gL5.get st.get
 rw [put_at t0 s0 (by omega) po] at ea
 refine ⟨_,rfl,_,rfl,_,rfl,_,_,rfl,rfl,r,zs,L,s + tot A,j,e2,q,wq,rfl,SqL.of (s5 _ _ hr),gL5,st,hx,hq,mulT_reads (K:=K) (wd:=wd) rfl w1 w2 fun c H6 s6 hc => ?_⟩
 refine ⟨_,_,di_ints (s6 _ _ hw),di_ints hc,lay_dT _,lay_dT _,(by rw [dep_dT]; decide),?_⟩
 rw [eqv_dT,← ea,decide_eq_true rfl]
 exact k H6 (sA5.trans s6)
theorem keD_reads {r1:Addr} {rs:List V} {R:Wl} (ha:H a=some (.lst xs)) (ga:Wg H xs A) (hb:H b=some (.lst ys)) (gc:Wg H ys C) (hr1:H r1=some (.lst rs)) (gr:Wg H rs R) (so:SumOf A C R) (w1:1 ≤ wd) (w2:wd ≤ 24) (kp:Kp8 wd.toNat A C t mo s) (k:∀ H',Same H H'→Q (.bl true) H'):tKeD K { nx:=Z,rt:=Q } [some (.ref a),some (.ref b),some (.int wd),some (.int t),some (.int mo),some (.int s),x6,some (.ref r1),x8,none,none,none] H:=by
 have t0:=kp.wA.t0
 have s0:=kp.s0
 have s1':=kp.s1
 have lA:=kp.lA
 have lC:=kp.lC
 have tt:=kp.tt
 have pA:∀ e ∈ A,0 < e.1:=kp.wA.nrm.pos
 have pC:∀ e ∈ C,0 < e.1:=kp.wC.nrm.pos
 have lR:=so.len
 have tR:=so.sum
 refine ⟨_,rfl,a,xs,A,rfl,SqL.of ha,ga,by omega,fun H1 s1 => ?_⟩
 have oA1:=part_o kp.wA.nrm (Int.le_refl 0) s0 s1'
 have oA2:=part_o kp.wA.nrm s0 s1' (Int.le_refl _)
 have oC2:=part_o kp.wC.nrm s0 (by omega) (show tot A ≤ tot C by omega)
 have oR2:=part_o so.nrm s0 s1' (show tot A ≤ tot R by omega)
 have wd1:=part_wid kp.wA.wid (b:=s) (e:=tot A)
 have wd2:=part_wid kp.wC.wid (b:=s) (e:=tot A)
 have l1:(shape (cutP 0 s 0 A)).length ≤ 41:=Nat.le_trans (shape_len _) (Nat.le_trans (cutP_len _ _ _ _) lA)
 have l2:(shape (cutP s (tot A) 0 A)).length ≤ 41:=Nat.le_trans (shape_len _) (Nat.le_trans (cutP_len _ _ _ _) lA)
 have l3:(shape (cutP s (tot A) 0 C)).length ≤ 41:=Nat.le_trans (shape_len _) (Nat.le_trans (cutP_len _ _ _ _) lC)
 refine ⟨_,rfl,_,rfl,a,xs,A,0,s,rfl,SqL.of (s1 _ _ ha),ga.up s1.tups,by omega,pA,s0,fun p1 y1 H2 f2 h2 g2 s2 => ?_⟩
 have s12:=s1.trans s2
 refine ⟨_,rfl,_,rfl,_,rfl,a,xs,A,s,tot A,rfl,SqL.of (s12 _ _ ha),ga.up s12.tups,by omega,pA,s1',fun p2 y2 H3 f3 h3 g3 s3 => ?_⟩
 have s13:=s12.trans s3
 have ly:y1.length + y2.length ≤ 100:=by rw [g2.1,g3.1]; omega
 refine ⟨p1,p2,y1,y2,rfl,rfl,s3 _ _ h2,h3,Nat.le_trans ly (by decide),fun cc hcc => ?_⟩
 have s4:=Same.nw (o:=.lst (y1 ++ y2)) (Same.refl H3) hcc
 have fc:(upd H3 cc (.lst (y1 ++ y2))) cc=some (.lst (y1 ++ y2)):=upd_same
 generalize upd H3 cc (.lst (y1 ++ y2))=H4 at s4 fc ⊢
 refine ⟨cc,y1 ++ y2,shape (cutP 0 s 0 A) ++ shape (cutP s (tot A) 0 A),rfl,SqL.of fc,wg_app ((g2.up s3.tups).up s4.tups) (g3.up s4.tups),by rw [List.length_append]; omega,fun e he => (List.mem_append.mp he).elim (fun z => Int.le_of_lt (oA1.nrm.pos e z)) (fun z => Int.le_of_lt (oA2.nrm.pos e z)),fun b8 y8 H5 f5 h5 g5 s5 => ?_⟩
 rw [part_two kp.wA.nrm s0 s1' oA1 oA2] at g5
 have s15:=s13.trans (s4.trans s5)
 refine ⟨_,rfl,_,_,g5.di (SqL.of h5),(ga.up s15.tups).di (SqL.of (s15 _ _ ha)),lay_dL _,lay_dL _,dep_dL _,_,rfl,iteB (by rw [eqv_dL,decide_eq_true rfl]; rfl) ?_⟩
 refine ⟨_,rfl,_,rfl,_,rfl,r1,rs,R,s,tot A,rfl,SqL.of (s15 _ _ hr1),gr.up s15.tups,by omega,so.nrm.pos,s1',fun p6 y6 H6 f6 h6 g6 s6 => ?_⟩
 have s16:=s15.trans s6
 refine ⟨_,rfl,_,rfl,_,rfl,a,xs,A,s,tot A,rfl,SqL.of (s16 _ _ ha),ga.up s16.tups,by omega,pA,s1',fun p7 y7 H7 f7 h7 g7 s7 => ?_⟩
 have s17:=s16.trans s7
 refine ⟨_,rfl,_,rfl,_,rfl,b,ys,C,s,tot A,rfl,SqL.of (s17 _ _ hb),gc.up s17.tups,by omega,pC,s1',fun p9 y9 H8 f8 h8 g8 s8 => ?_⟩
 have s18:=s17.trans s8
 refine ⟨p7,p9,y7,y9,shape (cutP s (tot A) 0 A),shape (cutP s (tot A) 0 C),wd.toNat,rfl,s8 _ _ h7,h8,g7.up s8.tups,g8,oA2.nrm.pos,oC2.nrm.pos,by rw [oA2.sum,oC2.sum],by omega,by omega,by omega,wd1,wd2,fun r9 z9 Y H9 f9 h9 g9 so9 s9 => ?_⟩
 have s68:=s7.trans (s8.trans s9)
 have eY:=part_sum kp.wA kp.wC tt s0 s1' so oR2 oA2 oC2 so9
 rw [← eY] at g9
 refine ⟨_,_,(g6.up s68.tups).di (SqL.of (s68 _ _ h6)),g9.di (SqL.of h9),lay_dL _,lay_dL _,dep_dL _,_,rfl,iteB (by rw [eqv_dL,decide_eq_true rfl]; rfl) ?_⟩
 have s19:=s18.trans s9
 exact keE_reads (K:=K) (s19 _ _ ha) (ga.up s19.tups) w1 w2 kp fun H' s' => k H' (s19.trans s')
theorem mo_pos {t mo:Int} (t0:0 < t) (m0:1 ≤ mo):0 < t * mo:=Int.mul_pos t0 (by omega)
theorem mo_lt {t mo:Int} (t0:0 < t) (t1:t < 10 ^ 64) (m0:1 ≤ mo) (m1:mo ≤ 9):t * mo < 10 ^ 65:=by
 have:t * mo ≤ t * 9:=Int.mul_le_mul_of_nonneg_left m1 (by omega)
 omega
theorem ne_of_tot {A:Wl} (h:0 < tot A):A ≠ []:=fun z => by rw [z,tot_nil] at h; omega
theorem Wk.small {n:Nat} {B:Int} {A:Wl} (w:Wk n B A) (hB:B < 10 ^ 130):∀ e ∈ A,∀ z ∈ e.2,-(10 ^ 130) < z∧z < 10 ^ 130:=fun e he z hz => by
 have:=w.num e he z hz
 omega
theorem Wk.ones {n:Nat} {B T:Int} {A:Wl} (w:Wk n B A) (hT:tot A < 10 ^ 66):∀ e ∈ A,0 < e.1∧e.1 < 10 ^ 66:=fun e he => by
 have p:=w.nrm.pos
 have:=tot_ge (fun x hx => by have:=p x hx; omega) he
 exact ⟨p e he,by omega⟩
theorem keC_reads {r1 lo:Addr} {rs zl:List V} {R L8:Wl} (ha:H a=some (.lst xs)) (ga:Wg H xs A) (hb:H b=some (.lst ys)) (gc:Wg H ys C) (hr1:H r1=some (.lst rs)) (gr:Wg H rs R) (so:SumOf A C R) (hlo:H lo=some (.lst zl)) (gl:Wg H zl L8) (hL:HeapOf wd.toNat (wst t A 0) 0 t L8 (A.length + 3)) (w1:1 ≤ wd) (w2:wd ≤ 24) (kp:Kp8 wd.toNat A C t mo s) (k:∀ H',Same H H'→Q (.bl true) H'):tKeC K { nx:=Z,rt:=Q } [some (.ref a),some (.ref b),some (.int wd),some (.int t),some (.int mo),some (.int s),x6,some (.ref r1),some (.ref lo),none,none,none] H:=by
 have t0:=kp.t0
 have t1:=kp.t1
 have m0:=kp.m0
 have m1:=kp.m1
 have lA:=kp.lA
 have lC:=kp.lC
 have tt:=kp.tt
 have tb:=kp.tb
 have wA:=kp.wA
 have wC:=kp.wC
 have tA0:=wA.t0
 have tm0:=mo_pos t0 m0
 have tm1:=mo_lt t0 t1 m0 m1
 have wR:=s_ok wA wC tt so
 have lR:=so.len
 have tR:=so.sum
 have neR:R ≠ []:=ne_of_tot (by rw [tR]; exact tot_some kp.ne wA.nrm.pos)
 have neC:C ≠ []:=ne_of_tot (by rw [← tt]; exact tot_some kp.ne wA.nrm.pos)
 refine ⟨_,rfl,_,rfl,_,rfl,_,_,rfl,rfl,.inr ⟨by omega,by omega⟩,a,xs,A,wd.toNat,t * mo,rfl,ha,ga,kp.ne,by omega,by omega,wA.wid,wA.ones (T:=0) (by omega),wA.small (by decide),tm0,by omega,fun q1 z1 R1 H1 f1 h1 g1 hR1 s1 => ?_⟩
 have wR1:=w_ok wA hR1 tm0
 have tR1:=w_tot hR1
 have lR1:=hR1.len
 have lL:=hL.len
 refine ⟨_,rfl,q1,z1,R1,wd.toNat,t,rfl,h1,g1,ne_of_tot (by rw [tR1]; exact tm0),by omega,by omega,wR1.wid,wR1.ones (T:=0) (by rw [tR1]; omega),wR1.small (by omega),t0,by omega,fun q2 z2 R2 H2 f2 h2 g2 hR2 s2 => ?_⟩
 rw [w_twice wA t0 (by omega) hR1 hR2 hL] at g2
 have s12:=s1.trans s2
 refine ⟨_,rfl,_,_,g2.di (SqL.of h2),(gl.up s12.tups).di (SqL.of (s12 _ _ hlo)),lay_dL _,lay_dL _,dep_dL _,_,rfl,iteB (by rw [eqv_dL,decide_eq_true rfl]; rfl) ?_⟩
 refine ⟨_,rfl,_,rfl,r1,rs,R,wd.toNat,t,rfl,s12 _ _ hr1,gr.up s12.tups,neR,by omega,by omega,wR.wid,wR.ones (T:=0) (by omega),wR.small (by decide),t0,by omega,fun q3 z3 X H3 f3 h3 g3 hX s3 => ?_⟩
 have s13:=s12.trans s3
 refine ⟨_,rfl,_,rfl,_,rfl,b,ys,C,wd.toNat,t,rfl,s13 _ _ hb,gc.up s13.tups,neC,by omega,by omega,wC.wid,wC.ones (T:=0) (by omega),wC.small (by decide),t0,by omega,fun q4 z4 S4 H4 f4 h4 g4 hS4 s4 => ?_⟩
 have s14:=s13.trans s4
 have lS4:=hS4.len
 refine ⟨lo,q4,zl,z4,L8,S4,wd.toNat,rfl,s14 _ _ hlo,h4,gl.up s14.tups,g4,hL.nrm.pos,hS4.nrm.pos,by rw [w_tot hL,w_tot hS4],by omega,by omega,by omega,hL.wid,hS4.wid,fun q5 z5 Y H5 f5 h5 g5 so5 s5 => ?_⟩
 have s35:=s4.trans s5
 rw [← w_plus wA wC tt t0 so hX hL hS4 so5] at g5
 refine ⟨_,_,(g3.up s35.tups).di (SqL.of (s35 _ _ h3)),g5.di (SqL.of h5),lay_dL _,lay_dL _,dep_dL _,_,rfl,iteB (by rw [eqv_dL,decide_eq_true rfl]; rfl) ?_⟩
 have s15:=s14.trans s5
 exact keD_reads (K:=K) (s15 _ _ ha) (ga.up s15.tups) (s15 _ _ hb) (gc.up s15.tups) (s15 _ _ hr1) (gr.up s15.tups) so w1 w2 kp fun H' s' => k H' (s15.trans s')
theorem tup_eq {u v:List Int} {c d:Addr} (hc:H c=some (.tup (u.map V.int))) (hd:H d=some (.tup (v.map V.int))) (e:u=v) {P:VK} (k:P (.bl false) H):rEqD K (fun b => !b) (.ref c) (.ref d) H P:=by
 refine ⟨_,_,di_ints hc,di_ints hd,lay_dT _,lay_dT _,(by rw [dep_dT]; decide),?_⟩
 rw [eqv_dT,e,decide_eq_true rfl]
 exact k
theorem keB_reads {r1 c6:Addr} {rs:List V} {R:Wl} {u0:List Int} (ha:H a=some (.lst xs)) (ga:Wg H xs A) (hb:H b=some (.lst ys)) (gc:Wg H ys C) (hr1:H r1=some (.lst rs)) (gr:Wg H rs R) (so:SumOf A C R) (h6:H c6=some (.tup (u0.map V.int))) (ul:u0.length=wd.toNat) (cu:∀ i,co u0 i=tW A i) (w1:1 ≤ wd) (w2:wd ≤ 24) (kp:Kp8 wd.toNat A C t mo s) (k:∀ H',Same H H'→Q (.bl true) H'):tKeB K { nx:=Z,rt:=Q } [some (.ref a),some (.ref b),some (.int wd),some (.int t),some (.int mo),some (.int s),some (.ref c6),some (.ref r1),none,none,none,none] H:=by
 have t0:=kp.t0
 have t1:=kp.t1
 have lA:=kp.lA
 have tb:=kp.tb
 have wA:=kp.wA
 have tA0:=wA.t0
 refine ⟨_,rfl,_,rfl,a,xs,A,wd.toNat,t,rfl,ha,ga,kp.ne,by omega,by omega,wA.wid,wA.ones (T:=0) (by omega),wA.small (by decide),t0,by omega,fun lo zl L8 H1 f1 h1 g1 hL s1 => ?_⟩
 have wL:=w_ok wA hL t0
 have lL:=hL.len
 have tL:=w_tot hL
 show tCall spAll8 [] E0 (tCons (tCall spSortsW [] E0 (tCons (tVar 8) tNil)) (tCons (tVar 2) tNil)) _ H1 _
 refine as_reads (j:=2) (wd:=wd) (B:=10 ^ 62 * tot A) (X:=L8) ?hj1 w1 w2 wL.pos wL.wid wL.num (by omega) (by rw [tL]; omega) (by omega) ?ev1 fun c u H2 s2 hc ul2 cu2 => ?kk1
 case hj1 => rfl
 case ev1 => exact fun P h => ⟨_,rfl,h _ _ _ (Same.refl _) h1 g1⟩
 have s12:=s1.trans s2
 refine ⟨_,rfl,tup_eq (K:=K) hc (s12 _ _ h6) (co_ext (by rw [ul2,ul]) fun i => by rw [cu2 i,cu i,w_tW wA hL t0 i]) ⟨_,rfl,iteF ?_⟩⟩
 refine ⟨_,rfl,lo,zl,L8,rfl,SqL.of (s2 _ _ h1),g1.up s2.tups,by omega,fun H3 s3 => ⟨_,rfl,rfl,_,rfl,iteB (by rw [tL]; simp) ?_⟩⟩
 have s13:=s12.trans s3
 refine as_reads (j:=2) (wd:=wd) (B:=10 ^ 62) (X:=A.reverse) ?hj2 w1 w2 (fun e he => wA.pos e (List.mem_reverse.mp he)) (fun e he => wA.wid e (List.mem_reverse.mp he)) (fun e he => wA.num e (List.mem_reverse.mp he)) (by decide) (by rw [tot_rev]; omega) (by rw [List.length_reverse]; omega) ?ev2 fun c' u' H4 s4 hc' ul4 cu4 => ?kk2
 case hj2 => rfl
 case ev2 => exact fun P h => ⟨_,rfl,a,xs,rfl,SqL.of (s13 _ _ ha),fun p hp => h p xs.reverse _ (Same.nw (Same.refl H3) hp) upd_same (Wg.rev ((ga.up s13.tups).up (Same.nw (Same.refl H3) hp).tups))⟩
 have s14:=s13.trans s4
 refine ⟨_,rfl,tup_eq (K:=K) hc' (s14 _ _ h6) (co_ext (by rw [ul4,ul]) fun i => by rw [cu4 i,cu i,tW_rev]) ⟨_,rfl,iteF ?_⟩⟩
 have s24:=s2.trans (s3.trans s4)
 exact keC_reads (K:=K) (s14 _ _ ha) (ga.up s14.tups) (s14 _ _ hb) (gc.up s14.tups) (s14 _ _ hr1) (gr.up s14.tups) so (s24 _ _ h1) (g1.up s24.tups) hL w1 w2 kp fun H' s' => k H' (s14.trans s')
theorem kept8_reads (ha:H a=some (.lst xs)) (ga:Wg H xs A) (hb:H b=some (.lst ys)) (gc:Wg H ys C) (w1:1 ≤ wd) (w2:wd ≤ 24) (kp:Kp8 wd.toNat A C t mo s) (k:∀ H',Same H H'→Q (.bl true) H'):tKept8 K { nx:=Z,rt:=Q } [some (.ref a),some (.ref b),some (.int wd),some (.int t),some (.int mo),some (.int s),none,none,none,none,none,none] H:=by
 have lA:=kp.lA
 have lC:=kp.lC
 have tt:=kp.tt
 have tb:=kp.tb
 have wA:=kp.wA
 have wC:=kp.wC
 refine as_reads (j:=2) (wd:=wd) (B:=10 ^ 62) (X:=A) ?hj3 w1 w2 wA.pos wA.wid wA.num (by decide) (by omega) (by omega) ?ev3 fun c6 u0 H1 s1 h6 ul cu => ?kk3
 case hj3 => rfl
 case ev3 => exact fun P h => ⟨_,rfl,h _ _ _ (Same.refl _) ha ga⟩
 refine ⟨_,rfl,_,rfl,a,b,xs,ys,A,C,wd.toNat,rfl,s1 _ _ ha,s1 _ _ hb,ga.up s1.tups,gc.up s1.tups,wA.nrm.pos,wC.nrm.pos,tt,by omega,by omega,by omega,wA.wid,wC.wid,fun r1 rs R H2 f2 h2 g2 so s2 => ?_⟩
 have wR:=s_ok wA wC tt so
 have lR:=so.len
 have tR:=so.sum
 show tCall spAll8 [] E0 (tCons (tCall spSortsW [] E0 (tCons (tVar 7) tNil)) (tCons (tVar 2) tNil)) _ H2 _
 refine as_reads (j:=2) (wd:=wd) (B:=10 ^ 62 + 10 ^ 62) (X:=R) ?hj4 w1 w2 wR.pos wR.wid wR.num (by decide) (by omega) (by omega) ?ev4 fun c u H3 s3 hc ul3 cu3 => ?kk4
 case hj4 => rfl
 case ev4 => exact fun P h => ⟨_,rfl,h _ _ _ (Same.refl _) h2 g2⟩
 have s23:=s2.trans s3
 refine ⟨_,rfl,?_⟩
 refine as_reads (j:=2) (wd:=wd) (B:=10 ^ 62) (X:=C) ?hj5 w1 w2 wC.pos wC.wid wC.num (by decide) (by omega) (by omega) ?ev5 fun c2 u2 H4 s4 hc2 ul4 cu4 => ?kk5
 case hj5 => rfl
 case ev5 => exact fun P h => ⟨_,rfl,h _ _ _ (Same.refl _) (s23 _ _ (s1 _ _ hb)) ((gc.up s1.tups).up s23.tups)⟩
 have s24:=s23.trans s4
 refine ⟨c6,c2,u0,u2,rfl,s24 _ _ h6,hc2,by omega,by rw [ul,ul4],fun r H5 fr hr s5 => ?_⟩
 have s35:=s4.trans s5
 refine tup_eq (K:=K) (s35 _ _ hc) hr (co_ext (by unfold plusW; rw [List.length_zipWith,ul3,ul,ul4,Nat.min_self]) fun i => by rw [cu3 i,plus_co (by rw [ul,ul4]),cu i,cu4 i,s_tW wA wC tt so i]) ⟨_,rfl,iteF ?_⟩
 have s15:=s1.trans (s24.trans s5)
 have s25:=s24.trans s5
 exact keB_reads (K:=K) (s15 _ _ ha) (ga.up s15.tups) (s15 _ _ hb) (gc.up s15.tups) (s3.trans s35 _ _ h2) (g2.up (s3.trans s35).tups) so (s25 _ _ h6) ul cu w1 w2 kp fun H' s' => k H' (s15.trans s')
end
end
end Toy
namespace Toy
open PySem L2 PyProof.Rows
section
variable {K:PySem.W.Frag} {H:Hp} {Q:VK} {Z:L2.St→Hp→Prop}
theorem fit_norm {wd lg:Int} {L:Wl} (h:Nrm wd.toNat L):Norm L:=by
 have key:∀ {L:Wl},(∀ e ∈ L,1 ≤ e.1)→Adj (L.map (·.2))→Norm L:=by
  intro L
  induction L with
  | nil => intro _ _; trivial
  | cons e L ih =>
   intro hp ha
   cases L with
   | nil => have:=hp e List.mem_cons_self; show 0 < e.1; omega
   | cons d r => exact ⟨by have:=hp e List.mem_cons_self; omega,ha.1,ih (fun x hx => hp x (List.mem_cons_of_mem _ hx)) ha.2⟩
 exact key h.pos h.adj
theorem num_le {A:Wl} (h:∀ e ∈ A,∀ z ∈ e.2,-(10 ^ 62) < z∧z < 10 ^ 62):∀ e ∈ A,∀ z ∈ e.2,-(10 ^ 62) ≤ z∧z ≤ 10 ^ 62:=fun e he z hz => by
 have:=h e he z hz
 omega
theorem law8b_reads {D:Ends} {H0:Hp} {a d b:Addr} {ys:List V} {A:Wl} {wd:Int} {x1:Option V} (fd:H0 d=none) (s0:Same H0 H) (P:Purse H d) (nb:b ≠ d) (hb:H b=some (.lst ys)) (g:Wg H ys A) (wA:Wk wd.toNat (10 ^ 62) A) (ne:A ≠ []) (lA:A.length ≤ 41) (tb:tot A < 10 ^ 63) (w1:1 ≤ wd) (w2:wd ≤ 24) (x5 x6 x7:Option V)
  (k:∀ (x5 x6 x7:Option V) (H' : Hp),Same H0 H'→D.nx [some (.ref a),x1,some (.ref d),some (.int wd),some (.ref b),x5,x6,x7] H'):tLaw8b K D [some (.ref a),x1,some (.ref d),some (.int wd),some (.ref b),x5,x6,x7] H:=by
 have tp:=tot_some ne wA.nrm.pos
 refine ⟨_,rfl,b,ys,A,rfl,SqL.of hb,g,by omega,fun en H1 fen hen s1 => ⟨1,rfl,?_⟩⟩
 have P1:=Same.purse s1 P
 have ev:=ends_last A A.length
 rw [List.take_length] at ev
 refine ⟨en,_,_,.int (tot A),rfl,rfl,SqL.of hen,ev,?_⟩
 refine ⟨_,rfl,_,rfl,_,rfl,d,wd,tot A,rfl,P1,w1,w2,by omega,tb,fun ob oy C H2 obd hob gC ft P2 B2 => ?_⟩
 have nC:Norm C:=fit_norm (lg:=0) ft.nrm
 have wC:Wk wd.toNat (10 ^ 62) C:=⟨nC,ft.nrm.wid,num_le ft.num,by decide⟩
 have tC:=ft.sum
 have hb2:=B2 _ _ (s1 _ _ hb) nb
 have g2:=(g.up s1.tups).up (B2.tups P1)
 have s02:Same H0 H2:=Same.but (s0.trans s1) fd B2
 refine ⟨_,rfl,_,_,rfl,rfl,⟨by decide,by decide,by decide⟩,_,rfl,(by show 3 ≤ sizeLine; decide),fun l hl => ?_⟩
 have nl:=P2.ne hl
 refine ⟨_,rfl,d,3,rfl,P2.new hl,by decide,by decide,fun r H3 r0 r1 P3 B3 => ?_⟩
 have hl3:=B3 l _ upd_same nl
 have B23:But d H2 H3:=((But.refl d H2).new hl).trans B3
 have key:∃ m:Int,atI [V.int 9,V.int (10 ^ (6:Int).toNat),V.int (tot A)] r=some (.int m)∧0 < m∧m < 10 ^ 63:=by
  have hr:r=0 ∨ r=1 ∨ r=2:=by omega
  rcases hr with rfl | rfl | rfl
  ·exact ⟨9,rfl,by decide,by decide⟩
  ·exact ⟨10 ^ (6:Int).toNat,rfl,by decide,by decide⟩
  ·exact ⟨tot A,rfl,tp,tb⟩
 obtain ⟨m,em,m0,m1⟩:=key
 refine ⟨l,_,_,_,rfl,rfl,SqL.of hl3,em,d,m,rfl,P3,m0,Int.lt_trans m1 (by decide),fun q H4 q0 q1 P4 B4 => ⟨_,_,rfl,rfl,?_⟩⟩
 refine ⟨_,rfl,_,rfl,_,rfl,_,rfl,_,rfl,d,9,rfl,P4,by decide,by decide,fun mo H5 u0 u1 P5 B5 => ⟨_,_,rfl,rfl,?_⟩⟩
 refine ⟨_,rfl,_,rfl,_,_,rfl,rfl,d,tot A + 1,rfl,P5,by omega,Int.lt_trans (show tot A + 1 < 10 ^ 64 by omega) (by decide),fun s H6 v0 v1 P6 B6 => ?_⟩
 have B26:But d H2 H6:=((B23.trans B4).trans B5).trans B6
 have T26:=B26.tups P2
 refine ⟨b,ob,ys,oy,A,C,wd,1 + q,1 + mo,s,rfl,B26 _ _ hb2 nb,g2.up T26,B26 _ _ hob obd,gC.up T26,w1,w2,⟨wA,wC,ne,lA,ft.len,tC.symm,tb,by omega,by omega,by omega,by omega,v0,by omega⟩,fun H7 s7 => ⟨true,rfl,iteF ?_⟩⟩
 exact k _ _ _ H7 ((Same.but s02 fd B26).trans s7)
theorem law8_reads {a:Addr} {ns:List Int} (hS:SqL K H a (ns.map V.int)) (k:∀ H',Q (.bl true) H'):tLaw8 K { nx:=Z,rt:=Q } [some (.ref a),none,none,none,none,none,none,none] H:=by
 refine ⟨_,rfl,a,_,rfl,.inl hS,4,_,rfl,1,_,rfl,rfl,_,rfl,?_,?_,?_⟩
 ·split <;> omega
 ·split <;> omega
 have hn:(1 + (if (((ns.map V.int).length:Nat):Int) < 4 then (((ns.map V.int).length:Nat):Int) else 4)).toNat ≤ 5:=by split <;> omega
 generalize (1 + (if (((ns.map V.int).length:Nat):Int) < 4 then (((ns.map V.int).length:Nat):Int) else 4)).toNat=N at hn ⊢
 refine for_range (fun i σ H' => ∃ x1 x2 x3 x4 x5 x6 x7:Option V,σ=[some (.ref a),x1,x2,x3,x4,x5,x6,x7]∧Same H H') ⟨_,_,_,_,_,_,_,rfl,Same.refl _⟩ ?_ ?_
 ·rintro i σ H' hi ⟨x1,x2,x3,x4,x5,x6,x7,rfl,s0⟩
  refine ⟨_,rfl,_,rfl,a,ns,_,rfl,s0.seq hS,by omega,by omega,fun d H1 fd0 P1 S1 => ?_⟩
  have s1:=s0.trans S1
  have fd1:=s0.free fd0
  refine ⟨_,rfl,d,rfl,P1,fun wd H2 w1 w2 P2 B2 => ?_⟩
  refine ⟨_,rfl,_,rfl,d,wd,rfl,P2,w1,w2,fun b ys wd' most L H3 fb hb g3 pc hm P3 B3 => ?_⟩
  have nb:=P2.ne fb
  have gd:=pieces_good pc hm
  have wA:=fun (e:Int × List Int) (he:e ∈ shape L) => pieces_wide pc e he
  have nrmA:=shape_norm L
  generalize shape L=A at *
  have s3:Same H H3:=Same.but (Same.but s1 fd1 B2) fd1 B3
  refine ⟨_,rfl,(by show 0 ≤ sizeLine; decide),fun nl hnl => ?_⟩
  have s4:=Same.new (o:=.lst []) (Same.refl H3) hnl
  have hnl4:(upd H3 nl (.lst [])) nl=some (.lst []):=upd_same
  have P4:=P3.new (o:=.lst []) hnl
  generalize upd H3 nl (.lst [])=H4 at s4 hnl4 P4 ⊢
  refine ⟨_,_,(g3.up s4.tups).di (SqL.of (s4 _ _ hb)),(Wg.nil H4).di (SqL.of hnl4),lay_dL _,lay_dL _,dep_dL _,_,rfl,?_⟩
  rw [eqv_dL]
  refine ite2 (fun hA => ?_) (fun hA => ?_)
  ·refine ⟨_,rfl,d,rfl,P4,fun m H5 m1 m2 P5 B5 => ⟨_,rfl,_,rfl,d,wd,rfl,P5,w1,w2,fun wp us H6 fwp hwp wok P6 B6 => ⟨(by show 2 ≤ sizeLine; decide),fun pp hpp => ?_⟩⟩⟩
   have s7:=Same.new (o:=.tup [.int m,.ref wp]) (Same.refl H6) hpp
   have f7:(upd H6 pp (.tup [.int m,.ref wp])) pp=some (.tup [.int m,.ref wp]):=upd_same
   have P7:=P6.new (o:=.tup [.int m,.ref wp]) hpp
   generalize upd H6 pp (.tup [.int m,.ref wp])=H7 at s7 f7 P7 ⊢
   refine ⟨(by show 1 ≤ sizeLine; decide),fun bb hbb => ?_⟩
   have s8:=Same.new (o:=.lst [.ref pp]) (Same.refl H7) hbb
   have hb8:(upd H7 bb (.lst [.ref pp])) bb=some (.lst [.ref pp]):=upd_same
   have P8:=P7.new (o:=.lst [.ref pp]) hbb
   have nb8:bb ≠ d:=P7.ne hbb
   generalize upd H7 bb (.lst [.ref pp])=H8 at s8 hb8 P8 ⊢
   have g8:Wg H8 [.ref pp] [(m,us)]:=Wg.snoc (Wg.nil H8) ⟨pp,wp,rfl,s8 _ _ f7,s8 _ _ (s7 _ _ hwp)⟩
   have sH8:Same H H8:=((Same.but (Same.but (s3.trans s4) fd1 B5) fd1 B6).trans s7).trans s8
   have w8:Wk wd.toNat (10 ^ 62) [(m,us)]:=⟨(by show 0 < m; omega),fun e he => (by rw [List.mem_singleton.mp he]; exact wok.1),num_le fun e he => (by rw [List.mem_singleton.mp he]; exact wok.2),by decide⟩
   have tot8:tot ([(m,us)]:Wl) < 10 ^ 63:=by
    rw [tot_cons,tot_nil]
    show m + 0 < 10 ^ 63
    omega
   exact law8b_reads (K:=K) fd1 sH8 P8 nb8 hb8 g8 w8 (fun z => by cases z) (by show 1 ≤ 41; decide) tot8 w1 w2 _ _ _ fun x5 x6 x7 H9 s9 => ⟨_,_,_,_,_,_,_,rfl,s9⟩
  ·have neA:A ≠ []:=fun z => hA (by rw [z]; rfl)
   have w8:Wk wd.toNat (10 ^ 62) A:=⟨nrmA,fun e he => (wA e he).1,num_le fun e he => (wA e he).2,by decide⟩
   exact law8b_reads (K:=K) fd1 (s3.trans s4) P4 nb (s4 _ _ hb) (g3.up s4.tups) w8 neA (by have:=gd.len; omega) (by have:=gd.sum; omega) w1 w2 _ _ _ fun x5 x6 x7 H9 s9 => ⟨_,_,_,_,_,_,_,rfl,s9⟩
 ·rintro σ H1 ⟨x1,x2,x3,x4,x5,x6,x7,rfl,s1⟩
  exact k H1
end
end Toy
namespace Toy
open PySem L2 PyProof.Rows
section
variable {P:Program} {w:World} {K:PySem.W.Frag} {mg:Str→Option Value} {base:Heap}
abbrev s_sorts:Stmt:=top 14
theorem sc_sorts:FnScope ["weighing", "manys", "many", "weights"] ["weighing"] (defScope s_sorts):=⟨rfl,rfl,rfl,by decide +kernel,rfl,by decide +kernel,by decide +kernel⟩
set_option maxHeartbeats 4000000 in
theorem ok_sorts {f:Addr} {fd:FuncData} (F:Fun K "sorts" "sorts" s_sorts f fd) (M:Txt mg):FnOk P w K mg base CX0 1 f fd ["weighing"] spSortsW:=by
 have sc:=sc_sorts
 refine F.ok sc (fun vs H Q E h => ?_) (fun cdv A outer s H vs Q E hr h => ?_)
 ·obtain ⟨a,xs,W,rfl,_⟩:=h
  rfl
 ·obtain ⟨a,xs,W,rfl,h1,h2,h3,k⟩:=h
  refine ⟨_,(pss_cons (ps_set (i:=1) sc.nd rfl (Or.inl rfl) pe_dnewT)
   (pss_cons (ps_for PassesOwn.never rfl (pi_list (pv 0)) (pg_tup rfl (pgs_cons (pg_name (i:=2) sc.nd rfl (Or.inl rfl)) (pgs_cons (pg_name (i:=3) sc.nd rfl (Or.inl rfl)) pgs_nil)))
   (pss_one (ps_dput (hu_of hr) (pv 1) (pv 3) (pe_op op_add (pe_dget2 (hu_of hr) (pv 1) (pv 3) pe_int ⟨rfl,rfl,rfl,rfl⟩) (pv 2)) rfl)))
   (pss_one (ps_ret (pe_callB (call_sortedIW hr) (by rfl) M.sorted boot_sorted (pa_Call (pe_ditems (pv 1)) pa_nil)))))),?_⟩
  exact sorts_reads (K:=K) h1 h2 h3 k
abbrev s__law_all:Stmt:=top 29
theorem sc__law_all:FnScope ["_law_told", "_law_wide_here", "_law_total", "_law_weights_here", "_law_many_here"] ["_law_told", "_law_wide_here"] (defScope s__law_all):=⟨rfl,rfl,rfl,by decide +kernel,rfl,by decide +kernel,by decide +kernel⟩
set_option maxHeartbeats 4000000 in
theorem ok_all {f:Addr} {fd:FuncData} (F:Fun K "_law_all" "_law_all" s__law_all f fd) (M:Txt mg) (G_law_plus:Kn P w K mg base "_law_plus" 1 ["_law_one", "_law_other"] spPlus):FnOk P w K mg base CX0 2 f fd ["_law_told", "_law_wide_here"] spAll8:=by
 have sc:=sc__law_all
 refine F.ok sc (fun vs H Q E h => ?_) (fun cdv A outer s H vs Q E hr h => ?_)
 ·obtain ⟨l,wd,ps,ws,rfl,_⟩:=h
  rfl
 ·obtain ⟨l,wd,ps,ws,rfl,h1,h2,h3,w1,w2,h4,h5,k⟩:=h
  refine ⟨_,(pss_cons (ps_set (i:=2) sc.nd rfl (Or.inl rfl) (pe_op op_mulT1 (pe_tup (pa_Constant pe_int pa_nil)) (pv 1)))
   (pss_cons (ps_for PassesOwn.never rfl (pi_list (pv 0)) (pg_tup rfl (pgs_cons (pg_name (i:=3) sc.nd rfl (Or.inl rfl)) (pgs_cons (pg_name (i:=4) sc.nd rfl (Or.inr rfl)) pgs_nil)))
   (pss_one (ps_set (i:=2) sc.nd rfl (Or.inl rfl) (pe_callD G_law_plus hr rfl (pa_Name (pv 2) (pa_Call (pe_callTy call_tuple_of (by rfl) M.tuple boot_tuple (pa_cons (pe_compG (xs:=["_law_weight"]) (Nb:=["_law_told", "_law_wide_here", "_law_total", "_law_weights_here", "_law_many_here"]) rfl (pi_tup (pv 3)) rfl (by show ∀ p ∈ (List.zip ["_law_told", "_law_wide_here", "_law_total", "_law_weights_here", "_law_many_here"] ["_law_told", "_law_wide_here", "_law_total", "_law_weights_here", "_law_many_here"]:List (Str × Str)),_; decide +kernel) (by decide +kernel) (fun cl C s₂ H₂ fp => (pg_name (i:=0) (by show List.Nodup (["_law_weight", "_law_told", "_law_wide_here", "_law_total", "_law_weights_here", "_law_many_here"]:List Str); decide +kernel) rfl (Or.inl (lookup_relabel_local rfl)) (Or.inr (lookup_relabel_local rfl)))) (fun cl C s₂ H₂ fp => pif_nil) (fun cl C s₂ H₂ fp => (pe_op op_mulB (pv 5) (pv 0))) (by decide +kernel) rfl (by decide +kernel) (by show ∀ y ∈ (_:List (Str × NameKind)),y.2=NameKind.free→(defScope s__law_all).names.lookup y.1=some .cell; decide +kernel)) pa_nil)) pa_nil))))))
   (pss_one (ps_ret (pv 2))))),?_⟩
  exact all8_reads (K:=K) h1 h2 w1 w2 h4 h5 k
abbrev s__law_kept:Stmt:=top 30
theorem sc__law_kept:FnScope ["_law_one", "_law_other", "_law_wide_here", "_law_t", "_law_more", "_law_spot", "_law_mine", "_law_both", "_law_loop", "_law_long", "_law_bare", "_law_laid"] ["_law_one", "_law_other", "_law_wide_here", "_law_t", "_law_more", "_law_spot"] (defScope s__law_kept):=⟨rfl,rfl,rfl,by decide +kernel,rfl,by decide +kernel,by decide +kernel⟩
set_option maxHeartbeats 16000000 in
theorem ok_kept {f:Addr} {fd:FuncData} (F:Fun K "_law_kept" "_law_kept" s__law_kept f fd) (M:Txt mg) (G_law_all:Kn P w K mg base "_law_all" 2 ["_law_told", "_law_wide_here"] spAll8) (Gsorts:Kn P w K mg base "sorts" 1 ["weighing"] spSortsW) (Gadded:Kn P w K mg base "added" 2 ["one", "other"] spAdded) (G_law_plus:Kn P w K mg base "_law_plus" 1 ["_law_one", "_law_other"] spPlus) (Gwound:Kn P w K mg base "wound" 4 ["weighing", "t"] spWound) (Glength:Kn P w K mg base "length" 1 ["weighing"] (spLength K)) (Gbackward:Kn P w K mg base "backward" 1 ["weighing"] (spBack K)) (Gshaped:Kn P w K mg base "shaped" 1 ["pieces"] (spShaped K)) (Gpart:Kn P w K mg base "part" 2 ["weighing", "begin", "end"] (spPart K)) (Gput_to:Kn P w K mg base "put_to" 3 ["weighing", "begin", "other"] spPut) (Gweights_at:Kn P w K mg base "weights_at" 1 ["weighing", "place"] (spAt K)):FnOk P w K mg base CX0 6 f fd ["_law_one", "_law_other", "_law_wide_here", "_law_t", "_law_more", "_law_spot"] spKept8:=by
 have sc:=sc__law_kept
 refine F.ok sc (fun vs H Q E h => ?_) (fun cdv A outer s H vs Q E hr h => ?_)
 ·obtain ⟨a,b,xs,ys,A,C,wd,t,mo,s,rfl,_⟩:=h
  rfl
 ·obtain ⟨a,b,xs,ys,A,C,wd,t,mo,s,rfl,ha,ga,hb,gc,w1,w2,kp,k⟩:=h
  refine ⟨_,(pss_cons (ps_set (i:=6) sc.nd rfl (Or.inl rfl) (pe_callD G_law_all hr rfl (pa_Call (pe_callD Gsorts hr rfl (pa_Name (pv 0) pa_nil)) (pa_Name (pv 2) pa_nil))))
   (pss_cons (ps_set (i:=7) sc.nd rfl (Or.inl rfl) (pe_callD Gadded hr rfl (pa_Name (pv 0) (pa_Name (pv 1) pa_nil))))
   (pss_cons (ps_if (pt_cmpR (op_neD hr) (pe_callD G_law_all hr rfl (pa_Call (pe_callD Gsorts hr rfl (pa_Name (pv 7) pa_nil)) (pa_Name (pv 2) pa_nil))) (pe_callD G_law_plus hr rfl (pa_Name (pv 6) (pa_Call (pe_callD G_law_all hr rfl (pa_Call (pe_callD Gsorts hr rfl (pa_Name (pv 1) pa_nil)) (pa_Name (pv 2) pa_nil))) pa_nil))) (nomark _)) (pss_one (ps_ret pe_bl)) pss_nil)
   (pss_cons (ps_set (i:=8) sc.nd rfl (Or.inl rfl) (pe_callD Gwound hr rfl (pa_Name (pv 0) (pa_Name (pv 3) pa_nil))))
   (pss_cons (ps_if (PW.pt (pw_or (pt_cmpR (op_neD hr) (pe_callD G_law_all hr rfl (pa_Call (pe_callD Gsorts hr rfl (pa_Name (pv 8) pa_nil)) (pa_Name (pv 2) pa_nil))) (pv 6) (nomark _)) (pw_or (pt_cmpR op_ne (pe_callD Glength hr rfl (pa_Name (pv 8) pa_nil)) (pv 3) (nomark _)) (pw_or1 (pt_cmpR (op_neD hr) (pe_callD G_law_all hr rfl (pa_Call (pe_callD Gsorts hr rfl (pa_Call (pe_callD Gbackward hr rfl (pa_Name (pv 0) pa_nil)) pa_nil)) (pa_Name (pv 2) pa_nil))) (pv 6) (nomark _)))))) (pss_one (ps_ret pe_bl)) pss_nil)
   (pss_cons (ps_if (PW.pt (pw_or (pt_cmpR (op_neD hr) (pe_callD Gwound hr rfl (pa_Call (pe_callD Gwound hr rfl (pa_Name (pv 0) (pa_BinOp (pe_op op_mul (pv 3) (pv 4)) pa_nil))) (pa_Name (pv 3) pa_nil))) (pv 8) (nomark _)) (pw_or1 (pt_cmpR (op_neD hr) (pe_callD Gwound hr rfl (pa_Name (pv 7) (pa_Name (pv 3) pa_nil))) (pe_callD Gadded hr rfl (pa_Name (pv 8) (pa_Call (pe_callD Gwound hr rfl (pa_Name (pv 1) (pa_Name (pv 3) pa_nil))) pa_nil))) (nomark _))))) (pss_one (ps_ret pe_bl)) pss_nil)
   (pss_cons (ps_set (i:=9) sc.nd rfl (Or.inl rfl) (pe_callD Glength hr rfl (pa_Name (pv 0) pa_nil)))
   (pss_cons (ps_if (pt_cmpR (op_neD hr) (pe_callD Gshaped hr rfl (pa_BinOp (pe_op op_cat (pe_callD Gpart hr rfl (pa_Name (pv 0) (pa_Constant pe_int (pa_Name (pv 5) pa_nil)))) (pe_callD Gpart hr rfl (pa_Name (pv 0) (pa_Name (pv 5) (pa_Name (pv 9) pa_nil))))) pa_nil)) (pv 0) (nomark _)) (pss_one (ps_ret pe_bl)) pss_nil)
   (pss_cons (ps_if (pt_cmpR (op_neD hr) (pe_callD Gpart hr rfl (pa_Name (pv 7) (pa_Name (pv 5) (pa_Name (pv 9) pa_nil)))) (pe_callD Gadded hr rfl (pa_Call (pe_callD Gpart hr rfl (pa_Name (pv 0) (pa_Name (pv 5) (pa_Name (pv 9) pa_nil)))) (pa_Call (pe_callD Gpart hr rfl (pa_Name (pv 1) (pa_Name (pv 5) (pa_Name (pv 9) pa_nil)))) pa_nil))) (nomark _)) (pss_one (ps_ret pe_bl)) pss_nil)
   (pss_cons (ps_set (i:=10) sc.nd rfl (Or.inl rfl) (pe_lst (pa_Tuple (pe_tup (pa_o2 (pe_op op_add (pe_op op_add (pv 9) (pv 5)) pe_int) (pe_op op_mulT1 (pe_tup (pa_Constant pe_int pa_nil)) (pv 2)) pa_nil)) pa_nil)))
   (pss_cons (ps_set (i:=11) sc.nd rfl (Or.inl rfl) (pe_callD Gput_to hr rfl (pa_Name (pv 10) (pa_Name (pv 5) (pa_Name (pv 0) pa_nil)))))
   (pss_one (ps_ret (pe_and (pe_cmpR (op_eqD hr) (pe_callD Gpart hr rfl (pa_Name (pv 11) (pa_Name (pv 5) (pa_BinOp (pe_op op_add (pv 5) (pv 9)) pa_nil)))) (pv 0) (nomark _)) (pe_one (pe_cmpR (op_eqD hr) (pe_callD Gweights_at hr rfl (pa_Name (pv 11) (pa_BinOp (pe_op op_add (pv 5) (pv 9)) pa_nil))) (pe_op op_mulT1 (pe_tup (pa_Constant pe_int pa_nil)) (pv 2)) (nomark _))))))))))))))))),?_⟩
  exact kept8_reads (K:=K) ha ga hb gc w1 w2 kp k
end
end Toy
namespace Toy
open PySem L2 PyProof.Rows
section
variable {P:Program} {w:World} {K:PySem.W.Frag} {mg:Str→Option Value} {base:Heap}
def spLaw (K:PySem.W.Frag):Sp:=fun vs H Q _ => ∃ (a:Addr) (ns:List Int),vs=[.ref a]∧SqL K H a (ns.map V.int)∧ns.length ≤ 63∧∀ H',Q (.bl true) H'
abbrev s_law:Stmt:=top 31
theorem sc_law:FnScope ["_law_script", "_law_k", "_law_draw", "_law_wide_here", "_law_one", "_law_long", "_law_other", "_law_t"] ["_law_script"] (defScope s_law):=⟨rfl,rfl,rfl,by decide +kernel,rfl,by decide +kernel,by decide +kernel⟩
set_option maxHeartbeats 8000000 in
theorem ok_law {f:Addr} {fd:FuncData} (F:Fun K "law" "law" s_law f fd) (M:Txt mg) (G_law_purse:Kn P w K mg base "_law_purse" 2 ["_law_script", "_law_at"] (spPurse K)) (G_law_wide:Kn P w K mg base "_law_wide" 2 ["_law_draw"] spWide) (G_law_weighing:Kn P w K mg base "_law_weighing" 5 ["_law_draw", "_law_wide_here"] spWeighing) (G_law_many:Kn P w K mg base "_law_many" 2 ["_law_draw"] spMany) (G_law_weights:Kn P w K mg base "_law_weights" 3 ["_law_draw", "_law_wide_here"] spWeights) (G_law_ends:Kn P w K mg base "_law_ends" 1 ["_law_weighing_here"] (spEnds K)) (G_law_fitted:Kn P w K mg base "_law_fitted" 4 ["_law_draw", "_law_wide_here", "_law_long"] spFitted) (G_law_take:Kn P w K mg base "_law_take" 1 ["_law_draw", "_law_many_here"] spTake) (G_law_kept:Kn P w K mg base "_law_kept" 6 ["_law_one", "_law_other", "_law_wide_here", "_law_t", "_law_more", "_law_spot"] spKept8):FnOk P w K mg base CX0 7 f fd ["_law_script"] (spLaw K):=by
 have sc:=sc_law
 refine F.ok sc (fun vs H Q E h => ?_) (fun cdv A outer s H vs Q E hr h => ?_)
 ·obtain ⟨a,ns,rfl,_⟩:=h
  rfl
 ·obtain ⟨a,ns,rfl,hS,hl,k⟩:=h
  refine ⟨_,(pss_cons (ps_for PassesOwn.never rfl (pi_range1 rfl M.range (pa_BinOp (pe_op op_add pe_int (pe_callB (call_min2 rfl) (by rfl) M.min boot_min (pa_Constant pe_int (pa_Call (pe_callB (call_lenK (K:=K)) (by rfl) M.len PySem.boot_len (pa_Name (pv 0) pa_nil)) pa_nil)))) pa_nil)) (pg_name (i:=1) sc.nd rfl (Or.inl rfl))
   (pss_cons (ps_set (i:=2) sc.nd rfl (Or.inl rfl) (pe_callD G_law_purse hr rfl (pa_Name (pv 0) (pa_Name (pv 1) pa_nil))))
   (pss_cons (ps_set (i:=3) sc.nd rfl (Or.inl rfl) (pe_callD G_law_wide hr rfl (pa_Name (pv 2) pa_nil)))
   (pss_cons (ps_set (i:=4) sc.nd rfl (Or.inl rfl) (pe_callD G_law_weighing hr rfl (pa_Name (pv 2) (pa_Name (pv 3) pa_nil))))
   (pss_cons (ps_if (pt_cmpR (op_eqD hr) (pv 4) (pe_lst pa_nil) (nomark _)) (pss_one (ps_set (i:=4) sc.nd rfl (Or.inl rfl) (pe_lst (pa_Tuple (pe_tup (pa_o2 (pe_callD G_law_many hr rfl (pa_Name (pv 2) pa_nil)) (pe_callD G_law_weights hr rfl (pa_Name (pv 2) (pa_Name (pv 3) pa_nil))) pa_nil)) pa_nil)))) pss_nil)
   (pss_cons (ps_set (i:=5) sc.nd rfl (Or.inl rfl) (pe_ix (ix_listK (K:=K)) (pe_callD G_law_ends hr rfl (pa_Name (pv 4) pa_nil)) (pe_un un_neg pe_int) (fun _ _ => rfl)) sw_sub)
   (pss_cons (ps_set (i:=6) sc.nd rfl (Or.inl rfl) (pe_callD G_law_fitted hr rfl (pa_Name (pv 2) (pa_Name (pv 3) (pa_Name (pv 5) pa_nil)))))
   (pss_cons (ps_set (i:=7) sc.nd rfl (Or.inl rfl) (pe_op op_add pe_int (pe_callD G_law_take hr rfl (pa_Name (pv 2) (pa_Subscript (pe_ix (ix_listK (K:=K)) (pe_lst (pa_o3 pe_int (pe_op op_pow pe_int pe_int) (pv 5) pa_nil)) (pe_callD G_law_take hr rfl (pa_Name (pv 2) (pa_Constant pe_int pa_nil))) (fun _ _ => rfl)) pa_nil)))))
   (pss_one (ps_if (pt_not (pt_val (pe_callD G_law_kept hr rfl (pa_Name (pv 4) (pa_Name (pv 6) (pa_Name (pv 3) (pa_Name (pv 7) (pa_BinOp (pe_op op_add pe_int (pe_callD G_law_take hr rfl (pa_Name (pv 2) (pa_Constant pe_int pa_nil)))) (pa_Call (pe_callD G_law_take hr rfl (pa_Name (pv 2) (pa_BinOp (pe_op op_add (pv 5) pe_int) pa_nil))) pa_nil))))))))) (pss_one (ps_ret pe_bl)) pss_nil))))))))))
   (pss_one (ps_ret pe_bl))),?_⟩
  exact law8_reads (K:=K) hS k
end
theorem all_mk {l:PySem.W.OpenLaw} {w:World} {K:PySem.W.Frag} {h:Heap} {mg:Str→Option Value} {fa f0 f1 f2 f3 f4 f5 f6 f7 f8 f9 f10 f11 f12 f13 f14 f15 f16 f17 f18 f19 f20 f21 f22 f23 f24 f25 f26 f27 f28 f29:Addr} (X:K.In h) (G:h.Ns mainGlobals mg) (hfa:mg "law" = some (.ref fa))
  {od0 an0 od1 an1 od2 an2 od3 an3 od4 an4 od5 an5 od6 an6 od7 an7 od8 an8 od9 an9 od10 an10 od11 an11 od12 an12 od13 an13 od14 an14 od15 an15 od16 an16 od17 an17 od18 an18 od19 an19 od20 an20 od21 an21 od22 an22 od23 an23 od24 an24 od25 an25 od26 an26 od27 an27 od28 an28 od29 an29:Option Addr} {sl0 sl1 sl2 sl3 sl4 sl5 sl6 sl7 sl8 sl9 sl10 sl11 sl12 sl13 sl14 sl15 sl16 sl17 sl18 sl19 sl20 sl21 sl22 sl23 sl24 sl25 sl26 sl27 sl28 sl29:Array (Option Value)} {oc0 kV0 dc0 pm0 cd0 ct0 oc1 kV1 dc1 pm1 cd1 ct1 oc2 kV2 dc2 pm2 cd2 ct2 oc3 kV3 dc3 pm3 cd3 ct3 oc4 kV4 dc4 pm4 cd4 ct4 oc5 kV5 dc5 pm5 cd5 ct5 oc6 kV6 dc6 pm6 cd6 ct6 oc7 kV7 dc7 pm7 cd7 ct7 oc8 kV8 dc8 pm8 cd8 ct8 oc9 kV9 dc9 pm9 cd9 ct9 oc10 kV10 dc10 pm10 cd10 ct10 oc11 kV11 dc11 pm11 cd11 ct11 oc12 kV12 dc12 pm12 cd12 ct12 oc13 kV13 dc13 pm13 cd13 ct13 oc14 kV14 dc14 pm14 cd14 ct14 oc15 kV15 dc15 pm15 cd15 ct15 oc16 kV16 dc16 pm16 cd16 ct16 oc17 kV17 dc17 pm17 cd17 ct17 oc18 kV18 dc18 pm18 cd18 ct18 oc19 kV19 dc19 pm19 cd19 ct19 oc20 kV20 dc20 pm20 cd20 ct20 oc21 kV21 dc21 pm21 cd21 ct21 oc22 kV22 dc22 pm22 cd22 ct22 oc23 kV23 dc23 pm23 cd23 ct23 oc24 kV24 dc24 pm24 cd24 ct24 oc25 kV25 dc25 pm25 cd25 ct25 oc26 kV26 dc26 pm26 cd26 ct26 oc27 kV27 dc27 pm27 cd27 ct27 oc28 kV28 dc28 pm28 cd28 ct28 oc29 kV29 dc29 pm29 cd29 ct29:Value}
  (a0:PySem.W.nsIn K mainGlobals "shaped" = some (some (.ref f0))) (l0:K.lookup f0=some ⟨oc0,od0,.func (PySem.W.fnOf "shaped" "shaped" (defArgs s_shaped) (defBody s_shaped) (defScope s_shaped) .none kV0 dc0 pm0 an0 cd0 ct0),sl0⟩) (c0:PySem.W.codeIn K cd0 "shaped" = true) (k0:PySem.W.keepIn K (.ref f0)=true)
  (a1:PySem.W.nsIn K mainGlobals "length" = some (some (.ref f1))) (l1:K.lookup f1=some ⟨oc1,od1,.func (PySem.W.fnOf "length" "length" (defArgs s_length) (defBody s_length) (defScope s_length) .none kV1 dc1 pm1 an1 cd1 ct1),sl1⟩) (c1:PySem.W.codeIn K cd1 "length" = true) (k1:PySem.W.keepIn K (.ref f1)=true)
  (a2:PySem.W.nsIn K mainGlobals "weights_at" = some (some (.ref f2))) (l2:K.lookup f2=some ⟨oc2,od2,.func (PySem.W.fnOf "weights_at" "weights_at" (defArgs s_weights_at) (defBody s_weights_at) (defScope s_weights_at) .none kV2 dc2 pm2 an2 cd2 ct2),sl2⟩) (c2:PySem.W.codeIn K cd2 "weights_at" = true) (k2:PySem.W.keepIn K (.ref f2)=true)
  (a3:PySem.W.nsIn K mainGlobals "laid_from" = some (some (.ref f3))) (l3:K.lookup f3=some ⟨oc3,od3,.func (PySem.W.fnOf "laid_from" "laid_from" (defArgs s_laid_from) (defBody s_laid_from) (defScope s_laid_from) .none kV3 dc3 pm3 an3 cd3 ct3),sl3⟩) (c3:PySem.W.codeIn K cd3 "laid_from" = true) (k3:PySem.W.keepIn K (.ref f3)=true)
  (a4:PySem.W.nsIn K mainGlobals "part" = some (some (.ref f4))) (l4:K.lookup f4=some ⟨oc4,od4,.func (PySem.W.fnOf "part" "part" (defArgs s_part) (defBody s_part) (defScope s_part) .none kV4 dc4 pm4 an4 cd4 ct4),sl4⟩) (c4:PySem.W.codeIn K cd4 "part" = true) (k4:PySem.W.keepIn K (.ref f4)=true)
  (a5:PySem.W.nsIn K mainGlobals "backward" = some (some (.ref f5))) (l5:K.lookup f5=some ⟨oc5,od5,.func (PySem.W.fnOf "backward" "backward" (defArgs s_backward) (defBody s_backward) (defScope s_backward) .none kV5 dc5 pm5 an5 cd5 ct5),sl5⟩) (c5:PySem.W.codeIn K cd5 "backward" = true) (k5:PySem.W.keepIn K (.ref f5)=true)
  (a6:PySem.W.nsIn K mainGlobals "sum_of_weights" = some (some (.ref f6))) (l6:K.lookup f6=some ⟨oc6,od6,.func (PySem.W.fnOf "sum_of_weights" "sum_of_weights" (defArgs s_sum_of_weights) (defBody s_sum_of_weights) (defScope s_sum_of_weights) .none kV6 dc6 pm6 an6 cd6 ct6),sl6⟩) (c6:PySem.W.codeIn K cd6 "sum_of_weights" = true) (k6:PySem.W.keepIn K (.ref f6)=true)
  (a7:PySem.W.nsIn K mainGlobals "weights_times" = some (some (.ref f7))) (l7:K.lookup f7=some ⟨oc7,od7,.func (PySem.W.fnOf "weights_times" "weights_times" (defArgs s_weights_times) (defBody s_weights_times) (defScope s_weights_times) .none kV7 dc7 pm7 an7 cd7 ct7),sl7⟩) (c7:PySem.W.codeIn K cd7 "weights_times" = true) (k7:PySem.W.keepIn K (.ref f7)=true)
  (a8:PySem.W.nsIn K mainGlobals "rises_of" = some (some (.ref f8))) (l8:K.lookup f8=some ⟨oc8,od8,.func (PySem.W.fnOf "rises_of" "rises_of" (defArgs s_rises_of) (defBody s_rises_of) (defScope s_rises_of) .none kV8 dc8 pm8 an8 cd8 ct8),sl8⟩) (c8:PySem.W.codeIn K cd8 "rises_of" = true) (k8:PySem.W.keepIn K (.ref f8)=true)
  (a9:PySem.W.nsIn K mainGlobals "heaped" = some (some (.ref f9))) (l9:K.lookup f9=some ⟨oc9,od9,.func (PySem.W.fnOf "heaped" "heaped" (defArgs s_heaped) (defBody s_heaped) (defScope s_heaped) .none kV9 dc9 pm9 an9 cd9 ct9),sl9⟩) (c9:PySem.W.codeIn K cd9 "heaped" = true) (k9:PySem.W.keepIn K (.ref f9)=true)
  (a10:PySem.W.nsIn K mainGlobals "added" = some (some (.ref f10))) (l10:K.lookup f10=some ⟨oc10,od10,.func (PySem.W.fnOf "added" "added" (defArgs s_added) (defBody s_added) (defScope s_added) .none kV10 dc10 pm10 an10 cd10 ct10),sl10⟩) (c10:PySem.W.codeIn K cd10 "added" = true) (k10:PySem.W.keepIn K (.ref f10)=true)
  (a11:PySem.W.nsIn K mainGlobals "put_to" = some (some (.ref f11))) (l11:K.lookup f11=some ⟨oc11,od11,.func (PySem.W.fnOf "put_to" "put_to" (defArgs s_put_to) (defBody s_put_to) (defScope s_put_to) .none kV11 dc11 pm11 an11 cd11 ct11),sl11⟩) (c11:PySem.W.codeIn K cd11 "put_to" = true) (k11:PySem.W.keepIn K (.ref f11)=true)
  (a12:PySem.W.nsIn K mainGlobals "wound" = some (some (.ref f12))) (l12:K.lookup f12=some ⟨oc12,od12,.func (PySem.W.fnOf "wound" "wound" (defArgs s_wound) (defBody s_wound) (defScope s_wound) .none kV12 dc12 pm12 an12 cd12 ct12),sl12⟩) (c12:PySem.W.codeIn K cd12 "wound" = true) (k12:PySem.W.keepIn K (.ref f12)=true)
  (a13:PySem.W.nsIn K mainGlobals "sorts" = some (some (.ref f13))) (l13:K.lookup f13=some ⟨oc13,od13,.func (PySem.W.fnOf "sorts" "sorts" (defArgs s_sorts) (defBody s_sorts) (defScope s_sorts) .none kV13 dc13 pm13 an13 cd13 ct13),sl13⟩) (c13:PySem.W.codeIn K cd13 "sorts" = true) (k13:PySem.W.keepIn K (.ref f13)=true)
  (a14:PySem.W.nsIn K mainGlobals "_law_cell_at" = some (some (.ref f14))) (l14:K.lookup f14=some ⟨oc14,od14,.func (PySem.W.fnOf "_law_cell_at" "_law_cell_at" (defArgs s__law_cell_at) (defBody s__law_cell_at) (defScope s__law_cell_at) .none kV14 dc14 pm14 an14 cd14 ct14),sl14⟩) (c14:PySem.W.codeIn K cd14 "_law_cell_at" = true) (k14:PySem.W.keepIn K (.ref f14)=true)
  (a15:PySem.W.nsIn K mainGlobals "_law_purse" = some (some (.ref f15))) (l15:K.lookup f15=some ⟨oc15,od15,.func (PySem.W.fnOf "_law_purse" "_law_purse" (defArgs s__law_purse) (defBody s__law_purse) (defScope s__law_purse) .none kV15 dc15 pm15 an15 cd15 ct15),sl15⟩) (c15:PySem.W.codeIn K cd15 "_law_purse" = true) (k15:PySem.W.keepIn K (.ref f15)=true)
  (a16:PySem.W.nsIn K mainGlobals "_law_take" = some (some (.ref f16))) (l16:K.lookup f16=some ⟨oc16,od16,.func (PySem.W.fnOf "_law_take" "_law_take" (defArgs s__law_take) (defBody s__law_take) (defScope s__law_take) .none kV16 dc16 pm16 an16 cd16 ct16),sl16⟩) (c16:PySem.W.codeIn K cd16 "_law_take" = true) (k16:PySem.W.keepIn K (.ref f16)=true)
  (a17:PySem.W.nsIn K mainGlobals "_law_number" = some (some (.ref f17))) (l17:K.lookup f17=some ⟨oc17,od17,.func (PySem.W.fnOf "_law_number" "_law_number" (defArgs s__law_number) (defBody s__law_number) (defScope s__law_number) .none kV17 dc17 pm17 an17 cd17 ct17),sl17⟩) (c17:PySem.W.codeIn K cd17 "_law_number" = true) (k17:PySem.W.keepIn K (.ref f17)=true)
  (a18:PySem.W.nsIn K mainGlobals "_law_weights" = some (some (.ref f18))) (l18:K.lookup f18=some ⟨oc18,od18,.func (PySem.W.fnOf "_law_weights" "_law_weights" (defArgs s__law_weights) (defBody s__law_weights) (defScope s__law_weights) .none kV18 dc18 pm18 an18 cd18 ct18),sl18⟩) (c18:PySem.W.codeIn K cd18 "_law_weights" = true) (k18:PySem.W.keepIn K (.ref f18)=true)
  (a19:PySem.W.nsIn K mainGlobals "_law_many" = some (some (.ref f19))) (l19:K.lookup f19=some ⟨oc19,od19,.func (PySem.W.fnOf "_law_many" "_law_many" (defArgs s__law_many) (defBody s__law_many) (defScope s__law_many) .none kV19 dc19 pm19 an19 cd19 ct19),sl19⟩) (c19:PySem.W.codeIn K cd19 "_law_many" = true) (k19:PySem.W.keepIn K (.ref f19)=true)
  (a20:PySem.W.nsIn K mainGlobals "_law_pieces" = some (some (.ref f20))) (l20:K.lookup f20=some ⟨oc20,od20,.func (PySem.W.fnOf "_law_pieces" "_law_pieces" (defArgs s__law_pieces) (defBody s__law_pieces) (defScope s__law_pieces) .none kV20 dc20 pm20 an20 cd20 ct20),sl20⟩) (c20:PySem.W.codeIn K cd20 "_law_pieces" = true) (k20:PySem.W.keepIn K (.ref f20)=true)
  (a21:PySem.W.nsIn K mainGlobals "_law_shape" = some (some (.ref f21))) (l21:K.lookup f21=some ⟨oc21,od21,.func (PySem.W.fnOf "_law_shape" "_law_shape" (defArgs s__law_shape) (defBody s__law_shape) (defScope s__law_shape) .none kV21 dc21 pm21 an21 cd21 ct21),sl21⟩) (c21:PySem.W.codeIn K cd21 "_law_shape" = true) (k21:PySem.W.keepIn K (.ref f21)=true)
  (a22:PySem.W.nsIn K mainGlobals "_law_wide" = some (some (.ref f22))) (l22:K.lookup f22=some ⟨oc22,od22,.func (PySem.W.fnOf "_law_wide" "_law_wide" (defArgs s__law_wide) (defBody s__law_wide) (defScope s__law_wide) .none kV22 dc22 pm22 an22 cd22 ct22),sl22⟩) (c22:PySem.W.codeIn K cd22 "_law_wide" = true) (k22:PySem.W.keepIn K (.ref f22)=true)
  (a23:PySem.W.nsIn K mainGlobals "_law_weighing" = some (some (.ref f23))) (l23:K.lookup f23=some ⟨oc23,od23,.func (PySem.W.fnOf "_law_weighing" "_law_weighing" (defArgs s__law_weighing) (defBody s__law_weighing) (defScope s__law_weighing) .none kV23 dc23 pm23 an23 cd23 ct23),sl23⟩) (c23:PySem.W.codeIn K cd23 "_law_weighing" = true) (k23:PySem.W.keepIn K (.ref f23)=true)
  (a24:PySem.W.nsIn K mainGlobals "_law_ends" = some (some (.ref f24))) (l24:K.lookup f24=some ⟨oc24,od24,.func (PySem.W.fnOf "_law_ends" "_law_ends" (defArgs s__law_ends) (defBody s__law_ends) (defScope s__law_ends) .none kV24 dc24 pm24 an24 cd24 ct24),sl24⟩) (c24:PySem.W.codeIn K cd24 "_law_ends" = true) (k24:PySem.W.keepIn K (.ref f24)=true)
  (a25:PySem.W.nsIn K mainGlobals "_law_plus" = some (some (.ref f25))) (l25:K.lookup f25=some ⟨oc25,od25,.func (PySem.W.fnOf "_law_plus" "_law_plus" (defArgs s__law_plus) (defBody s__law_plus) (defScope s__law_plus) .none kV25 dc25 pm25 an25 cd25 ct25),sl25⟩) (c25:PySem.W.codeIn K cd25 "_law_plus" = true) (k25:PySem.W.keepIn K (.ref f25)=true)
  (a26:PySem.W.nsIn K mainGlobals "_law_fitted" = some (some (.ref f26))) (l26:K.lookup f26=some ⟨oc26,od26,.func (PySem.W.fnOf "_law_fitted" "_law_fitted" (defArgs s__law_fitted) (defBody s__law_fitted) (defScope s__law_fitted) .none kV26 dc26 pm26 an26 cd26 ct26),sl26⟩) (c26:PySem.W.codeIn K cd26 "_law_fitted" = true) (k26:PySem.W.keepIn K (.ref f26)=true)
  (a27:PySem.W.nsIn K mainGlobals "_law_all" = some (some (.ref f27))) (l27:K.lookup f27=some ⟨oc27,od27,.func (PySem.W.fnOf "_law_all" "_law_all" (defArgs s__law_all) (defBody s__law_all) (defScope s__law_all) .none kV27 dc27 pm27 an27 cd27 ct27),sl27⟩) (c27:PySem.W.codeIn K cd27 "_law_all" = true) (k27:PySem.W.keepIn K (.ref f27)=true)
  (a28:PySem.W.nsIn K mainGlobals "_law_kept" = some (some (.ref f28))) (l28:K.lookup f28=some ⟨oc28,od28,.func (PySem.W.fnOf "_law_kept" "_law_kept" (defArgs s__law_kept) (defBody s__law_kept) (defScope s__law_kept) .none kV28 dc28 pm28 an28 cd28 ct28),sl28⟩) (c28:PySem.W.codeIn K cd28 "_law_kept" = true) (k28:PySem.W.keepIn K (.ref f28)=true)
  (a29:PySem.W.nsIn K mainGlobals "law" = some (some (.ref f29))) (l29:K.lookup f29=some ⟨oc29,od29,.func (PySem.W.fnOf "law" "law" (defArgs s_law) (defBody s_law) (defScope s_law) .none kV29 dc29 pm29 an29 cd29 ct29),sl29⟩) (c29:PySem.W.codeIn K cd29 "law" = true) (k29:PySem.W.keepIn K (.ref f29)=true)
  (g_zip:PySem.W.nsIn K mainGlobals "zip" = some none)
  (g_set:PySem.W.nsIn K mainGlobals "set" = some none)
  (g_divmod:PySem.W.nsIn K mainGlobals "divmod" = some none)
  (z_len:PySem.W.nsIn K mainGlobals "len" = some none) (z_range:PySem.W.nsIn K mainGlobals "range" = some none) (z_min:PySem.W.nsIn K mainGlobals "min" = some none) (z_max:PySem.W.nsIn K mainGlobals "max" = some none) (z_isinstance:PySem.W.nsIn K mainGlobals "isinstance" = some none) (z_bool:PySem.W.nsIn K mainGlobals "bool" = some none) (z_int:PySem.W.nsIn K mainGlobals "int" = some none) (z_tuple:PySem.W.nsIn K mainGlobals "tuple" = some none) (z_list:PySem.W.nsIn K mainGlobals "list" = some none) (z_str:PySem.W.nsIn K mainGlobals "str" = some none) (z_all:PySem.W.nsIn K mainGlobals "all" = some none) (z_sum:PySem.W.nsIn K mainGlobals "sum" = some none) (z_sorted:PySem.W.nsIn K mainGlobals "sorted" = some none) :
  ∃ fd:FuncData,(∀ (s:Shared) (v:Value),BindsTo s fd ⟨[v],[]⟩ [("_law_script",v)])∧∀ base:Heap,K.In base→base.Ns mainGlobals mg→FnOk l.prog w K mg base CX0 7 fa fd ["_law_script"] (spLaw K):=by
 have e:=hfa.symm.trans (PySem.W.mg_of X G a29)
 cases e
 have M:Txt mg:=⟨PySem.W.mg_none_of X G z_len,PySem.W.mg_none_of X G z_range,PySem.W.mg_none_of X G z_min,PySem.W.mg_none_of X G z_max,PySem.W.mg_none_of X G z_isinstance,PySem.W.mg_none_of X G z_bool,PySem.W.mg_none_of X G z_int,PySem.W.mg_none_of X G z_tuple,PySem.W.mg_none_of X G z_list,PySem.W.mg_none_of X G z_str,PySem.W.mg_none_of X G z_all,PySem.W.mg_none_of X G z_sum,PySem.W.mg_none_of X G z_sorted⟩
 have GB:Gb mg:=⟨PySem.W.mg_none_of X G g_zip,PySem.W.mg_none_of X G g_set,PySem.W.mg_none_of X G g_divmod⟩
 have F0:=fun_mk (st:=s_shaped) l0 c0 k0
 have b0:=F0.binds (ps:=["pieces"]) fun _ _ _ _ _ _ us hl => match us,hl with | [_],_ => rfl
 have F1:=fun_mk (st:=s_length) l1 c1 k1
 have b1:=F1.binds (ps:=["weighing"]) fun _ _ _ _ _ _ us hl => match us,hl with | [_],_ => rfl
 have F2:=fun_mk (st:=s_weights_at) l2 c2 k2
 have b2:=F2.binds (ps:=["weighing", "place"]) fun _ _ _ _ _ _ us hl => match us,hl with | [_,_],_ => rfl
 have F3:=fun_mk (st:=s_laid_from) l3 c3 k3
 have b3:=F3.binds (ps:=["weighing", "begin"]) fun _ _ _ _ _ _ us hl => match us,hl with | [_,_],_ => rfl
 have F4:=fun_mk (st:=s_part) l4 c4 k4
 have b4:=F4.binds (ps:=["weighing", "begin", "end"]) fun _ _ _ _ _ _ us hl => match us,hl with | [_,_,_],_ => rfl
 have F5:=fun_mk (st:=s_backward) l5 c5 k5
 have b5:=F5.binds (ps:=["weighing"]) fun _ _ _ _ _ _ us hl => match us,hl with | [_],_ => rfl
 have F6:=fun_mk (st:=s_sum_of_weights) l6 c6 k6
 have b6:=F6.binds (ps:=["one", "other"]) fun _ _ _ _ _ _ us hl => match us,hl with | [_,_],_ => rfl
 have F7:=fun_mk (st:=s_weights_times) l7 c7 k7
 have b7:=F7.binds (ps:=["weights", "times"]) fun _ _ _ _ _ _ us hl => match us,hl with | [_,_],_ => rfl
 have F8:=fun_mk (st:=s_rises_of) l8 c8 k8
 have b8:=F8.binds (ps:=["stretches"]) fun _ _ _ _ _ _ us hl => match us,hl with | [_],_ => rfl
 have F9:=fun_mk (st:=s_heaped) l9 c9 k9
 have b9:=F9.binds (ps:=["stretches"]) fun _ _ _ _ _ _ us hl => match us,hl with | [_],_ => rfl
 have F10:=fun_mk (st:=s_added) l10 c10 k10
 have b10:=F10.binds (ps:=["one", "other"]) fun _ _ _ _ _ _ us hl => match us,hl with | [_,_],_ => rfl
 have F11:=fun_mk (st:=s_put_to) l11 c11 k11
 have b11:=F11.binds (ps:=["weighing", "begin", "other"]) fun _ _ _ _ _ _ us hl => match us,hl with | [_,_,_],_ => rfl
 have F12:=fun_mk (st:=s_wound) l12 c12 k12
 have b12:=F12.binds (ps:=["weighing", "t"]) fun _ _ _ _ _ _ us hl => match us,hl with | [_,_],_ => rfl
 have F13:=fun_mk (st:=s_sorts) l13 c13 k13
 have b13:=F13.binds (ps:=["weighing"]) fun _ _ _ _ _ _ us hl => match us,hl with | [_],_ => rfl
 have F14:=fun_mk (st:=s__law_cell_at) l14 c14 k14
 have b14:=F14.binds (ps:=["_law_script", "_law_k"]) fun _ _ _ _ _ _ us hl => match us,hl with | [_,_],_ => rfl
 have F15:=fun_mk (st:=s__law_purse) l15 c15 k15
 have b15:=F15.binds (ps:=["_law_script", "_law_at"]) fun _ _ _ _ _ _ us hl => match us,hl with | [_,_],_ => rfl
 have F16:=fun_mk (st:=s__law_take) l16 c16 k16
 have b16:=F16.binds (ps:=["_law_draw", "_law_many_here"]) fun _ _ _ _ _ _ us hl => match us,hl with | [_,_],_ => rfl
 have F17:=fun_mk (st:=s__law_number) l17 c17 k17
 have b17:=F17.binds (ps:=["_law_draw"]) fun _ _ _ _ _ _ us hl => match us,hl with | [_],_ => rfl
 have F18:=fun_mk (st:=s__law_weights) l18 c18 k18
 have b18:=F18.binds (ps:=["_law_draw", "_law_wide_here"]) fun _ _ _ _ _ _ us hl => match us,hl with | [_,_],_ => rfl
 have F19:=fun_mk (st:=s__law_many) l19 c19 k19
 have b19:=F19.binds (ps:=["_law_draw"]) fun _ _ _ _ _ _ us hl => match us,hl with | [_],_ => rfl
 have F20:=fun_mk (st:=s__law_pieces) l20 c20 k20
 have b20:=F20.binds (ps:=["_law_draw", "_law_wide_here", "_law_most"]) fun _ _ _ _ _ _ us hl => match us,hl with | [_,_,_],_ => rfl
 have F21:=fun_mk (st:=s__law_shape) l21 c21 k21
 have b21:=F21.binds (ps:=["_law_pieces_here"]) fun _ _ _ _ _ _ us hl => match us,hl with | [_],_ => rfl
 have F22:=fun_mk (st:=s__law_wide) l22 c22 k22
 have b22:=F22.binds (ps:=["_law_draw"]) fun _ _ _ _ _ _ us hl => match us,hl with | [_],_ => rfl
 have F23:=fun_mk (st:=s__law_weighing) l23 c23 k23
 have b23:=F23.binds (ps:=["_law_draw", "_law_wide_here"]) fun _ _ _ _ _ _ us hl => match us,hl with | [_,_],_ => rfl
 have F24:=fun_mk (st:=s__law_ends) l24 c24 k24
 have b24:=F24.binds (ps:=["_law_weighing_here"]) fun _ _ _ _ _ _ us hl => match us,hl with | [_],_ => rfl
 have F25:=fun_mk (st:=s__law_plus) l25 c25 k25
 have b25:=F25.binds (ps:=["_law_one", "_law_other"]) fun _ _ _ _ _ _ us hl => match us,hl with | [_,_],_ => rfl
 have F26:=fun_mk (st:=s__law_fitted) l26 c26 k26
 have b26:=F26.binds (ps:=["_law_draw", "_law_wide_here", "_law_long"]) fun _ _ _ _ _ _ us hl => match us,hl with | [_,_,_],_ => rfl
 have F27:=fun_mk (st:=s__law_all) l27 c27 k27
 have b27:=F27.binds (ps:=["_law_told", "_law_wide_here"]) fun _ _ _ _ _ _ us hl => match us,hl with | [_,_],_ => rfl
 have F28:=fun_mk (st:=s__law_kept) l28 c28 k28
 have b28:=F28.binds (ps:=["_law_one", "_law_other", "_law_wide_here", "_law_t", "_law_more", "_law_spot"]) fun _ _ _ _ _ _ us hl => match us,hl with | [_,_,_,_,_,_],_ => rfl
 have F29:=fun_mk (st:=s_law) l29 c29 k29
 refine ⟨PySem.W.fnOf "law" "law" (defArgs s_law) (defBody s_law) (defScope s_law) .none kV29 dc29 pm29 an29 cd29 ct29,fun s v => .of_eq rfl,fun base _ _ => ?_⟩
 have G_law_cell_at:Kn l.prog w K mg base "_law_cell_at" _ ["_law_script", "_law_k"] _:=⟨⟨f14,_,ok_cell F14 M ,PySem.W.mg_of X G a14,k14,b14⟩⟩
 have G_law_purse:Kn l.prog w K mg base "_law_purse" _ ["_law_script", "_law_at"] _:=⟨⟨f15,_,ok_purse F15 M G_law_cell_at,PySem.W.mg_of X G a15,k15,b15⟩⟩
 have G_law_take:Kn l.prog w K mg base "_law_take" _ ["_law_draw", "_law_many_here"] _:=⟨⟨f16,_,ok_take F16 M ,PySem.W.mg_of X G a16,k16,b16⟩⟩
 have G_law_number:Kn l.prog w K mg base "_law_number" _ ["_law_draw"] _:=⟨⟨f17,_,ok_number F17 M G_law_take,PySem.W.mg_of X G a17,k17,b17⟩⟩
 have G_law_weights:Kn l.prog w K mg base "_law_weights" _ ["_law_draw", "_law_wide_here"] _:=⟨⟨f18,_,ok_weights F18 M G_law_number,PySem.W.mg_of X G a18,k18,b18⟩⟩
 have G_law_many:Kn l.prog w K mg base "_law_many" _ ["_law_draw"] _:=⟨⟨f19,_,ok_many F19 M G_law_take,PySem.W.mg_of X G a19,k19,b19⟩⟩
 have G_law_pieces:Kn l.prog w K mg base "_law_pieces" _ ["_law_draw", "_law_wide_here", "_law_most"] _:=⟨⟨f20,_,ok_pieces F20 M G_law_take G_law_weights G_law_many,PySem.W.mg_of X G a20,k20,b20⟩⟩
 have G_law_shape:Kn l.prog w K mg base "_law_shape" _ ["_law_pieces_here"] _:=⟨⟨f21,_,ok_shape F21 M ,PySem.W.mg_of X G a21,k21,b21⟩⟩
 have G_law_wide:Kn l.prog w K mg base "_law_wide" _ ["_law_draw"] _:=⟨⟨f22,_,ok_wide F22 M G_law_take,PySem.W.mg_of X G a22,k22,b22⟩⟩
 have G_law_weighing:Kn l.prog w K mg base "_law_weighing" _ ["_law_draw", "_law_wide_here"] _:=⟨⟨f23,_,ok_weighing F23 M G_law_take G_law_pieces G_law_shape,PySem.W.mg_of X G a23,k23,b23⟩⟩
 have G_law_ends:Kn l.prog w K mg base "_law_ends" _ ["_law_weighing_here"] _:=⟨⟨f24,_,ok_ends F24 M ,PySem.W.mg_of X G a24,k24,b24⟩⟩
 have Gshaped:Kn l.prog w K mg base "shaped" _ ["pieces"] _:=⟨⟨f0,_,ok_shaped F0 M ,PySem.W.mg_of X G a0,k0,b0⟩⟩
 have Glength:Kn l.prog w K mg base "length" _ ["weighing"] _:=⟨⟨f1,_,ok_length F1 M ,PySem.W.mg_of X G a1,k1,b1⟩⟩
 have Glaid_from:Kn l.prog w K mg base "laid_from" _ ["weighing", "begin"] _:=⟨⟨f3,_,ok_laid F3 M ,PySem.W.mg_of X G a3,k3,b3⟩⟩
 have Gpart:Kn l.prog w K mg base "part" _ ["weighing", "begin", "end"] _:=⟨⟨f4,_,ok_part F4 M Glaid_from Gshaped,PySem.W.mg_of X G a4,k4,b4⟩⟩
 have G_law_fitted:Kn l.prog w K mg base "_law_fitted" _ ["_law_draw", "_law_wide_here", "_law_long"] _:=⟨⟨f26,_,ok_fitted F26 M G_law_take G_law_weights G_law_shape GB,PySem.W.mg_of X G a26,k26,b26⟩⟩
 have Gsum_of_weights:Kn l.prog w K mg base "sum_of_weights" _ ["one", "other"] _:=⟨⟨f6,_,ok_sow F6 M GB,PySem.W.mg_of X G a6,k6,b6⟩⟩
 have G_law_plus:Kn l.prog w K mg base "_law_plus" _ ["_law_one", "_law_other"] _:=⟨⟨f25,_,ok_plus F25 M GB,PySem.W.mg_of X G a25,k25,b25⟩⟩
 have Gadded:Kn l.prog w K mg base "added" _ ["one", "other"] _:=⟨⟨f10,_,ok_added F10 M Glaid_from Gsum_of_weights Gshaped,PySem.W.mg_of X G a10,k10,b10⟩⟩
 have Gput_to:Kn l.prog w K mg base "put_to" _ ["weighing", "begin", "other"] _:=⟨⟨f11,_,ok_put F11 M Glength Gpart Gadded Gshaped,PySem.W.mg_of X G a11,k11,b11⟩⟩
 have Gweights_times:Kn l.prog w K mg base "weights_times" _ ["weights", "times"] _:=⟨⟨f7,_,ok_times F7 M ,PySem.W.mg_of X G a7,k7,b7⟩⟩
 have Grises_of:Kn l.prog w K mg base "rises_of" _ ["stretches"] _:=⟨⟨f8,_,ok_rises F8 M Gweights_times Gsum_of_weights,PySem.W.mg_of X G a8,k8,b8⟩⟩
 have Gheaped:Kn l.prog w K mg base "heaped" _ ["stretches"] _:=⟨⟨f9,_,ok_heaped F9 M Grises_of Gweights_times Gsum_of_weights Gshaped GB,PySem.W.mg_of X G a9,k9,b9⟩⟩
 have Gwound:Kn l.prog w K mg base "wound" _ ["weighing", "t"] _:=⟨⟨f12,_,ok_wound F12 M Glaid_from Gweights_times Gheaped GB,PySem.W.mg_of X G a12,k12,b12⟩⟩
 have Gbackward:Kn l.prog w K mg base "backward" _ ["weighing"] _:=⟨⟨f5,_,ok_backward F5 M ,PySem.W.mg_of X G a5,k5,b5⟩⟩
 have Gweights_at:Kn l.prog w K mg base "weights_at" _ ["weighing", "place"] _:=⟨⟨f2,_,ok_at F2 M ,PySem.W.mg_of X G a2,k2,b2⟩⟩
 have Gsorts:Kn l.prog w K mg base "sorts" _ ["weighing"] _:=⟨⟨f13,_,ok_sorts F13 M ,PySem.W.mg_of X G a13,k13,b13⟩⟩
 have G_law_all:Kn l.prog w K mg base "_law_all" _ ["_law_told", "_law_wide_here"] _:=⟨⟨f27,_,ok_all F27 M G_law_plus,PySem.W.mg_of X G a27,k27,b27⟩⟩
 have G_law_kept:Kn l.prog w K mg base "_law_kept" _ ["_law_one", "_law_other", "_law_wide_here", "_law_t", "_law_more", "_law_spot"] _:=⟨⟨f28,_,ok_kept F28 M G_law_all Gsorts Gadded G_law_plus Gwound Glength Gbackward Gshaped Gpart Gput_to Gweights_at,PySem.W.mg_of X G a28,k28,b28⟩⟩
 exact ok_law F29 M G_law_purse G_law_wide G_law_weighing G_law_many G_law_weights G_law_ends G_law_fitted G_law_take G_law_kept
theorem walk {l:PySem.W.OpenLaw} {q:Program} {loose:List Str} {XP:(Str→Option Value)→Heap→Prop} {YP:World→Heap→Prop} {d:DefRec} {K:Params→PySem.W.Frag} (hn:l.most=some 63) (hdf:d.params.defaults=[])
  (hY:∀ (w:World) (h:Heap),YP w h→(K w.params).In h)
  (F:∀ (w:World) (mg:Str→Option Value) (fa:Addr) (h:Heap),(K w.params).In h→h.Ns mainGlobals mg→mg d.name=some (.ref fa) →
   ∃ fd:FuncData,(∀ (s:Shared) (u:Value),BindsTo s fd ⟨[u],[]⟩ [("_law_script",u)])∧∀ base:Heap,(K w.params).In base→base.Ns mainGlobals mg→FnOk l.prog w (K w.params) mg base CX0 7 fa fd ["_law_script"] (spLaw (K w.params))) :
  PySem.W.WalkO q loose XP YP l.row.toRowW d [] (fun f vs => PySem.call f vs) :=
 L2.walk_of (n:=63) (k:=7) (x := "_law_script") (CX:=fun _ => CX0) (sp:=fun w => spLaw (K w.params)) hn (by decide) hdf ⟨rfl,by decide,by decide,rfl⟩ hY F (fun _ _ a ns hl _ hS => ⟨a,ns,rfl,hS,hl,fun _ => rfl⟩) fun _ _ _ _ _ z => z
end Toy
open PySem PySem.W PyProof.Rows
set_option maxRecDepth 100000 in
set_option maxHeartbeats 0 in
theorem PySem.Challenge.cw_farcords_k08_whole_weighings_keep_sums_holds : PySem.Challenge.rw_farcords_k08_whole_weighings_keep_sums.Holds := by
 w_on; o_law; k_head; (case hw => w_witness2)
 k_fill
 refine Toy.walk (l:=PySem.Challenge.rw_farcords_k08_whole_weighings_keep_sums) rfl rfl (fun w h Y => PySem.W.kIn_of Y) ?F
 case F =>
  intro w mg fa h KX G hmg
  refine' Toy.all_mk KX G hmg ?a0 ?l0 ?c0 ?k0 ?a1 ?l1 ?c1 ?k1 ?a2 ?l2 ?c2 ?k2 ?a3 ?l3 ?c3 ?k3 ?a4 ?l4 ?c4 ?k4 ?a5 ?l5 ?c5 ?k5 ?a6 ?l6 ?c6 ?k6 ?a7 ?l7 ?c7 ?k7 ?a8 ?l8 ?c8 ?k8 ?a9 ?l9 ?c9 ?k9 ?a10 ?l10 ?c10 ?k10 ?a11 ?l11 ?c11 ?k11 ?a12 ?l12 ?c12 ?k12 ?a13 ?l13 ?c13 ?k13 ?a14 ?l14 ?c14 ?k14 ?a15 ?l15 ?c15 ?k15 ?a16 ?l16 ?c16 ?k16 ?a17 ?l17 ?c17 ?k17 ?a18 ?l18 ?c18 ?k18 ?a19 ?l19 ?c19 ?k19 ?a20 ?l20 ?c20 ?k20 ?a21 ?l21 ?c21 ?k21 ?a22 ?l22 ?c22 ?k22 ?a23 ?l23 ?c23 ?k23 ?a24 ?l24 ?c24 ?k24 ?a25 ?l25 ?c25 ?k25 ?a26 ?l26 ?c26 ?k26 ?a27 ?l27 ?c27 ?k27 ?a28 ?l28 ?c28 ?k28 ?a29 ?l29 ?c29 ?k29 ?g_zip ?g_set ?g_divmod ?z_len ?z_range ?z_min ?z_max ?z_isinstance ?z_bool ?z_int ?z_tuple ?z_list ?z_str ?z_all ?z_sum ?z_sorted
  (case a0 => k_is)
  (case l0 => k_is)
  (case c0 => k_is)
  (case k0 => k_is)
  (case a1 => k_is)
  (case l1 => k_is)
  (case c1 => k_is)
  (case k1 => k_is)
  (case a2 => k_is)
  (case l2 => k_is)
  (case c2 => k_is)
  (case k2 => k_is)
  (case a3 => k_is)
  (case l3 => k_is)
  (case c3 => k_is)
  (case k3 => k_is)
  (case a4 => k_is)
  (case l4 => k_is)
  (case c4 => k_is)
  (case k4 => k_is)
  (case a5 => k_is)
  (case l5 => k_is)
  (case c5 => k_is)
  (case k5 => k_is)
  (case a6 => k_is)
  (case l6 => k_is)
  (case c6 => k_is)
  (case k6 => k_is)
  (case a7 => k_is)
  (case l7 => k_is)
  (case c7 => k_is)
  (case k7 => k_is)
  (case a8 => k_is)
  (case l8 => k_is)
  (case c8 => k_is)
  (case k8 => k_is)
  (case a9 => k_is)
  (case l9 => k_is)
  (case c9 => k_is)
  (case k9 => k_is)
  (case a10 => k_is)
  (case l10 => k_is)
  (case c10 => k_is)
  (case k10 => k_is)
  (case a11 => k_is)
  (case l11 => k_is)
  (case c11 => k_is)
  (case k11 => k_is)
  (case a12 => k_is)
  (case l12 => k_is)
  (case c12 => k_is)
  (case k12 => k_is)
  (case a13 => k_is)
  (case l13 => k_is)
  (case c13 => k_is)
  (case k13 => k_is)
  (case a14 => k_is)
  (case l14 => k_is)
  (case c14 => k_is)
  (case k14 => k_is)
  (case a15 => k_is)
  (case l15 => k_is)
  (case c15 => k_is)
  (case k15 => k_is)
  (case a16 => k_is)
  (case l16 => k_is)
  (case c16 => k_is)
  (case k16 => k_is)
  (case a17 => k_is)
  (case l17 => k_is)
  (case c17 => k_is)
  (case k17 => k_is)
  (case a18 => k_is)
  (case l18 => k_is)
  (case c18 => k_is)
  (case k18 => k_is)
  (case a19 => k_is)
  (case l19 => k_is)
  (case c19 => k_is)
  (case k19 => k_is)
  (case a20 => k_is)
  (case l20 => k_is)
  (case c20 => k_is)
  (case k20 => k_is)
  (case a21 => k_is)
  (case l21 => k_is)
  (case c21 => k_is)
  (case k21 => k_is)
  (case a22 => k_is)
  (case l22 => k_is)
  (case c22 => k_is)
  (case k22 => k_is)
  (case a23 => k_is)
  (case l23 => k_is)
  (case c23 => k_is)
  (case k23 => k_is)
  (case a24 => k_is)
  (case l24 => k_is)
  (case c24 => k_is)
  (case k24 => k_is)
  (case a25 => k_is)
  (case l25 => k_is)
  (case c25 => k_is)
  (case k25 => k_is)
  (case a26 => k_is)
  (case l26 => k_is)
  (case c26 => k_is)
  (case k26 => k_is)
  (case a27 => k_is)
  (case l27 => k_is)
  (case c27 => k_is)
  (case k27 => k_is)
  (case a28 => k_is)
  (case l28 => k_is)
  (case c28 => k_is)
  (case k28 => k_is)
  (case a29 => k_is)
  (case l29 => k_is)
  (case c29 => k_is)
  (case k29 => k_is)
  (case g_zip => k_is)
  (case g_set => k_is)
  (case g_divmod => k_is)
  (case z_len => k_is)
  (case z_range => k_is)
  (case z_min => k_is)
  (case z_max => k_is)
  (case z_isinstance => k_is)
  (case z_bool => k_is)
  (case z_int => k_is)
  (case z_tuple => k_is)
  (case z_list => k_is)
  (case z_str => k_is)
  (case z_all => k_is)
  (case z_sum => k_is)
  (case z_sorted => k_is)
#print axioms PySem.Challenge.cw_farcords_k08_whole_weighings_keep_sums_holds
