import PyProof.Rows.All
import Wide.All
import OpenK.AllK
import Wide.FinOn
import Lean
import PyProof.EqAt
import PyProof.EqKinds
import PyProof.TupleCall
import PyProof.NeData
import PyProof.ExcArgsOwn
import PyProof.ExcAttrAll.ValueError
import PyProof.ExcBaseAll.ValueError
import PyProof.SumAny
import PyProof.ReprRoads
import PyProof.CallStr
import PyProof.ReprLen
import PyProof.Rows.StrDigitsNeg
import PyProof.Rows.StrJoinMade
import PyProof.Rows.ZipGen
import PyProof.ListRange
import PyProof.TupleOfSeq
import PyProof.SetScanFacts
import PyProof.SetKind
import PyProof.Rows.SetFrom
import PyProof.SetRoads
import PyProof.Rows.SortShell
import PyProof.ListMulRoad
import PyProof.ListMulAny
import PyProof.FactsAll.tuple
import PyProof.RulesAssignMore
import PyProof.ZipIter
import PyProof.TupleIter
import PyProof.EnumFor
import PyProof.EnumMake
import PyProof.FitsBits
import KE.KDictList
import PyProof.Rows.SortShellK
import PyProof.TupleKey
import KE.KItemsList
import KE.KSortTup
import PyProof.Rows.ListMulR
import PyProof.FactsAll.list_2
import PyProof.FactsAll.list_4
import PyProof.Rows.BitMore
import PyProof.WalkInts
import PyProof.ListIndex
import PyProof.P3Eq
import PyProof.P3In
import PySem.Challenge.RW_farcords_k31_no_deeds
def PySem.W.Fast.tw344226155078138337 : Unit := ()
def PySem.W.Fast.tw3326603444470628865 : Unit := ()
def PySem.W.Fast.tw12469762979619139105 : Unit := ()
def PySem.W.Fast.tw15275318430430781089 : Unit := ()
def PySem.W.Fast.tw6607038606586179329 : Unit := ()
def PySem.W.Fast.tw2425898339291992897 : Unit := ()
def PySem.W.Fast.tw9857425172973594433 : Unit := ()
def PySem.W.Fast.tw5043503829161399137 : Unit := ()
def PySem.W.Fast.tw780376479510098785 : Unit := ()
def PySem.W.Fast.tw14370933083977188225 : Unit := ()
def PySem.W.Fast.tw17974971675508716417 : Unit := ()
def PySem.W.Fast.tw8700131062369884097 : Unit := ()
def PySem.W.Fast.tw10477322069192855521 : Unit := ()
def PySem.W.Fast.tw11555023328349987841 : Unit := ()
def PySem.W.Fast.tw11518976035839853761 : Unit := ()
def PySem.W.Fast.tw14117058363148301537 : Unit := ()
def PySem.W.Fast.tw13363524098546458849 : Unit := ()
def PySem.W.Fast.tw5006211502548249921 : Unit := ()
def PySem.W.Fast.tw17483104508798188865 : Unit := ()
def PySem.W.Fast.tw5744289834066358625 : Unit := ()
def PySem.W.Fast.tw4874346019051430305 : Unit := ()
def PySem.W.Fast.tw17118864332771257793 : Unit := ()
def PySem.W.Fast.tw12661077691784918688 : Unit := ()
def PySem.W.Fast.tw5346821242022725376 : Unit := ()
def PySem.W.Fast.tw10410562039381976832 : Unit := ()
def PySem.W.Fast.tw594534710633100352 : Unit := ()
def PySem.W.Fast.tw8335391104891318432 : Unit := ()
def PySem.W.Fast.tw7030957248476011712 : Unit := ()
def PySem.W.Fast.tw8309616837048620224 : Unit := ()
def PySem.W.Fast.tw7013173926223876480 : Unit := ()
def PySem.W.Fast.tw1525105867883185651 : Unit := ()
def PySem.W.Fast.tw5279281174052131315 : Unit := ()
def PySem.W.Fast.tw1848427699476780595 : Unit := ()
def PySem.W.Fast.tw14850100725419885107 : Unit := ()
def PySem.W.Fast.tw10232380210353874515 : Unit := ()
def PySem.W.Fast.tw230820992531930899 : Unit := ()
def PySem.W.Fast.tw999744200645093299 : Unit := ()
def PySem.W.Fast.tw11896571218856307699 : Unit := ()
def PySem.W.Fast.tw16077412698926948403 : Unit := ()
def PySem.W.Fast.tw3365923275032652851 : Unit := ()
def PySem.W.Fast.tw7857380041663475923 : Unit := ()
def PySem.W.Fast.tw3314812881606062323 : Unit := ()
def PySem.W.Fast.tw11143352698660367667 : Unit := ()
def PySem.W.Fast.tw2282558954577925042 : Unit := ()
def PySem.W.Fast.tw4456438197509891090 : Unit := ()
def PySem.W.Fast.tw18022496543360045138 : Unit := ()
def PySem.W.Fast.tw10983565813487787090 : Unit := ()
def PySem.W.Fast.tw17610615131839582354 : Unit := ()
def PySem.W.Fast.tw15403176614835811506 : Unit := ()
def PySem.W.Fast.tw3974293722398286002 : Unit := ()
def PySem.W.Fast.tw4617213955417729234 : Unit := ()
def PySem.W.Fast.tw13674390153686648082 : Unit := ()
def PySem.W.Fast.tw10292900500215611666 : Unit := ()
def PySem.W.Fast.tw5274606788974561618 : Unit := ()
def PySem.W.Fast.tw8943416795071969810 : Unit := ()
def PySem.W.Fast.tw10431641877798300210 : Unit := ()
def PySem.W.Fast.tw7857852235689176786 : Unit := ()
def PySem.W.Fast.tw2528032312572689202 : Unit := ()
def PySem.W.Fast.tw9309269116230655773 : Unit := ()
def PySem.W.Fast.tw17405117227265355581 : Unit := ()
def PySem.W.Fast.tw11811639472725965629 : Unit := ()
def PySem.W.Fast.tw17502065098165733373 : Unit := ()
def PySem.W.Fast.tw7825376338375200925 : Unit := ()
def PySem.W.Fast.tw12051288334622534909 : Unit := ()
def PySem.W.Fast.tw8910411639425628445 : Unit := ()
def PySem.W.Fast.tw769336367322928637 : Unit := ()
def PySem.W.Fast.tw1364193409516687933 : Unit := ()
def PySem.W.Fast.tw84140071011731069 : Unit := ()
def PySem.W.Fast.tw14162993692303920765 : Unit := ()
def PySem.W.Fast.tw1303410105194689564 : Unit := ()
def PySem.W.Fast.tw12269299014939742236 : Unit := ()
def PySem.W.Fast.tw15326257661156707388 : Unit := ()
def PySem.W.Fast.tw7816217486380886140 : Unit := ()
def PySem.W.Fast.tw16627347706152733916 : Unit := ()
def PySem.W.Fast.tw9249465460881825052 : Unit := ()
def PySem.W.Fast.tw1879203396625771804 : Unit := ()
def PySem.W.Fast.tw8568408345136795964 : Unit := ()
def PySem.W.Fast.tw18176001991109922172 : Unit := ()
def PySem.W.Fast.tw10883901422033949212 : Unit := ()
def PySem.W.Fast.tw5713985613244595772 : Unit := ()
def PySem.W.Fast.tw15492856958371202876 : Unit := ()
def PySem.W.Fast.tw8338676867043743548 : Unit := ()
def PySem.W.Fast.tw17674756776561923055 : Unit := ()
def PySem.W.Fast.tw8059622933365577839 : Unit := ()
def PySem.W.Fast.tw10700317990127784591 : Unit := ()
def PySem.W.Fast.tw5100657419882171183 : Unit := ()
def PySem.W.Fast.tw12732640618742638479 : Unit := ()
def PySem.W.Fast.tw14853511024817885103 : Unit := ()
def PySem.W.Fast.tw3305997599920729039 : Unit := ()
def PySem.W.Fast.tw17993693965220284782 : Unit := ()
def PySem.W.Fast.tw3838315028616744398 : Unit := ()
def PySem.W.Fast.tw7337222803972693838 : Unit := ()
def PySem.W.Fast.tw344508812264620878 : Unit := ()
def PySem.W.Fast.tw17959816044354178894 : Unit := ()
def PySem.W.Fast.tw5123543424581727118 : Unit := ()
def PySem.W.Fast.tw7289090736325668782 : Unit := ()
def PySem.W.Fast.tw17400069670979709870 : Unit := ()
def PySem.W.Fast.tw10544502545044949070 : Unit := ()
def PySem.W.Fast.tw6888198333374234841 : Unit := ()
def PySem.W.Fast.tw2771870300174480729 : Unit := ()
def PySem.W.Fast.tw11311901833453073817 : Unit := ()
def PySem.W.Fast.tw8395689245019467225 : Unit := ()
def PySem.W.Fast.tw12351544915105134169 : Unit := ()
def PySem.W.Fast.tw4266658341747892953 : Unit := ()
def PySem.W.Fast.tw2193582234189047577 : Unit := ()
def PySem.W.Fast.tw16984246745907781465 : Unit := ()
def PySem.W.Fast.tw15695620977519935321 : Unit := ()
def PySem.W.Fast.tw9359088575110436729 : Unit := ()
def PySem.W.Fast.tw15362268457552889785 : Unit := ()
def PySem.W.Fast.tw11224830882031264729 : Unit := ()
def PySem.W.Fast.tw8948307001068427385 : Unit := ()
def PySem.W.Fast.tw11472581170142657144 : Unit := ()
def PySem.W.Fast.tw8967236897216561880 : Unit := ()
def PySem.W.Fast.tw6207548586977265400 : Unit := ()
def PySem.W.Fast.tw17894012046258035480 : Unit := ()
def PySem.W.Fast.tw9062841904823874360 : Unit := ()
def PySem.W.Fast.tw13194810758861901624 : Unit := ()
def PySem.W.Fast.tw6744184730652467000 : Unit := ()
def PySem.W.Fast.tw1155588716163233624 : Unit := ()
def PySem.W.Fast.tw17610920677842666424 : Unit := ()
def PySem.W.Fast.tw2000305318483469240 : Unit := ()
def PySem.W.Fast.tw6683923191339095000 : Unit := ()
def PySem.W.Fast.tw10145854826015115448 : Unit := ()
def PySem.W.Fast.tw17873114399624356088 : Unit := ()
def PySem.W.Fast.tw13141315119987487992 : Unit := ()
def PySem.W.Fast.tw4393470788858111256 : Unit := ()
def PySem.W.Fast.tw1800957059677093208 : Unit := ()
def PySem.W.Fast.tw10134404229642243448 : Unit := ()
def PySem.W.Fast.tw5997170591476932024 : Unit := ()
def PySem.W.Fast.tw13916913793859539384 : Unit := ()
def PySem.W.Fast.tw2371592996711785912 : Unit := ()
def PySem.W.Fast.tw1269421533302066648 : Unit := ()
def PySem.W.Fast.tw8212161704437463691 : Unit := ()
def PySem.W.Fast.tw9332317408262972075 : Unit := ()
def PySem.W.Fast.tw8545206507291864747 : Unit := ()
def PySem.W.Fast.tw7394245548256661195 : Unit := ()
def PySem.W.Fast.tw46917597625101131 : Unit := ()
def PySem.W.Fast.tw16401080865441533003 : Unit := ()
def PySem.W.Fast.tw8345894308391920811 : Unit := ()
def PySem.W.Fast.tw11092534544993134763 : Unit := ()
def PySem.W.Fast.tw5473341988537049515 : Unit := ()
def PySem.W.Fast.tw5445073738663912907 : Unit := ()
def PySem.W.Fast.tw12421361296899331626 : Unit := ()
def PySem.W.Fast.tw1554068694591655498 : Unit := ()
def PySem.W.Fast.tw1911848257808089738 : Unit := ()
def PySem.W.Fast.tw7858647849261245386 : Unit := ()
def PySem.W.Fast.tw811616453965200362 : Unit := ()
def PySem.W.Fast.tw4059559085529475082 : Unit := ()
def PySem.W.Fast.tw13547147041314718762 : Unit := ()
def PySem.W.Fast.tw14358438686914481194 : Unit := ()
def PySem.W.Fast.tw15998287171313413258 : Unit := ()
def PySem.W.Fast.tw7456546546130941098 : Unit := ()
def PySem.W.Fast.tw9820263384058654186 : Unit := ()
def PySem.W.Fast.tw12834623944735080938 : Unit := ()
def PySem.W.Fast.tw8753227478608848213 : Unit := ()
def PySem.W.Fast.tw16996365851291889013 : Unit := ()
def PySem.W.Fast.tw3572133890834054805 : Unit := ()
def PySem.W.Fast.tw13028384691470182069 : Unit := ()
def PySem.W.Fast.tw3734951376584736565 : Unit := ()
def PySem.W.Fast.tw3739168061074166581 : Unit := ()
def PySem.W.Fast.tw1037798468767151925 : Unit := ()
def PySem.W.Fast.tw17719154716887598997 : Unit := ()
def PySem.W.Fast.tw14871180375431296917 : Unit := ()
def PySem.W.Fast.tw7401027069428327381 : Unit := ()
def PySem.W.Fast.tw12198640046440272949 : Unit := ()
def PySem.W.Fast.tw12717610814740318389 : Unit := ()
def PySem.W.Fast.tw17659190405803613493 : Unit := ()
def PySem.W.Fast.tw6674231034953232148 : Unit := ()
def PySem.W.Fast.tw14069480477912766228 : Unit := ()
def PySem.W.Fast.tw1369391136720524116 : Unit := ()
def PySem.W.Fast.tw11336815649380640724 : Unit := ()
def PySem.W.Fast.tw17494714503515146260 : Unit := ()
def PySem.W.Fast.tw10848934025812400180 : Unit := ()
def PySem.W.Fast.tw9807877050131990644 : Unit := ()
def PySem.W.Fast.tw17826774689306893492 : Unit := ()
def PySem.W.Fast.tw707884172791144660 : Unit := ()
def PySem.W.Fast.tw15324490695587640564 : Unit := ()
def PySem.W.Fast.tw7415370694534572372 : Unit := ()
def PySem.W.Fast.tw516801624306379092 : Unit := ()
def PySem.W.Fast.tw15987703931495965140 : Unit := ()
def PySem.W.Fast.tw17222092899668833844 : Unit := ()
def PySem.W.Fast.tw11647564462654386772 : Unit := ()
def PySem.W.Fast.tw4604309445233987252 : Unit := ()
def PySem.W.Fast.tw2807055498683132743 : Unit := ()
def PySem.W.Fast.tw14954270626811200359 : Unit := ()
def PySem.W.Fast.tw12270968732754387847 : Unit := ()
def PySem.W.Fast.tw3859997702097028103 : Unit := ()
def PySem.W.Fast.tw7184256562294805671 : Unit := ()
def PySem.W.Fast.tw5275898097289540903 : Unit := ()
def PySem.W.Fast.tw13289156426561799463 : Unit := ()
def PySem.W.Fast.tw6476721802127758663 : Unit := ()
def PySem.W.Fast.tw16878080794414893383 : Unit := ()
def PySem.W.Fast.tw976416672720131591 : Unit := ()
def PySem.W.Fast.tw3925190326276539943 : Unit := ()
def PySem.W.Fast.tw5261642129381857895 : Unit := ()
def PySem.W.Fast.tw1896558313993571686 : Unit := ()
def PySem.W.Fast.tw13791299375338384870 : Unit := ()
def PySem.W.Fast.tw17754732445970469382 : Unit := ()
def PySem.W.Fast.tw10882280605072900678 : Unit := ()
def PySem.W.Fast.tw12488398679965013702 : Unit := ()
def PySem.W.Fast.tw15193866534540957542 : Unit := ()
def PySem.W.Fast.tw17511040628648112006 : Unit := ()
def PySem.W.Fast.tw6762018579282432966 : Unit := ()
def PySem.W.Fast.tw8085887798813932433 : Unit := ()
def PySem.W.Fast.tw5976838894122566673 : Unit := ()
def PySem.W.Fast.tw17010108060707954737 : Unit := ()
def PySem.W.Fast.tw3031910037845464369 : Unit := ()
def PySem.W.Fast.tw14183963684027837777 : Unit := ()
def PySem.W.Fast.tw3436716519549842801 : Unit := ()
def PySem.W.Fast.tw4411804408682839601 : Unit := ()
def PySem.W.Fast.tw4643152377780927025 : Unit := ()
def PySem.W.Fast.tw5773016154030517809 : Unit := ()
def PySem.W.Fast.tw13002169983765260945 : Unit := ()
def PySem.W.Fast.tw2480311192012945041 : Unit := ()
def PySem.W.Fast.tw17134446414152809137 : Unit := ()
def PySem.W.Fast.tw12131224963697046289 : Unit := ()
def PySem.W.Fast.tw10221793313449911504 : Unit := ()
def PySem.W.Fast.tw11045847871919991024 : Unit := ()
def PySem.W.Fast.tw10916455744696685808 : Unit := ()
def PySem.W.Fast.tw11139740759602109712 : Unit := ()
def PySem.W.Fast.tw8738999512381304112 : Unit := ()
def PySem.W.Fast.tw6275505925727721936 : Unit := ()
def PySem.W.Fast.tw721389733945749232 : Unit := ()
def PySem.W.Fast.tw17492641314334143248 : Unit := ()
def PySem.W.Fast.tw13697365651267926864 : Unit := ()
def PySem.W.Fast.tw6453136692165827440 : Unit := ()
def PySem.W.Fast.tw2590441001310903184 : Unit := ()
def PySem.W.Fast.tw4267351845024107715 : Unit := ()
def PySem.W.Fast.tw9603094722600842531 : Unit := ()
def PySem.W.Fast.tw13473985217282956675 : Unit := ()
def PySem.W.Fast.tw14639846676249843139 : Unit := ()
def PySem.W.Fast.tw6699564610498988515 : Unit := ()
def PySem.W.Fast.tw8238059501308736035 : Unit := ()
def PySem.W.Fast.tw3605770312758603331 : Unit := ()
def PySem.W.Fast.tw16613786444775694915 : Unit := ()
def PySem.W.Fast.tw17709344480679320131 : Unit := ()
def PySem.W.Fast.tw7636677526818488227 : Unit := ()
def PySem.W.Fast.tw698430901050385347 : Unit := ()
def PySem.W.Fast.tw8501705318316061699 : Unit := ()
def PySem.W.Fast.tw4348035777284964419 : Unit := ()
def PySem.W.Fast.tw2826886281757941314 : Unit := ()
def PySem.W.Fast.tw12566856011850179138 : Unit := ()
def PySem.W.Fast.tw2446029338175804066 : Unit := ()
def PySem.W.Fast.tw13503703073997619906 : Unit := ()
def PySem.W.Fast.tw17062200645600025378 : Unit := ()
def PySem.W.Fast.tw17299015989699912514 : Unit := ()
def PySem.W.Fast.tw11641373821120542562 : Unit := ()
def PySem.W.Fast.tw8336936687690742786 : Unit := ()
def PySem.W.Fast.tw4183855024047915138 : Unit := ()
def PySem.W.Fast.tw8643802742481621282 : Unit := ()
def PySem.W.Fast.tw17299273997014333858 : Unit := ()
def PySem.W.Fast.tw8029765410712648194 : Unit := ()
def PySem.W.Fast.tw11678422611430315373 : Unit := ()
def PySem.W.Fast.tw18004975813105678733 : Unit := ()
def PySem.W.Fast.tw12550344532145119789 : Unit := ()
def PySem.W.Fast.tw13072014300952083053 : Unit := ()
def PySem.W.Fast.tw2967096886500989581 : Unit := ()
def PySem.W.Fast.tw8456415155079167629 : Unit := ()
def PySem.W.Fast.tw12315427391600177965 : Unit := ()
def PySem.W.Fast.tw14614574656217802605 : Unit := ()
def PySem.W.Fast.tw9155283355064661965 : Unit := ()
def PySem.W.Fast.tw14620903052736792685 : Unit := ()
def PySem.W.Fast.tw159236345450696813 : Unit := ()
def PySem.W.Fast.tw15638335298577161517 : Unit := ()
def PySem.W.Fast.tw16153986194240678189 : Unit := ()
def PySem.W.Fast.tw8907455383581256492 : Unit := ()
def PySem.W.Fast.tw10012003395796006732 : Unit := ()
def PySem.W.Fast.tw14002954814382503756 : Unit := ()
def PySem.W.Fast.tw12158645005987898188 : Unit := ()
def PySem.W.Fast.tw17148565236595542924 : Unit := ()
def PySem.W.Fast.tw11413456450282176396 : Unit := ()
def PySem.W.Fast.tw13820902275896303500 : Unit := ()
def PySem.W.Fast.tw2299787873718697900 : Unit := ()
def PySem.W.Fast.tw2884175390697188268 : Unit := ()
def PySem.W.Fast.tw1179450568440394700 : Unit := ()
def PySem.W.Fast.tw9868858771666250700 : Unit := ()
def PySem.W.Fast.tw652858935825541068 : Unit := ()
def PySem.W.Fast.tw11981076402843461708 : Unit := ()
def PySem.W.Fast.tw7850645075486808268 : Unit := ()
def PySem.W.Fast.tw1585780875568751884 : Unit := ()
def PySem.W.Fast.tw11012442048831286604 : Unit := ()
def PySem.W.Fast.tw4637123482537002348 : Unit := ()
def PySem.W.Fast.tw16029039815967116652 : Unit := ()
def PySem.W.Fast.tw5239849246262253996 : Unit := ()
def PySem.W.Fast.tw13368771391394241004 : Unit := ()
def PySem.W.Fast.tw9253609312807981676 : Unit := ()
def PySem.W.Fast.tw170979874504591711 : Unit := ()
def PySem.W.Fast.tw16283833554842563135 : Unit := ()
def PySem.W.Fast.tw17777069898563745407 : Unit := ()
def PySem.W.Fast.tw18405225899986715327 : Unit := ()
def PySem.W.Fast.tw287728777095485151 : Unit := ()
def PySem.W.Fast.tw12023916697977381599 : Unit := ()
def PySem.W.Fast.tw14045347964114925311 : Unit := ()
def PySem.W.Fast.tw3823011833017750687 : Unit := ()
def PySem.W.Fast.tw17550554682552600735 : Unit := ()
def PySem.W.Fast.tw6208640287803980991 : Unit := ()
def PySem.W.Fast.tw4578724596643679966 : Unit := ()
def PySem.W.Fast.tw12120500883956737790 : Unit := ()
def PySem.W.Fast.tw14126239355302936350 : Unit := ()
def PySem.W.Fast.tw12004856550094230302 : Unit := ()
def PySem.W.Fast.tw1563892430364230462 : Unit := ()
def PySem.W.Fast.tw12129523883974818654 : Unit := ()
def PySem.W.Fast.tw12253393727142132670 : Unit := ()
def PySem.W.Fast.tw17208402939461629022 : Unit := ()
def PySem.W.Fast.tw11207665860280962462 : Unit := ()
def PySem.W.Fast.tw9891056011046940094 : Unit := ()
def PySem.W.Fast.tw9536788521516505662 : Unit := ()
def PySem.W.Fast.tw15527675594837644958 : Unit := ()
def PySem.W.Fast.tw3458360055057102526 : Unit := ()
def PySem.W.Fast.tw12940709291676304937 : Unit := ()
def PySem.W.Fast.tw14832932077203804905 : Unit := ()
def PySem.W.Fast.tw4934815078462325545 : Unit := ()
def PySem.W.Fast.tw9303348067352337289 : Unit := ()
def PySem.W.Fast.tw16967062469773390889 : Unit := ()
def PySem.W.Fast.tw5328877867020481609 : Unit := ()
def PySem.W.Fast.tw13776722632238044393 : Unit := ()
def PySem.W.Fast.tw9063836195411099113 : Unit := ()
def PySem.W.Fast.tw12887049277677712264 : Unit := ()
def PySem.W.Fast.tw14938997877554715688 : Unit := ()
def PySem.W.Fast.tw4524551681025823784 : Unit := ()
def PySem.W.Fast.tw5325210104975502568 : Unit := ()
def PySem.W.Fast.tw12867063372926877224 : Unit := ()
def PySem.W.Fast.tw3694746099436550696 : Unit := ()
def PySem.W.Fast.tw15320181806813250395 : Unit := ()
def PySem.W.Fast.tw2150743651331165051 : Unit := ()
def PySem.W.Fast.tw2424211203091272827 : Unit := ()
def PySem.W.Fast.tw347249177131716731 : Unit := ()
def PySem.W.Fast.tw11502211808611408059 : Unit := ()
def PySem.W.Fast.tw12485836692523200827 : Unit := ()
def PySem.W.Fast.tw2142588577042805179 : Unit := ()
def PySem.W.Fast.tw1606188072534130107 : Unit := ()
def PySem.W.Fast.tw5636232748821077531 : Unit := ()
def PySem.W.Fast.tw8700556194477571675 : Unit := ()
def PySem.W.Fast.tw3207602338743784027 : Unit := ()
def PySem.W.Fast.tw15586779451988599387 : Unit := ()
def PySem.W.Fast.tw7376714780816403099 : Unit := ()
def PySem.W.Fast.tw6506756401390031515 : Unit := ()
def PySem.W.Fast.tw1433774400687259451 : Unit := ()
def PySem.W.Fast.tw936743768131767578 : Unit := ()
def PySem.W.Fast.tw753599543300875578 : Unit := ()
def PySem.W.Fast.tw938299642188124474 : Unit := ()
def PySem.W.Fast.tw8755793154852514138 : Unit := ()
def PySem.W.Fast.tw14294706322223164858 : Unit := ()
def PySem.W.Fast.tw5028509964393294330 : Unit := ()
def PySem.W.Fast.tw3665490853597274906 : Unit := ()
def PySem.W.Fast.tw5011688597853400922 : Unit := ()
def PySem.W.Fast.tw17944093598142713722 : Unit := ()
def PySem.W.Fast.tw16215770575844259834 : Unit := ()
def PySem.W.Fast.tw7714990294189084698 : Unit := ()
def PySem.W.Fast.tw12048591578697898074 : Unit := ()
def PySem.W.Fast.tw15630798939117514938 : Unit := ()
def PySem.W.Fast.tw11449216684461918213 : Unit := ()
def PySem.W.Fast.tw16822730451460065413 : Unit := ()
def PySem.W.Fast.tw16070636729449018533 : Unit := ()
def PySem.W.Fast.tw15174690758956694725 : Unit := ()
def PySem.W.Fast.tw12087450367058353413 : Unit := ()
def PySem.W.Fast.tw12347715868415331781 : Unit := ()
def PySem.W.Fast.tw16496847537547018981 : Unit := ()
def PySem.W.Fast.tw5593540814833190725 : Unit := ()
def PySem.W.Fast.tw16432089175791026053 : Unit := ()
def PySem.W.Fast.tw1518329928457997732 : Unit := ()
def PySem.W.Fast.tw18147029327027528196 : Unit := ()
def PySem.W.Fast.tw14800937062813454916 : Unit := ()
def PySem.W.Fast.tw10436194197712893572 : Unit := ()
def PySem.W.Fast.tw8743421781724835524 : Unit := ()
def PySem.W.Fast.tw15619789205482707812 : Unit := ()
def PySem.W.Fast.tw12368307221499900868 : Unit := ()
def PySem.W.Fast.tw6318666733415114692 : Unit := ()
def PySem.W.Fast.tw15461756053538468868 : Unit := ()
def PySem.W.Fast.tw10224655292813021188 : Unit := ()
def PySem.W.Fast.tw7227738749540601892 : Unit := ()
def PySem.W.Fast.tw16670925510562722884 : Unit := ()
def PySem.W.Fast.tw8639390643203369220 : Unit := ()
def PySem.W.Fast.tw1292983943320449380 : Unit := ()
def PySem.W.Fast.tw3995779489839006103 : Unit := ()
def PySem.W.Fast.tw15203006030026025399 : Unit := ()
def PySem.W.Fast.tw13590970127931637271 : Unit := ()
def PySem.W.Fast.tw896738223184257815 : Unit := ()
def PySem.W.Fast.tw200658074786566999 : Unit := ()
def PySem.W.Fast.tw3024994939616340855 : Unit := ()
def PySem.W.Fast.tw4187744205711336407 : Unit := ()
def PySem.W.Fast.tw3563263327401012279 : Unit := ()
def PySem.W.Fast.tw5745290356238963831 : Unit := ()
def PySem.W.Fast.tw8713429301930721431 : Unit := ()
def PySem.W.Fast.tw18249277483766764727 : Unit := ()
def PySem.W.Fast.tw6668909154037746935 : Unit := ()
def PySem.W.Fast.tw6402683261367874839 : Unit := ()
def PySem.W.Fast.tw14293301729795828502 : Unit := ()
def PySem.W.Fast.tw11247198719876082486 : Unit := ()
def PySem.W.Fast.tw5339252743198745558 : Unit := ()
def PySem.W.Fast.tw18322880944708607958 : Unit := ()
def PySem.W.Fast.tw639631007719881718 : Unit := ()
def PySem.W.Fast.tw2436522770371544278 : Unit := ()
def PySem.W.Fast.tw6219499755654862070 : Unit := ()
def PySem.W.Fast.tw12158478327650104694 : Unit := ()
def PySem.W.Fast.tw14691232216694303126 : Unit := ()
def PySem.W.Fast.tw8840431425519063446 : Unit := ()
def PySem.W.Fast.tw10958755656754977302 : Unit := ()
def PySem.W.Fast.tw7014370805233006134 : Unit := ()
set_option Elab.async false
set_option linter.all false
set_option maxRecDepth 100000
namespace L2
open PySem PySem.Spec PyProof.Rows
abbrev Key := Sum Int Str
def keyIs : Key → Value → Bool
  | .inl k, v => Value.isInt k v
  | .inr x, v => Value.isStrOf x v
def keyH (w : World) : Key → Int
  | .inl k => hashInt k
  | .inr x => hashStr w x
theorem keyIs_shape : ∀ {k : Key} {v : Value}, keyIs k v = true → (∃ i t, k = Sum.inl i ∧ v = Value.int i t) ∨ (∃ x t, k = Sum.inr x ∧ v = Value.str x t)
  | .inl i, v, h => by
    obtain ⟨t, e⟩ := Value.isInt_shape (k := i) (v := v) h
    exact .inl ⟨i, t, rfl, e⟩
  | .inr x, v, h => by
    obtain ⟨t, e⟩ := Value.isStrOf_shape (x := x) (v := v) h
    exact .inr ⟨x, t, rfl, e⟩
theorem keyIs_int (i : Int) (t : Tok) : keyIs (.inl i) (.int i t) = true := by simp [keyIs, Value.isInt]
theorem keyIs_str (x : Str) (t : Tok) : keyIs (.inr x) (.str x t) = true := by simp [keyIs, Value.isStrOf]
theorem key_ll (a b : Int) : decide ((Sum.inl a : Key) = Sum.inl b) = (a == b) := by
  by_cases e : a = b
  · subst e; simp
  · have h : ¬ (Sum.inl a : Key) = Sum.inl b := fun q => e (Sum.inl.inj q)
    rw [decide_eq_false h]
    exact (beq_eq_false_iff_ne.mpr e).symm
theorem key_rr (a b : Str) : decide ((Sum.inr a : Key) = Sum.inr b) = decide (a = b) := by
  by_cases e : a = b
  · subst e; simp
  · have h : ¬ (Sum.inr a : Key) = Sum.inr b := fun q => e (Sum.inr.inj q)
    rw [decide_eq_false h, decide_eq_false e]
theorem key_lr (a : Int) (b : Str) : decide ((Sum.inl a : Key) = Sum.inr b) = false := decide_eq_false (fun q => nomatch q)
theorem key_rl (a : Str) (b : Int) : decide ((Sum.inr a : Key) = Sum.inl b) = false := decide_eq_false (fun q => nomatch q)
def mixKind (prog : Program) (w : World) : PySem.KeyKind prog w Key where
  is := keyIs
  hash := keyH w
  inj := fun v a b ha hb => by
    rcases keyIs_shape ha with ⟨i, t, rfl, rfl⟩ | ⟨x, t, rfl, rfl⟩
    · rcases keyIs_shape hb with ⟨j, u, rfl, e⟩ | ⟨y, u, rfl, e⟩
      · injection e with e1 _; rw [e1]
      · exact nomatch e
    · rcases keyIs_shape hb with ⟨j, u, rfl, e⟩ | ⟨y, u, rfl, e⟩
      · exact nomatch e
      · injection e with e1 _; rw [e1]
  byValue := fun k v h => by
    rcases keyIs_shape h with ⟨i, t, rfl, rfl⟩ | ⟨x, t, rfl, rfl⟩ <;> rfl
  pyHash := fun hv h => by
    rcases keyIs_shape hv with ⟨i, t, rfl, rfl⟩ | ⟨x, t, rfl, rfl⟩
    · exact wpAny_pyHash_int h
    · exact wpAny_pyHash_str h
  eqBool := fun hu hv h => by
    rcases keyIs_shape hu with ⟨i, t, rfl, rfl⟩ | ⟨x, t, rfl, rfl⟩
    · rcases keyIs_shape hv with ⟨j, u, rfl, rfl⟩ | ⟨y, u, rfl, rfl⟩
      · rw [key_ll] at h; exact wpAny_eqBool_int h
      · rw [key_lr] at h; exact SeqAt.EqAt.int_str i t y u _ _ _ _ h
    · rcases keyIs_shape hv with ⟨j, u, rfl, rfl⟩ | ⟨y, u, rfl, rfl⟩
      · rw [key_rl] at h; exact SeqAt.EqAt.str_int x t j u _ _ _ _ h
      · rw [key_rr] at h; exact wpAny_eqBool_str h
  «strs» := fun k x t v h => by
    rcases keyIs_shape h with ⟨i, u, rfl, e⟩ | ⟨y, u, rfl, e⟩
    · exact nomatch e
    · injection e with e1 _
      subst e1
      cases v <;> rfl
theorem mixKind_int (prog : Program) (w : World) (i : Int) (t : Tok) : (mixKind prog w).is (.inl i) (.int i t) = true := keyIs_int i t
theorem mixKind_str (prog : Program) (w : World) (x : Str) (t : Tok) : (mixKind prog w).is (.inr x) (.str x t) = true := keyIs_str x t
end L2
namespace L2
open PySem PySem.Spec PyProof.Rows
inductive V where
  | non | bl (b : Bool) | int (i : Int) | str (x : Str) | byt (b : Array UInt8) | flt (b : UInt64) | ref (a : Addr) | ty (n : String)
  deriving DecidableEq
def RelV : V → Value → Prop
  | .non, u => u = Value.none
  | .bl b, u => u = Value.bool b
  | .int i, u => ∃ t, u = Value.int i t
  | .str x, u => ∃ t, u = Value.str x t
  | .byt b, u => ∃ t, u = Value.bytes b t
  | .flt b, u => ∃ t, u = Value.float b t
  | .ref a, u => u = Value.ref a
  | .ty n, u => u = Value.type n
abbrev Vals : List V → List Value → Prop := Paired RelV
theorem Vals.length {xs : List V} {us : List Value} (r : Vals xs us) : xs.length = us.length := Paired.length r
theorem Vals.get : ∀ {xs : List V} {us : List Value} {i : Nat} {x : V}, Vals xs us → xs[i]? = some x → ∃ u, us[i]? = some u ∧ RelV x u
  | _, _, _, _, .nil, e => by simp at e
  | _, _, 0, _, .cons r _, e => by simp at e; subst e; exact ⟨_, rfl, r⟩
  | _, _, i + 1, x, .cons _ t, e => by
    obtain ⟨u, h1, h2⟩ := Vals.get (i := i) (x := x) t (by simpa using e)
    exact ⟨u, by simpa using h1, h2⟩
theorem Vals.set {x : V} {u : Value} (r : RelV x u) : ∀ {xs : List V} {us : List Value} (i : Nat), Vals xs us → Vals (xs.set i x) (us.set i u)
  | _, _, _, .nil => .nil
  | _, _, 0, .cons _ t => .cons r t
  | _, _, i + 1, .cons q t => .cons q (Vals.set r i t)
theorem Vals.append : ∀ {xs ys : List V} {us ws : List Value}, Vals xs us → Vals ys ws → Vals (xs ++ ys) (us ++ ws)
  | _, _, _, _, .nil, s => s
  | _, _, _, _, .cons r t, s => .cons r (Vals.append t s)
theorem Vals.take : ∀ {xs : List V} {us : List Value} (n : Nat), Vals xs us → Vals (xs.take n) (us.take n)
  | _, _, 0, _ => .nil
  | _, _, _ + 1, .nil => .nil
  | _, _, n + 1, .cons r t => .cons r (Vals.take n t)
theorem Vals.drop : ∀ {xs : List V} {us : List Value} (n : Nat), Vals xs us → Vals (xs.drop n) (us.drop n)
  | _, _, 0, r => r
  | _, _, _ + 1, .nil => .nil
  | _, _, n + 1, .cons _ t => Vals.drop n t
def RelO : Option V → Option Value → Prop
  | some v, some u => RelV v u
  | none, none => True
  | _, _ => False
def KV {κ : Type} : List (κ × V) → List (κ × Value) → Prop := Paired fun (p : κ × V) (q : κ × Value) => p.1 = q.1 ∧ RelV p.2 q.2
def kV : Key → V
  | .inl i => .int i
  | .inr x => .str x
inductive HO where
  | lst (xs : List V)
  | tup (xs : List V)
  | dK (kvs : List (Key × V)) | dT (kvs : List (List Key × V))
  | set (S : Int → Bool) (n : Nat)
  | ins (C dx : Addr) (fs : List (Str × V))
  | own (x : Addr)
  | xd (fs : List (Str × V))
  | met (f x : Addr)
  | rng (lo hi : Int)
  | frz (o : Obj) (u : HO)
  | tbl (ps : Array Value)
  | ext (φ : Heap → Prop)
abbrev Hp := Addr → Option HO
def upd (H : Hp) (a : Addr) (o : HO) : Hp := fun b => if b = a then some o else H b
theorem upd_same {H : Hp} {a : Addr} {o : HO} : upd H a o a = some o := by unfold upd; rw [if_pos rfl]
theorem upd_ne {H : Hp} {a b : Addr} {o : HO} (h : b ≠ a) : upd H a o b = H b := by unfold upd; rw [if_neg h]
theorem ne_of {H : Hp} {a b : Addr} {o u : HO} (h : H a = some o) (h' : H b = some u) (d : o ≠ u) : a ≠ b := by
  intro e; subst e; rw [h] at h'; exact d (Option.some.inj h')
theorem ne_of_none {H : Hp} {a b : Addr} {o : HO} (h : H a = some o) (h' : H b = none) : a ≠ b := by
  intro e; subst e; rw [h] at h'; cases h'
section
variable (P : Program) (w : World)
def ObjOk (H : Hp) (h : Heap) (a : Addr) : HO → Prop
  | .lst xs => xs.length ≤ sizeLine ∧ ∃ (its : List Value) (n : Nat), Vals xs its ∧ h.get? a = some { cls := .type "list", data := .seq its.toArray n }
  | .tup xs => xs.length ≤ sizeLine ∧ ∃ its : List Value, Vals xs its ∧ IsTup h a its.toArray
  | .dK kvs => kvs.length ≤ sizeLine ∧ (a == sysModules) = false ∧ ∃ vs, KV kvs vs ∧ h.DictOf (mixKind P w) a vs
  | .dT kvs => kvs.length ≤ sizeLine ∧ (a == sysModules) = false ∧ ∃ xs : List (List Key × Addr × Value),
      Paired (fun (p : List Key × V) (q : List Key × Addr × Value) => p.1 = q.1 ∧ H q.2.1 = some (.tup (p.1.map kV)) ∧ RelV p.2 q.2.2) kvs xs ∧
      ∃ o es ep, h.get? a = some o ∧ o.ExactDict ∧ o.data = .dict es ep ∧ es.toList = xs.map (entryOfKey (tupleKind (mixKind P w))) ∧ (xs.map (·.1)).Nodup
  | .set S n => h.SetOf (intKind P w) a S n
  | .ins C dx fs => H dx = some (.own a) ∧ fs.length ≤ 1000 ∧ dx ≠ a ∧ h.get? a = some (PySem.W.instObj C dx) ∧
      ∃ mA, h.Ns1 dx mA ∧ (∀ f, RelO (fs.lookup f) (mA f)) ∧ PySem.Within mA (fs.map (·.1))
  | .own _ => ∃ o, h.get? a = some o
  | .xd fs => ∃ mA, h.Ns1 a mA ∧ ∀ f, RelO (fs.lookup f) (mA f)
  | .rng lo hi => ∃ t u v, h.get? a = some { cls := .type "range", data := .fields #[.int lo t, .int hi u, .int 1 v] }
  | .frz o u => h.get? a = some o ∧ ObjOk H h a u
  | .tbl ps => h.get? a = some { cls := .none, data := .fields ps }
  | .met f x => h.get? a = some (PySem.W.methodObj (.ref f) (.ref x))
  | .ext φ => φ h ∧ (∃ o, h.get? a = some o) ∧ ∀ h1 h2 : Heap, φ h1 → (∀ o, h1.get? a = some o → h2.get? a = some o) → φ h2
def HOk (H : Hp) (h : Heap) : Prop := ∀ a o, H a = some o → ObjOk P w H h a o
end
section
variable {P : Program} {w : World} {H H' : Hp} {h h' : Heap} {a : Addr} {o : HO}
theorem ObjOk.lt (x : ObjOk P w H h a o) : a < h.objs.size := by
  cases o with
  | lst xs => obtain ⟨_, _, _, _, e⟩ := x; exact Heap.lt_size e
  | tup xs => obtain ⟨_, _, _, p⟩ := x; exact p.lt
  | dK kvs => obtain ⟨_, _, _, _, o, _, _, e, _⟩ := x; exact Heap.lt_size e
  | dT kvs => obtain ⟨_, _, _, _, o, _, _, e, _⟩ := x; exact Heap.lt_size e
  | set S n => obtain ⟨o, _, _, _, e, _⟩ := x; exact Heap.lt_size e
  | ins C dx fs => obtain ⟨_, _, _, e, _⟩ := x; exact Heap.lt_size e
  | own y => obtain ⟨_, e⟩ := x; exact Heap.lt_size e
  | xd fs => obtain ⟨_, ⟨_, _, _, e, _⟩, _⟩ := x; exact Heap.lt_size e
  | rng lo hi => obtain ⟨_, _, _, e⟩ := x; exact Heap.lt_size e
  | frz ob u => obtain ⟨e, _⟩ := x; exact Heap.lt_size e
  | tbl ps => exact Heap.lt_size (show h.get? a = some _ from x)
  | met f y => exact Heap.lt_size (show h.get? a = some _ from x)
  | ext φ => obtain ⟨_, ⟨_, e⟩, _⟩ := x; exact Heap.lt_size e
theorem Paired.mapP {α β : Type} {F G : α → β → Prop} : ∀ {l₁ : List α} {l₂ : List β}, Paired F l₁ l₂ → (∀ a b, F a b → G a b) → Paired G l₁ l₂
  | _, _, .nil, _ => .nil
  | _, _, .cons r t, f => .cons (f _ _ r) (Paired.mapP t f)
theorem ObjOk.stay (x : ObjOk P w H h a o) (k : ∀ b u, (b = a ∨ H b = some (.own a)) → h.get? b = some u → h'.get? b = some u)
    (ho : ∀ b, H b = some (.own a) → H' b = some (.own a)) (ht : ∀ b xs, H b = some (.tup xs) → H' b = some (.tup xs)) : ObjOk P w H' h' a o := by
  induction o with
  | lst xs => obtain ⟨z, its, n, r, e⟩ := x; exact ⟨z, its, n, r, k _ _ (.inl rfl) e⟩
  | tup xs => obtain ⟨z, its, r, ob, e, c⟩ := x; exact ⟨z, its, r, ob, k _ _ (.inl rfl) e, c⟩
  | dK kvs => obtain ⟨z, y, vs, r, ob, es, ep, e, c⟩ := x; exact ⟨z, y, vs, r, ob, es, ep, k _ _ (.inl rfl) e, c⟩
  | dT kvs =>
    obtain ⟨z, y, xs, r, ob, es, ep, e, c⟩ := x
    exact ⟨z, y, xs, Paired.mapP r fun p q z => ⟨z.1, ht _ _ z.2.1, z.2.2⟩, ob, es, ep, k _ _ (.inl rfl) e, c⟩
  | set S n => obtain ⟨ob, es, ep, t, e, c⟩ := x; exact ⟨ob, es, ep, t, k _ _ (.inl rfl) e, c⟩
  | ins C dx fs =>
    obtain ⟨d, z, ne, e, mA, ⟨od, es, ep, e2, c⟩, r⟩ := x
    exact ⟨ho _ d, z, ne, k _ _ (.inl rfl) e, mA, ⟨od, es, ep, k _ _ (.inr d) e2, c⟩, r⟩
  | own y => obtain ⟨ob, e⟩ := x; exact ⟨ob, k _ _ (.inl rfl) e⟩
  | xd fs => obtain ⟨mA, ⟨od, es, ep, e, c⟩, r⟩ := x; exact ⟨mA, ⟨od, es, ep, k _ _ (.inl rfl) e, c⟩, r⟩
  | rng lo hi => obtain ⟨t, u, v, e⟩ := x; exact ⟨t, u, v, k _ _ (.inl rfl) e⟩
  | frz ob u ih => obtain ⟨e, q⟩ := x; exact ⟨k _ _ (.inl rfl) e, ih q⟩
  | tbl ps =>
    have e : h.get? a = some { cls := .none, data := .fields ps } := x
    show h'.get? a = some { cls := .none, data := .fields ps }
    exact k a _ (.inl rfl) e
  | met f y =>
    have e : h.get? a = some (PySem.W.methodObj (.ref f) (.ref y)) := x
    show h'.get? a = some (PySem.W.methodObj (.ref f) (.ref y))
    exact k a _ (.inl rfl) e
  | ext φ => obtain ⟨p, ⟨o, e⟩, st⟩ := x; exact ⟨st _ _ p fun o q => k _ _ (.inl rfl) q, ⟨o, k _ _ (.inl rfl) e⟩, st⟩
theorem HOk.lt (x : HOk P w H h) (e : H a = some o) : a < h.objs.size := (x a o e).lt
theorem HOk.fresh (x : HOk P w H h) (e : h.objs.size ≤ a) : H a = none := by
  cases q : H a with
  | none => rfl
  | some u => exact absurd (Nat.lt_of_lt_of_le (x.lt q) e) (Nat.lt_irrefl _)
theorem HOk.kept (x : HOk P w H h) (k : ∀ b u, h.get? b = some u → h'.get? b = some u) : HOk P w H h' := fun a o e =>
  (x a o e).stay (fun b u _ q => k b u q) (fun _ q => q) fun _ _ q => q
theorem HOk.laid (x : HOk P w H h) (k : ∀ b u, h.get? b = some u → h'.get? b = some u) (hp : h.objs.size ≤ a) (new : ObjOk P w (upd H a o) h' a o) : HOk P w (upd H a o) h' := fun b u e => by
  have hn := x.fresh hp
  by_cases hb : b = a
  · subst hb; rw [upd_same] at e; cases e; exact new
  · rw [upd_ne hb] at e
    exact (x b u e).stay (fun c v _ q => k c v q) (fun c q => by rw [upd_ne (ne_of_none q hn)]; exact q) fun c xs q => by rw [upd_ne (ne_of_none q hn)]; exact q
end
def Rd (H : Hp) (a : Addr) (u : HO) : Prop := H a = some u ∨ ∃ o, H a = some (.frz o u)
theorem Rd.ok {P : Program} {w : World} {H : Hp} {h : Heap} {a : Addr} {u : HO} (r : Rd H a u) (x : HOk P w H h) : ObjOk P w H h a u := by
  rcases r with r | ⟨o, r⟩
  · exact x a u r
  · obtain ⟨_, q⟩ := x a _ r
    exact q
def Mut : Option HO → Prop
  | some (.lst _) => True
  | some (.dK _) => True
  | some (.dT _) => True
  | some (.set _ _) => True
  | some (.ins _ _ _) => True
  | some (.ext _) => True
  | _ => False
section
variable {P : Program} {w : World} {H : Hp} {h h' : Heap} {x e : Addr} {o' : HO}
theorem HOk.write (ok : HOk P w H h) (mu : Mut (H x)) (he : e = x ∨ H e = some (.own x)) (k : ∀ b u, b ≠ e → h.get? b = some u → h'.get? b = some u) (heo : ∃ u, h'.get? e = some u)
    (new : ObjOk P w (upd H x o') h' x o') : HOk P w (upd H x o') h' := fun b u q => by
  have nown : ∀ c y, H c = some (.own y) → c ≠ x := fun c y r z => by subst z; rw [r] at mu; exact mu
  have ntup : ∀ c xs, H c = some (.tup xs) → c ≠ x := fun c xs r z => by subst z; rw [r] at mu; exact mu
  by_cases hb : b = x
  · subst hb; rw [upd_same] at q; cases q; exact new
  · rw [upd_ne hb] at q
    by_cases hbe : b = e
    · have q' : H b = some (.own x) := by
        rcases he with z | z
        · exact absurd (hbe.trans z) hb
        · rw [hbe]; exact z
      rw [q] at q'; cases q'
      obtain ⟨v, hv⟩ := heo
      exact ⟨v, by rw [hbe]; exact hv⟩
    · refine (ok b u q).stay (fun c v hc r => k c v ?_ r) (fun c r => by rw [upd_ne (nown c b r)]; exact r) fun c xs r => by rw [upd_ne (ntup c xs r)]; exact r
      rcases hc with rfl | hc
      · exact hbe
      · rintro rfl
        rcases he with z | z
        · exact nown c b hc z
        · rw [hc] at z; cases z; exact hb rfl
end
structure Un (fs ex : List Addr) (H H' : Hp) (h h' : Heap) : Prop where
  keep : ∀ b o, h.get? b = some o → H b = none → b ∉ fs → b ∉ ex → h'.get? b = some o
  slot : ∀ b o, h.get? b = some o → H b = none → b ∈ fs → b ∉ ex → ∃ sl, h'.get? b = some { o with slots := sl }
  free : ∀ b o, h.get? b = some o → H b = none → b ∉ ex → H' b = none
  there : ∀ b o, h.get? b = some o → b ∉ ex → ∃ o', h'.get? b = some o'
  tups : ∀ b xs, H b = some (.tup xs) → H' b = some (.tup xs)
  frzs : ∀ b o u, H b = some (.frz o u) → H' b = some (.frz o u)
  tbls : ∀ b ps, H b = some (.tbl ps) → ∃ more, H' b = some (.tbl (ps ++ more))
section
variable {fs fs' ex ex' : List Addr} {H H1 H2 : Hp} {h h1 h2 h' : Heap} {a x e : Addr} {o : HO}
theorem Un.any (u : Un fs ex H H1 h h1) {b : Addr} {ob : Obj} (q : h.get? b = some ob) (n : H b = none) (hx : b ∉ ex) : ∃ sl, h1.get? b = some { ob with slots := sl } := by
  by_cases hb : b ∈ fs
  · exact u.slot b ob q n hb hx
  · exact ⟨ob.slots, u.keep b ob q n hb hx⟩
theorem Un.kept (k : ∀ b u, h.get? b = some u → h'.get? b = some u) : Un fs ex H H h h' :=
  ⟨fun b ob q _ _ _ => k b ob q, fun b ob q _ _ _ => ⟨ob.slots, k b ob q⟩, fun _ _ _ n _ => n, fun b ob q _ => ⟨ob, k b ob q⟩, fun _ _ q => q, fun _ _ _ q => q, fun _ ps q => ⟨#[], by rw [q]; simp⟩⟩
theorem Un.refl : Un fs ex H H h h := Un.kept fun _ _ q => q
theorem Un.laid (k : ∀ b u, h.get? b = some u → h'.get? b = some u) (hp : h.objs.size ≤ a) (hn : H a = none) : Un fs ex H (upd H a o) h h' where
  keep := fun b u q _ _ _ => k b u q
  slot := fun b u q _ _ _ => ⟨u.slots, k b u q⟩
  free := fun b u q n _ => by rw [upd_ne (Nat.ne_of_lt (Nat.lt_of_lt_of_le (Heap.lt_size q) hp))]; exact n
  there := fun b u q _ => ⟨u, k b u q⟩
  tups := fun b xs q => by rw [upd_ne (ne_of_none q hn)]; exact q
  frzs := fun b u xs q => by rw [upd_ne (ne_of_none q hn)]; exact q
  tbls := fun b ps q => ⟨#[], by rw [upd_ne (ne_of_none q hn), q]; simp⟩
theorem Un.write (mu : Mut (H x)) (he : e = x ∨ H e = some (.own x)) (k : ∀ b u, b ≠ e → h.get? b = some u → h'.get? b = some u) (heo : ∃ u, h'.get? e = some u) : Un fs ex H (upd H x o) h h' := by
  have hx : ∀ b, H b = none → b ≠ x := fun b n z => by subst z; rw [n] at mu; exact mu
  have hb : ∀ b, H b = none → b ≠ e := fun b n z => by
    subst z
    rcases he with r | r
    · exact hx b n r
    · rw [n] at r; cases r
  have hm : ∀ b u, H b = some u → ¬ Mut (some u) → b ≠ x := fun b u q nm z => by subst z; rw [q] at mu; exact nm mu
  refine ⟨fun b u q n _ _ => k b u (hb b n) q, fun b u q n _ _ => ⟨u.slots, k b u (hb b n) q⟩, fun b u q n _ => by rw [upd_ne (hx b n)]; exact n, fun b u q _ => ?_,
    fun b xs q => by rw [upd_ne (hm b _ q fun z => z)]; exact q, fun b u xs q => by rw [upd_ne (hm b _ q fun z => z)]; exact q, fun b ps q => ⟨#[], by rw [upd_ne (hm b _ q fun z => z), q]; simp⟩⟩
  by_cases hbe : b = e
  · subst hbe; exact heo
  · exact ⟨u, k b u hbe q⟩
end
def trk (h : Heap) (H : Hp) : List Addr := (List.range h.objs.size).filter fun a => (H a).isSome
def hidT (h : Heap) (H : Hp) : Heap := PySem.W.hideAll h (trk h H)
theorem hidT_size (h : Heap) (H : Hp) : (hidT h H).objs.size = h.objs.size := PySem.W.hideAll_size _ _
theorem hidT_get {h : Heap} {H : Hp} {b : Addr} {o : Obj} (e : h.get? b = some o) (n : H b = none) : (hidT h H).get? b = some o :=
  PySem.W.hideAll_get _ e fun hm => by
    have q : (H b).isSome = true := (List.mem_filter.mp hm).2
    rw [n] at q; simp at q
theorem of_hidT {h : Heap} {H : Hp} {b : Addr} {o : Obj} (e : (hidT h H).get? b = some o) : h.get? b = some o ∧ H b = none := by
  have e' : h.get? b = some o := PySem.W.of_hideAll (trk h H) e
  refine ⟨e', ?_⟩
  cases q : H b with
  | none => rfl
  | some x =>
    have hm : b ∈ trk h H := List.mem_filter.mpr ⟨List.mem_range.mpr (Heap.lt_size e'), by simp [q]⟩
    have z : (hidT h H).get? b = none := PySem.W.hideAll_none (trk h H) hm
    rw [z] at e; cases e
def allNews (g h : Heap) (L : Addr) : List (Addr × Obj) := (List.range h.objs.size).filterMap fun a => if a = L ∨ (g.get? a).isSome = true then none else (h.get? a).map fun o => (a, o)
def rest (g h : Heap) (L d : Addr) : List (Addr × Obj) := (allNews g h L).filter fun p => decide (p.1 ≠ d)
end L2
namespace L2
open PySem PySem.Spec PyProof.Rows
structure Mod (K : PySem.W.Frag) (mg : Str → Option Value) (base : Heap) : Prop where
  kin : K.In base
  glob : base.Ns mainGlobals mg
  blt : ∃ mb, base.Ns builtinsNs mb ∧ ∀ x : Str, x ≠ "__name__" → mb x = bootBuiltins x
  nolimit : base.NoLimit
structure Cx where
  prog : Program
  w : World
  K : PySem.W.Frag
  mg : Str → Option Value
  base : Heap
  A : Around
  N : List Str
  s₀ : Shared
  H₀ : Hp
  env : Env
  outer : List Env
  stack : List Env
  ex : List Addr
  fn : Str → Bool
  calm : Bool
  pn : List (Addr × Obj)
  xe : Value → Shared → Prop
def frs (l : List Env) : List Addr := l.filterMap (·.frame)
abbrev Cx.fs (X : Cx) : List Addr := frs X.outer
def Vis (sc : Scope) (x : Str) : Prop := sc.names.lookup x = some .local ∨ sc.names.lookup x = some .cell ∨ sc.names.lookup x = some .free
def Loc (sc : Scope) (x : Str) : Prop := sc.names.lookup x = some .local ∨ sc.names.lookup x = some .cell
def Look (env : Env) (h : Heap) (m : Str → Option Value) (x : Str) (u : Value) : Prop :=
  (env.kindOf x = some .local ∧ m x = some u) ∨ ((env.kindOf x = some .cell ∨ env.kindOf x = some .free) ∧ ∃ c, env.cells.lookup x = some c ∧ h.IsCell c (some u))
structure Cx.Ok (X : Cx) : Prop where
  mod : Mod X.K X.mg X.base
  kind : X.env.scope.kind = .function
  glob : X.env.globals = mainGlobals
  blt : X.env.builtins = builtinsNs
  above : X.s₀.heap.objs.size ≤ X.env.locals
  inj : ∀ x y c, X.env.cells.lookup x = some c → X.env.cells.lookup y = some c → x = y
  has : ∀ x, (X.env.kindOf x = some .cell ∨ X.env.kindOf x = some .free) → ∃ c, X.env.cells.lookup x = some c
  cab : ∀ x c, X.fn x = true → X.env.cells.lookup x = some c → X.s₀.heap.objs.size ≤ c
  hd : X.calm = true → X.A.handled = none
  frames : X.A.frames = some X.stack
  stk : X.stack = X.outer ∨ (X.stack = X.env :: X.outer ∧ X.env.frame = some X.env.locals)
  exf : ∀ b ∈ X.ex, b ≠ X.env.locals ∧ ∀ x c, X.env.cells.lookup x = some c → c ≠ b
  bs : ∀ b o, X.base.get? b = some o → X.s₀.heap.get? b = some o ∧ X.H₀ b = none
  bsz : X.base.objs.size ≤ X.s₀.heap.objs.size
  noex : ∀ b o, X.base.get? b = some o → b ∉ X.ex
  exfs : ∀ b ∈ X.ex, b ∉ X.fs
  funs : X.s₀.heap.FunFrames X.base X.outer
  frf : ∀ b ∈ X.fs, X.H₀ b = none
structure Inv (X : Cx) (pins : List (Addr × Obj)) (σ : List (Option V)) (H : Hp) (s : Shared) : Prop where
  ok : X.Ok
  os : s.os = X.s₀.os
  bare : AllBare s.gens
  base : Un X.fs X.ex X.H₀ H X.s₀.heap s.heap
  loc : ∃ m, s.heap.Ns X.env.locals m ∧ ∀ (i : Nat) (x : Str) (v : V), X.N[i]? = some x → σ[i]? = some (some v) → Vis X.env.scope x → ∃ u, RelV v u ∧ Look X.env s.heap m x u
  cell : ∀ x c, X.env.cells.lookup x = some c → ∃ v, s.heap.IsCell c v
  free : H X.env.locals = none
  freeC : ∀ x c, X.env.cells.lookup x = some c → H c = none
  pin : ∀ p ∈ X.pn ++ pins, s.heap.get? p.1 = some p.2 ∧ H p.1 = none ∧ p.1 ≠ X.env.locals ∧ p.1 ∉ X.fs ∧ ∀ v, p.2.data ≠ .cell v
  hok : HOk X.prog X.w H s.heap
  len : σ.length = X.N.length
section
variable {X : Cx} {pins : List (Addr × Obj)} {σ : List (Option V)} {H H' : Hp} {s : Shared} {h' : Heap}
theorem Cx.Ok.nofr (ok : X.Ok) {b : Addr} {o : Obj} (e : X.base.get? b = some o) : b ∉ X.fs := fun hb => by
  have := (ok.funs.mem hb).1
  rw [e] at this; cases this
theorem Inv.bs (I : Inv X pins σ H s) : ∀ b o, X.base.get? b = some o → s.heap.get? b = some o ∧ H b = none := fun b o e =>
  ⟨I.base.keep b o (I.ok.bs b o e).1 (I.ok.bs b o e).2 (I.ok.nofr e) (I.ok.noex b o e), I.base.free b o (I.ok.bs b o e).1 (I.ok.bs b o e).2 (I.ok.noex b o e)⟩
theorem Inv.bk (I : Inv X pins σ H s) : ∀ b o, X.base.get? b = some o → s.heap.get? b = some o := fun b o e => (I.bs b o e).1
theorem Inv.mod (I : Inv X pins σ H s) : Mod X.K X.mg X.base := I.ok.mod
theorem Inv.kIn (I : Inv X pins σ H s) : X.K.In s.heap := I.ok.mod.kin.keeps I.bk
theorem Inv.lt (I : Inv X pins σ H s) : X.env.locals < s.heap.objs.size := let ⟨_, hn, _⟩ := I.loc; hn.lt
theorem Inv.sz (I : Inv X pins σ H s) : X.s₀.heap.objs.size ≤ s.heap.objs.size := Nat.le_trans I.ok.above (Nat.le_of_lt I.lt)
theorem Inv.nofs (I : Inv X pins σ H s) {a : Addr} (h : s.heap.objs.size ≤ a) : a ∉ X.fs := fun hb => by
  obtain ⟨_, o, ho, _⟩ := I.ok.funs.mem hb
  exact absurd (Nat.lt_of_lt_of_le (Heap.lt_size ho) (Nat.le_trans I.sz h)) (Nat.lt_irrefl _)
theorem Inv.cne (I : Inv X pins σ H s) : ∀ x c, X.env.cells.lookup x = some c → c ≠ X.env.locals := fun x c e z => by
  obtain ⟨v, o, ho, hd⟩ := I.cell x c e
  obtain ⟨m, ⟨o', es, ep, ho', hd', _⟩, _⟩ := I.loc
  rw [z, ho'] at ho; cases ho; rw [hd'] at hd; cases hd
theorem Inv.funs (I : Inv X pins σ H s) : s.heap.FunFrames X.base X.outer := by
  have all : ∀ (l : List Env), (∀ b ∈ frs l, b ∈ X.fs) → X.s₀.heap.FunFrames X.base l → s.heap.FunFrames X.base l := by
    intro l
    induction l with
    | nil => intro _ _; trivial
    | cons env r ih =>
      intro hs hl
      obtain ⟨hk, ⟨L, o, hf, hn, ho, hd⟩, hr⟩ := hl
      have hL : L ∈ X.fs := hs L (by unfold frs; rw [List.filterMap_cons, hf]; exact List.mem_cons_self)
      obtain ⟨sl, e⟩ := I.base.slot L o ho (I.ok.frf L hL) hL fun z => I.ok.exfs L z hL
      exact ⟨hk, ⟨L, _, hf, hn, e, hd⟩, ih (fun b hb => hs b (by unfold frs; rw [List.filterMap_cons, hf]; exact List.mem_cons_of_mem _ hb)) hr⟩
  exact all X.outer (fun _ hb => hb) I.ok.funs
theorem Inv.stack (I : Inv X pins σ H s) : s.heap.FunFrames X.base X.stack := by
  rcases I.ok.stk with e | ⟨e, hf⟩
  · rw [e]; exact I.funs
  · rw [e]
    obtain ⟨m, hn, _⟩ := I.loc
    refine .cons (by rw [I.ok.kind]; decide) hf hn ?_ I.funs
    exact Heap.get?_none_of_le (Nat.le_trans I.ok.bsz I.ok.above)
theorem Inv.stkSub (I : Inv X pins σ H s) : ∀ b ∈ frs X.stack, b ∈ X.env.locals :: X.fs := fun b hb => by
  rcases I.ok.stk with e | ⟨e, hf⟩
  · rw [e] at hb; exact List.mem_cons_of_mem _ hb
  · rw [e] at hb
    unfold frs at hb
    rw [List.filterMap_cons, hf] at hb
    exact hb
theorem Inv.stkFree (I : Inv X pins σ H s) : ∀ b ∈ frs X.stack, H b = none := fun b hb => by
  rcases List.mem_cons.mp (I.stkSub b hb) with e | hb
  · rw [e]; exact I.free
  · obtain ⟨_, o, ho, _⟩ := I.ok.funs.mem hb
    exact I.base.free b o ho (I.ok.frf b hb) fun z => I.ok.exfs b z hb
theorem Inv.step {g' : Array GenState} {t' : Nat} {d' : Drawn} {ch : List Addr} (I : Inv X pins σ H s)
    (hch : ∀ b ∈ ch, (b ∈ X.ex ∨ X.s₀.heap.objs.size ≤ b) ∧ b ≠ X.env.locals ∧ (∀ x c, X.env.cells.lookup x = some c → c ≠ b) ∧ ∀ p ∈ X.pn ++ pins, p.1 ≠ b)
    (keep : ∀ b o, b ≠ X.env.locals → b ∉ X.fs → b ∉ ch → s.heap.get? b = some o → H b = none → h'.get? b = some o)
    (slot : ∀ b o, b ≠ X.env.locals → b ∈ X.fs → b ∉ ch → s.heap.get? b = some o → H b = none → ∃ sl, h'.get? b = some { o with slots := sl }) (free : ∀ b o, b ∉ ch → s.heap.get? b = some o → H b = none → H' b = none)
    (there : ∀ b o, b ∉ ch → s.heap.get? b = some o → ∃ o', h'.get? b = some o')
    (tups : ∀ b xs, H b = some (.tup xs) → H' b = some (.tup xs)) (frzs : ∀ b o u, H b = some (.frz o u) → H' b = some (.frz o u)) (tbls : ∀ b ps, H b = some (.tbl ps) → ∃ more, H' b = some (.tbl (ps ++ more)))
    (ns : ∀ m, s.heap.Ns X.env.locals m → h'.Ns X.env.locals m) (hok : HOk X.prog X.w H' h') (hg : AllBare g') :
    Inv X pins σ H' { s with heap := h', gens := g', drawn := d', toks := t' } := by
  have neL : ∀ b o, X.s₀.heap.get? b = some o → b ≠ X.env.locals := fun b o e => Nat.ne_of_lt (Nat.lt_of_lt_of_le (Heap.lt_size e) I.ok.above)
  have neC : ∀ b o, X.s₀.heap.get? b = some o → b ∉ X.ex → b ∉ ch := fun b o e hx hb => by
    rcases (hch b hb).1 with z | z
    · exact hx z
    · exact absurd (Nat.lt_of_lt_of_le (Heap.lt_size e) z) (Nat.lt_irrefl _)
  have cellK : ∀ x c, X.env.cells.lookup x = some c → ∀ v, s.heap.IsCell c v → h'.IsCell c v := fun x c e v ⟨o, ho, hd⟩ => by
    have nch : c ∉ ch := fun z => (hch c z).2.2.1 x c e rfl
    by_cases hc : c ∈ X.fs
    · obtain ⟨sl, q⟩ := slot c o (I.cne x c e) hc nch ho (I.freeC x c e)
      exact ⟨_, q, hd⟩
    · exact ⟨o, keep c o (I.cne x c e) hc nch ho (I.freeC x c e), hd⟩
  refine ⟨I.ok, I.os, hg, ⟨fun b o e n hb hx => ?_, fun b o e n hb hx => ?_, fun b o e n hx => ?_, fun b o e hx => ?_, fun b xs e => tups b xs (I.base.tups b xs e), fun b o xs e => frzs b o xs (I.base.frzs b o xs e), fun b ps e => ?_⟩, ?_, fun x c e => ?_, ?_, fun x c e => ?_, fun p hp => ?_, hok, I.len⟩
  · exact keep b o (neL b o e) hb (neC b o e hx) (I.base.keep b o e n hb hx) (I.base.free b o e n hx)
  · obtain ⟨sl, e1⟩ := I.base.slot b o e n hb hx
    obtain ⟨sl', e2⟩ := slot b _ (neL b o e) hb (neC b o e hx) e1 (I.base.free b o e n hx)
    exact ⟨sl', e2⟩
  · obtain ⟨o', e1⟩ := I.base.there b o e hx
    exact free b o' (neC b o e hx) e1 (I.base.free b o e n hx)
  · obtain ⟨o', e1⟩ := I.base.there b o e hx
    exact there b o' (neC b o e hx) e1
  · obtain ⟨m1, e1⟩ := I.base.tbls b ps e
    obtain ⟨m2, e2⟩ := tbls b _ e1
    exact ⟨m1 ++ m2, by rw [e2, Array.append_assoc]⟩
  · obtain ⟨m, hn, hl⟩ := I.loc
    refine ⟨m, ns m hn, fun i x v e1 e2 e3 => ?_⟩
    obtain ⟨u, r, l⟩ := hl i x v e1 e2 e3
    refine ⟨u, r, ?_⟩
    rcases l with l | ⟨k, c, e, z⟩
    · exact .inl l
    · exact .inr ⟨k, c, e, cellK x c e _ z⟩
  · obtain ⟨v, z⟩ := I.cell x c e
    exact ⟨v, cellK x c e v z⟩
  · obtain ⟨m, ⟨o, _, _, ho, _⟩, _⟩ := I.loc
    exact free _ o (fun z => (hch _ z).2.1 rfl) ho I.free
  · obtain ⟨v, o, ho, hd⟩ := I.cell x c e
    exact free c o (fun z => (hch c z).2.2.1 x c e rfl) ho (I.freeC x c e)
  · obtain ⟨e, n, ne, nf, d⟩ := I.pin p hp
    have nch : p.1 ∉ ch := fun z => (hch p.1 z).2.2.2 p hp rfl
    exact ⟨keep p.1 p.2 ne nf nch e n, free p.1 p.2 nch e n, ne, nf, d⟩
theorem Inv.un {t' : Nat} (I : Inv X pins σ H s) (u : Un X.fs [] H H' s.heap h') (hok : HOk X.prog X.w H' h') : Inv X pins σ H' { s with heap := h', toks := t' } := by
  obtain ⟨m, ⟨o, es, ep, ho, r⟩, _⟩ := id I.loc
  obtain ⟨sl, hL⟩ := u.any ho I.free (by simp)
  exact I.step (g' := s.gens) (d' := s.drawn) (ch := []) (fun _ z => nomatch z) (fun b o _ hb _ e n => u.keep b o e n hb (by simp)) (fun b o _ hb _ e n => u.slot b o e n hb (by simp)) (fun b o _ e n => u.free b o e n (by simp)) (fun b o _ e => u.there b o e (by simp)) u.tups u.frzs u.tbls (fun m' hm => by
    obtain ⟨o', es', ep', ho', r'⟩ := hm
    rw [ho] at ho'; cases ho'
    exact ⟨_, es', ep', hL, r'⟩) hok I.bare
theorem Inv.call {g' : Array GenState} {t' : Nat} {d' : Drawn} {ch : List Addr} (I : Inv X pins σ H s) (u : Un (frs X.stack) ch H H' s.heap h') (hok : HOk X.prog X.w H' h') (hg : AllBare g')
    (hch : ∀ b ∈ ch, (b ∈ X.ex ∨ X.s₀.heap.objs.size ≤ b) ∧ b ≠ X.env.locals ∧ (∀ x c, X.env.cells.lookup x = some c → c ≠ b) ∧ ∀ p ∈ X.pn ++ pins, p.1 ≠ b) :
    Inv X pins σ H' { s with heap := h', gens := g', drawn := d', toks := t' } := by
  obtain ⟨m, ⟨o, es, ep, ho, r⟩, _⟩ := id I.loc
  obtain ⟨sl, hL⟩ := u.any ho I.free fun z => (hch _ z).2.1 rfl
  exact I.step (ch := ch) hch (fun b o hL hb hc e n => u.keep b o e n (fun z => (List.mem_cons.mp (I.stkSub b z)).elim hL hb) hc) (fun b o _ _ hc e n => u.any e n hc) (fun b o hc e n => u.free b o e n hc) (fun b o hc e => u.there b o e hc) u.tups u.frzs u.tbls (fun m' hm => by
    obtain ⟨o', es', ep', ho', r'⟩ := hm
    rw [ho] at ho'; cases ho'
    exact ⟨_, es', ep', hL, r'⟩) hok hg
theorem Inv.turned {t' : Nat} {it : Addr} (I : Inv X pins σ H s) (k : ∀ b o, b ≠ it → s.heap.get? b = some o → h'.get? b = some o) (hn : H it = none) (hL : it ≠ X.env.locals)
    (h1 : it ∈ X.ex ∨ X.s₀.heap.objs.size ≤ it) (h2 : ∀ x c, X.env.cells.lookup x = some c → c ≠ it) (h3 : ∀ p ∈ X.pn ++ pins, p.1 ≠ it) : Inv X pins σ H { s with heap := h', toks := t' } := by
  have nit : ∀ b u, H b = some u → b ≠ it := fun b u e z => by rw [z, hn] at e; cases e
  refine I.step (g' := s.gens) (d' := s.drawn) (ch := [it]) (fun b hb => ?_) (fun b o _ _ hc e _ => k b o (fun z => hc (by simp [z])) e) (fun b o _ _ hc e _ => ⟨o.slots, k b o (fun z => hc (by simp [z])) e⟩) (fun _ _ _ _ n => n)
    (fun b o hc e => ⟨o, k b o (fun z => hc (by simp [z])) e⟩) (fun _ _ e => e) (fun _ _ _ e => e) (fun b ps e => ⟨#[], by rw [e]; simp⟩) (fun m hm => ?_) (fun b u e => ?_) I.bare
  · have e : b = it := by simpa using hb
    subst e
    exact ⟨h1, hL, h2, h3⟩
  · obtain ⟨o, es, ep, ho, r⟩ := hm
    exact ⟨o, es, ep, k _ o (Ne.symm hL) ho, r⟩
  · refine (I.hok b u e).stay (fun c v hc q => k c v ?_ q) (fun _ q => q) fun _ _ q => q
    rcases hc with z | z
    · rw [z]; exact nit b u e
    · exact nit c _ z
theorem Inv.tok (I : Inv X pins σ H s) (t : Nat) : Inv X pins σ H { s with toks := t } := I.un (h' := s.heap) (t' := t) Un.refl I.hok
theorem Inv.kept {t' : Nat} (I : Inv X pins σ H s) (k : ∀ b u, s.heap.get? b = some u → h'.get? b = some u) : Inv X pins σ H { s with heap := h', toks := t' } := I.un (Un.kept k) (I.hok.kept k)
theorem Inv.laid {a : Addr} {o : HO} {t' : Nat} (I : Inv X pins σ H s) (k : ∀ b u, s.heap.get? b = some u → h'.get? b = some u) (hp : s.heap.objs.size ≤ a) (new : ObjOk X.prog X.w (upd H a o) h' a o) :
    Inv X pins σ (upd H a o) { s with heap := h', toks := t' } := I.un (Un.laid k hp (I.hok.fresh hp)) (I.hok.laid k hp new)
theorem Inv.write {x e : Addr} {o : HO} {t' : Nat} (I : Inv X pins σ H s) (mu : Mut (H x)) (he : e = x ∨ H e = some (.own x)) (k : ∀ b u, b ≠ e → s.heap.get? b = some u → h'.get? b = some u) (heo : ∃ u, h'.get? e = some u)
    (new : ObjOk X.prog X.w (upd H x o) h' x o) : Inv X pins σ (upd H x o) { s with heap := h', toks := t' } := I.un (Un.write mu he k heo) (I.hok.write mu he k heo new)
theorem Inv.pins_of {pins' : List (Addr × Obj)} (I : Inv X pins σ H s) (h : ∀ p ∈ pins', s.heap.get? p.1 = some p.2 ∧ H p.1 = none ∧ p.1 ≠ X.env.locals ∧ p.1 ∉ X.fs ∧ ∀ v, p.2.data ≠ .cell v) : Inv X pins' σ H s :=
  ⟨I.ok, I.os, I.bare, I.base, I.loc, I.cell, I.free, I.freeC, fun p hp => (List.mem_append.mp hp).elim (fun z => I.pin p (List.mem_append_left _ z)) (h p), I.hok, I.len⟩
theorem nodup_ix {N : List Str} (hN : N.Nodup) {i j : Nat} {x : Str} (a : N[i]? = some x) (b : N[j]? = some x) : i = j := by
  obtain ⟨h1, e1⟩ := List.getElem?_eq_some_iff.mp a
  obtain ⟨h2, e2⟩ := List.getElem?_eq_some_iff.mp b
  exact (List.getElem_inj hN).mp (e1.trans e2.symm)
theorem store_ok2 {M : Model} {A : Around} {E : Value → Shared → Prop} {i : Nat} {x : Str} {v : V} {u : Value} {Q : Unit → Shared → Prop} (I : Inv X pins σ H s) (hN : X.N.Nodup) (hi : X.N[i]? = some x) (hx : Loc X.env.scope x) (r : RelV v u)
    (h : ∀ s', Inv X pins (σ.set i (some v)) H s' → (∃ a, Heap.SameBut a s.heap s'.heap ∧ (a = X.env.locals ∨ X.env.cells.lookup x = some a)) → Q () s') (hf : X.fn x = true ∨ X.env.scope.names.lookup x = some .local := by first | exact .inl rfl | exact .inr rfl | assumption) : wpAny M A (storeName X.env x u) Q E s := by
  obtain ⟨m, hn, hl⟩ := id I.loc
  have hcls : (X.env.scope.kind == .class || (X.env.scope.kind == .module && X.env.locals != X.env.globals)) = false := by rw [I.ok.kind]; rfl
  have hiσ : i < σ.length := by rw [I.len]; exact (List.getElem?_eq_some_iff.mp hi).1
  have cne := I.cne
  have tracked : ∀ {a : Addr} {h' : Heap}, (∃ o, s.heap.get? a = some o ∧ H a = none) → Heap.SameBut a s.heap h' → HOk X.prog X.w H h' := fun {a h'} ha hs b ob e => by
    obtain ⟨_, _, hfree⟩ := ha
    refine (I.hok b ob e).stay (fun c w' hc q => (hs.2 c ?_).trans q) (fun _ q => q) fun _ _ q => q
    rintro rfl
    rcases hc with rfl | hc
    · rw [hfree] at e; cases e
    · rw [hfree] at hc; cases hc
  rcases hx with hk | hk
  · refine wpAny_storeName_local hk hn (fun h' hn' hs => ?_) hcls
    obtain ⟨oL, _, _, hoL, _⟩ := id hn
    refine h _ ⟨I.ok, I.os, I.bare, ⟨fun b o e n hb hx => ?_, fun b o e n hb hx => ?_, I.base.free, fun b o e hx => ?_, I.base.tups, I.base.frzs, I.base.tbls⟩, ⟨_, hn', fun j y v' e1 e2 e3 => ?_⟩, fun y c e => ?_, I.free, I.freeC, fun p hp => ?_, tracked ⟨oL, hoL, I.free⟩ hs, by simpa using I.len⟩ ⟨_, hs, .inl rfl⟩
    · exact (hs.2 b (Nat.ne_of_lt (Nat.lt_of_lt_of_le (Heap.lt_size e) I.ok.above))).trans (I.base.keep b o e n hb hx)
    · obtain ⟨sl, e1⟩ := I.base.slot b o e n hb hx
      exact ⟨sl, (hs.2 b (Nat.ne_of_lt (Nat.lt_of_lt_of_le (Heap.lt_size e) I.ok.above))).trans e1⟩
    · obtain ⟨o', e1⟩ := I.base.there b o e hx
      exact ⟨o', (hs.2 b (Nat.ne_of_lt (Nat.lt_of_lt_of_le (Heap.lt_size e) I.ok.above))).trans e1⟩
    · by_cases hj : j = i
      · subst hj
        rw [hi] at e1; cases e1
        rw [List.getElem?_set_self hiσ] at e2
        cases e2
        exact ⟨u, r, .inl ⟨hk, by simp⟩⟩
      · rw [List.getElem?_set_ne (Ne.symm hj)] at e2
        obtain ⟨u', r', q⟩ := hl j y v' e1 e2 e3
        refine ⟨u', r', ?_⟩
        rcases q with ⟨k, e⟩ | ⟨k, c, e, z⟩
        · refine .inl ⟨k, ?_⟩
          have : y ≠ x := fun e => hj (nodup_ix hN e1 (e ▸ hi))
          simp [this, e]
        · exact .inr ⟨k, c, e, z.sameBut hs (cne y c e)⟩
    · obtain ⟨w', z⟩ := I.cell y c e
      exact ⟨w', z.sameBut hs (cne y c e)⟩
    · obtain ⟨e, n, ne, nf, d⟩ := I.pin p hp
      exact ⟨(hs.2 p.1 ne).trans e, n, ne, nf, d⟩
  · have hfn : X.fn x = true := by
      rcases hf with z | z
      · exact z
      · rw [z] at hk; cases hk
    obtain ⟨c, hc⟩ := I.ok.has x (.inl hk)
    obtain ⟨w', z⟩ := I.cell x c hc
    refine wpAny_storeName_cell I.ok.kind hk hc z (fun h' hc' hs => ?_)
    obtain ⟨oc, hoc, hocd⟩ := id z
    refine h { s with heap := h' } ⟨I.ok, I.os, I.bare, ⟨fun b o e n hb hx => ?_, fun b o e n hb hx => ?_, I.base.free, fun b o e hx => ?_, I.base.tups, I.base.frzs, I.base.tbls⟩, ⟨m, hn.sameBut hs (Ne.symm (cne x c hc)), fun j y v' e1 e2 e3 => ?_⟩, fun y c' e => ?_, I.free, I.freeC, fun p hp => ?_, tracked ⟨oc, hoc, I.freeC x c hc⟩ hs, by simpa using I.len⟩ ⟨c, hs, .inr hc⟩
    · exact (hs.2 b (Nat.ne_of_lt (Nat.lt_of_lt_of_le (Heap.lt_size e) (I.ok.cab x c hfn hc)))).trans (I.base.keep b o e n hb hx)
    · obtain ⟨sl, e1⟩ := I.base.slot b o e n hb hx
      exact ⟨sl, (hs.2 b (Nat.ne_of_lt (Nat.lt_of_lt_of_le (Heap.lt_size e) (I.ok.cab x c hfn hc)))).trans e1⟩
    · obtain ⟨o', e1⟩ := I.base.there b o e hx
      exact ⟨o', (hs.2 b (Nat.ne_of_lt (Nat.lt_of_lt_of_le (Heap.lt_size e) (I.ok.cab x c hfn hc)))).trans e1⟩
    · by_cases hj : j = i
      · subst hj
        rw [hi] at e1; cases e1
        rw [List.getElem?_set_self hiσ] at e2
        cases e2
        exact ⟨u, r, .inr ⟨.inl hk, c, hc, hc'⟩⟩
      · rw [List.getElem?_set_ne (Ne.symm hj)] at e2
        obtain ⟨u', r', q⟩ := hl j y v' e1 e2 e3
        refine ⟨u', r', ?_⟩
        rcases q with q | ⟨k, c', e, z'⟩
        · exact .inl q
        · refine .inr ⟨k, c', e, z'.sameBut hs ?_⟩
          rintro rfl
          exact hj (nodup_ix hN e1 (I.ok.inj _ _ _ e hc ▸ hi))
    · by_cases hcc : c' = c
      · subst hcc; exact ⟨_, hc'⟩
      · obtain ⟨w2, z2⟩ := I.cell y c' e
        exact ⟨w2, z2.sameBut hs hcc⟩
    · obtain ⟨e, n, ne, nf, d⟩ := I.pin p hp
      refine ⟨(hs.2 p.1 ?_).trans e, n, ne, nf, d⟩
      intro q
      rw [q, hoc] at e
      have q' : oc = p.2 := Option.some.inj e
      exact d w' (by rw [← q']; exact hocd)
theorem store_ok {M : Model} {A : Around} {E : Value → Shared → Prop} {i : Nat} {x : Str} {v : V} {u : Value} {Q : Unit → Shared → Prop} (I : Inv X pins σ H s) (hN : X.N.Nodup) (hi : X.N[i]? = some x) (hx : Loc X.env.scope x) (r : RelV v u)
    (h : ∀ s', Inv X pins (σ.set i (some v)) H s' → Q () s') (hf : X.fn x = true ∨ X.env.scope.names.lookup x = some .local := by first | exact .inl rfl | exact .inr rfl | assumption) : wpAny M A (storeName X.env x u) Q E s :=
  store_ok2 I hN hi hx r (fun s' I' _ => h s' I') hf
theorem Inv.call' {s' : Shared} {ch : List Addr} (I : Inv X pins σ H s) (ho : s'.os = s.os) (u : Un (frs X.stack) ch H H' s.heap s'.heap) (hok : HOk X.prog X.w H' s'.heap) (hg : AllBare s'.gens)
    (hch : ∀ b ∈ ch, (b ∈ X.ex ∨ X.s₀.heap.objs.size ≤ b) ∧ b ≠ X.env.locals ∧ (∀ x c, X.env.cells.lookup x = some c → c ≠ b) ∧ ∀ p ∈ X.pn ++ pins, p.1 ≠ b) : Inv X pins σ H' s' := by
  obtain ⟨h', g', d', t', o'⟩ := s'
  have e : o' = s.os := ho
  subst e
  exact I.call (g' := g') (t' := t') (d' := d') u hok hg hch
end
abbrev XK := Value → Option Addr → Hp → Prop
abbrev St := List (Option V)
abbrev VK := V → Hp → Prop
abbrev TE := St → Hp → VK → Prop
abbrev TT := St → Hp → (Bool → Hp → Prop) → Prop
abbrev TA := St → Hp → (List V → Hp → Prop) → Prop
structure Ends where
  nx : St → Hp → Prop
  rt : VK
  bk : St → Hp → Prop := fun _ _ => False
  ct : St → Hp → Prop := fun _ _ => False
abbrev TS := Ends → St → Hp → Prop
def EP (X : Cx) (pins : List (Addr × Obj)) (σ : St) (Q : VK) (u : Value) (s' : Shared) : Prop := ∃ v H', Inv X pins σ H' s' ∧ RelV v u ∧ Q v H'
def TP (X : Cx) (pins : List (Addr × Obj)) (σ : St) (Q : Bool → Hp → Prop) (b : Bool) (s' : Shared) : Prop := ∃ H', Inv X pins σ H' s' ∧ Q b H'
def AP (X : Cx) (pins : List (Addr × Obj)) (σ : St) (Q : List V → Hp → Prop) (us : List Value) (s' : Shared) : Prop := ∃ vs H', Inv X pins σ H' s' ∧ Vals vs us ∧ Q vs H'
def SP (X : Cx) (pins : List (Addr × Obj)) (D : Ends) (f : Flow) (s' : Shared) : Prop :=
  match f with
  | .next => ∃ σ' H', Inv X pins σ' H' s' ∧ D.nx σ' H'
  | .brk => ∃ σ' H', Inv X pins σ' H' s' ∧ D.bk σ' H'
  | .cont => ∃ σ' H', Inv X pins σ' H' s' ∧ D.ct σ' H'
  | .ret u => ∃ v σ' H', Inv X pins σ' H' s' ∧ RelV v u ∧ D.rt v H'
def PE (X : Cx) (e : Expr) (t : TE) : Prop :=
  ∀ (pins : List (Addr × Obj)) (s : Shared) (σ : St) (H : Hp) (Q : VK), Inv X pins σ H s → t σ H Q → wpAny (model X.prog X.w) X.A (eval e X.env) (EP X pins σ Q) X.xe s
def PT (X : Cx) (e : Expr) (t : TT) : Prop :=
  ∀ (pins : List (Addr × Obj)) (s : Shared) (σ : St) (H : Hp) (Q : Bool → Hp → Prop), Inv X pins σ H s → t σ H Q → wpAny (model X.prog X.w) X.A (isTrue e X.env (eval e X.env)) (TP X pins σ Q) X.xe s
def PW (X : Cx) (e : Expr) (t : TT) : Prop :=
  ∀ (whole : Sem Value) (pins : List (Addr × Obj)) (s : Shared) (σ : St) (H : Hp) (Q : Bool → Hp → Prop), Inv X pins σ H s → t σ H Q → wpAny (model X.prog X.w) X.A (isTrue e X.env whole) (TP X pins σ Q) X.xe s
theorem PW.pt {X : Cx} {e : Expr} {t : TT} (h : PW X e t) : PT X e t := h _
def PA (X : Cx) (es : List Expr) (t : TA) : Prop :=
  ∀ (pos : PySem.Pos) (pins : List (Addr × Obj)) (s : Shared) (σ : St) (H : Hp) (Q : List V → Hp → Prop), Inv X pins σ H s → t σ H Q → wpAny (model X.prog X.w) X.A (spliced (backTo pos (starEach es X.env))) (AP X pins σ Q) X.xe s
def PS (X : Cx) (st : Stmt) (t : TS) : Prop :=
  ∀ (pins : List (Addr × Obj)) (s : Shared) (σ : St) (H : Hp) (D : Ends), Inv X pins σ H s → t D σ H → wpAny (model X.prog X.w) X.A (exec st X.env) (SP X pins D) X.xe s
def PSs (X : Cx) (st : List Stmt) (t : TS) : Prop :=
  ∀ (pins : List (Addr × Obj)) (s : Shared) (σ : St) (H : Hp) (D : Ends), Inv X pins σ H s → t D σ H → wpAny (model X.prog X.w) X.A (execs st X.env) (SP X pins D) X.xe s
theorem thn {α : Type} {t : Sem α} {Q Q' : α → Shared → Prop} {M : Model} {A : Around} {E : Value → Shared → Prop} {s : Shared} (h : wpAny M A t Q E s) (hQ : ∀ a s, Q a s → Q' a s) : wpAny M A t Q' E s := wpAny_mono h hQ fun _ _ x => x
end L2
namespace L2
open PySem PySem.Spec PyProof.Rows
section
variable {X : Cx}
def tVar (i : Nat) : TE := fun σ H Q => ∃ v, σ[i]? = some (some v) ∧ Q v H
def tC (v : V) : TE := fun _ H Q => Q v H
theorem pe_var {i : Nat} {x : Str} {pos : PySem.Pos} (hN : X.N[i]? = some x) (hv : Vis X.env.scope x) (hd : (x == ("__debug__" : Str)) = false := by decide) (hcd : (x == ("__classdict__" : Str)) = false := by decide) : PE X (.Name x pos) (tVar i) := by
  intro pins s σ H Q I h
  obtain ⟨v, e, h⟩ := h
  obtain ⟨m, hn, hl⟩ := I.loc
  obtain ⟨u, r, l⟩ := hl i x v hN e hv
  have fin : EP X pins σ Q u s := ⟨v, H, I, r, h⟩
  rcases l with ⟨hk, hm⟩ | ⟨hk, c, hc, hcell⟩
  · exact wpAny_Name (wpAny_loadName_local I.ok.kind hk hn hm fin) hd
  · rcases hk with hk | hk
    · exact wpAny_Name (wpAny_loadName_cell I.ok.kind hk hc hcell fin) hd
    · exact wpAny_Name (wpAny_loadName_free I.ok.kind hk hc hcell fin hcd) hd
theorem pe_int {i j pos} : PE X (.Constant (.int i) j pos) (tC (.int i)) := fun _ _ _ H _ I h => wpAny_Constant_int ⟨.int i, H, I.tok _, ⟨_, rfl⟩, h⟩
theorem pe_bl {b j pos} : PE X (.Constant (.bool b) j pos) (tC (.bl b)) := fun _ _ _ H _ I h => Constant_bool ⟨.bl b, H, I, rfl, h⟩
theorem pe_non {j pos} : PE X (.Constant .none j pos) (tC .non) := fun _ _ _ H _ I h => Constant_none ⟨.non, H, I, rfl, h⟩
theorem pe_str {x j pos} : PE X (.Constant (.str x) j pos) (tC (.str x)) := fun _ _ _ H _ I h => Calls.Constant_str ⟨.str x, H, I.tok _, ⟨_, rfl⟩, h⟩
def Gl (X : Cx) (x : Str) : Prop := X.env.kindOf x = some .globalImplicit
theorem ld_glob {E : Value → Shared → Prop} {pins : List (Addr × Obj)} {s : Shared} {σ : St} {H : Hp} {x : Str} {u : Value} {pos : PySem.Pos} {Q : Value → Shared → Prop} (I : Inv X pins σ H s) (hg : Gl X x) (hm : X.mg x = some u) (h : Q u s)
    (hd : (x == ("__debug__" : Str)) = false := by decide) : wpAny (model X.prog X.w) X.A (eval (.Name x pos) X.env) Q E s :=
  Calls.Name_function_global I.ok.kind hg (Calls.loadGlobal_global (by rw [I.ok.glob]; exact I.mod.glob.keeps I.bk) hm h) hd
theorem ld_blt {E : Value → Shared → Prop} {pins : List (Addr × Obj)} {s : Shared} {σ : St} {H : Hp} {x : Str} {u : Value} {pos : PySem.Pos} {Q : Value → Shared → Prop} (I : Inv X pins σ H s) (hg : Gl X x) (hm : X.mg x = none) (hv : bootBuiltins x = some u) (h : Q u s)
    (hn : x ≠ "__name__" := by decide) (hd : (x == ("__debug__" : Str)) = false := by decide) : wpAny (model X.prog X.w) X.A (eval (.Name x pos) X.env) Q E s := by
  obtain ⟨mb, h1, h2⟩ := I.mod.blt
  exact Calls.Name_function_global I.ok.kind hg (Calls.loadGlobal_builtin (by rw [I.ok.glob]; exact I.mod.glob.keeps I.bk) hm (by rw [I.ok.blt]; exact h1.keeps I.bk) ((h2 x hn).trans hv) h) hd
theorem pe_glob {x : Str} {v : V} {u : Value} {pos : PySem.Pos} (hg : Gl X x) (hm : X.mg x = some u) (r : RelV v u) (hd : (x == ("__debug__" : Str)) = false := by decide) : PE X (.Name x pos) (tC v) :=
  fun _ _ _ H _ I h => ld_glob I hg hm ⟨v, H, I, r, h⟩ hd
theorem pe_bltn {x : Str} {v : V} {u : Value} {pos : PySem.Pos} (hg : Gl X x) (hm : X.mg x = none) (hv : bootBuiltins x = some u) (r : RelV v u) (hn : x ≠ "__name__" := by decide) (hd : (x == ("__debug__" : Str)) = false := by decide) : PE X (.Name x pos) (tC v) :=
  fun _ _ _ H _ I h => ld_blt I hg hm hv ⟨v, H, I, r, h⟩ hn hd
variable {a b : Expr} {ta tb : TE} {pos : PySem.Pos}
def PC (X : Cx) (op : CmpOp) (a b : Expr) (t : TE) : Prop :=
  ∀ (pins : List (Addr × Obj)) (s : Shared) (σ : St) (H : Hp) (Q : VK), Inv X pins σ H s → t σ H Q →
    wpAny (model X.prog X.w) X.A (eval a X.env) (fun v s₁ => wpAny (model X.prog X.w) X.A (eval b X.env) (fun u s₂ => wpAny (model X.prog X.w) X.A (compareOp op v u) (EP X pins σ Q) X.xe s₂) X.xe s₁) X.xe s
def tB (t : TE) : TT := fun σ H Q => t σ H fun x H1 => ∃ c, x = .bl c ∧ Q c H1
theorem pt_cmp {op : CmpOp} {t : TE} (h : PC X op a b t) (h1 : behindInMarks op b = false := by first | exact nobehind _ (by decide) (by decide) | rfl) : PT X (.Compare a [op] [b] pos) (tB t) := by
  intro pins s σ H Q I hw
  refine wpAny_isTrue_Compare1 (thn (h pins s σ H _ I hw) fun v s1 h1 => thn h1 fun u s2 h2 => thn h2 fun c s3 ⟨x, H1, I1, r1, q1⟩ => ?_) h1
  obtain ⟨d, rfl, q⟩ := q1
  cases r1
  exact wpAny_truthy_bool ⟨H1, I1, q⟩
theorem pt_val {e : Expr} {t : TE} (h : PE X e t) (he : ∀ whole, isTrue e X.env whole = (do let v ← whole; standAt e.pos; holding [v] (truthy v)) := by intro _; rfl) : PT X e (tB t) := by
  intro pins s σ H Q I hw
  refine isTrue_plain (thn (h pins s σ H _ I hw) fun v s1 ⟨x, H1, I1, r1, q1⟩ => ?_) (he _)
  obtain ⟨d, rfl, q⟩ := q1
  cases r1
  exact wpAny_truthy_bool ⟨H1, I1, q⟩
variable {tA tB' : TT} {rest : List Expr}
def tAnd (t u : TT) : TT := fun σ H Q => t σ H fun c H1 => if c = true then u σ H1 Q else Q false H1
def tOr (t u : TT) : TT := fun σ H Q => t σ H fun c H1 => if c = true then Q true H1 else u σ H1 Q
def tNot (t : TT) : TT := fun σ H Q => t σ H fun c H1 => Q (!c) H1
theorem pw_and1 (ha : PT X a tA) : PW X (.BoolOp .And [a] pos) tA := by
  intro wh pins s σ H Q I h
  refine isTrue_and (thn (ha pins s σ H Q I h) fun c s1 e => ?_)
  cases c with
  | true => exact isTrue_and_nil e
  | false => exact e
theorem pw_or1 (ha : PT X a tA) : PW X (.BoolOp .Or [a] pos) tA := by
  intro wh pins s σ H Q I h
  refine isTrue_or (thn (ha pins s σ H Q I h) fun c s1 e => ?_)
  cases c with
  | false => exact isTrue_or_nil e
  | true => exact e
theorem pw_and (ha : PT X a tA) (hb : PW X (.BoolOp .And (b :: rest) pos) tB') : PW X (.BoolOp .And (a :: b :: rest) pos) (tAnd tA tB') := by
  intro wh pins s σ H Q I h
  refine isTrue_and (thn (ha pins s σ H _ I h) fun c s1 ⟨H1, I1, q1⟩ => ?_)
  cases c with
  | true => exact hb wh pins s1 σ H1 Q I1 q1
  | false => exact ⟨H1, I1, q1⟩
theorem pw_or (ha : PT X a tA) (hb : PW X (.BoolOp .Or (b :: rest) pos) tB') : PW X (.BoolOp .Or (a :: b :: rest) pos) (tOr tA tB') := by
  intro wh pins s σ H Q I h
  refine isTrue_or (thn (ha pins s σ H _ I h) fun c s1 ⟨H1, I1, q1⟩ => ?_)
  cases c with
  | true => exact ⟨H1, I1, q1⟩
  | false => exact hb wh pins s1 σ H1 Q I1 q1
theorem pt_not (ha : PT X a tA) : PT X (.UnaryOp .Not a pos) (tNot tA) := by
  intro pins s σ H Q I h
  exact isTrue_not (ha pins s σ H (fun c H1 => Q (!c) H1) I h)
def tAndV (ta tb : TE) : TE := fun σ H Q => ta σ H fun x H1 => ∃ c, x = .bl c ∧ if c = true then tb σ H1 Q else Q (.bl false) H1
def tNotV (ta : TE) : TE := fun σ H Q => ta σ H fun x H1 => ∃ c, x = .bl c ∧ Q (.bl (!c)) H1
theorem pe_one {op} {t : TE} (h : PE X a t) : PE X (.BoolOp op [a] pos) t := fun pins s σ H Q I hw => BoolOp_one (h pins s σ H Q I hw)
theorem pe_and (ha : PE X a ta) (hb : PE X (.BoolOp .And (b :: rest) pos) tb) : PE X (.BoolOp .And (a :: b :: rest) pos) (tAndV ta tb) := by
  intro pins s σ H Q I h
  refine BoolOp_and (thn (ha pins s σ H _ I h) fun v s1 ⟨x, H1, I1, r1, q1⟩ => ?_)
  obtain ⟨c, rfl, q1⟩ := q1
  cases r1
  refine wpAny_truthy_bool ?_
  cases c with
  | true => exact hb pins s1 σ H1 Q I1 q1
  | false => exact ⟨.bl false, H1, I1, rfl, q1⟩
theorem pe_not (ha : PE X a ta) : PE X (.UnaryOp .Not a pos) (tNotV ta) := by
  intro pins s σ H Q I h
  refine UnaryOp_ (thn (ha pins s σ H _ I h) fun v s1 ⟨x, H1, I1, r1, q1⟩ => ?_)
  obtain ⟨c, rfl, q1⟩ := q1
  cases r1
  exact not_of (wpAny_truthy_bool ⟨.bl (!c), H1, I1, rfl, q1⟩)
def tIf (t : TT) (ta tb : TE) : TE := fun σ H Q => t σ H fun c H1 => if c = true then ta σ H1 Q else tb σ H1 Q
theorem pe_ifExp {c : Expr} (hc : PT X c tA) (ha : PE X a ta) (hb : PE X b tb) : PE X (.IfExp c a b pos) (tIf tA ta tb) := by
  intro pins s σ H Q I h
  refine wpAny_IfExp (thn (hc pins s σ H _ I h) fun d s1 ⟨H1, I1, q1⟩ => ?_)
  cases d with
  | true => exact ha pins s1 σ H1 Q I1 q1
  | false => exact hb pins s1 σ H1 Q I1 q1
end
end L2
namespace L2
open PySem PySem.Spec PyProof.Rows
def SqL (K : PySem.W.Frag) (H : Hp) (a : Addr) (xs : List V) : Prop :=
  Rd H a (.lst xs) ∨
    ∃ (o : Obj) (its : Array Value) (n : Nat), K.lookup a = some o ∧ o.cls = .type "list" ∧ o.dict = none ∧ o.data = .seq its n ∧ its.size ≤ sizeLine ∧ Vals xs its.toList
def SqT (K : PySem.W.Frag) (H : Hp) (a : Addr) (xs : List V) : Prop :=
  Rd H a (.tup xs) ∨
    ∃ (o : Obj) (its : Array Value) (n : Nat), K.lookup a = some o ∧ o.cls = .type "tuple" ∧ o.data = .seq its n ∧ its.size ≤ sizeLine ∧ Vals xs its.toList
def absV : Value → Option V
  | .none => some .non
  | .bool b => some (.bl b)
  | .int i _ => some (.int i)
  | .str x _ => some (.str x)
  | .bytes b _ => some (.byt b)
  | .float b _ => some (.flt b)
  | .ref a => some (.ref a)
  | .type n => some (.ty n)
  | _ => none
theorem RelV.abs {x : V} {u : Value} (r : RelV x u) : absV u = some x := by
  cases x with
  | non => cases r; rfl
  | bl _ => cases r; rfl
  | int _ => obtain ⟨t, rfl⟩ := r; rfl
  | str _ => obtain ⟨t, rfl⟩ := r; rfl
  | byt _ => obtain ⟨t, rfl⟩ := r; rfl
  | flt _ => obtain ⟨t, rfl⟩ := r; rfl
  | ref _ => cases r; rfl
  | ty _ => cases r; rfl
theorem RelV.inj {x y : V} {u : Value} (r : RelV x u) (q : RelV y u) : x = y := Option.some.inj (r.abs.symm.trans q.abs)
theorem Vals.inj : ∀ {xs ys : List V} {us : List Value}, Vals xs us → Vals ys us → xs = ys
  | _, _, _, .nil, .nil => rfl
  | _, _, _, .cons r t, .cons r' t' => by rw [r.inj r', Vals.inj t t']
section
variable {X : Cx} {pins : List (Addr × Obj)} {σ : St} {H : Hp} {s : Shared} {a : Addr} {xs ys : List V}
theorem SqL.of {K : PySem.W.Frag} (h : H a = some (.lst xs)) : SqL K H a xs := .inl (.inl h)
theorem SqT.of {K : PySem.W.Frag} (h : H a = some (.tup xs)) : SqT K H a xs := .inl (.inl h)
theorem Inv.list (I : Inv X pins σ H s) (h : SqL X.K H a xs) : ∃ its : List Value, Vals xs its ∧ PlainL s.heap a its.toArray ∧ xs.length ≤ sizeLine := by
  rcases h with h | ⟨o, its, n, hk, hc, hd, hs, hz, r⟩
  · obtain ⟨z, its, n, r, e⟩ := h.ok I.hok
    exact ⟨its, r, ⟨_, n, e, rfl, rfl, rfl⟩, z⟩
  · refine ⟨its.toList, r, ⟨o, n, I.kIn a o hk, hc, hd, by simpa using hs⟩, ?_⟩
    have e := r.length
    simp only [Array.length_toList] at e
    omega
theorem Inv.tuple (I : Inv X pins σ H s) (h : SqT X.K H a xs) : ∃ its : List Value, Vals xs its ∧ IsTup s.heap a its.toArray ∧ xs.length ≤ sizeLine := by
  rcases h with h | ⟨o, its, n, hk, hc, hs, hz, r⟩
  · obtain ⟨z, its, r, p⟩ := h.ok I.hok
    exact ⟨its, r, p, z⟩
  · refine ⟨its.toList, r, ⟨o, I.kIn a o hk, hc, n, by simpa using hs⟩, ?_⟩
    have e := r.length
    simp only [Array.length_toList] at e
    omega
theorem Inv.list_inj (I : Inv X pins σ H s) (h : SqL X.K H a xs) (h' : SqL X.K H a ys) : xs = ys := by
  obtain ⟨its, r, ⟨o, n, e, _, _, d⟩, _⟩ := I.list h
  obtain ⟨its', r', ⟨o', n', e', _, _, d'⟩, _⟩ := I.list h'
  rw [e] at e'; cases e'
  rw [d] at d'
  injection d' with d1 _
  have : its = its' := by simpa using congrArg Array.toList d1
  subst this
  exact r.inj r'
theorem Inv.tuple_inj (I : Inv X pins σ H s) (h : SqT X.K H a xs) (h' : SqT X.K H a ys) : xs = ys := by
  obtain ⟨its, r, ⟨o, e, _, n, d⟩, _⟩ := I.tuple h
  obtain ⟨its', r', ⟨o', e', _, n', d'⟩, _⟩ := I.tuple h'
  rw [e] at e'; cases e'
  rw [d] at d'
  injection d' with d1 _
  have : its = its' := by simpa using congrArg Array.toList d1
  subst this
  exact r.inj r'
end
abbrev Cx.wish (X : Cx) (E : Value → Shared → Prop) : Cx := { X with xe := E }
abbrev Cx.nox (X : Cx) : Cx := X.wish fun _ _ => False
theorem Cx.Ok.wish {X : Cx} (ok : X.Ok) (E : Value → Shared → Prop) : (X.wish E).Ok :=
  ⟨ok.mod, ok.kind, ok.glob, ok.blt, ok.above, ok.inj, ok.has, ok.cab, ok.hd, ok.frames, ok.stk, ok.exf, ok.bs, ok.bsz, ok.noex, ok.exfs, ok.funs, ok.frf⟩
theorem Cx.Ok.unwish {X : Cx} {E : Value → Shared → Prop} (ok : (X.wish E).Ok) : X.Ok :=
  ⟨ok.mod, ok.kind, ok.glob, ok.blt, ok.above, ok.inj, ok.has, ok.cab, ok.hd, ok.frames, ok.stk, ok.exf, ok.bs, ok.bsz, ok.noex, ok.exfs, ok.funs, ok.frf⟩
section
variable {X : Cx} {pins : List (Addr × Obj)} {σ : St} {H : Hp} {s : Shared} {E : Value → Shared → Prop}
theorem Inv.wish (I : Inv X pins σ H s) (E : Value → Shared → Prop) : Inv (X.wish E) pins σ H s := ⟨I.ok.wish E, I.os, I.bare, I.base, I.loc, I.cell, I.free, I.freeC, I.pin, I.hok, I.len⟩
theorem Inv.unwish (I : Inv (X.wish E) pins σ H s) : Inv X pins σ H s := ⟨I.ok.unwish, I.os, I.bare, I.base, I.loc, I.cell, I.free, I.freeC, I.pin, I.hok, I.len⟩
theorem SP.unwish {D : Ends} {f : Flow} {s' : Shared} (h : SP (X.wish E) pins D f s') : SP X pins D f s' := by
  cases f with
  | next => obtain ⟨σ', H', I, q⟩ := h; exact ⟨σ', H', I.unwish, q⟩
  | brk => obtain ⟨σ', H', I, q⟩ := h; exact ⟨σ', H', I.unwish, q⟩
  | cont => obtain ⟨σ', H', I, q⟩ := h; exact ⟨σ', H', I.unwish, q⟩
  | ret u => obtain ⟨v, σ', H', I, r, q⟩ := h; exact ⟨v, σ', H', I.unwish, r, q⟩
theorem PE.nox {e : Expr} {t : TE} (h : PE X.nox e t) : PE X e t := fun pins s σ H Q I hw =>
  wpAny_mono (h pins s σ H Q (I.wish _) hw) (fun _ _ ⟨v, H', I', r, q⟩ => ⟨v, H', I'.unwish, r, q⟩) fun _ _ z => False.elim z
theorem PT.nox {e : Expr} {t : TT} (h : PT X.nox e t) : PT X e t := fun pins s σ H Q I hw =>
  wpAny_mono (h pins s σ H Q (I.wish _) hw) (fun _ _ ⟨H', I', q⟩ => ⟨H', I'.unwish, q⟩) fun _ _ z => False.elim z
theorem PSs.nox {st : List Stmt} {t : TS} (h : PSs X.nox st t) : PSs X st t := fun pins s σ H D I hw =>
  wpAny_mono (h pins s σ H D (I.wish _) hw) (fun _ _ q => q.unwish) fun _ _ z => False.elim z
end
section
variable {X : Cx} {st : Stmt} {rest : List Stmt} {t u : TS} {e : Expr} {te : TE} {pos : PySem.Pos}
def tNext : TS := fun D σ H => D.nx σ H
def tSeq (t u : TS) : TS := fun D σ H => t { D with nx := u D } σ H
theorem pss_nil : PSs X [] tNext := fun _ _ σ H _ I h => wpAny_execs_nil ⟨σ, H, I, h⟩
theorem pss_cons (h1 : PS X st t) (h2 : PSs X rest u) : PSs X (st :: rest) (tSeq t u) := by
  intro pins s σ H D I h
  refine wpAny_execs_cons (thn (h1 pins s σ H { D with nx := u D } I h) fun f s1 q => ?_)
  cases f with
  | next =>
    obtain ⟨σ', H', I', q⟩ := q
    exact h2 pins s1 σ' H' D I' q
  | ret v => exact q
  | brk => exact q
  | cont => exact q
theorem pss_one (h1 : PS X st t) : PSs X [st] t := by
  intro pins s σ H D I h
  refine wpAny_execs_cons (thn (h1 pins s σ H D I h) fun f s1 q => ?_)
  cases f with
  | next => exact wpAny_execs_nil q
  | ret v => exact q
  | brk => exact q
  | cont => exact q
def tCont : TS := fun D σ H => D.ct σ H
theorem ps_continue : PS X (.Continue pos) tCont := fun _ _ σ H _ I h => wpAny_Continue ⟨σ, H, I, h⟩
theorem Inv.quiet {pins : List (Addr × Obj)} {σ : St} {H : Hp} {s : Shared} (I : Inv X pins σ H s) : interactive X.env = false := by simp [interactive, I.ok.kind]
def tDrop (te : TE) : TS := fun D σ H => te σ H fun _ H1 => D.nx σ H1
theorem ps_expr (he : PE X e te) (hs : swapsWith e none pos.line X.env = pure false := by rfl) : PS X (.Expr e pos) (tDrop te) := by
  intro pins s σ H D I h
  exact wpAny_Expr_any (thn (he pins s σ H _ I h) fun v s1 ⟨x, H1, I1, r1, q1⟩ => ⟨σ, H1, I1, q1⟩) I.quiet hs
def tRet (te : TE) : TS := fun D σ H => te σ H D.rt
theorem ps_ret (he : PE X e te) : PS X (.Return (some e) pos) (tRet te) := by
  intro pins s σ H D I h
  exact wpAny_Return_some (thn (he pins s σ H _ I h) fun v s1 ⟨x, H1, I1, r1, q1⟩ => ⟨x, σ, H1, I1, r1, q1⟩)
def tIfS (c : TT) (t u : TS) : TS := fun D σ H => c σ H fun b H1 => if b = true then t D σ H1 else u D σ H1
theorem ps_if {c : Expr} {a b : List Stmt} {tc : TT} (hc : PT X c tc) (ha : PSs X a t) (hb : PSs X b u) : PS X (.If c a b pos) (tIfS tc t u) := by
  intro pins s σ H D I h
  refine wpAny_If (thn (hc pins s σ H _ I h) fun d s1 ⟨H1, I1, q1⟩ => ?_)
  cases d with
  | true => exact ha pins s1 σ H1 D I1 q1
  | false => exact hb pins s1 σ H1 D I1 q1
end
abbrev TG := V → St → Hp → (St → Hp → Prop) → Prop
abbrev TGs := List V → St → Hp → (St → Hp → Prop) → Prop
def PG (X : Cx) (target : Expr) (t : TG) : Prop :=
  ∀ (pins : List (Addr × Obj)) (s : Shared) (σ : St) (H : Hp) (v : V) (u : Value) (Q : St → Hp → Prop), Inv X pins σ H s → RelV v u → t v σ H Q →
    wpAny (model X.prog X.w) X.A (assign target X.env u) (fun _ s' => ∃ σ' H', Inv X pins σ' H' s' ∧ Q σ' H') X.xe s
def PGs (X : Cx) (ts : List Expr) (t : TGs) : Prop :=
  ∀ (pins : List (Addr × Obj)) (s : Shared) (σ : St) (H : Hp) (vs : List V) (us : List Value) (Q : St → Hp → Prop), Inv X pins σ H s → Vals vs us → t vs σ H Q →
    wpAny (model X.prog X.w) X.A (assignInOrder ((assignEach ts X.env).map (·.2)) us) (fun _ s' => ∃ σ' H', Inv X pins σ' H' s' ∧ Q σ' H') X.xe s
abbrev TSet := V → V → V → Hp → (Hp → Prop) → Prop
def PSet (X : Cx) (t : TSet) : Prop :=
  ∀ (pins : List (Addr × Obj)) (s : Shared) (σ : St) (H : Hp) (o i v : V) (ov iv u : Value) (Q : Hp → Prop), Inv X pins σ H s → RelV o ov → RelV i iv → RelV v u → t o i v H Q →
    wpAny (model X.prog X.w) X.A (setItem ov iv u) (fun _ s' => ∃ H', Inv X pins σ H' s' ∧ Q H') X.xe s
abbrev TIp := V → V → Hp → VK → Prop
def PIp (X : Cx) (op : Operator) (t : TIp) : Prop :=
  ∀ (pins : List (Addr × Obj)) (s : Shared) (σ : St) (H : Hp) (x y : V) (v u : Value) (Q : VK), Inv X pins σ H s → RelV x v → RelV y u → t x y H Q →
    wpAny (model X.prog X.w) X.A (inplaceOp op v u) (EP X pins σ Q) X.xe s
section
variable {X : Cx} {pos : PySem.Pos}
def gName (i : Nat) : TG := fun v σ H Q => Q (σ.set i (some v)) H
theorem pg_name {i : Nat} {x : Str} (hN : X.N.Nodup) (hi : X.N[i]? = some x) (hx : Loc X.env.scope x) (hf : X.fn x = true ∨ X.env.scope.names.lookup x = some .local := by first | exact .inl rfl | exact .inr rfl | assumption) : PG X (.Name x pos) (gName i) := by
  intro pins s σ H v u Q I r h
  exact wpAny_assign_Name (store_ok I hN hi hx r (fun s' I' => ⟨_, H, I', h⟩) hf)
def gNil : TGs := fun vs σ H Q => vs = [] ∧ Q σ H
def gCons (t : TG) (u : TGs) : TGs := fun vs σ H Q => ∃ v r, vs = v :: r ∧ t v σ H fun σ' H' => u r σ' H' Q
theorem pgs_nil : PGs X [] gNil := by
  intro pins s σ H vs us Q I r h
  obtain ⟨e, h⟩ := h
  subst e
  cases r
  exact assignInOrder_nil ⟨σ, H, I, h⟩
theorem pgs_cons {e : Expr} {es : List Expr} {t : TG} {u : TGs} (h1 : PG X e t) (h2 : PGs X es u)
    (hs : (assignEach (e :: es) X.env).map (·.2) = assign e X.env :: (assignEach es X.env).map (·.2) := by rfl) : PGs X (e :: es) (gCons t u) := by
  intro pins s σ H vs us Q I r h
  obtain ⟨v, vr, e1, h⟩ := h
  subst e1
  cases r with
  | cons r rr =>
    rw [hs]
    refine assignInOrder_cons (thn (h1 pins s σ H _ _ _ I r h) fun _ s1 ⟨σ1, H1, I1, q1⟩ => ?_)
    exact h2 pins s1 σ1 H1 _ _ Q I1 rr q1
def gTup (K : PySem.W.Frag) (n : Nat) (t : TGs) : TG := fun v σ H Q => ∃ a xs, v = .ref a ∧ SqT K H a xs ∧ xs.length = n ∧ t xs σ H Q
theorem pg_tup {es : List Expr} {k : Nat} {t : TGs} {n : Nat} (hc : X.calm = true) (h : PGs X es t)
    (hn : (assignEach es X.env).length = n := by rfl) (hst : (assignEach es X.env).findIdx? (·.1) = none := by rfl) : PG X (.Tuple es k pos) (gTup X.K n t) := by
  intro pins s σ H v u Q I r hw
  obtain ⟨a, xs, e1, hq, hl, hw⟩ := hw
  subst e1
  cases r
  obtain ⟨its, rv, ht, hz⟩ := I.tuple hq
  refine assign_Tuple_tuple (I.ok.hd hc) ht (by simp [hn, ← hl, rv.length]) hst fun h' hx => ?_
  have I1 : Inv X pins σ H { s with heap := h' } := I.kept (t' := s.toks) fun b o e => hx b o (Nat.ne_of_lt (Heap.lt_size e)) e
  exact h pins _ σ H xs _ Q I1 (by simpa using rv) hw
def gSub (to ti : TE) (t : TSet) : TG := fun v σ H Q => to σ H fun o H1 => ti σ H1 fun i H2 => t o i v H2 fun H3 => Q σ H3
theorem pg_sub {o i : Expr} {to ti : TE} {t : TSet} (ho : PE X o to) (hi : PE X i ti) (hs : PSet X t)
    (ha : ∀ v, assign (.Subscript o i pos) X.env v = (do
      let ov ← holding [v] (eval o X.env)
      let iv ← holding [v, ov] (eval i X.env)
      standAt pos
      holding [v, ov, iv] (setItem ov iv v)
      release [v, ov, iv] []) := by intro _; rfl) : PG X (.Subscript o i pos) (gSub to ti t) := by
  intro pins s σ H v u Q I r h
  rw [ha]
  refine wpAny_bind (wpAny_holding (thn (ho pins s σ H _ I h) fun ov s1 ⟨x, H1, I1, r1, q1⟩ => ?_))
  refine wpAny_bind (wpAny_holding (thn (hi pins s1 σ H1 _ I1 q1) fun iv s2 ⟨y, H2, I2, r2, q2⟩ => ?_))
  refine wpAny_bind (wpAny_standAt (wpAny_bind (wpAny_holding (thn (hs pins s2 σ H2 x y v ov iv u _ I2 r1 r2 r q2) fun _ s3 ⟨H3, I3, q3⟩ => ?_))))
  exact wpAny_release ⟨σ, H3, I3, q3⟩
def tAsg (te : TE) (g : TG) : TS := fun D σ H => te σ H fun x H1 => g x σ H1 D.nx
theorem ps_asg {tg e : Expr} {te : TE} {g : TG} (he : PE X e te) (hg : PG X tg g) (hs : swapsWithSole [tg] e pos.line X.env = pure false := by rfl) (hw : swappedStores [tg] e X.env = pure none := by rfl)
    (h1 : (assignEach [tg] X.env).map (·.2) = [assign tg X.env] := by rfl) : PS X (.Assign [tg] e pos) (tAsg te g) := by
  intro pins s σ H D I h
  refine wpAny_Assign_stores (thn (he pins s σ H _ I h) fun v s1 ⟨x, H1, I1, r1, q1⟩ => ?_) hs hw
  rw [h1]
  exact thn (hg pins s1 σ H1 x v _ I1 r1 q1) fun _ s2 q => q
theorem ps_set {i : Nat} {x : Str} {e : Expr} {te : TE} {pos' : PySem.Pos} (hN : X.N.Nodup) (hi : X.N[i]? = some x) (hx : Loc X.env.scope x) (he : PE X e te) (hs : swapsWith e (some (.Name x pos')) pos.line X.env = pure false := by rfl) (hf : X.fn x = true ∨ X.env.scope.names.lookup x = some .local := by first | exact .inl rfl | exact .inr rfl | assumption) :
    PS X (.Assign [.Name x pos'] e pos) (tAsg te (gName i)) := by
  intro pins s σ H D I h
  refine wpAny_Assign_Name (thn (he pins s σ H _ I h) fun v s1 ⟨y, H1, I1, r1, q1⟩ => ?_) hs
  exact store_ok I1 hN hi hx r1 (fun s2 I2 => ⟨_, H1, I2, q1⟩) hf
def tAug (i : Nat) (te : TE) (ti : TIp) : TS := fun D σ H => ∃ x, σ[i]? = some (some x) ∧ te σ H fun y H1 => ti x y H1 fun z H2 => D.nx (σ.set i (some z)) H2
theorem ps_aug {i : Nat} {x : Str} {e : Expr} {te : TE} {op : Operator} {ti : TIp} {pos' : PySem.Pos} (hN : X.N.Nodup) (hi : X.N[i]? = some x) (hx : Loc X.env.scope x) (he : PE X e te) (ho : PIp X op ti) (hf : X.fn x = true ∨ X.env.scope.names.lookup x = some .local := by first | exact .inl rfl | exact .inr rfl | assumption) :
    PS X (.AugAssign (.Name x pos') op e pos) (tAug i te ti) := by
  intro pins s σ H D I h
  obtain ⟨v, e1, h⟩ := h
  obtain ⟨m, hn, hl⟩ := I.loc
  have vis : Vis X.env.scope x := by rcases hx with k | k; exact .inl k; exact .inr (.inl k)
  obtain ⟨u, r, l⟩ := hl i x v hi e1 vis
  refine wpAny_AugAssign_Name ?_
  have go : wpAny (model X.prog X.w) X.A (eval e X.env) (fun w s₂ => wpAny (model X.prog X.w) X.A (inplaceOp op u w) (fun r s₃ => wpAny (model X.prog X.w) X.A (storeName X.env x r) (fun _ => SP X pins D .next) X.xe s₃) X.xe s₂) X.xe s := by
    refine thn (he pins s σ H _ I h) fun w s1 ⟨y, H1, I1, r1, q1⟩ => ?_
    refine thn (ho pins s1 σ H1 v y u w _ I1 r r1 q1) fun z s2 ⟨zv, H2, I2, r2, q2⟩ => ?_
    exact store_ok I2 hN hi hx r2 (fun s3 I3 => ⟨_, H2, I3, q2⟩) hf
  rcases l with ⟨hk, hm⟩ | ⟨hk, c, hc, hcell⟩
  · exact wpAny_loadName_local I.ok.kind hk hn hm go
  · rcases hk with hk | hk
    · exact wpAny_loadName_cell I.ok.kind hk hc hcell go
    · rcases hx with k | k
      · have : X.env.scope.names.lookup x = some .free := hk
        rw [k] at this; cases this
      · have : X.env.scope.names.lookup x = some .free := hk
        rw [k] at this; cases this
def ipI (f : Int → Int → Int) : TIp := fun x y H Q => ∃ i j, x = .int i ∧ y = .int j ∧ Q (.int (f i j)) H
theorem ip_add : PIp X .Add (ipI fun i j => i + j) := by
  intro pins s σ H x y v u Q I r1 r2 h
  obtain ⟨i, j, e1, e2, q⟩ := h
  subst e1; subst e2
  obtain ⟨t, rfl⟩ := r1
  obtain ⟨t', rfl⟩ := r2
  exact iadd_int ⟨.int _, H, I.tok _, ⟨_, rfl⟩, q⟩
end
structure It where
  go : Nat → Hp → Prop
  yld : Nat → Hp → V → Hp → Prop
  stop : Nat → Hp → Prop
def FpOk (X : Cx) (pins : List (Addr × Obj)) (H : Hp) (b : Addr) : Prop :=
  H b = none ∧ b ≠ X.env.locals ∧ b ∉ X.fs ∧ (b ∈ X.ex ∨ X.s₀.heap.objs.size ≤ b) ∧ (∀ x c, X.env.cells.lookup x = some c → c ≠ b) ∧ ∀ p ∈ X.pn ++ pins, p.1 ≠ b
theorem Inv.fpOk {X : Cx} {pins : List (Addr × Obj)} {σ : St} {H H' : Hp} {s : Shared} {b : Addr} (I : Inv X pins σ H s) (hb : s.heap.objs.size ≤ b) (hn : H' b = none) : FpOk X pins H' b := by
  refine ⟨hn, Nat.ne_of_gt (Nat.lt_of_lt_of_le I.lt hb), I.nofs hb, .inr (Nat.le_trans I.sz hb), fun x c e z => ?_, fun p hp z => ?_⟩
  · obtain ⟨v, q⟩ := I.cell x c e
    exact absurd (Nat.lt_of_lt_of_le q.lt (by rw [z]; exact hb)) (Nat.lt_irrefl _)
  · exact absurd (Nat.lt_of_lt_of_le (Heap.lt_size (I.pin p hp).1) (by rw [z]; exact hb)) (Nat.lt_irrefl _)
structure Turn (P : Program) (w : World) (K : PySem.W.Frag) (tg : Expr) (J : It) (fp : List Addr) (it : Addr) (tn : Nat → Heap → Prop) : Prop where
  mem : it ∈ fp
  obj : ∀ i h, tn i h → ∀ b ∈ fp, ∃ o, h.get? b = some o ∧ ∀ v, o.data ≠ .cell v
  keep : ∀ i h h', tn i h → (∀ b ∈ fp, ∀ o, h.get? b = some o → h'.get? b = some o) → tn i h'
  item : ∀ (X : Cx), X.prog = P → X.w = w → X.K = K → X.calm = true → ∀ (i : Nat) (pins : List (Addr × Obj)) (s : Shared) (σ : St) (H : Hp) (E : Value → Shared → Prop), Inv X pins σ H s → (∀ b ∈ fp, FpOk X pins H b) → tn i s.heap → J.go i H →
    wpAny (model P w) X.A (pyNext (.ref it)) (fun r s1 => ∃ u, r = some u ∧
      wpAny (model P w) X.A (letOwnedTupleGo tg (.ref it) u) (fun _ s2 => ∃ x H', Inv X pins σ H' s2 ∧ RelV x u ∧ J.yld i H x H' ∧ tn (i + 1) s2.heap ∧ ∀ b ∈ fp, H' b = none) E s1) E s
  done : ∀ (X : Cx), X.prog = P → X.w = w → X.K = K → X.calm = true → ∀ (i : Nat) (pins : List (Addr × Obj)) (s : Shared) (σ : St) (H : Hp) (E : Value → Shared → Prop), Inv X pins σ H s → (∀ b ∈ fp, FpOk X pins H b) → tn i s.heap → J.stop i H →
    wpAny (model P w) X.A (pyNext (.ref it)) (fun r s1 => r = none ∧ Inv X pins σ H s1) E s
  self : ∀ (A : Around) (i : Nat) (s : Shared) (Q : Value → Shared → Prop) (E : Value → Shared → Prop), tn i s.heap → Q (.ref it) s → wpAny (model P w) A (pyIter (.ref it)) Q E s
abbrev TI := St → Hp → (It → Hp → Prop) → Prop
def PIE (X : Cx) (pins : List (Addr × Obj)) (σ : St) (tg : Expr) (R : It → Hp → Prop) (itv : Value) (s2 : Shared) : Prop :=
  ∃ (it : Addr) (fp : List Addr) (tn : Nat → Heap → Prop) (J : It) (H' : Hp), itv = .ref it ∧ Inv X pins σ H' s2 ∧ Turn X.prog X.w X.K tg J fp it tn ∧ tn 0 s2.heap ∧ (∀ b ∈ fp, FpOk X pins H' b) ∧ R J H'
def PI (X : Cx) (tg iter : Expr) (wi : TI) : Prop :=
  ∀ (pins : List (Addr × Obj)) (s : Shared) (σ : St) (H : Hp) (R : It → Hp → Prop), Inv X pins σ H s → wi σ H R →
    wpAny (model X.prog X.w) X.A (eval iter X.env) (fun v s1 => wpAny (model X.prog X.w) X.A (pyIter v) (PIE X pins σ tg R) X.xe s1) X.xe s
theorem go_of {M : Model} {A : Around} {E : Value → Shared → Prop} {s : Shared} {tg : Expr} {it : Addr} {u : Value} {o : Obj} {n : String} {vs : Array Value} {Q : Unit → Shared → Prop} (ho : s.heap.get? it = some o) (hc : o.cls = .type n) (hd : o.data = .fields vs)
    (hn : ["enumerate", "zip", "dict_itemiterator", "dict_reverseitemiterator", "odict_iterator", "itertools.zip_longest", "itertools.pairwise"].contains n = false) (hQ : Q () s) : wpAny M A (letOwnedTupleGo tg (.ref it) u) Q E s := by
  unfold letOwnedTupleGo
  cases tg <;> first
    | exact wpAny_pure hQ
    | (cases u <;> first
        | exact wpAny_pure hQ
        | (refine wpAny_bind (wpAny_load ho ?_)
           rw [hc, hd]
           show wpAny M A (if (["enumerate", "zip", "dict_itemiterator", "dict_reverseitemiterator", "odict_iterator", "itertools.zip_longest", "itertools.pairwise"].contains n && vs[0]? == some (rawInt _)) = true then _ else _) Q E s
           rw [if_neg (by intro h; rw [hn, Bool.false_and] at h; cases h)]
           exact wpAny_pure hQ))
def Itl (K : PySem.W.Frag) (a : Addr) : It :=
  ⟨fun i H => ∃ xs x, SqL K H a xs ∧ xs[i]? = some x, fun i H x H' => H' = H ∧ ∀ xs, SqL K H a xs → xs[i]? = some x, fun i H => ∃ xs, SqL K H a xs ∧ xs.length ≤ i⟩
def Itr (lo : Int) (n : Nat) : It := ⟨fun i _ => i < n, fun i H x H' => H' = H ∧ x = .int (lo + i), fun i _ => n ≤ i⟩
theorem turn_list {P : Program} {w : World} {K : PySem.W.Frag} {tg : Expr} (a it : Addr) : Turn P w K tg (Itl K a) [it] it (fun i h => h.IsListIter it a i) where
  mem := by simp
  obj := fun i h st b hb => by
    have e : b = it := by simpa using hb
    subst e
    obtain ⟨o, e, c, d⟩ := st
    exact ⟨o, e, fun v z => by rw [d] at z; cases z⟩
  keep := fun i h h' st k => st.at fun o e => k it (by simp) o e
  item := by
    intro X hP hw hK hc i pins s σ H E I hf st hg
    subst hP hw hK
    obtain ⟨xs, x, hq, hx⟩ := hg
    obtain ⟨its, rv, p, hz⟩ := I.list hq
    obtain ⟨u, hu, ru⟩ := rv.get hx
    obtain ⟨f0, f1, f2, f3, f4, f5⟩ := hf it (by simp)
    refine wpAny_pyNext_list_item st p.isList (x := u) (by simpa using hu) fun h' st' sb => ?_
    have I1 : Inv X pins σ H { s with heap := h' } := I.turned (t' := s.toks) (fun b o hb e => (sb.2 b hb).trans e) f0 f1 f3 f4 f5
    obtain ⟨o, e, c, d⟩ := id st'
    exact ⟨u, rfl, go_of (s := { s with heap := h' }) e c d (by decide) ⟨x, H, I1, ru, ⟨rfl, fun ys hy => by rw [I.list_inj hy hq]; exact hx⟩, st', fun b hb => (hf b hb).1⟩⟩
  done := by
    intro X hP hw hK hc i pins s σ H E I hf st hg
    subst hP hw hK
    obtain ⟨xs, hq, hx⟩ := hg
    obtain ⟨its, rv, p, hz⟩ := I.list hq
    obtain ⟨f0, f1, f2, f3, f4, f5⟩ := hf it (by simp)
    have hl := rv.length
    exact wpAny_pyNext_list_end (I.ok.hd hc) st p.isList (by simp; omega) fun h' eb => ⟨rfl, I.turned (t' := s.toks) (fun b o hb e => eb b o hb e) f0 f1 f3 f4 f5⟩
  self := fun _ _ _ _ _ st h => wpAny_pyIter_listiter st h
theorem turn_range {P : Program} {w : World} {K : PySem.W.Frag} {tg : Expr} (it : Addr) (lo : Int) (n : Nat) : Turn P w K tg (Itr lo n) [it] it (fun i h => IsRangeIter h it (lo + (i : Nat) * 1) ((n : Int) - (i : Nat)) 1) where
  mem := by simp
  obj := fun i h st b hb => by
    have e : b = it := by simpa using hb
    subst e
    exact ⟨_, st, fun v z => by
      have z' : Data.fields _ = Data.cell v := z
      cases z'⟩
  keep := fun i h h' st k => k it (by simp) _ st
  item := by
    intro X hP hw hK hc i pins s σ H E I hf st hg
    subst hP hw hK
    obtain ⟨f0, f1, f2, f3, f4, f5⟩ := hf it (by simp)
    have W := Walks.range (prog := X.prog) (w := X.w) (I.ok.hd hc) it lo 1 n
    refine W.item i s _ _ hg st fun v h' tk hv st' kk => ?_
    obtain ⟨t, rfl⟩ := hv
    have I1 : Inv X pins σ H { s with heap := h', toks := tk } := I.turned (fun b o hb e => kk b o (by simpa using hb) e) f0 f1 f3 f4 f5
    refine ⟨_, rfl, go_of (s := { s with heap := h', toks := tk }) (n := "range_iterator") st' rfl rfl (by decide) ⟨.int (lo + i), H, I1, ⟨t, ?_⟩, ⟨rfl, rfl⟩, st', fun b hb => (hf b hb).1⟩⟩
    rw [Int.mul_one]
  done := by
    intro X hP hw hK hc i pins s σ H E I hf st hg
    subst hP hw hK
    obtain ⟨f0, f1, f2, f3, f4, f5⟩ := hf it (by simp)
    exact wpAny_pyNext_range_end (I.ok.hd hc) st (by have : n ≤ i := hg; omega) fun h' eb => ⟨rfl, I.turned (t' := s.toks) (fun b o hb e => eb b o hb e) f0 f1 f3 f4 f5⟩
  self := fun _ _ _ _ _ st h => wpAny_pyIter_rangeiter st h
end L2
namespace L2
open PySem PySem.Spec PyProof.Rows
section
variable {X : Cx} {tg : Expr}
def iList (K : PySem.W.Frag) (tl : TE) : TI := fun σ H R => tl σ H fun x H1 => ∃ a, x = .ref a ∧ (∃ xs, SqL K H1 a xs) ∧ R (Itl K a) H1
theorem pi_list {l : Expr} {tl : TE} (hl : PE X l tl) : PI X tg l (iList X.K tl) := by
  intro pins s σ H R I h
  refine thn (hl pins s σ H _ I h) fun v s1 ⟨x, H1, I1, r1, q1⟩ => ?_
  obtain ⟨a, e, ⟨xs, hq⟩, q⟩ := q1
  subst e
  cases r1
  obtain ⟨its, rv, p, hz⟩ := I1.list hq
  refine wpAny_pyIter_list p.isList ?_
  refine ⟨s1.heap.objs.size, [s1.heap.objs.size], _, _, H1, rfl, I1.kept (t' := s1.toks) fun b o e => Heap.get?_push_of_some _ e, turn_list a _, ⟨_, Heap.get?_push_size _ rfl, rfl, rfl⟩, fun b hb => ?_, q⟩
  have e : b = s1.heap.objs.size := by simpa using hb
  subst e
  exact I1.fpOk (Nat.le_refl _) (I1.hok.fresh (Nat.le_refl _))
theorem range_it {pins : List (Addr × Obj)} {σ : St} {H : Hp} {s : Shared} {R : It → Hp → Prop} {E : Value → Shared → Prop} {lo hi : Int} {t u v : Tok} {tk : Nat} (I : Inv X pins σ H s) (h1 : -(2 ^ 62) ≤ lo) (h2 : lo < 2 ^ 62) (h3 : -(2 ^ 62) ≤ hi) (h4 : hi < 2 ^ 62)
    (q : R (Itr lo (hi - lo).toNat) H) : wpAny (model X.prog X.w) X.A (pyIter (.ref s.heap.objs.size)) (PIE X pins σ tg R) E { s with heap := s.heap.push { cls := .type "range", data := .fields #[.int lo t, .int hi u, .int 1 v] }, toks := tk } := by
  refine wpAny_pyIter_range (IsRange.new ..) (small_one h1 h2 h3 h4) ?_
  have I1 : Inv X pins σ H { s with heap := s.heap.push { cls := .type "range", data := .fields #[.int lo t, .int hi u, .int 1 v] }, toks := tk } := I.kept fun b o e => Heap.get?_push_of_some _ e
  refine ⟨(s.heap.push { cls := .type "range", data := .fields #[.int lo t, .int hi u, .int 1 v] }).objs.size, [(s.heap.push { cls := .type "range", data := .fields #[.int lo t, .int hi u, .int 1 v] }).objs.size], _, _, H, rfl,
    I1.kept (t' := tk) fun b o e => Heap.get?_push_of_some _ e, turn_range _ lo (hi - lo).toNat, ?_, fun b hb => ?_, q⟩
  · have e1 : lo + ((0 : Nat) : Int) * 1 = lo := by simp
    have e2 : (((hi - lo).toNat : Nat) : Int) - ((0 : Nat) : Int) = Builtin.Range.rangeSize lo hi 1 := by rw [rangeSize_one]; split <;> omega
    show IsRangeIter _ _ (lo + ((0 : Nat) : Int) * 1) ((((hi - lo).toNat : Nat) : Int) - ((0 : Nat) : Int)) 1
    rw [e1, e2]
    exact Heap.get?_push_size _ rfl
  · have e : b = (s.heap.push { cls := .type "range", data := .fields #[.int lo t, .int hi u, .int 1 v] }).objs.size := by simpa using hb
    subst e
    exact I1.fpOk (Nat.le_refl _) (I1.hok.fresh (Nat.le_refl _))
def iRng1 (ta : TA) : TI := fun σ H R => ta σ H fun vs H1 => ∃ j : Int, vs = [.int j] ∧ -(2 ^ 62) ≤ j ∧ j < 2 ^ 62 ∧ R (Itr 0 j.toNat) H1
theorem pi_range1 {a : Expr} {ta : TA} {p pos : PySem.Pos} (hg : Gl X "range") (hm : X.mg "range" = none) (ha : PA X [a] ta) (hs : starEach [a] X.env = [(false, eval a X.env)] := by rfl) : PI X tg (.Call (.Name "range" p) [a] [] pos) (iRng1 ta) := by
  intro pins s σ H R I h
  refine Call_ (ld_blt I hg hm boot_range (PyProof.Rows.callWith_type1 (thn (ha pos pins s σ H _ I h) fun us s1 ⟨vs, H1, I1, r1, q1⟩ => ?_) hs rfl))
  obtain ⟨j, e, q1, q2, q⟩ := q1
  subst e
  cases r1 with
  | cons r rr =>
    cases rr
    obtain ⟨t, rfl⟩ := r
    exact call_range_1 (range_it I1 (by omega) (by omega) q1 q2 (by simpa using q))
def tFor (wi : TI) (g : TG) (tb : TS) : TS := fun D σ H => wi σ H fun J H1 => ∃ W : Nat → Nat → St → Hp → Prop, (∃ m, W 0 m σ H1) ∧ ∀ i m σ H, W i m σ H →
  (J.stop i H ∧ D.nx σ H) ∨ (J.go i H ∧ ∃ N : St → Hp → Prop, (∀ σ' H', N σ' H' → ∃ m', m' < m ∧ W (i + 1) m' σ' H') ∧ ∀ x H', J.yld i H x H' → g x σ H' fun σ2 H2 => tb { D with nx := N, ct := N, bk := D.nx } σ2 H2)
def pinsAt (fp : List Addr) (h : Heap) : List (Addr × Obj) := fp.filterMap fun b => (h.get? b).map fun o => (b, o)
theorem mem_pinsAt {fp : List Addr} {h : Heap} {b : Addr} {o : Obj} (hb : b ∈ fp) (e : h.get? b = some o) : (b, o) ∈ pinsAt fp h := List.mem_filterMap.mpr ⟨b, hb, by rw [e]; rfl⟩
theorem of_pinsAt {fp : List Addr} {h : Heap} {p : Addr × Obj} (hp : p ∈ pinsAt fp h) : p.1 ∈ fp ∧ h.get? p.1 = some p.2 := by
  obtain ⟨b, hb, e⟩ := List.mem_filterMap.mp hp
  cases q : h.get? b with
  | none => rw [q] at e; cases e
  | some o =>
    rw [q] at e
    have e' : (b, o) = p := Option.some.inj e
    subst e'
    exact ⟨hb, q⟩
theorem Inv.pinned {pins : List (Addr × Obj)} {σ : St} {H : Hp} {s : Shared} {fp : List Addr} (I : Inv X pins σ H s) (hf : ∀ b ∈ fp, FpOk X pins H b) (ho : ∀ b ∈ fp, ∃ o, s.heap.get? b = some o ∧ ∀ v, o.data ≠ .cell v) : Inv X (pins ++ pinsAt fp s.heap) σ H s :=
  I.pins_of fun p hp => (List.mem_append.mp hp).elim (fun z => I.pin p (List.mem_append_right _ z)) fun z => by
    obtain ⟨hb, e⟩ := of_pinsAt z
    obtain ⟨f0, f1, f2, _⟩ := hf p.1 hb
    obtain ⟨o, e', d⟩ := ho p.1 hb
    rw [e] at e'; cases e'
    exact ⟨e, f0, f1, f2, d⟩
theorem Inv.unpinned {pins pl : List (Addr × Obj)} {σ : St} {H : Hp} {s : Shared} (I : Inv X (pins ++ pl) σ H s) : Inv X pins σ H s := I.pins_of fun p hp => I.pin p (List.mem_append_right _ (List.mem_append_left _ hp))
theorem ps_for {iter : Expr} {body : List Stmt} {wi : TI} {g : TG} {tb : TS} {pos : PySem.Pos} (hp : PassesOwn (model X.prog X.w) X.A X.env X.xe) (hc : X.calm = true) (hi : PI X tg iter wi) (hg : PG X tg g) (hb : PSs X body tb)
    (hs : ∀ x, foldedSetIterable iter X.env x = pure x := by intro _; rfl) : PS X (.For tg iter body [] pos) (tFor wi g tb) := by
  intro pins s σ H D I h
  refine wpAny_For (thn (hi pins s σ H _ I h) fun v s1 h1 => thn h1 fun itv s2 h2 => ?_) hs
  obtain ⟨it, fp, tn, J, H2, e, I2, T, st2, f2, W, ⟨m0, w0⟩, turn⟩ := h2
  subst e
  have stat : ∀ {H' : Hp}, (∀ b ∈ fp, H' b = none) → ∀ b ∈ fp, FpOk X pins H' b := fun hn b hb => ⟨hn b hb, (f2 b hb).2⟩
  refine codeAny_forLoop_any (fun n s' => ∃ i σ' H', Inv X pins σ' H' s' ∧ tn i s'.heap ∧ (∀ b ∈ fp, H' b = none) ∧ W i n σ' H') ?_ m0 ⟨0, σ, H2, I2, st2, fun b hb => (f2 b hb).1, w0⟩
  rintro n s3 ⟨i, σ3, H3, I3, st3, fr3, w3⟩
  rcases turn i n σ3 H3 w3 with ⟨stop, qn⟩ | ⟨go, N, hN, step⟩
  · refine wpAny_passesOwn hp (thn (T.done X rfl rfl rfl hc i pins s3 σ3 H3 X.xe I3 (stat fr3) st3 stop) fun r s4 ⟨hr, I4⟩ => ?_)
    subst hr
    exact wpAny_execs_nil ⟨σ3, H3, I4, qn⟩
  · refine wpAny_passesOwn hp (thn (T.item X rfl rfl rfl hc i pins s3 σ3 H3 X.xe I3 (stat fr3) st3 go) fun r s4 ⟨u, hr, h4⟩ => ?_)
    subst hr
    refine wpAny_passesOwn hp (thn h4 fun _ s5 ⟨x, H5, I5, r5, y5, st5, fr5⟩ => ?_)
    have I5' := I5.pinned (stat fr5) (T.obj _ _ st5)
    refine wpAny_passesOwn hp (thn (hg _ s5 σ3 H5 x u _ I5' r5 (step x H5 y5)) fun _ s6 ⟨σ6, H6, I6, q6⟩ => ?_)
    refine wpAny_passesOwn hp (thn (hb _ s6 σ6 H6 _ I6 q6) fun f s7 q7 => ?_)
    have again : ∀ {σ7 : St} {H7 : Hp}, Inv X (pins ++ pinsAt fp s5.heap) σ7 H7 s7 → N σ7 H7 → ∃ m, m < n ∧ ∃ i σ' H', Inv X pins σ' H' s7 ∧ tn i s7.heap ∧ (∀ b ∈ fp, H' b = none) ∧ W i m σ' H' := fun {σ7 H7} I7 n7 => by
      obtain ⟨m', hm, w7⟩ := hN σ7 H7 n7
      refine ⟨m', hm, i + 1, σ7, H7, I7.unpinned, T.keep _ _ _ st5 fun b hb o e => (I7.pin (b, o) (List.mem_append_right _ (List.mem_append_right _ (mem_pinsAt hb e)))).1, fun b hb => ?_, w7⟩
      obtain ⟨o, e, d⟩ := T.obj _ _ st5 b hb
      exact (I7.pin (b, o) (List.mem_append_right _ (List.mem_append_right _ (mem_pinsAt hb e)))).2.1
    cases f with
    | next => obtain ⟨σ7, H7, I7, n7⟩ := q7; exact again I7 n7
    | cont => obtain ⟨σ7, H7, I7, n7⟩ := q7; exact again I7 n7
    | brk => obtain ⟨σ7, H7, I7, q7⟩ := q7; exact ⟨σ7, H7, I7.unpinned, q7⟩
    | ret v => obtain ⟨x7, σ7, H7, I7, r7, q7⟩ := q7; exact ⟨x7, σ7, H7, I7.unpinned, r7, q7⟩
end
theorem for_list {K : PySem.W.Frag} {a : Addr} {xs : List V} {g : TG} {tb : TS} {D : Ends} {σ : St} {H : Hp} (Pv : Nat → St → Hp → Prop) (h0 : Pv 0 σ H) (hl : ∀ i σ H, i ≤ xs.length → Pv i σ H → SqL K H a xs)
    (hs : ∀ i x σ H, xs[i]? = some x → Pv i σ H → g x σ H fun σ2 H2 => tb { D with nx := Pv (i + 1), ct := Pv (i + 1), bk := D.nx } σ2 H2) (hd : ∀ σ H, Pv xs.length σ H → D.nx σ H) :
    ∃ W : Nat → Nat → St → Hp → Prop, (∃ m, W 0 m σ H) ∧ ∀ i m σ H, W i m σ H →
      ((Itl K a).stop i H ∧ D.nx σ H) ∨ ((Itl K a).go i H ∧ ∃ N : St → Hp → Prop, (∀ σ' H', N σ' H' → ∃ m', m' < m ∧ W (i + 1) m' σ' H') ∧ ∀ x H', (Itl K a).yld i H x H' → g x σ H' fun σ2 H2 => tb { D with nx := N, ct := N, bk := D.nx } σ2 H2) := by
  refine ⟨fun i m σ H => m = xs.length - i ∧ i ≤ xs.length ∧ Pv i σ H, ⟨xs.length, by simp, Nat.zero_le _, h0⟩, ?_⟩
  rintro i m σ H ⟨rfl, hi, p⟩
  have q := hl i σ H hi p
  by_cases hlt : i < xs.length
  · refine .inr ⟨⟨xs, xs[i], q, by simp [hlt]⟩, Pv (i + 1), fun σ' H' p' => ⟨xs.length - (i + 1), by omega, rfl, hlt, p'⟩, fun x H' y => ?_⟩
    obtain ⟨e, y⟩ := y
    subst e
    exact hs i x σ _ (y xs q) p
  · have e : i = xs.length := by omega
    subst e
    exact .inl ⟨⟨xs, q, Nat.le_refl _⟩, hd σ H p⟩
theorem for_range {lo : Int} {n : Nat} {g : TG} {tb : TS} {D : Ends} {σ : St} {H : Hp} (Pv : Nat → St → Hp → Prop) (h0 : Pv 0 σ H)
    (hs : ∀ i σ H, i < n → Pv i σ H → g (.int (lo + i)) σ H fun σ2 H2 => tb { D with nx := Pv (i + 1), ct := Pv (i + 1), bk := D.nx } σ2 H2) (hd : ∀ σ H, Pv n σ H → D.nx σ H) :
    ∃ W : Nat → Nat → St → Hp → Prop, (∃ m, W 0 m σ H) ∧ ∀ i m σ H, W i m σ H →
      ((Itr lo n).stop i H ∧ D.nx σ H) ∨ ((Itr lo n).go i H ∧ ∃ N : St → Hp → Prop, (∀ σ' H', N σ' H' → ∃ m', m' < m ∧ W (i + 1) m' σ' H') ∧ ∀ x H', (Itr lo n).yld i H x H' → g x σ H' fun σ2 H2 => tb { D with nx := N, ct := N, bk := D.nx } σ2 H2) := by
  refine ⟨fun i m σ H => m = n - i ∧ i ≤ n ∧ Pv i σ H, ⟨n, by simp, Nat.zero_le _, h0⟩, ?_⟩
  rintro i m σ H ⟨rfl, hi, p⟩
  by_cases hlt : i < n
  · refine .inr ⟨hlt, Pv (i + 1), fun σ' H' p' => ⟨n - (i + 1), by omega, rfl, hlt, p'⟩, fun x H' y => ?_⟩
    obtain ⟨e, y⟩ := y
    subst e y
    exact hs i σ _ hlt p
  · have e : i = n := by omega
    subst e
    exact .inl ⟨Nat.le_refl _, hd σ H p⟩
end L2
namespace L2
open PySem PySem.Spec PyProof.Rows
abbrev R2 := V → V → Hp → VK → Prop
def OpR (X : Cx) (f : Value → Value → Sem Value) (r : R2) : Prop :=
  ∀ (pins : List (Addr × Obj)) (s : Shared) (σ : St) (H : Hp) (x y : V) (v u : Value) (Q : VK), Inv X pins σ H s → RelV x v → RelV y u → r x y H Q →
    wpAny (model X.prog X.w) X.A (f v u) (EP X pins σ Q) X.xe s
def UnR (X : Cx) (f : Value → Sem Value) (r : V → Hp → VK → Prop) : Prop :=
  ∀ (pins : List (Addr × Obj)) (s : Shared) (σ : St) (H : Hp) (x : V) (v : Value) (Q : VK), Inv X pins σ H s → RelV x v → r x H Q →
    wpAny (model X.prog X.w) X.A (f v) (EP X pins σ Q) X.xe s
def CallR (X : Cx) (f : Value) (r : List V → Hp → VK → Prop) : Prop :=
  ∀ (pins : List (Addr × Obj)) (s : Shared) (σ : St) (H : Hp) (xs : List V) (us : List Value) (Q : VK), Inv X pins σ H s → Vals xs us → r xs H Q →
    wpAny (model X.prog X.w) X.A (call f us) (EP X pins σ Q) X.xe s
def TruR (X : Cx) (r : V → Hp → (Bool → Hp → Prop) → Prop) : Prop :=
  ∀ (pins : List (Addr × Obj)) (s : Shared) (σ : St) (H : Hp) (x : V) (v : Value) (Q : Bool → Hp → Prop), Inv X pins σ H s → RelV x v → r x H Q →
    wpAny (model X.prog X.w) X.A (truthy v) (TP X pins σ Q) X.xe s
def tOp (r : R2) (ta tb : TE) : TE := fun σ H Q => ta σ H fun x H1 => tb σ H1 fun y H2 => r x y H2 Q
def tUn (r : V → Hp → VK → Prop) (ta : TE) : TE := fun σ H Q => ta σ H fun x H1 => r x H1 Q
def rI (C : Int → Int → Prop) (g : Int → Int → V) : R2 := fun x y H Q => ∃ i j, x = .int i ∧ y = .int j ∧ C i j ∧ Q (g i j) H
def rI0 (g : Int → Int → V) : R2 := fun x y H Q => ∃ i j, x = .int i ∧ y = .int j ∧ Q (g i j) H
def rU (g : Int → V) : V → Hp → VK → Prop := fun x H Q => ∃ i, x = .int i ∧ Q (g i) H
section
variable {X : Cx} {a b c : Expr} {ta tb tc : TE} {pos : PySem.Pos}
theorem binT (ha : PE X a ta) (hb : PE X b tb) {pins : List (Addr × Obj)} {s : Shared} {σ : St} {H : Hp} {R : V → V → Hp → Prop} (I : Inv X pins σ H s)
    (h : ta σ H fun x H1 => tb σ H1 fun y H2 => R x y H2) {Q : Value → Shared → Prop} {f : Value → Value → Sem Value}
    (hf : ∀ v u s2 x y H2, Inv X pins σ H2 s2 → RelV x v → RelV y u → R x y H2 → wpAny (model X.prog X.w) X.A (f v u) Q X.xe s2) :
    wpAny (model X.prog X.w) X.A (eval a X.env) (fun v s₁ => wpAny (model X.prog X.w) X.A (eval b X.env) (fun u s₂ => wpAny (model X.prog X.w) X.A (f v u) Q X.xe s₂) X.xe s₁) X.xe s := by
  refine thn (ha pins s σ H _ I h) fun v s1 ⟨x, H1, I1, r1, q1⟩ => ?_
  refine thn (hb pins s1 σ H1 _ I1 q1) fun u s2 ⟨y, H2, I2, r2, q2⟩ => ?_
  exact hf v u s2 x y H2 I2 r1 r2 q2
theorem pe_op {op : Operator} {r : R2} (ho : OpR X (binaryOp op) r) (ha : PE X a ta) (hb : PE X b tb) : PE X (.BinOp a op b pos) (tOp r ta tb) := by
  intro pins s σ H Q I h
  exact wpAny_BinOp (binT ha hb I h fun v u s2 x y H2 I2 rx ry q => ho pins s2 σ H2 x y v u Q I2 rx ry q)
theorem pe_un {op : UnaryOp} {r : V → Hp → VK → Prop} (ho : UnR X (unaryOp op) r) (ha : PE X a ta) : PE X (.UnaryOp op a pos) (tUn r ta) := by
  intro pins s σ H Q I h
  exact UnaryOp_ (thn (ha pins s σ H _ I h) fun v s1 ⟨x, H1, I1, r1, q1⟩ => ho pins s1 σ H1 x v Q I1 r1 q1)
theorem opI {f : Value → Value → Sem Value} {C : Int → Int → Prop} {g : Int → Int → Int}
    (rule : ∀ (i j : Int) (t u : Tok) (s : Shared) (Q : Value → Shared → Prop) (E : Value → Shared → Prop), C i j → Q (.int (g i j) s.toks) { s with toks := s.toks + 1 } → wpAny (model X.prog X.w) X.A (f (.int i t) (.int j u)) Q E s) :
    OpR X f (rI C fun i j => .int (g i j)) := by
  intro pins s σ H x y v u Q I rx ry h
  obtain ⟨i, j, rfl, rfl, hc, q⟩ := h
  obtain ⟨t, rfl⟩ := rx
  obtain ⟨t', rfl⟩ := ry
  exact rule i j t t' s _ _ hc ⟨.int (g i j), H, I.tok _, ⟨_, rfl⟩, q⟩
theorem opI0 {f : Value → Value → Sem Value} {g : Int → Int → Int}
    (rule : ∀ (i j : Int) (t u : Tok) (s : Shared) (Q : Value → Shared → Prop) (E : Value → Shared → Prop), Q (.int (g i j) s.toks) { s with toks := s.toks + 1 } → wpAny (model X.prog X.w) X.A (f (.int i t) (.int j u)) Q E s) :
    OpR X f (rI0 fun i j => .int (g i j)) := by
  intro pins s σ H x y v u Q I rx ry h
  obtain ⟨i, j, rfl, rfl, q⟩ := h
  obtain ⟨t, rfl⟩ := rx
  obtain ⟨t', rfl⟩ := ry
  exact rule i j t t' s _ _ ⟨.int (g i j), H, I.tok _, ⟨_, rfl⟩, q⟩
theorem opB0 {f : Value → Value → Sem Value} {g : Int → Int → Bool}
    (rule : ∀ (i j : Int) (t u : Tok) (s : Shared) (Q : Value → Shared → Prop) (E : Value → Shared → Prop), Q (.bool (g i j)) s → wpAny (model X.prog X.w) X.A (f (.int i t) (.int j u)) Q E s) :
    OpR X f (rI0 fun i j => .bl (g i j)) := by
  intro pins s σ H x y v u Q I rx ry h
  obtain ⟨i, j, rfl, rfl, q⟩ := h
  obtain ⟨t, rfl⟩ := rx
  obtain ⟨t', rfl⟩ := ry
  exact rule i j t t' s _ _ ⟨.bl (g i j), H, I, rfl, q⟩
def CPow (i j : Int) : Prop := 0 ≤ j ∧ j ≤ 1000000 ∧ i.natAbs < 2 ^ 64
def CMul (i j : Int) : Prop := (-(2 ^ 64) < i ∧ i < 2 ^ 64) ∨ (-(2 ^ 64) < j ∧ j < 2 ^ 64)
theorem CMul.ok {i j : Int} (h : CMul i j) : IntMulOk i j := by
  rcases h with ⟨h1, h2⟩ | ⟨h1, h2⟩
  · exact .of_left (intBits_le_64 h1 h2)
  · exact .of_right (intBits_le_64 h1 h2)
theorem op_add : OpR X (binaryOp .Add) (rI0 fun i j => .int (i + j)) := opI0 fun _ _ _ _ _ _ _ q => add_int q
theorem op_sub : OpR X (binaryOp .Sub) (rI0 fun i j => .int (i - j)) := opI0 fun _ _ _ _ _ _ _ q => sub_int q
theorem op_mul : OpR X (binaryOp .Mult) (rI CMul fun i j => .int (i * j)) := opI fun _ _ _ _ _ _ _ hc q => mul_int q hc.ok
theorem op_mod : OpR X (binaryOp .Mod) (rI (fun _ j => 0 < j) fun i j => .int (i % j)) := opI fun i j _ _ _ _ _ hc q => by
  have h1 : (0 : Int) < j := hc
  exact mod_int' (by omega) (by rw [Int.fmod_eq_emod_of_nonneg i (by omega)]; exact q)
theorem op_pow : OpR X (binaryOp .Pow) (rI CPow fun i j => .int (i ^ j.toNat)) := opI fun _ _ _ _ _ _ _ hc q => pow_int_small hc.1 hc.2.1 hc.2.2 q
theorem unI {f : Value → Sem Value} {g : Int → Int}
    (rule : ∀ (i : Int) (t : Tok) (s : Shared) (Q : Value → Shared → Prop) (E : Value → Shared → Prop), Q (.int (g i) s.toks) { s with toks := s.toks + 1 } → wpAny (model X.prog X.w) X.A (f (.int i t)) Q E s) :
    UnR X f (rU fun i => .int (g i)) := by
  intro pins s σ H x v Q I rx h
  obtain ⟨i, rfl, q⟩ := h
  obtain ⟨t, rfl⟩ := rx
  exact rule i t s _ _ ⟨.int (g i), H, I.tok _, ⟨_, rfl⟩, q⟩
theorem un_neg : UnR X (unaryOp .USub) (rU fun i => .int (-i)) := unI fun _ _ _ _ _ q => neg_int q
end
def scal : V → V → Bool
  | .non, .non => true | .non, .int _ => true | .int _, .non => true | .non, .bl _ => true | .bl _, .non => true | .non, .str _ => true | .str _, .non => true
  | .int _, .int _ => true | .bl _, .bl _ => true | .str _, .str _ => true | .byt _, .byt _ => true
  | .int _, .str _ => true | .str _, .int _ => true | .bl _, .str _ => true | .str _, .bl _ => true
  | _, _ => false
def rEq : R2 := fun x y H Q => scal x y = true ∧ Q (.bl (decide (x = y))) H
def rNe : R2 := fun x y H Q => scal x y = true ∧ Q (.bl (!decide (x = y))) H
theorem dec_int {i j : Int} : decide (V.int i = V.int j) = (i == j) := by
  rw [Bool.eq_iff_iff]
  simp
theorem dec_bl {i j : Bool} : decide (V.bl i = V.bl j) = (i == j) := by
  rw [Bool.eq_iff_iff]
  simp
theorem dec_str {i j : Str} : decide (V.str i = V.str j) = (i == j) := by
  rw [Bool.eq_iff_iff]
  simp
theorem dec_byt {i j : Array UInt8} : decide (V.byt i = V.byt j) = (i.toList == j.toList) := by
  rw [Bool.eq_iff_iff]
  cases i
  cases j
  simp
section
variable {X : Cx} {a b c : Expr} {ta tb tc : TE} {pos : PySem.Pos}
theorem fin_bl {pins : List (Addr × Obj)} {σ : St} {H : Hp} {s : Shared} {Q : VK} {k k' : Bool} (I : Inv X pins σ H s) (q : Q (.bl k) H) (e : k = k') : EP X pins σ Q (.bool k') s := by
  subst e
  exact ⟨.bl k, H, I, rfl, q⟩
theorem op_eq : OpR X (compareOp .Eq) rEq := by
  intro pins s σ H x y v u Q I rx ry h
  obtain ⟨hs, q⟩ := h
  cases x with
  | non =>
    cases rx
    cases y with
    | non => cases ry; exact PySem.EqNone.eq_none_none (fin_bl I q (by simp))
    | bl j => cases ry; exact PySem.EqNone.eq_none_bool (fin_bl I q (by simp))
    | int j => obtain ⟨t', rfl⟩ := ry; exact PySem.EqNone.eq_none_int (fin_bl I q (by simp))
    | str j => obtain ⟨t', rfl⟩ := ry; exact PySem.EqNone.eq_none_str (fin_bl I q (by simp))
    | _ => exact absurd (show false = true from hs) Bool.false_ne_true
  | bl i =>
    cases rx
    cases y with
    | non => cases ry; exact PySem.EqNone.eq_bool_none (fin_bl I q (by simp))
    | bl j => cases ry; exact eq_bool (fin_bl I q dec_bl)
    | str j => obtain ⟨t', rfl⟩ := ry; exact PySem.EqMixed.eq_bool_str (fin_bl I q (by simp))
    | _ => exact absurd (show false = true from hs) Bool.false_ne_true
  | int i =>
    obtain ⟨t, rfl⟩ := rx
    cases y with
    | non => cases ry; exact PySem.EqNone.eq_int_none (fin_bl I q (by simp))
    | int j => obtain ⟨t', rfl⟩ := ry; exact eq_int (fin_bl I q dec_int)
    | str j => obtain ⟨t', rfl⟩ := ry; exact PySem.EqMixed.eq_int_str (fin_bl I q (by simp))
    | _ => exact absurd (show false = true from hs) Bool.false_ne_true
  | str i =>
    obtain ⟨t, rfl⟩ := rx
    cases y with
    | non => cases ry; exact PySem.EqNone.eq_str_none (fin_bl I q (by simp))
    | bl j => cases ry; exact PySem.EqMixed.eq_str_bool (fin_bl I q (by simp))
    | int j => obtain ⟨t', rfl⟩ := ry; exact PySem.EqMixed.eq_str_int (fin_bl I q (by simp))
    | str j => obtain ⟨t', rfl⟩ := ry; exact eq_str (fin_bl I q dec_str)
    | _ => exact absurd (show false = true from hs) Bool.false_ne_true
  | byt i =>
    obtain ⟨t, rfl⟩ := rx
    cases y with
    | byt j => obtain ⟨t', rfl⟩ := ry; exact PySem.W.eq_bytes (fin_bl I q dec_byt)
    | _ => exact absurd (show false = true from hs) Bool.false_ne_true
  | _ => cases y <;> exact absurd (show false = true from hs) Bool.false_ne_true
theorem op_ne : OpR X (compareOp .NotEq) rNe := by
  intro pins s σ H x y v u Q I rx ry h
  obtain ⟨hs, q⟩ := h
  cases x with
  | non =>
    cases rx
    cases y with
    | non => cases ry; exact PySem.EqNone.ne_none_none (fin_bl I q (by simp))
    | bl j => cases ry; exact PySem.EqNone.ne_none_bool (fin_bl I q (by simp))
    | int j => obtain ⟨t', rfl⟩ := ry; exact PySem.EqNone.ne_none_int (fin_bl I q (by simp))
    | str j => obtain ⟨t', rfl⟩ := ry; exact PySem.EqNone.ne_none_str (fin_bl I q (by simp))
    | _ => exact absurd (show false = true from hs) Bool.false_ne_true
  | bl i =>
    cases rx
    cases y with
    | non => cases ry; exact PySem.EqNone.ne_bool_none (fin_bl I q (by simp))
    | bl j => cases ry; exact ne_bool (fin_bl I q (congrArg not dec_bl))
    | str j => obtain ⟨t', rfl⟩ := ry; exact PySem.EqMixed.ne_bool_str (fin_bl I q (by simp))
    | _ => exact absurd (show false = true from hs) Bool.false_ne_true
  | int i =>
    obtain ⟨t, rfl⟩ := rx
    cases y with
    | non => cases ry; exact PySem.EqNone.ne_int_none (fin_bl I q (by simp))
    | int j => obtain ⟨t', rfl⟩ := ry; exact ne_int (fin_bl I q (congrArg not dec_int))
    | str j => obtain ⟨t', rfl⟩ := ry; exact PySem.EqMixed.ne_int_str (fin_bl I q (by simp))
    | _ => exact absurd (show false = true from hs) Bool.false_ne_true
  | str i =>
    obtain ⟨t, rfl⟩ := rx
    cases y with
    | non => cases ry; exact PySem.EqNone.ne_str_none (fin_bl I q (by simp))
    | bl j => cases ry; exact PySem.EqMixed.ne_str_bool (fin_bl I q (by simp))
    | int j => obtain ⟨t', rfl⟩ := ry; exact PySem.EqMixed.ne_str_int (fin_bl I q (by simp))
    | str j => obtain ⟨t', rfl⟩ := ry; exact ne_str (fin_bl I q (congrArg not dec_str))
    | _ => exact absurd (show false = true from hs) Bool.false_ne_true
  | byt i =>
    obtain ⟨t, rfl⟩ := rx
    cases y with
    | byt j => obtain ⟨t', rfl⟩ := ry; exact PySem.W.ne_bytes (fin_bl I q (congrArg not dec_byt))
    | _ => exact absurd (show false = true from hs) Bool.false_ne_true
  | _ => cases y <;> exact absurd (show false = true from hs) Bool.false_ne_true
theorem op_lt : OpR X (compareOp .Lt) (rI0 fun i j => .bl (decide (i < j))) := opB0 fun _ _ _ _ _ _ _ q => lt_int q
theorem op_le : OpR X (compareOp .LtE) (rI0 fun i j => .bl (decide (i ≤ j))) := opB0 fun _ _ _ _ _ _ _ q => le_int q
theorem op_gt : OpR X (compareOp .Gt) (rI0 fun i j => .bl (decide (j < i))) := opB0 fun _ _ _ _ _ _ _ q => gt_int q
theorem op_ge : OpR X (compareOp .GtE) (rI0 fun i j => .bl (decide (j ≤ i))) := opB0 fun _ _ _ _ _ _ _ q => ge_int q
theorem nomark (b : Expr) {op : CmpOp} (h : op ≠ .In := by decide) (h2 : op ≠ .NotIn := by decide) : behindInMarks op b = false := by
  have e1 : (op == CmpOp.In) = false := by cases op <;> first | rfl | exact absurd rfl h
  have e2 : (op == CmpOp.NotIn) = false := by cases op <;> first | rfl | exact absurd rfl h2
  cases b <;> simp [behindInMarks, e1, e2]
theorem pe_cmpR {op : CmpOp} {r : R2} (ho : OpR X (compareOp op) r) (ha : PE X a ta) (hb : PE X b tb) (hm : behindInMarks op b = false) : PE X (.Compare a [op] [b] pos) (tOp r ta tb) := by
  intro pins s σ H Q I h
  exact wpAny_Compare1 (binT ha hb I h fun v u s2 x y H2 I2 rx ry q => ho pins s2 σ H2 x y v u Q I2 rx ry q) hm
def tTest (t : TE) : TT := fun σ H Q => t σ H fun x H' => ∃ k, x = .bl k ∧ Q k H'
theorem pt_cmpR {op : CmpOp} {r : R2} (ho : OpR X (compareOp op) r) (ha : PE X a ta) (hb : PE X b tb) (hm : behindInMarks op b = false) : PT X (.Compare a [op] [b] pos) (tTest (tOp r ta tb)) := by
  intro pins s σ H Q I h
  refine wpAny_isTrue_Compare1 (thn (ha pins s σ H _ I h) fun v s1 ⟨x, H1, I1, r1, q1⟩ => thn (hb pins s1 σ H1 _ I1 q1) fun u s2 ⟨y, H2, I2, r2, q2⟩ =>
    thn (ho pins s2 σ H2 x y v u _ I2 r1 r2 q2) fun c s3 ⟨z, H3, I3, r3, k, e, q3⟩ => ?_) hm
  subst e
  cases r3
  exact wpAny_truthy_bool ⟨H3, I3, q3⟩
def tChain (r r' : R2) (ta tb tc : TE) : TE := fun σ H Q => ta σ H fun x H1 => tb σ H1 fun y H2 => r x y H2 fun z H3 => ∃ k, z = .bl k ∧
  (if k = true then tc σ H3 fun w' H4 => r' y w' H4 Q else Q (.bl false) H3)
theorem pe_chain {op op' : CmpOp} {r r' : R2} (ho : OpR X (compareOp op) r) (ho' : OpR X (compareOp op') r') (ha : PE X a ta) (hb : PE X b tb) (hc : PE X c tc)
    (hm : lastMarks [op, op'] [b, c] = false := by with_unfolding_all rfl) : PE X (.Compare a [op, op'] [b, c] pos) (tChain r r' ta tb tc) := by
  intro pins s σ H Q I h
  refine Compare_chain (thn (ha pins s σ H _ I h) fun v s1 ⟨x, H1, I1, r1, q1⟩ => chain_link (thn (hb pins s1 σ H1 _ I1 q1) fun u s2 ⟨y, H2, I2, r2, q2⟩ =>
    thn (ho pins s2 σ H2 x y v u _ I2 r1 r2 q2) fun d s3 ⟨z, H3, I3, r3, k, e, q3⟩ => ?_)) hm
  subst e
  cases r3
  refine wpAny_truthy_bool ?_
  cases k with
  | false => exact ite_ff ⟨.bl false, H3, I3, rfl, q3⟩
  | true => exact ite_tt (chain_last (thn (hc pins s3 σ H3 _ I3 q3) fun w' s4 ⟨z', H4, I4, r4, q4⟩ => ho' pins s4 σ H4 y z' u w' Q I4 r2 r4 q4))
def TruV (K : PySem.W.Frag) (x : V) (H : Hp) (k : Bool) : Prop :=
  match x with
  | .non => k = false
  | .bl b => k = b
  | .int i => k = (i != 0)
  | .str y => y.length ≤ sizeLine ∧ k = ((y.length : Int) != 0)
  | .byt y => y.size ≤ sizeLine ∧ k = ((y.size : Int) != 0)
  | .ref p => (∃ xs, SqL K H p xs ∧ k = !xs.isEmpty) ∨ (∃ xs, SqT K H p xs ∧ k = !xs.isEmpty) ∨ ∃ kvs, H p = some (.dK kvs) ∧ k = !kvs.isEmpty
  | _ => False
theorem isEmpty_kv {κ : Type} {kvs : List (κ × V)} {vs : List (κ × Value)} (r : KV kvs vs) : (!vs.isEmpty) = !kvs.isEmpty := by
  cases r <;> rfl
theorem isEmpty_of {xs : List V} {its : List Value} (r : Vals xs its) : (!its.toArray.isEmpty) = !xs.isEmpty := by
  cases r <;> simp
theorem line63 : (sizeLine : Nat) < 2 ^ 63 := by rw [sizeLine_eq]; decide
theorem tru_ok : TruR X (fun x H Q => ∃ k, TruV X.K x H k ∧ Q k H) := by
  intro pins s σ H x v Q I rx h
  obtain ⟨k, e, q⟩ := h
  have hl := line63
  have hs : sizeLine = 16777216 := sizeLine_eq
  cases x with
  | non =>
    cases rx
    have e' : k = false := e
    subst e'
    exact truthy_none ⟨H, I, q⟩
  | bl b =>
    cases rx
    have e' : k = b := e
    subst e'
    exact wpAny_truthy_bool ⟨H, I, q⟩
  | int i =>
    obtain ⟨t, rfl⟩ := rx
    have e' : k = (i != 0) := e
    subst e'
    exact PySem.P.truthy_int ⟨H, I, q⟩
  | str y =>
    obtain ⟨t, rfl⟩ := rx
    obtain ⟨hy, e'⟩ : y.length ≤ sizeLine ∧ k = ((y.length : Int) != 0) := e
    subst e'
    exact PySem.P.truthy_str (by omega) ⟨H, I.tok _, q⟩
  | byt y =>
    obtain ⟨t, rfl⟩ := rx
    obtain ⟨hy, e'⟩ : y.size ≤ sizeLine ∧ k = ((y.size : Int) != 0) := e
    subst e'
    exact PySem.W.truthy_bytes (by omega) ⟨H, I.tok _, q⟩
  | ref p =>
    cases rx
    have e' : (∃ xs, SqL X.K H p xs ∧ k = !xs.isEmpty) ∨ (∃ xs, SqT X.K H p xs ∧ k = !xs.isEmpty) ∨ ∃ kvs, H p = some (.dK kvs) ∧ k = !kvs.isEmpty := e
    rcases e' with ⟨xs, hx, e'⟩ | ⟨xs, hx, e'⟩ | ⟨kvs, hx, e'⟩
    · subst e'
      obtain ⟨its, r, pl, hz⟩ := I.list hx
      have hlen := r.length
      exact wpAny_truthy_list pl.isList (by simp only [List.size_toArray]; omega) ⟨H, I.tok _, by rw [isEmpty_of r]; exact q⟩
    · subst e'
      obtain ⟨its, r, pl, hz⟩ := I.tuple hx
      have hlen := r.length
      exact truthy_tuple pl (by simp only [List.size_toArray]; omega) ⟨H, I.tok _, by rw [isEmpty_of r]; exact q⟩
    · subst e'
      obtain ⟨hz, hS, vs, r, m⟩ : kvs.length ≤ sizeLine ∧ (p == sysModules) = false ∧ ∃ vs, KV kvs vs ∧ s.heap.DictOf (mixKind X.prog X.w) p vs := I.hok p _ hx
      have hlen : kvs.length = vs.length := Paired.length r
      exact wpAny_truthy_dict hS m (by omega) ⟨H, I.tok _, by rw [isEmpty_kv r]; exact q⟩
  | _ => exact (show False from e).elim
theorem pt_truth (ha : PE X a ta) (he : ∀ whole, isTrue a X.env whole = (do let v ← whole; standAt a.pos; holding [v] (truthy v))) :
    PT X a (fun σ H Q => ta σ H fun x H' => ∃ k, TruV X.K x H' k ∧ Q k H') := by
  intro pins s σ H Q I h
  exact isTrue_plain (thn (ha pins s σ H _ I h) fun v s1 ⟨x, H1, I1, r1, q1⟩ => tru_ok pins s1 σ H1 x v Q I1 r1 q1) (he _)
theorem vals1 {x : V} {us : List Value} (r : Vals [x] us) : ∃ u, us = [u] ∧ RelV x u := by
  cases r with
  | cons r1 r2 => cases r2; exact ⟨_, rfl, r1⟩
theorem vals2 {x y : V} {us : List Value} (r : Vals [x, y] us) : ∃ u w', us = [u, w'] ∧ RelV x u ∧ RelV y w' := by
  cases r with
  | cons r1 r2 =>
    cases r2 with
    | cons r3 r4 => cases r4; exact ⟨_, _, rfl, r1, r3⟩
theorem call_abs : CallR X (.builtin "abs") (fun xs H Q => ∃ i, xs = [.int i] ∧ Q (.int (if i < 0 then -i else i)) H) := by
  intro pins s σ H xs us Q I r h
  obtain ⟨i, rfl, q⟩ := h
  obtain ⟨u, rfl, t, rfl⟩ := vals1 r
  exact call_abs_int fun u tk => ⟨.int (if i < 0 then -i else i), H, I.tok _, ⟨_, rfl⟩, q⟩
theorem call_max2 (hc : X.calm = true) : CallR X (.builtin "max") (fun xs H Q => ∃ i j, xs = [.int i, .int j] ∧ Q (.int (if j > i then j else i)) H) := by
  intro pins s σ H xs us Q I r h
  obtain ⟨i, j, rfl, q⟩ := h
  obtain ⟨u, w', rfl, ⟨t, rfl⟩, ⟨t', rfl⟩⟩ := vals2 r
  refine max_two_ints (I.ok.hd hc) fun h' tk k => ⟨_, H, I.kept k, ?_, q⟩
  by_cases hj : j > i
  · rw [if_pos hj, if_pos hj]; exact ⟨_, rfl⟩
  · rw [if_neg hj, if_neg hj]; exact ⟨_, rfl⟩
theorem call_min2 (hc : X.calm = true) : CallR X (.builtin "min") (fun xs H Q => ∃ i j, xs = [.int i, .int j] ∧ Q (.int (if j < i then j else i)) H) := by
  intro pins s σ H xs us Q I r h
  obtain ⟨i, j, rfl, q⟩ := h
  obtain ⟨u, w', rfl, ⟨t, rfl⟩, ⟨t', rfl⟩⟩ := vals2 r
  refine min_two_ints (I.ok.hd hc) fun h' tk k => ⟨_, H, I.kept k, ?_, q⟩
  by_cases hj : j < i
  · rw [if_pos hj, if_pos hj]; exact ⟨_, rfl⟩
  · rw [if_neg hj, if_neg hj]; exact ⟨_, rfl⟩
theorem call_int1 : CallR X (.type "int") (fun xs H Q => (∃ i, xs = [.int i] ∧ Q (.int i) H) ∨ ∃ k, xs = [.bl k] ∧ Q (.int (if k then 1 else 0)) H) := by
  intro pins s σ H xs us Q I r h
  rcases h with ⟨i, rfl, q⟩ | ⟨k, rfl, q⟩
  · obtain ⟨u, rfl, t, rfl⟩ := vals1 r
    exact call_int_int ⟨.int i, H, I, ⟨_, rfl⟩, q⟩
  · obtain ⟨u, rfl, r1⟩ := vals1 r
    cases r1
    exact call_int_bool ⟨.int (if k then 1 else 0), H, I.tok _, ⟨_, rfl⟩, q⟩
end
end L2
namespace L2
open PySem PySem.Spec PyProof.Rows
structure ObjM (h : Heap) (x dx C : Addr) (mA : Str → Option Value) : Prop where
  obj : h.get? x = some (PySem.W.instObj C dx)
  ns : h.Ns1 dx mA
  ne : dx ≠ x
theorem lookIn_ns {h : Heap} {dx : Addr} {mA : Str → Option Value} (n : h.Ns1 dx mA) : ∃ od, h.get? dx = some od ∧ ∀ name, PySem.W.lookIn name od = some (mA name) := by
  obtain ⟨o, es, ep, ho, hd, hk, _, hm⟩ := n
  refine ⟨o, ho, fun name => ?_⟩
  have e := hm name
  unfold nsFind findBy at e
  rw [← Array.find?_toList] at e
  unfold PySem.W.lookIn
  rw [hd]
  dsimp only
  split
  · rename_i y q
    rw [q] at e
    exact congrArg some e
  · rename_i q
    rw [q] at e
    have a : es.toList.any (·.refKey) = false := by
      rw [List.any_eq_false]
      intro y hy
      obtain ⟨z, t, hkey⟩ := hk y (Array.mem_toList_iff.mp hy)
      simp [DictEntry.refKey, hkey]
    have a' : ¬ es.toList.any (·.refKey) = true := by rw [a]; exact Bool.false_ne_true
    rw [if_neg a']
    exact congrArg some e
theorem ObjM.look {h : Heap} {x dx C : Addr} {mA : Str → Option Value} (I : ObjM h x dx C mA) : ∃ od, PySem.W.InstAt h x (PySem.W.instObj C dx) C (some od) ∧ ∀ name, PySem.W.lookIn name od = some (mA name) :=
  let ⟨od, ho, hl⟩ := lookIn_ns I.ns
  ⟨od, ⟨I.obj, rfl, rfl, ho⟩, hl⟩
section
variable {P : Program} {w : World} {H H' : Hp} {h h' : Heap} {a C dx : Addr} {fs fs' : List (Str × V)}
theorem ins_get (hok : HOk P w H h) (e : H a = some (.ins C dx fs)) : ∃ mA, ObjM h a dx C mA ∧ (∀ f, RelO (fs.lookup f) (mA f)) ∧ PySem.Within mA (fs.map (·.1)) ∧ fs.length ≤ 1000 ∧ H dx = some (.own a) := by
  obtain ⟨d, z, ne, ob, mA, n, r, q⟩ := (show ObjOk P w H h a (.ins C dx fs) from hok a _ e)
  exact ⟨mA, ⟨ob, n, ne⟩, r, q, z, d⟩
end
structure Cls (K : PySem.W.Frag) (C : Addr) : Prop where
  pg : PySem.W.plainGet K C Str.empty = true
  hd : PySem.W.hasDictIn K C = true
  po : PySem.W.plainOver K C = true
  sa : PySem.W.findIn K (.ref C) "__setattr__" = some (some (.builtin "object.__setattr__"))
theorem Cls.get {K : PySem.W.Frag} {C : Addr} (c : Cls K C) (f : Str) : PySem.W.plainGet K C f = true := c.pg
section
variable {X : Cx} {pins : List (Addr × Obj)} {σ : St} {H : Hp} {s : Shared} {A : Around} {E : Value → Shared → Prop} {Q : Value → Shared → Prop} {c : Value} {b : Bool}
inductive TyOf (K : PySem.W.Frag) (H : Hp) : V → Value → Prop where
  | non : TyOf K H .non (.type "NoneType")
  | bl (x : Bool) : TyOf K H (.bl x) (.type "bool")
  | int (i : Int) : TyOf K H (.int i) (.type "int")
  | str (x : Str) : TyOf K H (.str x) (.type "str")
  | flt (x : UInt64) : TyOf K H (.flt x) (.type "float")
  | lst {a : Addr} {xs : List V} (e : H a = some (.lst xs)) : TyOf K H (.ref a) (.type "list")
  | frz {a : Addr} {o : Obj} {xs : List V} (e : H a = some (.frz o (.lst xs))) : TyOf K H (.ref a) (.type "list")
  | tup {a : Addr} {xs : List V} (e : H a = some (.tup xs)) : TyOf K H (.ref a) (.type "tuple")
  | dK {a : Addr} {kvs : List (Key × V)} (e : H a = some (.dK kvs)) : TyOf K H (.ref a) (.type "dict")
  | dT {a : Addr} {kvs : List (List Key × V)} (e : H a = some (.dT kvs)) : TyOf K H (.ref a) (.type "dict")
  | ins {a C dx : Addr} {fs : List (Str × V)} (e : H a = some (.ins C dx fs)) (cl : Cls K C) (ha : PySem.W.findIn K (.ref C) "__class__" = some (some (.builtin "object.__class__")))
      (hn : PySem.W.specialIn K (.builtin "object.__class__") "__get__" = some (some (.builtin "getset_descriptor.__get__"))) (htk : PySem.W.takesIn K (.builtin "object.__class__") = some true)
      (hm : PySem.W.mroIn K C (.type "object") = some true) : TyOf K H (.ref a) (.ref C)
theorem isinst_ok {x : V} {u t : Value} (I : Inv X pins σ H s) (rx : RelV x u) (ty : TyOf X.K H x t) (e : PySem.W.kitOne X.K t c = some b) (h : ∀ tk, Q (.bool b) { s with toks := tk }) :
    wpAny (model X.prog X.w) A (call (.builtin "isinstance") [u, c]) Q E s := by
  cases ty with
  | non => cases (show u = Value.none from rx); exact PySem.W.kia_one PySem.W.kitx_none I.kIn True.intro e (fun z => nomatch z) h
  | bl y => cases (show u = Value.bool y from rx); exact PySem.W.kia_one PySem.W.kitx_bool I.kIn True.intro e (fun z => nomatch z) h
  | int i => obtain ⟨t, q⟩ := (show ∃ t, u = Value.int i t from rx); cases q; exact PySem.W.kia_one PySem.W.kitx_int I.kIn True.intro e (fun z => nomatch z) h
  | str y => obtain ⟨t, q⟩ := (show ∃ t, u = Value.str y t from rx); cases q; exact PySem.W.kia_one PySem.W.kitx_str I.kIn True.intro e (fun z => nomatch z) h
  | flt y => obtain ⟨t, q⟩ := (show ∃ t, u = Value.float y t from rx); cases q; exact PySem.W.kia_one PySem.W.kitx_float I.kIn True.intro e (fun z => nomatch z) h
  | @lst a xs ea =>
    cases (show u = Value.ref a from rx)
    obtain ⟨_, _, n, _, h1⟩ := (show ObjOk X.prog X.w H s.heap a (.lst xs) from I.hok a _ ea)
    exact PySem.W.kia_one PySem.W.kitx_list I.kIn ⟨_, h1, rfl⟩ e (fun z => nomatch z) h
  | @frz a ob xs ea =>
    cases (show u = Value.ref a from rx)
    obtain ⟨_, _, _, n, _, h1⟩ := (show ObjOk X.prog X.w H s.heap a (.frz ob (.lst xs)) from I.hok a _ ea)
    exact PySem.W.kia_one PySem.W.kitx_list I.kIn ⟨_, h1, rfl⟩ e (fun z => nomatch z) h
  | @tup a xs ea =>
    cases (show u = Value.ref a from rx)
    obtain ⟨_, _, _, p⟩ := (show ObjOk X.prog X.w H s.heap a (.tup xs) from I.hok a _ ea)
    obtain ⟨o, h1, h2, _⟩ := p
    exact PySem.W.kia_one PySem.W.kitx_tuple I.kIn ⟨o, h1, h2⟩ e (fun z => nomatch z) h
  | @dK a kvs ea =>
    cases (show u = Value.ref a from rx)
    obtain ⟨_, _, vs, _, p⟩ := (show ObjOk X.prog X.w H s.heap a (.dK kvs) from I.hok a _ ea)
    obtain ⟨o, es, ep, h1, h2, _⟩ := p
    exact PySem.W.kia_one PySem.W.kitx_dict I.kIn ⟨o, h1, h2.1⟩ e (fun z => nomatch z) h
  | @dT a kvs ea =>
    cases (show u = Value.ref a from rx)
    obtain ⟨_, _, xs, _, o, es, ep, h1, h2, _⟩ := (show ObjOk X.prog X.w H s.heap a (.dT kvs) from I.hok a _ ea)
    exact PySem.W.kia_one PySem.W.kitx_dict I.kIn ⟨o, h1, h2.1⟩ e (fun z => nomatch z) h
  | @ins a C dx fs ea cl ha hn htk hm =>
    cases (show u = Value.ref a from rx)
    obtain ⟨mA, O, _⟩ := ins_get I.hok ea
    obtain ⟨od, J, _⟩ := O.look
    exact PySem.W.kia_one (PySem.W.kitx_own (cl.get _) cl.hd ha hn htk hm) I.kIn J e (fun z => nomatch z) h
end
end L2
namespace L2
open PySem PySem.Spec PyProof.Rows
structure Room (k : Nat) (A : Around) : Prop where
  hd : A.handled = none
  dp : A.depth + 3 * k + 5 < recursionLimit
  un : A.units + 16 * k + 200 < cLine
  gd : A.guards = some []
theorem Room.mono {j k : Nat} {A : Around} (r : Room k A) (h : j ≤ k) : Room j A := ⟨r.hd, by have := r.dp; omega, by have := r.un; omega, r.gd⟩
theorem Room.deeper {k : Nat} {A : Around} (r : Room (k + 1) A) (env : Env) : Room k (A.deeper env) :=
  ⟨r.hd, by have := r.dp; show A.depth + 1 + 3 * k + 5 < _; omega, by have := r.un; show A.units + 3 + 16 * k + 200 < _; omega, r.gd⟩
theorem Room.depth {k : Nat} {A : Around} (r : Room k A) : A.depth < recursionLimit := by have := r.dp; omega
theorem Room.units {k : Nat} {A : Around} (r : Room k A) : A.units + 64 < cLine := by have := r.un; omega
def tNil : TA := fun _ H Q => Q [] H
def tCons (ta : TE) (tr : TA) : TA := fun σ H Q => ta σ H fun x H1 => tr σ H1 fun xs H2 => Q (x :: xs) H2
section
variable {X : Cx} {e : Expr} {es : List Expr} {te : TE} {t : TA} {pos : PySem.Pos}
theorem pa_nil : PA X [] tNil := fun _ _ _ _ H Q I h => Calls.spliced_nil ⟨[], H, I, .nil, h⟩
theorem pa_cons (ha : PE X e te) (hr : PA X es t) (hs : starEach (e :: es) X.env = (false, eval e X.env) :: starEach es X.env := by rfl) : PA X (e :: es) (tCons te t) := by
  intro pos pins s σ H Q I h
  rw [hs]
  show wpAny _ _ (spliced ((false, eval e X.env) :: backTo pos (starEach es X.env))) _ _ s
  refine Calls.spliced_cons (thn (ha pins s σ H _ I h) fun u s1 ⟨x, H1, I1, r1, q1⟩ => ?_)
  exact thn (hr pos pins s1 σ H1 _ I1 q1) fun us s2 ⟨xs, H2, I2, r2, q2⟩ => ⟨x :: xs, H2, I2, .cons r1 r2, q2⟩
def tTup (t : TA) : TE := fun σ H Q => t σ H fun xs H1 => xs.length ≤ sizeLine ∧ ∀ p, H1 p = none → Q (.ref p) (upd H1 p (.tup xs))
def tLst (t : TA) : TE := fun σ H Q => t σ H fun xs H1 => xs.length ≤ sizeLine ∧ ∀ p, H1 p = none → Q (.ref p) (upd H1 p (.lst xs))
theorem pe_tup {x1} (h : PA X es t) : PE X (.Tuple es x1 pos) (tTup t) := by
  intro pins s σ H Q I hq
  refine wpAny_Tuple_spliced (thn (h pos pins s σ H _ I hq) fun us s1 ⟨xs, H1, I1, r, z, q⟩ => ⟨by rw [← r.length]; exact z, ?_⟩)
  have hf : H1 s1.heap.objs.size = none := I1.hok.fresh (Nat.le_refl _)
  refine ⟨.ref s1.heap.objs.size, upd H1 s1.heap.objs.size (.tup xs), I1.laid (t' := s1.toks) (fun b u e => Heap.get?_push_of_some _ e) (Nat.le_refl _) ?_, rfl, q _ hf⟩
  exact ⟨z, us, r, ⟨_, Heap.get?_push_size _ rfl, rfl, _, rfl⟩⟩
theorem pe_lst (h : PA X es t) : PE X (.List es pos) (tLst t) := by
  intro pins s σ H Q I hq
  refine wpAny_List_spliced (thn (h pos pins s σ H _ I hq) fun us s1 ⟨xs, H1, I1, r, z, q⟩ => ⟨by rw [← r.length]; exact z, ?_⟩)
  have hf : H1 s1.heap.objs.size = none := I1.hok.fresh (Nat.le_refl _)
  refine ⟨.ref s1.heap.objs.size, upd H1 s1.heap.objs.size (.lst xs), I1.laid (t' := s1.toks) (fun b u e => Heap.get?_push_of_some _ e) (Nat.le_refl _) ?_, rfl, q _ hf⟩
  exact ⟨z, us, 0, r, Heap.get?_push_size _ rfl⟩
end
abbrev Sp := List V → Hp → VK → XK → Prop
abbrev CXT := List Env → Hp → Shared → XK → Value → Shared → Prop
structure Env0 (P : Program) (w : World) (K : PySem.W.Frag) (mg : Str → Option Value) (base : Heap) (A : Around) (outer : List Env) (s : Shared) (H : Hp) : Prop where
  frames : A.frames = some outer
  mod : Mod K mg base
  bs : ∀ b o, base.get? b = some o → s.heap.get? b = some o ∧ H b = none
  bsz : base.objs.size ≤ s.heap.objs.size
  funs : s.heap.FunFrames base outer
  frf : ∀ b ∈ frs outer, H b = none
  hok : HOk P w H s.heap
  bare : AllBare s.gens
def CE (outer : List Env) (P : Program) (w : World) (H : Hp) (s : Shared) (Q : VK) (u : Value) (s' : Shared) : Prop :=
  ∃ v H', s'.os = s.os ∧ AllBare s'.gens ∧ Un (frs outer) [] H H' s.heap s'.heap ∧ HOk P w H' s'.heap ∧ RelV v u ∧ Q v H'
def CR (CX : CXT) (outer : List Env) (P : Program) (w : World) (H : Hp) (s : Shared) (Q : VK) (E : XK) (r : Result) (s' : Shared) : Prop :=
  match r with
  | .ok (.ret u) => CE outer P w H s Q u s'
  | .ok _ => False
  | .error e => CX outer H s E e s'
structure FnOk (P : Program) (w : World) (K : PySem.W.Frag) (mg : Str → Option Value) (base : Heap) (CX : CXT) (k : Nat) (f : Addr) (fd : FuncData) (ps : List Str) (sp : Sp) : Prop where
  len : ∀ vs H Q E, sp vs H Q E → vs.length = ps.length
  run : ∀ (A : Around) (outer : List Env) (s : Shared) (H : Hp) (args : Args) (us : List Value) (vs : List V) (Q : VK) (E : XK), Room k A → Env0 P w K mg base A outer s H → BindsTo s fd args (ps.zip us) → Vals vs us → sp vs H Q E →
    codeAny (model P w) A (.call (.ref f) args) (CR CX outer P w H s Q E) s
section
variable {X : Cx} {pins : List (Addr × Obj)} {σ : St} {H : Hp} {s s' : Shared}
theorem Inv.env0 (I : Inv X pins σ H s) : Env0 X.prog X.w X.K X.mg X.base X.A X.stack s H :=
  ⟨I.ok.frames, I.ok.mod, I.bs, Nat.le_trans I.ok.bsz I.sz, I.stack, I.stkFree, I.hok, I.bare⟩
theorem Inv.after {Q : VK} {u : Value} (I : Inv X pins σ H s) (h : CE X.stack X.prog X.w H s Q u s') : EP X pins σ Q u s' := by
  obtain ⟨v, H', os, bare, un, hok, r, q⟩ := h
  obtain ⟨hh, g, d, t, os'⟩ := s'
  obtain rfl : os' = s.os := os
  exact ⟨v, H', I.call (h' := hh) (g' := g) (d' := d) (t' := t) (ch := []) un hok bare (fun b z => absurd z (by simp)), r, q⟩
end
def tCall (sp : Sp) (dvs : List V) (E : XK) (t : TA) : TE := fun σ H Q => t σ H fun vs H1 => sp (vs ++ dvs) H1 Q E
def Binds (K : PySem.W.Frag) (fd : FuncData) (ps : List Str) (ds : List Value) : Prop :=
  ∀ (s : Shared) (us : List Value), K.In s.heap → (us ++ ds).length = ps.length → BindsTo s fd ⟨us, []⟩ (ps.zip (us ++ ds))
theorem Binds.all {K : PySem.W.Frag} {fd : FuncData} {ps : List Str} (h : ∀ us : List Value, us.length = ps.length → bindArgs fd ⟨us, []⟩ = pure (ps.zip us)) : Binds K fd ps [] := fun s us _ hl => by
  rw [List.append_nil] at hl ⊢
  exact .of_eq (h us hl)
def Passes (CX : CXT) (X : Cx) (E : XK) : Prop := ∀ (pins : List (Addr × Obj)) (σ : St) (H : Hp) (s : Shared) (e : Value) (s' : Shared), Inv X pins σ H s → CX X.stack H s E e s' → X.xe e s'
section
variable {X : Cx} {CX : CXT} {k : Nat} {f C : Addr} {fd : FuncData} {ps : List Str} {sp : Sp} {dvs : List V} {ds : List Value} {E : XK} {x m : Str} {p pos apos : PySem.Pos} {e o : Expr} {es : List Expr} {ta : TE} {t : TA}
theorem run_fn {pins : List (Addr × Obj)} {σ : St} {H : Hp} {s : Shared} {Q : VK} {us : List Value} {vs : List V} (F : FnOk X.prog X.w X.K X.mg X.base CX k f fd ps sp) (hr : Room k X.A) (hb : Binds X.K fd ps ds) (hd : Vals dvs ds) (hx : Passes CX X E)
    (I : Inv X pins σ H s) (r : Vals vs us) (h : sp (vs ++ dvs) H Q E) : wpAny (model X.prog X.w) X.A (call (.ref f) us) (EP X pins σ Q) X.xe s := by
  have r2 : Vals (vs ++ dvs) (us ++ ds) := r.append hd
  have hl : (us ++ ds).length = ps.length := by rw [← r2.length]; exact F.len _ _ _ _ h
  refine wpAny_call (codeAny_mono (F.run X.A X.stack s H ⟨us, []⟩ (us ++ ds) (vs ++ dvs) Q E hr I.env0 (hb s us I.kIn hl) r2 h) fun r s' hq => ?_)
  cases r with
  | error e => exact hx pins σ H s e s' I hq
  | ok fl =>
    cases fl with
    | ret u => exact I.after hq
    | next => exact False.elim hq
    | brk => exact False.elim hq
    | cont => exact False.elim hq
theorem pe_call (F : FnOk X.prog X.w X.K X.mg X.base CX k f fd ps sp) (hr : Room k X.A) (hg : Gl X x) (hm : X.mg x = some (.ref f)) (hk : PySem.W.keepIn X.K (.ref f) = true) (hb : Binds X.K fd ps ds) (hd : Vals dvs ds) (hx : Passes CX X E)
    (ha : PA X (e :: es) t) (hdb : (x == ("__debug__" : Str)) = false := by decide) (he : starEach (e :: es) X.env = (false, eval e X.env) :: starEach es X.env := by rfl) (hpl : (backTo pos (starEach es X.env)).any (·.1) = false := by rfl) :
    PE X (.Call (.Name x p) (e :: es) [] pos) (tCall sp dvs E t) := by
  intro pins s σ H Q I h
  refine wpAny_Call_Name_kw (ld_glob I hg hm ?_ hdb)
  refine PySem.W.callWith_K (h₀ := X.base) I.ok.mod.kin hk (thn (ha pos pins s σ H _ I h) fun us s1 ⟨vs, H1, I1, r, q⟩ => ⟨I1.kIn, ?_⟩) he hpl
  exact run_fn F hr hb hd hx I1 r q
end
structure FnScope (N P : List Str) (sc : Scope) : Prop where
  kind : sc.kind = .function
  co : sc.isCoroutine = false
  gen : sc.isGenerator = false
  nd : N.Nodup
  pre : N.take P.length = P
  par : ∀ x ∈ P, sc.names.lookup x = some .local ∨ sc.names.lookup x = some .cell
  nofree : ∀ y ∈ sc.names, y.2 ≠ .free
theorem bindL_out {kindOf : Str → Option NameKind} {x : Str} : ∀ {binds : List (Str × Value)} {m : Str → Option Value}, (∀ v, (x, v) ∉ binds) → bindL kindOf binds m x = m x
  | [], _, _ => rfl
  | (n, v) :: r, m, h => by
    unfold bindL
    rw [bindL_out fun w hw => h w (List.mem_cons_of_mem _ hw)]
    split
    · have : x ≠ n := by rintro rfl; exact h v List.mem_cons_self
      simp [this]
    · rfl
theorem bindC_out {kindOf : Str → Option NameKind} {x : Str} : ∀ {binds : List (Str × Value)} {m : Str → Option Value}, (∀ v, (x, v) ∉ binds) → bindC kindOf binds m x = m x
  | [], _, _ => rfl
  | (n, v) :: r, m, h => by
    unfold bindC
    rw [bindC_out fun w hw => h w (List.mem_cons_of_mem _ hw)]
    split
    · rfl
    · have : x ≠ n := by rintro rfl; exact h v List.mem_cons_self
      simp [this]
theorem bindL_get {kindOf : Str → Option NameKind} {x : Str} {v : Value} : ∀ {P : List Str} {vs : List Value} {i : Nat} {m : Str → Option Value}, P.Nodup → P[i]? = some x → vs[i]? = some v → kindOf x = some .local →
    bindL kindOf (P.zip vs) m x = some v
  | [], _, _, _, _, h, _, _ => by simp at h
  | _ :: _, [], _, _, _, _, h, _ => by simp at h
  | p :: P, w :: vs, 0, m, nd, h1, h2, hk => by
    simp at h1 h2; subst h1; subst h2
    show bindL kindOf ((p, w) :: P.zip vs) m p = _
    unfold bindL
    rw [bindL_out fun v hv => (List.nodup_cons.mp nd).1 (List.of_mem_zip hv).1, if_pos hk]
    simp
  | p :: P, w :: vs, i + 1, m, nd, h1, h2, hk => by
    show bindL kindOf ((p, w) :: P.zip vs) m x = _
    unfold bindL
    exact bindL_get (i := i) (List.nodup_cons.mp nd).2 (by simpa using h1) (by simpa using h2) hk
theorem bindC_get {kindOf : Str → Option NameKind} {x : Str} {v : Value} : ∀ {P : List Str} {vs : List Value} {i : Nat} {m : Str → Option Value}, P.Nodup → P[i]? = some x → vs[i]? = some v → kindOf x ≠ some .local →
    bindC kindOf (P.zip vs) m x = some v
  | [], _, _, _, _, h, _, _ => by simp at h
  | _ :: _, [], _, _, _, _, h, _ => by simp at h
  | p :: P, w :: vs, 0, m, nd, h1, h2, hk => by
    simp at h1 h2; subst h1; subst h2
    show bindC kindOf ((p, w) :: P.zip vs) m p = _
    unfold bindC
    rw [bindC_out fun v hv => (List.nodup_cons.mp nd).1 (List.of_mem_zip hv).1, if_neg hk]
    simp
  | p :: P, w :: vs, i + 1, m, nd, h1, h2, hk => by
    show bindC kindOf ((p, w) :: P.zip vs) m x = _
    unfold bindC
    exact bindC_get (i := i) (List.nodup_cons.mp nd).2 (by simpa using h1) (by simpa using h2) hk
def start (N : List Str) (vs : List V) : St := vs.map some ++ List.replicate (N.length - vs.length) none
def cxOf (CX : CXT) (P : Program) (w : World) (K : PySem.W.Frag) (mg : Str → Option Value) (base : Heap) (N : List Str) (qual : Str) (scope : Scope) (f : Addr) (cd : Value) (A : Around) (outer : List Env) (s : Shared) (H : Hp) (E : XK) : Cx where
  prog := P
  w := w
  K := K
  mg := mg
  base := base
  A := A.deeper (envOfC qual scope s.heap.objs.size f cd)
  N := N
  s₀ := s
  H₀ := H
  env := envOfC qual scope s.heap.objs.size f cd
  outer := outer
  stack := envOfC qual scope s.heap.objs.size f cd :: outer
  ex := []
  calm := true
  fn := fun _ => true
  pn := []
  xe := fun e s' => wpAny (model P w) (A.deeper (envOfC qual scope s.heap.objs.size f cd)) (leaving (envOfC qual scope s.heap.objs.size f cd) e) (fun _ s'' => CX outer H s E e s'') (fun e' s'' => CX outer H s E e' s'') s'
theorem cell_has {sc : Scope} {n : Nat} {x : Str} (h : sc.names.lookup x = some .cell) : ∃ c, (cellsFrom n sc.names []).lookup x = some c := by
  have q := PySem.W.cellsFrom_some sc.names n [] (.inl h)
  exact Option.isSome_iff_exists.mp q
theorem inv_start {CX : CXT} {P : Program} {w : World} {K : PySem.W.Frag} {mg : Str → Option Value} {base : Heap} {N ps : List Str} {qual : Str} {scope : Scope} {f : Addr} {cd : Value} {A : Around} {outer : List Env} {s s1 : Shared} {H : Hp} {E : XK} {us : List Value} {vs : List V}
    (S : FnScope N ps scope) (hd : A.handled = none) (e0 : Env0 P w K mg base A outer s H) (hl : vs.length = ps.length) (r : Vals vs us)
    (x : InCallC s s.heap.objs.size (bindL (envOfC qual scope s.heap.objs.size f cd).kindOf (ps.zip us) fun _ => none) (cellsFrom (s.heap.objs.size + 1) scope.names []) (bindC (envOfC qual scope s.heap.objs.size f cd).kindOf (ps.zip us) fun _ => none) s1) :
    Inv (cxOf CX P w K mg base N qual scope f cd A outer s H E) [] (start N vs) H s1 := by
  have hpl : ps.length ≤ N.length := by have := congrArg List.length S.pre; rw [List.length_take] at this; omega
  obtain ⟨h1, tk, rfl, hk⟩ := x.done
  have noA : ∀ b : Addr, b ∉ (cxOf CX P w K mg base N qual scope f cd A outer s H E).ex := fun b z => absurd (show b ∈ ([] : List Addr) from z) (by simp)
  refine ⟨⟨e0.mod, S.kind, rfl, rfl, Nat.le_refl _, fun y z c h1 h2 => ?_, fun y hy => ?_, fun y c _ h => ?_, fun _ => hd, Around.frames_deeper e0.frames, .inr ⟨rfl, rfl⟩, fun b z => absurd z (noA b), e0.bs, e0.bsz, fun b _ _ => noA b, fun b z => absurd z (noA b), e0.funs, e0.frf⟩,
    rfl, e0.bare, Un.kept hk, ⟨_, x.toInCall.ns, fun i y v h1 h2 h3 => ?_⟩, fun y c h => ⟨_, x.cell y c h⟩, e0.hok.fresh (Nat.le_refl _), fun y c h => ?_, fun p hp => absurd (show p ∈ ([] : List (Addr × Obj)) from hp) (by simp), e0.hok.kept hk, ?_⟩
  · exact name_of_addr x.apart (PySem.mem_of_lookup h1) (PySem.mem_of_lookup h2)
  · have hy : scope.names.lookup y = some .cell ∨ scope.names.lookup y = some .free := hy
    rcases hy with hy | hy
    · exact cell_has hy
    · exact absurd rfl (S.nofree _ (PySem.mem_of_lookup hy))
  · exact Nat.le_of_lt (x.above y c (PySem.mem_of_lookup h))
  · have hi : i < vs.length := by
      unfold start at h2
      by_cases hi : i < vs.length
      · exact hi
      · rw [List.getElem?_append_right (by simpa using hi)] at h2
        rw [List.getElem?_replicate] at h2
        split at h2 <;> cases h2
    have ha : vs[i]? = some v := by
      unfold start at h2
      rw [List.getElem?_append_left (by simpa using hi), List.getElem?_map] at h2
      cases e : vs[i]? with
      | none => rw [e] at h2; cases h2
      | some a => rw [e] at h2; cases h2; rfl
    obtain ⟨u, hu, rv⟩ := r.get ha
    have hp : ps[i]? = some y := by
      rw [← S.pre, List.getElem?_take_of_lt (by omega)]; exact h1
    have ndP : ps.Nodup := by rw [← S.pre]; exact S.nd.sublist (List.take_sublist _ _)
    refine ⟨u, rv, ?_⟩
    rcases S.par y (List.mem_of_getElem? hp) with k | k
    · exact .inl ⟨k, bindL_get ndP hp hu k⟩
    · obtain ⟨c, e⟩ := cell_has (n := s.heap.objs.size + 1) k
      refine .inr ⟨.inl k, c, e, ?_⟩
      have q := x.cell y c e
      rw [bindC_get ndP hp hu (by show scope.names.lookup y ≠ _; rw [k]; decide)] at q
      exact q
  · exact e0.hok.fresh (Nat.le_of_lt (x.above y c (PySem.mem_of_lookup h)))
  · unfold start
    show _ = N.length
    rw [List.length_append, List.length_map, List.length_replicate]
    omega
theorem fn_of {CX : CXT} {P : Program} {w : World} {K : PySem.W.Frag} {mg : Str → Option Value} {base : Heap} {k : Nat} {f : Addr} {name qual : Str} {params : Arguments} {body : List Stmt} {scope : Scope} {dV kV doc pm cdv ct oc : Value} {an od : Option Addr}
    {osl : Array (Option Value)} {N ps : List Str} {sp : Sp} (lk : K.lookup f = some ⟨oc, od, .func (PySem.W.fnOf name qual params body scope dV kV doc pm an cdv ct), osl⟩) (hcd : PySem.W.codeIn K cdv qual = true) (S : FnScope N ps scope)
    (len : ∀ vs H Q E, sp vs H Q E → vs.length = ps.length)
    (hbody : ∀ (A : Around) (outer : List Env) (s : Shared) (H : Hp) (vs : List V) (Q : VK) (E : XK), Room k (A.deeper (envOfC qual scope s.heap.objs.size f cdv)) → sp vs H Q E →
      ∃ t, PSs (cxOf CX P w K mg base N qual scope f cdv A outer s H E) body t ∧ t { nx := fun _ H' => Q .non H', rt := Q } (start N vs) H) :
    FnOk P w K mg base CX (k + 1) f (PySem.W.fnOf name qual params body scope dV kV doc pm an cdv ct) ps sp := by
  refine ⟨len, fun A outer s H args us vs Q E hr e0 hb r hsp => ?_⟩
  have hl := len _ _ _ _ hsp
  have KX : K.In s.heap := e0.mod.kin.keeps fun b o e => (e0.bs b o e).1
  have lim : s.heap.NoLimit := e0.mod.nolimit.keeps fun b o e => (e0.bs b o e).1
  have hkind : ∀ y ∈ ps.zip us, scope.names.lookup y.1 = some .local ∨ (scope.names.lookup y.1 = some .cell ∧ ((cellsFrom (s.heap.objs.size + 1) scope.names []).lookup y.1).isSome = true) := fun ⟨n, v⟩ hy => by
    rcases S.par n (List.of_mem_zip hy).1 with q | q
    · exact .inl q
    · exact .inr ⟨q, PySem.W.cellsFrom_some _ _ _ (.inl q)⟩
  refine codeAny_call_function hr.depth (KX _ _ lk) rfl S.co S.gen rfl (PySem.W.codeRec_of KX hcd) (hb _ _ _ _ ?_)
  refine wpAny_newFunctionEnv_cells S.kind hkind fun env he s1 x => ?_
  subst he
  refine ⟨lim.keeps x.toInCall.keep, codeAny_func ?_⟩
  obtain ⟨t, ht, hq⟩ := hbody A outer s H vs Q E (hr.deeper _) hsp
  have I : Inv (cxOf CX P w K mg base N qual scope f cdv A outer s H E) [] (start N vs) H s1 := inv_start S hr.hd e0 hl r x
  refine wpAny_mono (ht [] s1 (start N vs) H _ I hq) (fun fl s' hs => ?_) fun e s' hs => hs
  have fin : ∀ {σ' : St} {H' : Hp} {v : V} {u : Value}, Inv (cxOf CX P w K mg base N qual scope f cdv A outer s H E) [] σ' H' s' → RelV v u → Q v H' → CE outer P w H s Q u s' :=
    fun {σ' H' v u} J rv q => ⟨v, H', J.os, J.bare, J.base, J.hok, rv, q⟩
  cases fl with
  | ret u =>
    obtain ⟨v, σ', H', J, rv, q⟩ := hs
    exact fin J rv q
  | next =>
    obtain ⟨σ', H', J, q⟩ := hs
    exact fin (v := V.non) (u := Value.none) J rfl q
  | brk =>
    obtain ⟨_, _, _, q⟩ := hs
    exact False.elim q
  | cont =>
    obtain ⟨_, _, _, q⟩ := hs
    exact False.elim q
end L2
namespace L2
open PySem PySem.Spec PyProof.Rows
section
variable {X : Cx} {x : Str} {p pos : PySem.Pos} {e : Expr} {es : List Expr} {t : TA} {id T : String} {r : List V → Hp → VK → Prop}
def tCB (r : List V → Hp → VK → Prop) (t : TA) : TE := fun σ H Q => t σ H fun vs H1 => r vs H1 Q
theorem pe_callB (hc : CallR X (.builtin id) r) (hg : Gl X x) (hm : X.mg x = none) (hv : bootBuiltins x = some (.builtin id)) (ha : PA X (e :: es) t) (hn : x ≠ "__name__" := by decide) (hdb : (x == ("__debug__" : Str)) = false := by decide)
    (he : starEach (e :: es) X.env = (false, eval e X.env) :: starEach es X.env := by rfl) (hpl : (backTo pos (starEach es X.env)).any (·.1) = false := by rfl) : PE X (.Call (.Name x p) (e :: es) [] pos) (tCB r t) := by
  intro pins s σ H Q I h
  refine wpAny_Call_Name_kw (ld_blt I hg hm hv ?_ hn hdb)
  exact PyProof.Rows.callWith_builtin1 (thn (ha pos pins s σ H _ I h) fun us s1 ⟨vs, H1, I1, r1, q1⟩ => hc pins s1 σ H1 vs us Q I1 r1 q1) he hpl
theorem pe_callTy (hc : CallR X (.type T) r) (hg : Gl X x) (hm : X.mg x = none) (hv : bootBuiltins x = some (.type T)) (ha : PA X (e :: es) t) (hn : x ≠ "__name__" := by decide) (hdb : (x == ("__debug__" : Str)) = false := by decide)
    (he : starEach (e :: es) X.env = (false, eval e X.env) :: starEach es X.env := by rfl) (hpl : (backTo pos (starEach es X.env)).any (·.1) = false := by rfl) : PE X (.Call (.Name x p) (e :: es) [] pos) (tCB r t) := by
  intro pins s σ H Q I h
  refine wpAny_Call_Name_kw (ld_blt I hg hm hv ?_ hn hdb)
  exact PyProof.Rows.callWith_type1 (thn (ha pos pins s σ H _ I h) fun us s1 ⟨vs, H1, I1, r1, q1⟩ => hc pins s1 σ H1 vs us Q I1 r1 q1) he hpl
end
end L2
namespace HT
open PySem PyProof.Rows
def lexLt : List Int → List Int → Bool
  | [], [] => false
  | [], _ :: _ => true
  | _ :: _, [] => false
  | x :: xs, y :: ys => if x = y then lexLt xs ys else decide (x < y)
theorem lexLt_cons (x y : Int) (xs ys : List Int) : lexLt (x :: xs) (y :: ys) = if x = y then lexLt xs ys else decide (x < y) := rfl
theorem lexLt_nil_nil : lexLt [] [] = false := rfl
theorem lexLt_nil_cons (y : Int) (ys : List Int) : lexLt [] (y :: ys) = true := rfl
theorem lexLt_cons_nil (x : Int) (xs : List Int) : lexLt (x :: xs) [] = false := rfl
theorem eqAt_int (A : Around) (s : Shared) (a : Int) (t : Tok) (c : Int) (u : Tok) : ∃ e, SeqAt.EqAt A s (.int a t) (.int c u) e ∧ (e = true ↔ a = c) :=
  ⟨(a == c), SeqAt.EqAt.int_int a t c u, by simp⟩
theorem rcLt_int (A : Around) (s : Shared) (a : Int) (t : Tok) (c : Int) (u : Tok) (prog : Program) (w : World) (E : Value → Shared → Prop) (Q : Value → Shared → Prop) (h : Q (.bool (decide (a < c))) s) :
    wpAny (model prog w) A (richCompare .Lt (.int a t) (.int c u)) Q E s :=
  (PyProof.Rows.lt_int h : wpAny (model prog w) A (compareOp .Lt (.int a t) (.int c u)) Q E s)
section
open PySem.SeqAt
open PySem.AutoSeq1 (wpAny_loadPart')
open PySem.MeetsSeq PySem.MeetsSeq2 PySem.MeetsSeq3
theorem tuple_lt_ints (l b : Addr) (items items2 : Array Value) (n n2 : Nat) (dd dd2 : Option Addr) (sl sl2 : Array (Option Value)) (ns ms : List Int) (hi : IntsAre items.toList ns) (hj : IntsAre items2.toList ms) :
    Meets (Builtin.«tuple.__lt__» ⟨[.ref l, .ref b], []⟩)
      (fun _ R s => s.heap.get? l = some { cls := .type "tuple", dict := dd, data := .seq items n, slots := sl } ∧ s.heap.get? b = some { cls := .type "tuple", dict := dd2, data := .seq items2 n2, slots := sl2 } ∧
        R (.ok (.ret (.bool (lexLt ns ms)))) s) :=
  .of_wp fun prog w A R s h => by
    obtain ⟨hp, g, d, tk, os⟩ := s; obtain ⟨hl, hb, h⟩ := h
    have f2 := AutoSeq1.sub_tuple_tuple
    have z1 : items.size = ns.length := by rw [← hi.length]; simp
    have z2 : items2.size = ms.length := by rw [← hj.length]; simp
    wp_walk using wpAny_loadPart' hl, wpAny_loadPart' hb, wpAny_forIn_list _ (fun rest b s' => b.1 = none ∧ s' = ⟨hp, g, d, tk, os⟩ ∧ ∃ (vs ws : List Value) (ns' ms' : List Int), rest = vs.zip ws ∧
      IntsAre vs ns' ∧ IntsAre ws ms' ∧ ns'.length + items2.size = ms'.length + items.size ∧ R (.ok (.ret (.bool (lexLt ns' ms')))) ⟨hp, g, d, tk, os⟩) _
    case turn =>
      rintro ⟨y, x⟩ rest b s' ⟨hb', rfl, vs, ws, ns', ms', hz, hvi, hwi, hlen, hR⟩
      cases hvi with
      | nil => rw [List.zip_nil_left] at hz; cases hz
      | cons a t hvi' =>
        cases hwi with
        | nil => rw [List.zip_nil_right] at hz; cases hz
        | cons c u hwi' =>
          rw [List.zip_cons_cons] at hz
          injection hz with hyx hrest
          injection hyx with hy hx
          subst hy hx
          rw [lexLt_cons] at hR
          simp only [List.length_cons] at hlen
          obtain ⟨e, he, hiff⟩ := eqAt_int A.in1 ⟨hp, g, d, tk, os⟩ a t c u
          refine wpAny_bind (he prog w _ _ ?_)
          cases e with
          | true =>
            rw [if_pos (hiff.mp rfl)] at hR
            wp_walk
            exact ⟨rfl, rfl, _, _, _, _, hrest, hvi', hwi', by omega, hR⟩
          | false =>
            rw [if_neg (fun q => absurd (hiff.mpr q) Bool.false_ne_true)] at hR
            have hri := rcLt_int A.in1 ⟨hp, g, d, tk, os⟩ a t c u prog w
            wp_walk using hri
            exact ⟨_, rfl, by simpa using hR⟩
    case fin =>
      rintro ⟨b1, b2⟩ s' ⟨hb', rfl, vs, ws, ns', ms', hz, hvi, hwi, hlen, hR⟩
      simp only at hb'
      subst hb'
      have hv : lexLt ns' ms' = decide (items.size < items2.size) := by
        cases hvi with
        | nil =>
          cases hwi with
          | nil =>
            simp only [List.length_nil] at hlen
            rw [lexLt_nil_nil]
            exact (decide_eq_false (by omega)).symm
          | cons c u hw =>
            simp only [List.length_nil, List.length_cons] at hlen
            rw [lexLt_nil_cons]
            exact (decide_eq_true (by omega)).symm
        | cons a t hv =>
          cases hwi with
          | nil =>
            simp only [List.length_nil, List.length_cons] at hlen
            rw [lexLt_cons_nil]
            exact (decide_eq_false (by omega)).symm
          | cons c u hw =>
            rw [List.zip_cons_cons] at hz
            cases hz
      rw [hv] at hR
      wp_walk
      exact ⟨_, rfl, by simpa [Builtin.Tuple.tupleCompareSizes] using hR⟩
    case h =>
      exact ⟨rfl, rfl, items.toList, items2.toList, ns, ms, rfl, hi, hj, by omega, h⟩
end
section
variable {prog : Program} {w : World} {A : Around} {E : Value → Shared → Prop} {s : Shared}
theorem lt_tupInts {l b : Addr} {items items2 : Array Value} {ns ms : List Int} {Q : Value → Shared → Prop} (hl : IsTup s.heap l items) (hb : IsTup s.heap b items2) (hi : IntsAre items.toList ns) (hj : IntsAre items2.toList ms)
    (hu : A.units < cLine) (h : Q (.bool (lexLt ns ms)) s) : wpAny (model prog w) A (compareOp .Lt (.ref l) (.ref b)) Q E s := by
  obtain ⟨⟨cls, dd, data, sl⟩, ho, hc, n, hd⟩ := id hl
  obtain ⟨⟨cls2, dd2, data2, sl2⟩, ho2, hc2, n2, hd2⟩ := id hb
  simp only at hc hd hc2 hd2
  subst hc hd hc2 hd2
  exact richCompare_meets_room (op := .Lt) ⟨_, ho, rfl⟩ ⟨_, ho2, rfl⟩ PySem.F.slot_tuple_lt PySem.F.entry_tuple_lt (PySem.F.args_tuple_lt_2 _ _) (tuple_lt_ints l b items items2 n n2 dd dd2 sl sl2 ns ms hi hj)
    ⟨ho, ho2, show Value.bool (lexLt ns ms) ≠ Value.notImplemented ∧ Q (.bool (lexLt ns ms)) s from ⟨(fun x => nomatch x), h⟩⟩ hu
def sIx (n d : Nat) : Option Int → Nat
  | none => d
  | some v => if v < 0 then (v + (n : Int)).toNat else min v.toNat n
theorem sIx_none (n d : Nat) : sIx n d none = d := rfl
theorem sIx_nat (n d k : Nat) : sIx n d (some (k : Int)) = min k n := by
  show (if (k : Int) < 0 then ((k : Int) + (n : Int)).toNat else min (k : Int).toNat n) = min k n
  rw [if_neg (by omega), Int.toNat_natCast]
theorem sIx_le (n d : Nat) (hd : d ≤ n) (o : Option Int) : sIx n d o ≤ n := by
  cases o with
  | none => exact hd
  | some v =>
    show (if v < 0 then (v + (n : Int)).toNat else min v.toNat n) ≤ n
    by_cases hv : v < 0
    · rw [if_pos hv]; omega
    · rw [if_neg hv]; exact Nat.min_le_right _ _
theorem clip_eq (v : Int) (n d : Nat) : (if v < 0 then max (v + (n : Int)) 0 else min v (n : Int)) = ((sIx n d (some v) : Nat) : Int) := by
  show (if v < 0 then max (v + (n : Int)) 0 else min v (n : Int)) = (((if v < 0 then (v + (n : Int)).toNat else min v.toNat n) : Nat) : Int)
  by_cases hv : v < 0
  · simp only [if_pos hv]; omega
  · simp only [if_neg hv]; omega
theorem adjust_gen (lo hi : Option Int) (n : Nat) : Builtin.Slice.sliceAdjust lo hi 1 (n : Int) = (((sIx n 0 lo : Nat) : Int), ((sIx n n hi : Nat) : Int)) := by
  have h1 : ¬ ((1 : Int) < 0) := by omega
  unfold Builtin.Slice.sliceAdjust
  simp only [h1, if_false]
  refine Prod.ext ?_ ?_
  · cases lo with
    | none => rfl
    | some v => exact clip_eq v n 0
  · cases hi with
    | none => rfl
    | some v => exact clip_eq v n n
theorem places_gen (i j : Nat) : Builtin.Slice.slicePlaces (i : Int) (j : Int) 1 = j - i := by
  unfold Builtin.Slice.slicePlaces
  have h1 : (1 : Int) > 0 := by omega
  simp only [h1, if_true, Int.ediv_one]
  split <;> omega
theorem slicePart_ {v : Value} {o : Option Int} {Q : Option Int → Shared → Prop} (p : IsPart v o) (h : Q o s) : wpAny (model prog w) A (Builtin.Slice.slicePartIndex v) Q E s := by
  cases p with
  | none => exact slicePart_none h
  | int i t => exact slicePart_int h
theorem sliceApplied_gen {sl : Addr} {vl vu : Value} {lo hi : Option Int} {n : Nat} {Q : Int × Int × Nat → Shared → Prop} (hs : s.heap.IsSliceOf sl vl vu .none) (pl : IsPart vl lo) (pu : IsPart vu hi)
    (h : Q (((sIx n 0 lo : Nat) : Int), 1, sIx n n hi - sIx n 0 lo) s) : wpAny (model prog w) A (Builtin.Slice.sliceApplied (.ref sl) (pure (n : Int))) Q E s := by
  obtain ⟨os, hos, hcs, hds⟩ := id hs
  unfold Builtin.Slice.sliceApplied Builtin.Slice.sliceFields
  refine wpAny_bind (wpAny_bind (wpAny_field hos hds (x := vl) rfl (wpAny_bind (wpAny_field hos hds (x := vu) rfl (wpAny_bind (wpAny_field hos hds (x := .none) rfl (wpAny_pure ?_)))))))
  refine wpAny_bind (slicePart_none ?_)
  show wpAny _ _ (if ((1 : Int) == 0) = true then _ else _) _ _ s
  rw [if_neg (by decide)]
  refine wpAny_bind (slicePart_ pl (wpAny_bind (slicePart_ pu (wpAny_bind (wpAny_pure ?_)))))
  show wpAny _ _ (match Builtin.Slice.sliceAdjust lo hi 1 (n : Int) with | (lo, hi) => pure (lo, (1 : Int), Builtin.Slice.slicePlaces lo hi 1)) _ _ s
  rw [adjust_gen lo hi n]
  show wpAny _ _ (pure (((sIx n 0 lo : Nat) : Int), (1 : Int), Builtin.Slice.slicePlaces ((sIx n 0 lo : Nat) : Int) ((sIx n n hi : Nat) : Int) 1)) _ _ s
  rw [places_gen]
  exact wpAny_pure h
theorem pick_gen (xs : Array Value) (i k : Nat) : ((List.range k).filterMap fun (m : Nat) => xs[((i : Int) + (m : Int) * 1).toNat]?).toArray = ((xs.toList.drop i).take k).toArray := by
  have e : (fun (m : Nat) => xs[((i : Int) + (m : Int) * 1).toNat]?) = fun m => xs[i + m]? := by
    funext m
    have : ((i : Int) + (m : Int) * 1).toNat = i + m := by omega
    rw [this]
  rw [e]
  have := pick_run xs i k
  rw [List.filterMap_map] at this
  have e2 : ((fun x => xs[x]?) ∘ fun x => i + x) = fun m => xs[i + m]? := rfl
  rw [e2] at this
  rw [this]
theorem getItem_tuple_cut {t sl : Addr} {items : Array Value} {vl vu : Value} {lo hi : Option Int} {Q : Value → Shared → Prop} (ht : IsTup s.heap t items) (hs : s.heap.IsSliceOf sl vl vu .none) (pl : IsPart vl lo) (pu : IsPart vu hi)
    (hw : ¬ (sIx items.size 0 lo = 0 ∧ sIx items.size items.size hi = items.size))
    (h : Q (.ref s.heap.objs.size) { s with heap := s.heap.push { cls := .type "tuple", data := .seq ((items.toList.drop (sIx items.size 0 lo)).take (sIx items.size items.size hi - sIx items.size 0 lo)).toArray } })
    (hsz : items.size ≤ sizeLine) : wpAny (model prog w) A (getItem (.ref t) (.ref sl)) Q E s := by
  have htake : sizeOk (.seq ((items.toList.drop (sIx items.size 0 lo)).take (sIx items.size items.size hi - sIx items.size 0 lo)).toArray) := by
    show ((items.toList.drop (sIx items.size 0 lo)).take (sIx items.size items.size hi - sIx items.size 0 lo)).toArray.size ≤ sizeLine
    rw [List.size_toArray, List.length_take, List.length_drop, Array.length_toList]
    omega
  have hj : sIx items.size items.size hi ≤ items.size := sIx_le _ _ (Nat.le_refl _) hi
  obtain ⟨os, hos, hcs, hds⟩ := id hs
  have hTs : s.TypeIs (.ref sl) "slice" := ⟨os, hos, hcs⟩
  unfold getItem
  try with_reducible refine wpAny_holding ?_
  first | refine wpAny_bind (wpAny_pure ?_) | skip
  refine wpAny_bind (wpAny_sequenceKey ht.typeIs (by decide) ?_)
  refine wpAny_bind (wpAny_callSpecial?_slot (name := Str.ofString "__getitem__") ht.typeIs PyProof.Rows.slot_tuple_getitem
    (wpAny_call_entry PyProof.Rows.slot_tuple_getitem ht.typeIs entry_tuple_getitem ?_ (args_tuple_getitem _ _)))
  show wpAny _ _ (Builtin.Tuple.tupleItemsOf (.ref t) >>= _) _ _ s
  refine wpAny_bind (tupleItemsOf_ ht ?_)
  refine wpAny_bind (wpAny_typeOf hTs ?_)
  rw [if_pos (by decide)]
  refine wpAny_bind (sliceApplied_gen hs pl pu ?_)
  have hno : ¬ ((((sIx items.size 0 lo : Nat) : Int) == 0 && (1 : Int) == 1 && (sIx items.size items.size hi - sIx items.size 0 lo) == items.size) = true) := by
    intro q
    rw [Bool.and_eq_true, Bool.and_eq_true] at q
    have q1 : ((sIx items.size 0 lo : Nat) : Int) = 0 := eq_of_beq q.1.1
    have q2 : sIx items.size items.size hi - sIx items.size 0 lo = items.size := eq_of_beq q.2
    exact hw ⟨by omega, by omega⟩
  show wpAny _ _ (if (((sIx items.size 0 lo : Nat) : Int) == 0 && (1 : Int) == 1 && (sIx items.size items.size hi - sIx items.size 0 lo) == items.size) = true then _ else _) _ _ s
  rw [if_neg hno, pick_gen]
  first
    | exact wpAny_bind (m := Builtin.Tuple.tupleExact _) (wpAny_newObj_type (wpAny_pure ⟨_, rfl, wpAny_pure h⟩) htake)
    | exact wpAny_bind (m := Builtin.Tuple.tupleExact _) (wpAny_newObj_type (wpAny_bind (wpAny_pure (wpAny_pure ⟨_, rfl, wpAny_pure h⟩))) htake)
    | exact wpAny_bind (wpAny_bind (m := Builtin.Tuple.tupleExact _) (wpAny_newObj_type (wpAny_pure (wpAny_pure ⟨_, rfl, wpAny_pure h⟩)) htake))
    | exact wpAny_bind (wpAny_bind (m := Builtin.Tuple.tupleExact _) (wpAny_newObj_type (wpAny_pure ⟨_, rfl, wpAny_pure h⟩) htake))
end
end HT
namespace L2
open PySem PySem.Spec PyProof.Rows
abbrev TO := St → Hp → (Option Int → Hp → Prop) → Prop
def PO (X : Cx) (e : Option Expr) (t : TO) : Prop :=
  ∀ (pins : List (Addr × Obj)) (s : Shared) (σ : St) (H : Hp) (Q : Option Int → Hp → Prop), Inv X pins σ H s → t σ H Q →
    wpAny (model X.prog X.w) X.A (evalPart e X.env) (fun u s' => ∃ o H', Inv X pins σ H' s' ∧ IsPart u o ∧ Q o H') X.xe s
def tNoPart : TO := fun _ H Q => Q none H
def tPart (t : TE) : TO := fun σ H Q => t σ H fun x H1 => ∃ i, x = .int i ∧ Q (some i) H1
theorem intsAre_of {ns : List Int} : ∀ {us : List Value}, Vals (ns.map V.int) us → IntsAre us ns := by
  induction ns with
  | nil => intro us r; rw [List.map_nil] at r; cases r; exact .nil
  | cons n ns ih =>
    intro us r
    rw [List.map_cons] at r
    cases r with
    | cons r1 r2 =>
      obtain ⟨t, e⟩ := r1
      subst e
      exact .cons n t (ih r2)
section
variable {X : Cx} {e : Expr} {te : TE} {lo hi : Option Expr} {tl th : TO} {pos p2 : PySem.Pos}
theorem po_none : PO X none tNoPart := by
  intro pins s σ H Q I h
  rw [evalPart_none]
  exact wpAny_pure ⟨none, H, I, .none, h⟩
theorem po_some (h : PE X e te) : PO X (some e) (tPart te) := by
  intro pins s σ H Q I hw
  rw [evalPart_some]
  refine thn (h pins s σ H _ I hw) fun u s1 ⟨x, H1, I1, r1, q1⟩ => ?_
  obtain ⟨i, rfl, q⟩ := q1
  obtain ⟨t, rfl⟩ := r1
  exact ⟨some i, H1, I1, .int i t, q⟩
def SlR (X : Cx) (r : V → Option Int → Option Int → Hp → VK → Prop) : Prop :=
  ∀ (pins : List (Addr × Obj)) (s : Shared) (σ : St) (H : Hp) (x : V) (v vl vu : Value) (lo hi : Option Int) (sl : Addr) (Q : VK), Inv X pins σ H s → RelV x v → s.heap.IsSliceOf sl vl vu .none → IsPart vl lo → IsPart vu hi → r x lo hi H Q →
    ∃ T id, typeLookup (.type T) "__getitem__" = pure (some (.builtin id)) ∧ s.TypeIs v T ∧ wpAny (model X.prog X.w) X.A (getItem v (.ref sl)) (EP X pins σ Q) X.xe s
def tSl (r : V → Option Int → Option Int → Hp → VK → Prop) (te : TE) (tl th : TO) : TE := fun σ H Q => te σ H fun x H1 => tl σ H1 fun l H2 => th σ H2 fun u H3 => r x l u H3 Q
theorem pe_slice {r : V → Option Int → Option Int → Hp → VK → Prop} (hr : SlR X r) (he : PE X e te) (hl : PO X lo tl) (hu : PO X hi th) : PE X (.Subscript e (.Slice lo hi none p2) pos) (tSl r te tl th) := by
  intro pins s σ H Q I h
  refine Subscript_ (thn (he pins s σ H _ I h) fun v s1 ⟨x, H1, I1, r1, q1⟩ => ?_)
  refine wpAny_Slice (thn (hl pins s1 σ H1 _ I1 q1) fun vl s2 ⟨l, H2, I2, pl, q2⟩ => thn (hu pins s2 σ H2 _ I2 q2) fun vu s3 ⟨u, H3, I3, pu, q3⟩ => ?_)
  rw [evalPart_none]
  refine wpAny_pure ?_
  have I4 : Inv X pins σ H3 { s3 with heap := s3.heap.push { cls := .type "slice", data := .fields #[vl, vu, .none] } } := I3.kept (t' := s3.toks) fun b ob q => Heap.get?_push_of_some _ q
  obtain ⟨T, id, hT, ht, hg⟩ := hr pins { s3 with heap := s3.heap.push { cls := .type "slice", data := .fields #[vl, vu, .none] } } σ H3 x v vl vu l u s3.heap.objs.size Q I4 r1 (Heap.IsSliceOf.new ..) pl pu q3
  show wpAny (model X.prog X.w) X.A (subscriptTail e (.Slice lo hi none p2) v (.ref s3.heap.objs.size)) (EP X pins σ Q) X.xe { s3 with heap := s3.heap.push { cls := .type "slice", data := .fields #[vl, vu, .none] } }
  exact tail_any (ops := [.ref s3.heap.objs.size, v]) ht hT hg (by with_unfolding_all rfl)
def cutV (xs : List V) (lo hi : Option Int) : List V := (xs.drop (HT.sIx xs.length 0 lo)).take (HT.sIx xs.length xs.length hi - HT.sIx xs.length 0 lo)
theorem cutV_length (xs : List V) (lo hi : Option Int) : (cutV xs lo hi).length ≤ xs.length := by
  unfold cutV
  rw [List.length_take, List.length_drop]
  omega
def rSlT (K : PySem.W.Frag) : V → Option Int → Option Int → Hp → VK → Prop := fun x lo hi H Q => ∃ a xs, x = .ref a ∧ SqT K H a xs ∧
  ¬ (HT.sIx xs.length 0 lo = 0 ∧ HT.sIx xs.length xs.length hi = xs.length) ∧ ∀ p, H p = none → Q (.ref p) (upd H p (.tup (cutV xs lo hi)))
theorem sl_tup : SlR X (rSlT X.K) := by
  intro pins s σ H x v vl vu lo hi sl Q I rx hs pl pu h
  obtain ⟨a, xs, rfl, hx, hw, q⟩ := h
  cases rx
  obtain ⟨its, r, ht, hz⟩ := I.tuple hx
  have hlen : its.toArray.size = xs.length := by rw [List.size_toArray]; exact r.length.symm
  refine ⟨"tuple", _, PyProof.Rows.slot_tuple_getitem.lookup, ht.typeIs, ?_⟩
  refine HT.getItem_tuple_cut ht hs pl pu (by rw [hlen]; exact hw) ?_ (by rw [hlen]; exact hz)
  rw [hlen]
  refine ⟨.ref s.heap.objs.size, _, I.laid (t' := s.toks) (o := .tup (cutV xs lo hi)) (fun b ob q => Heap.get?_push_of_some _ q) (Nat.le_refl _) ?_, rfl, q _ (I.hok.fresh (Nat.le_refl _))⟩
  exact ⟨Nat.le_trans (cutV_length xs lo hi) hz, _, (r.drop (HT.sIx xs.length 0 lo)).take (HT.sIx xs.length xs.length hi - HT.sIx xs.length 0 lo), IsTup.new _ _⟩
end
end L2
namespace L2
open PySem PySem.Spec PyProof.Rows
def ixN (n : Nat) (i : Int) : Option Nat := if 0 ≤ i then (if i < n then some i.toNat else none) else if -(n : Int) ≤ i then some (i + n).toNat else none
def atI {α : Type} (xs : List α) (i : Int) : Option α := (ixN xs.length i).bind fun j => xs[j]?
theorem ixN_seq {n : Nat} {i : Int} {j : Nat} (h : ixN n i = some j) : seqIndex? i n = some j ∧ j < n ∧ -(n : Int) ≤ i ∧ i < n := by
  unfold ixN at h
  by_cases h0 : 0 ≤ i
  · rw [if_pos h0] at h
    by_cases h1 : i < n
    · rw [if_pos h1] at h
      have e : i.toNat = j := Option.some.inj h
      exact ⟨by rw [seqIndex_of h0 h1, e], by omega, by omega, h1⟩
    · rw [if_neg h1] at h; cases h
  · rw [if_neg h0] at h
    by_cases h1 : -(n : Int) ≤ i
    · rw [if_pos h1] at h
      have e : (i + n).toNat = j := Option.some.inj h
      exact ⟨by rw [seqIndex_neg (by omega) h1, e], by omega, h1, by omega⟩
    · rw [if_neg h1] at h; cases h
theorem atI_get {α : Type} {xs : List α} {i : Int} {v : α} (h : atI xs i = some v) : ∃ j, seqIndex? i xs.length = some j ∧ xs[j]? = some v ∧ j < xs.length ∧ -(xs.length : Int) ≤ i ∧ i < xs.length := by
  unfold atI at h
  cases e : ixN xs.length i with
  | none => rw [e] at h; cases h
  | some j =>
    rw [e] at h
    obtain ⟨h1, h2, h3, h4⟩ := ixN_seq e
    exact ⟨j, h1, h, h2, h3, h4⟩
theorem atI_nat {α : Type} {xs : List α} {j : Nat} {v : α} (h : xs[j]? = some v) : atI xs (j : Int) = some v := by
  have hj : j < xs.length := (List.getElem?_eq_some_iff.mp h).1
  have e : ixN xs.length (j : Int) = some j := by
    unfold ixN
    rw [if_pos (by omega), if_pos (by omega)]; simp
  unfold atI; rw [e]; exact h
theorem atI_last {α : Type} (xs : List α) (v : α) : atI (xs ++ [v]) (-1) = some v := by
  have hl : (xs ++ [v]).length = xs.length + 1 := by simp
  have e : ixN (xs ++ [v]).length (-1) = some xs.length := by
    unfold ixN
    rw [hl, if_neg (by decide), if_pos (by omega)]
    congr 1
    omega
  unfold atI
  rw [e]
  show (xs ++ [v])[xs.length]? = some v
  simp
def PlainIx (b : Expr) : Prop := ∀ o i, subscripted b false o i = operate [o, i] (getItem o i)
def IxR (X : Cx) (r : R2) : Prop :=
  ∀ (value slice : Expr) (pins : List (Addr × Obj)) (s : Shared) (σ : St) (H : Hp) (x y : V) (v u : Value) (Q : VK), Inv X pins σ H s → RelV x v → RelV y u → r x y H Q →
    subscripted slice false v u = operate [v, u] (getItem v u) → wpAny (model X.prog X.w) X.A (subscriptTail value slice v u) (EP X pins σ Q) X.xe s
def MtR (X : Cx) (id : String) (r : V → List V → Hp → VK → Prop) : Prop :=
  ∀ (pins : List (Addr × Obj)) (s : Shared) (σ : St) (H : Hp) (x : V) (xs : List V) (v : Value) (us : List Value) (Q : VK), Inv X pins σ H s → RelV x v → Vals xs us → r x xs H Q →
    wpAny (model X.prog X.w) X.A (call (.builtin id) (v :: us)) (EP X pins σ Q) X.xe s
section
variable {X : Cx} {a b : Expr} {ta tb : TE} {pos : PySem.Pos}
theorem pe_ix {r : R2} (hr : IxR X r) (ha : PE X a ta) (hb : PE X b tb) (hs : PlainIx b) : PE X (.Subscript a b pos) (tOp r ta tb) := by
  intro pins s σ H Q I h
  exact Subscript_ (binT ha hb I h fun v u s2 x y H2 I2 rx ry q => hr a b pins s2 σ H2 x y v u Q I2 rx ry q (hs _ _))
def rIxL (K : PySem.W.Frag) : R2 := fun x y H Q => ∃ p xs i v, x = .ref p ∧ y = .int i ∧ SqL K H p xs ∧ atI xs i = some v ∧ Q v H
def rIxT (K : PySem.W.Frag) : R2 := fun x y H Q => ∃ p xs i v, x = .ref p ∧ y = .int i ∧ SqT K H p xs ∧ atI xs i = some v ∧ Q v H
theorem ix_list : IxR X (rIxL X.K) := by
  intro value slice pins s σ H x y v u Q I rx ry h hs
  obtain ⟨p, xs, i, z, rfl, rfl, hq, he, q⟩ := h
  cases rx
  obtain ⟨t, rfl⟩ := ry
  obtain ⟨its, r, pl, hz⟩ := I.list hq
  obtain ⟨j, h1, h2, h3, h4, h5⟩ := atI_get he
  obtain ⟨w, ew, rw'⟩ := r.get h2
  have hl := r.length
  have hn := line63
  have fin : EP X pins σ Q w s := ⟨z, H, I, rw', q⟩
  by_cases h0 : 0 ≤ i
  · have hj : i.toNat = j := by
      rw [seqIndex_of h0 h5] at h1
      exact Option.some.inj h1
    exact item_listR pl.isList h0 (by omega) (by rw [hj]; simpa using ew) fin hs
  · have hj : (i + (its.toArray.size : Int)).toNat = j := by
      rw [seqIndex_neg (by omega) h4] at h1
      rw [List.size_toArray, ← hl]
      exact Option.some.inj h1
    exact subscriptTail_builtinR (x := w) pl.isList.typeIs slot_list_getitem.lookup
      (wpAny_getItem_list_neg (Q := fun r s' => r = w ∧ EP X pins σ Q r s') pl.isList (by omega) (by rw [List.size_toArray] <;> omega) (by omega) (by rw [hj]; simpa using ew) ⟨rfl, fin⟩) hs
theorem ix_tup : IxR X (rIxT X.K) := by
  intro value slice pins s σ H x y v u Q I rx ry h hs
  obtain ⟨p, xs, i, z, rfl, rfl, hq, he, q⟩ := h
  cases rx
  obtain ⟨t, rfl⟩ := ry
  obtain ⟨its, r, pl, hz⟩ := I.tuple hq
  obtain ⟨j, h1, h2, h3, h4, h5⟩ := atI_get he
  obtain ⟨w, ew, rw'⟩ := r.get h2
  have hl := r.length
  have hn := line63
  have fin : EP X pins σ Q w s := ⟨z, H, I, rw', q⟩
  exact subscriptTail_builtinR (x := w) pl.typeIs slot_tuple_getitem.lookup
    (getItem_tuple (j := j) (Q := fun r s' => r = w ∧ EP X pins σ Q r s') pl (by omega) (by omega) (by rw [List.size_toArray, ← hl]; exact h1) (by simpa using ew) ⟨rfl, fin⟩) hs
theorem mapSeq_set (its : List Value) (n j : Nat) (u : Value) : Obj.mapSeq (·.setIfInBounds j u) { cls := .type "list", data := .seq its.toArray n } = { cls := .type "list", data := .seq (its.set j u).toArray n } := by
  simp [Obj.mapSeq]
theorem Inv.lst {pins : List (Addr × Obj)} {σ : St} {H : Hp} {s : Shared} {p : Addr} {xs : List V} (I : Inv X pins σ H s) (h : H p = some (.lst xs)) :
    ∃ (its : List Value) (n : Nat), Vals xs its ∧ s.heap.get? p = some { cls := .type "list", data := .seq its.toArray n } ∧ xs.length ≤ sizeLine := by
  obtain ⟨z, its, n, r, e⟩ := I.hok p _ h
  exact ⟨its, n, r, e, z⟩
theorem Inv.lstUpd {pins : List (Addr × Obj)} {σ : St} {H : Hp} {s : Shared} {p : Addr} {xs ys : List V} {its its' : List Value} {n n' : Nat} {f : Obj → Obj} (I : Inv X pins σ H s) (h : H p = some (.lst xs))
    (ho : s.heap.get? p = some { cls := .type "list", data := .seq its.toArray n }) (hf : f { cls := .type "list", data := .seq its.toArray n } = { cls := .type "list", data := .seq its'.toArray n' }) (r : Vals ys its') (hz : ys.length ≤ sizeLine) (t : Nat) :
    Inv X pins σ (upd H p (.lst ys)) { s with heap := s.heap.update p f, toks := t } := by
  have e : (s.heap.update p f).get? p = some { cls := .type "list", data := .seq its'.toArray n' } := by
    rw [Heap.get?_update_self f ho (by rw [hf] <;> rfl), hf]
  refine I.write (x := p) (e := p) (by rw [h]; trivial) (.inl rfl) (fun b u hb q => (Heap.get?_update_other _ _ (Ne.symm hb)).trans q) ⟨_, e⟩ ?_
  exact ⟨hz, its', n', r, e⟩
def rSetL : V → V → V → Hp → (Hp → Prop) → Prop := fun o i v H Q => ∃ p xs k j, o = .ref p ∧ i = .int k ∧ H p = some (.lst xs) ∧ ixN xs.length k = some j ∧ Q (upd H p (.lst (xs.set j v)))
theorem set_list : PSet X rSetL := by
  intro pins s σ H o i v ov iv u Q I ro ri rv h
  obtain ⟨p, xs, k, j, rfl, rfl, hp, hj, q⟩ := h
  cases ro
  obtain ⟨t, rfl⟩ := ri
  obtain ⟨its, n, r, ho, hz⟩ := I.lst hp
  obtain ⟨h1, h2, h3, h4⟩ := ixN_seq hj
  have hl := r.length
  have hn := line63
  have I' : Inv X pins σ (upd H p (.lst (xs.set j v))) { s with heap := s.heap.update p (Obj.mapSeq (·.setIfInBounds j u)) } :=
    I.lstUpd hp ho (mapSeq_set its n j u) (r.set rv j) (by rw [List.length_set]; exact hz) s.toks
  by_cases h0 : 0 ≤ k
  · have hk : k.toNat = j := by
      rw [seqIndex_of h0 h4] at h1
      exact Option.some.inj h1
    exact PySem.W.ki_setAt ho h0 (by omega) (by rw [List.size_toArray, ← hl]; exact h4) (by rw [hk]; exact ⟨_, I', q⟩)
  · have hk : (k + (its.toArray.size : Int)).toNat = j := by
      rw [seqIndex_neg (by omega) h3] at h1
      rw [List.size_toArray, ← hl]
      exact Option.some.inj h1
    exact PySem.W.ki_setBack ho (by omega) (by rw [List.size_toArray, ← hl]; exact h3) (by omega) (by rw [hk]; exact ⟨_, I', q⟩)
theorem slice_bounds (lo hi : Option Int) (n : Nat) : (sliceBounds lo hi none n).1 = ((HT.sIx n 0 lo : Nat) : Int) ∧ (sliceBounds lo hi none n).2.1 = ((HT.sIx n n hi : Nat) : Int) ∧ (sliceBounds lo hi none n).2.2 = 1 := by
  refine ⟨?_, ?_, rfl⟩
  · cases lo with
    | none => simp [sliceBounds, HT.sIx]
    | some i =>
      simp only [sliceBounds, HT.sIx, Option.getD_none, show (1 : Int) > 0 by decide, if_true]
      by_cases h : i < 0
      · simp only [h, if_true] <;> omega
      · simp only [h, if_false] <;> omega
  · cases hi with
    | none => simp [sliceBounds, HT.sIx]
    | some i =>
      simp only [sliceBounds, HT.sIx, Option.getD_none, show (1 : Int) > 0 by decide, if_true]
      by_cases h : i < 0
      · simp only [h, if_true] <;> omega
      · simp only [h, if_false] <;> omega
theorem slicePick_cut (its : List Value) (lo hi : Option Int) : slicePick its.toArray lo hi none = ((its.drop (HT.sIx its.length 0 lo)).take (HT.sIx its.length its.length hi - HT.sIx its.length 0 lo)).toArray := by
  obtain ⟨h1, h2, h3⟩ := slice_bounds lo hi its.toArray.size
  unfold slicePick
  rw [h1, h2, h3]
  simp only [sliceRange_one, pick_run, List.size_toArray] <;> rfl
def rSlL (K : PySem.W.Frag) : V → Option Int → Option Int → Hp → VK → Prop := fun x lo hi H Q => ∃ a xs, x = .ref a ∧ SqL K H a xs ∧ ∀ p, H p = none → Q (.ref p) (upd H p (.lst (cutV xs lo hi)))
theorem sl_list : SlR X (rSlL X.K) := by
  intro pins s σ H x v vl vu lo hi sl Q I rx hs pl pu h
  obtain ⟨a, xs, rfl, hx, q⟩ := h
  cases rx
  obtain ⟨its, r, ht, hz⟩ := I.list hx
  have hlen := r.length
  refine ⟨"list", _, slot_list_getitem.lookup, ht.isList.typeIs, ?_⟩
  refine wpAny_getItem_list_slice ht.isList hs pl pu .none (by simp) ?_ (by rw [List.size_toArray] <;> omega)
  rw [slicePick_cut, ← hlen]
  refine ⟨.ref s.heap.objs.size, _, I.laid (t' := s.toks) (o := .lst (cutV xs lo hi)) (fun b ob q => Heap.get?_push_of_some _ q) (Nat.le_refl _) ?_, rfl, q _ (I.hok.fresh (Nat.le_refl _))⟩
  exact ⟨Nat.le_trans (cutV_length xs lo hi) hz, _, 0, (r.drop (HT.sIx xs.length 0 lo)).take (HT.sIx xs.length xs.length hi - HT.sIx xs.length 0 lo), Heap.get?_push_size _ rfl⟩
def flatV : V → Bool
  | .non => true
  | .bl _ => true
  | .int _ => true
  | .str _ => true
  | _ => false
def eqV : V → V → Bool
  | .non, .non => true
  | .bl a, .bl b => a == b
  | .bl a, .int b => (if a then 1 else 0) == b
  | .int a, .bl b => a == (if b then 1 else 0)
  | .int a, .int b => a == b
  | .str a, .str b => a == b
  | _, _ => false
theorem eqAt_V {A : Around} {s : Shared} {y x : V} {u v : Value} (ry : RelV y u) (rx : RelV x v) (fy : flatV y = true) (fx : flatV x = true) : SeqAt.EqAt A s u v (eqV y x) := by
  cases y with
  | non =>
    cases ry
    cases x with
    | non => cases rx; exact SeqAt.EqAt.same _
    | bl b => cases rx; exact SeqAt.EqAt.none_bool b
    | int b => obtain ⟨t, rfl⟩ := rx; exact SeqAt.EqAt.none_int b t
    | str b => obtain ⟨t, rfl⟩ := rx; exact SeqAt.EqAt.none_str b t
    | _ => exact absurd (show false = true from fx) Bool.false_ne_true
  | bl a =>
    cases ry
    cases x with
    | non => cases rx; exact SeqAt.EqAt.bool_none a
    | bl b => cases rx; exact SeqAt.EqAt.bool_bool a b
    | int b => obtain ⟨t, rfl⟩ := rx; exact SeqAt.EqAt.bool_int a b t
    | str b => obtain ⟨t, rfl⟩ := rx; exact SeqAt.EqAt.bool_str a b t
    | _ => exact absurd (show false = true from fx) Bool.false_ne_true
  | int a =>
    obtain ⟨t', rfl⟩ := ry
    cases x with
    | non => cases rx; exact SeqAt.EqAt.int_none a t'
    | bl b => cases rx; exact SeqAt.EqAt.int_bool a t' b
    | int b => obtain ⟨t, rfl⟩ := rx; exact SeqAt.EqAt.int_int a t' b t
    | str b => obtain ⟨t, rfl⟩ := rx; exact SeqAt.EqAt.int_str a t' b t
    | _ => exact absurd (show false = true from fx) Bool.false_ne_true
  | str a =>
    obtain ⟨t', rfl⟩ := ry
    cases x with
    | non => cases rx; exact SeqAt.EqAt.str_none a t'
    | bl b => cases rx; exact SeqAt.EqAt.str_bool a t' b
    | int b => obtain ⟨t, rfl⟩ := rx; exact SeqAt.EqAt.str_int a t' b t
    | str b => obtain ⟨t, rfl⟩ := rx; exact SeqAt.EqAt.str_str a t' b t
    | _ => exact absurd (show false = true from fx) Bool.false_ne_true
  | _ => exact absurd (show false = true from fy) Bool.false_ne_true
def eqU (x : V) (u : Value) : Bool := match u with
  | .none => eqV .non x
  | .bool b => eqV (.bl b) x
  | .int i _ => eqV (.int i) x
  | .str z _ => eqV (.str z) x
  | _ => false
theorem eqU_of {x y : V} {u : Value} (r : RelV y u) (f : flatV y = true) : eqU x u = eqV y x := by
  cases y with
  | non => cases r; rfl
  | bl b => cases r; rfl
  | int i => obtain ⟨t, rfl⟩ := r; rfl
  | str z => obtain ⟨t, rfl⟩ := r; rfl
  | _ => exact absurd (show false = true from f) Bool.false_ne_true
theorem any_eqU {x : V} : ∀ {xs : List V} {us : List Value}, Vals xs us → xs.all flatV = true → us.any (eqU x) = xs.any fun y => eqV y x
  | _, _, .nil, _ => rfl
  | y :: xs, u :: us, .cons r t, f => by
    rw [List.all_cons, Bool.and_eq_true] at f
    rw [List.any_cons, List.any_cons, eqU_of r f.1, any_eqU t f.2]
theorem mem_eqAt {A : Around} {s : Shared} {x : V} {v : Value} (rx : RelV x v) (fx : flatV x = true) : ∀ {xs : List V} {us : List Value}, Vals xs us → xs.all flatV = true → ∀ u ∈ us, SeqAt.EqAt A s u v (eqU x u)
  | _, _, .nil, _ => fun u hu => by cases hu
  | y :: xs, u :: us, .cons r t, f => fun u' hu => by
    rw [List.all_cons, Bool.and_eq_true] at f
    rcases List.mem_cons.mp hu with rfl | hu
    · rw [eqU_of r f.1]; exact eqAt_V r rx f.1 fx
    · exact mem_eqAt rx fx t f.2 u' hu
def inV (x : V) (xs : List V) : Bool := xs.any fun y => eqV y x
def rIn (K : PySem.W.Frag) (neg : Bool) : R2 := fun x y H Q => ∃ p xs, y = .ref p ∧ (SqL K H p xs ∨ SqT K H p xs) ∧ flatV x = true ∧ xs.all flatV = true ∧ Q (.bl (if neg then !inV x xs else inV x xs)) H
theorem op_in_seq : OpR X (compareOp .In) (rIn X.K false) := by
  intro pins s σ H x y v u Q I rx ry h
  obtain ⟨p, xs, rfl, hq, fx, fs, q⟩ := h
  cases ry
  rcases hq with hq | hq
  · obtain ⟨its, r, pl, hz⟩ := I.list hq
    refine SeqAt.in_listAt (eqU x) pl.isList (fun w hw => mem_eqAt rx fx r fs w (by simpa using hw)) ⟨.bl _, H, I, rfl, ?_⟩
    rw [show its.toArray.any (eqU x) = its.any (eqU x) by simp, any_eqU r fs]
    exact q
  · obtain ⟨its, r, pl, hz⟩ := I.tuple hq
    refine SeqAt.in_tupleAt (eqU x) pl (fun w hw => mem_eqAt rx fx r fs w (by simpa using hw)) ⟨.bl _, H, I, rfl, ?_⟩
    rw [show its.toArray.any (eqU x) = its.any (eqU x) by simp, any_eqU r fs]
    exact q
theorem op_notIn_seq : OpR X (compareOp .NotIn) (rIn X.K true) := by
  intro pins s σ H x y v u Q I rx ry h
  obtain ⟨p, xs, rfl, hq, fx, fs, q⟩ := h
  cases ry
  rcases hq with hq | hq
  · obtain ⟨its, r, pl, hz⟩ := I.list hq
    refine SeqAt.notIn_listAt (eqU x) pl.isList (fun w hw => mem_eqAt rx fx r fs w (by simpa using hw)) ⟨.bl _, H, I, rfl, ?_⟩
    rw [show its.toArray.any (eqU x) = its.any (eqU x) by simp, any_eqU r fs]
    exact q
  · obtain ⟨its, r, pl, hz⟩ := I.tuple hq
    refine SeqAt.notIn_tupleAt (eqU x) pl (fun w hw => mem_eqAt rx fx r fs w (by simpa using hw)) ⟨.bl _, H, I, rfl, ?_⟩
    rw [show its.toArray.any (eqU x) = its.any (eqU x) by simp, any_eqU r fs]
    exact q
theorem call_len_seq : CallR X (.builtin "len") (fun xs H Q => ∃ p ys, xs = [.ref p] ∧ (SqL X.K H p ys ∨ SqT X.K H p ys) ∧ Q (.int ys.length) H) := by
  intro pins s σ H xs us Q I r h
  obtain ⟨p, ys, rfl, hq, q⟩ := h
  obtain ⟨u, rfl, rx⟩ := vals1 r
  cases rx
  have hn := line63
  rcases hq with hq | hq
  · obtain ⟨its, r', pl, hz⟩ := I.list hq
    have hlen := r'.length
    exact Calls.call_len_list pl.isList (by simp only [List.size_toArray] <;> omega) ⟨.int ys.length, H, I.tok _, ⟨s.toks + 1, by rw [List.size_toArray, hlen]⟩, q⟩
  · obtain ⟨its, r', pl, hz⟩ := I.tuple hq
    have hlen := r'.length
    exact len_tuple pl (by simp only [List.size_toArray] <;> omega) ⟨.int ys.length, H, I.tok _, ⟨s.toks + 1, by rw [List.size_toArray, hlen]⟩, q⟩
theorem call_list_of : CallR X (.type "list") (fun xs H Q => ∃ p ys, xs = [.ref p] ∧ (SqL X.K H p ys ∨ SqT X.K H p ys) ∧ ∀ l, H l = none → Q (.ref l) (upd H l (.lst ys))) := by
  intro pins s σ H xs us Q I r h
  obtain ⟨p, ys, rfl, hq, q⟩ := h
  obtain ⟨u, rfl, rx⟩ := vals1 r
  cases rx
  have fin : ∀ (its : List Value), Vals ys its → ys.length ≤ sizeLine → ∀ (h' : Heap) (c' : Nat), (∀ b o', s.heap.get? b = some o' → h'.get? b = some o') →
      h'.get? s.heap.objs.size = some { cls := .type "list", dict := none, data := .seq its.toArray c', slots := #[] } → EP X pins σ Q (.ref s.heap.objs.size) { s with heap := h' } := fun its r' hz h' c' kp e =>
    ⟨.ref s.heap.objs.size, _, I.laid (t' := s.toks) kp (Nat.le_refl _) (show ObjOk X.prog X.w _ h' _ (.lst ys) from ⟨hz, its, c', r', e⟩), rfl, q _ (I.hok.fresh (Nat.le_refl _))⟩
  rcases hq with hq | hq
  · obtain ⟨its, r', pl, hz⟩ := I.list hq
    have hlen := r'.length
    obtain ⟨o, ho, hc, n, hd⟩ := pl.isList
    exact call_list_seq p (.inl rfl) ho hc hd (fun h' c' kp e => fin its r' hz h' c' kp e) (by simp only [List.size_toArray] <;> omega)
  · obtain ⟨its, r', pl, hz⟩ := I.tuple hq
    have hlen := r'.length
    obtain ⟨o, ho, hc, n, hd⟩ := pl
    exact call_list_seq p (.inr rfl) ho hc hd (fun h' c' kp e => fin its r' hz h' c' kp e) (by simp only [List.size_toArray] <;> omega)
theorem call_tuple_of : CallR X (.type "tuple") (fun xs H Q => ∃ p ys, xs = [.ref p] ∧ ((SqL X.K H p ys ∧ ∀ l, H l = none → Q (.ref l) (upd H l (.tup ys))) ∨ (SqT X.K H p ys ∧ Q (.ref p) H))) := by
  intro pins s σ H xs us Q I r h
  obtain ⟨p, ys, rfl, h⟩ := h
  obtain ⟨u, rfl, rx⟩ := vals1 r
  cases rx
  rcases h with ⟨hq, q⟩ | ⟨hq, q⟩
  · obtain ⟨its, r', pl, hz⟩ := I.list hq
    have hlen := r'.length
    refine call_tuple_list pl.isList (fun h' kp => ?_) (by simp only [List.size_toArray] <;> omega)
    have I1 : Inv X pins σ H { s with heap := h' } := I.kept (t' := s.toks) kp
    have I2 : Inv X pins σ (upd H h'.objs.size (.tup ys)) { s with heap := h'.push { cls := .type "tuple", data := .seq its.toArray } } :=
      I1.laid (t' := s.toks) (fun b o e => Heap.get?_push_of_some _ e) (Nat.le_refl _) (show ObjOk X.prog X.w _ _ _ (.tup ys) from ⟨hz, its, r', IsTup.new _ _⟩)
    exact ⟨.ref h'.objs.size, _, I2, rfl, q _ (I1.hok.fresh (Nat.le_refl _))⟩
  · obtain ⟨its, r', pl, hz⟩ := I.tuple hq
    exact call_tuple_same pl ⟨.ref p, H, I, rfl, q⟩
def tyV (K : PySem.W.Frag) (T : String) (x : V) (H : Hp) : Prop := match x with
  | .str _ => T = "str"
  | .int _ => T = "int"
  | .ref p => (T = "list" ∧ ∃ xs, SqL K H p xs) ∨ (T = "tuple" ∧ ∃ o, K.lookup p = some o ∧ o.cls = .type "tuple" ∧ o.dict = none) ∨
      (T = "dict" ∧ ((∃ kvs, H p = some (.dK kvs)) ∨ ∃ kvs, H p = some (.dT kvs))) ∨ (T = "set" ∧ ∃ S n, H p = some (.set S n))
  | _ => False
theorem tyV_is {pins : List (Addr × Obj)} {σ : St} {H : Hp} {s : Shared} {T : String} {x : V} {v : Value} (I : Inv X pins σ H s) (r : RelV x v) (ty : tyV X.K T x H) :
    s.TypeIs v T ∧ ∀ a, v = .ref a → ∃ ob, s.heap.get? a = some ob ∧ ob.dict = none := by
  cases x with
  | str z =>
    obtain ⟨t, rfl⟩ := r
    cases (show T = "str" from ty)
    exact ⟨typeIs_str s z t, fun _ e => nomatch e⟩
  | int i =>
    obtain ⟨t, rfl⟩ := r
    cases (show T = "int" from ty)
    exact ⟨typeIs_int s i t, fun _ e => nomatch e⟩
  | ref p =>
    cases r
    rcases ty with ⟨rfl, xs, hq⟩ | ⟨rfl, o, hk, hc, hd⟩ | ⟨rfl, hk⟩ | ⟨rfl, S, n, hk⟩
    · obtain ⟨its, _, pl, _⟩ := I.list hq
      refine ⟨pl.isList.typeIs, fun a e => ?_⟩
      cases e
      obtain ⟨o, n, e, c, hd, _⟩ := pl
      exact ⟨o, e, hd⟩
    · refine ⟨⟨o, I.kIn p o hk, hc⟩, fun a e => ?_⟩
      cases e
      exact ⟨o, I.kIn _ o hk, hd⟩
    · have z : ∃ o, s.heap.get? p = some o ∧ o.ExactDict := by
        rcases hk with ⟨kvs, hk⟩ | ⟨kvs, hk⟩
        · obtain ⟨_, _, _, _, o, _, _, e, ex, _⟩ := I.hok p _ hk
          exact ⟨o, e, ex⟩
        · obtain ⟨_, _, _, _, o, _, _, e, ex, _⟩ := I.hok p _ hk
          exact ⟨o, e, ex⟩
      obtain ⟨o, e, ex⟩ := z
      refine ⟨⟨o, e, ex.1⟩, fun a e2 => ?_⟩
      cases e2
      exact ⟨o, e, ex.2.1⟩
    · obtain ⟨o, _, _, _, e, ex, _⟩ := I.hok p _ hk
      refine ⟨⟨o, e, ex.1⟩, fun a e2 => ?_⟩
      cases e2
      exact ⟨o, e, ex.2.1⟩
  | _ => exact False.elim ty
def tBM (K : PySem.W.Frag) (T : String) (r : V → List V → Hp → VK → Prop) (to : TE) (t : TA) : TE := fun σ H Q => to σ H fun x H1 => tyV K T x H1 ∧ t σ H1 fun xs H2 => r x xs H2 Q
variable {o e : Expr} {es : List Expr} {to : TE} {t : TA} {name : Str} {apos cpos : PySem.Pos} {T id : String} {r : V → List V → Hp → VK → Prop}
theorem pe_bm (pa : PlainAttrs T) (slot : Slot T name id) (hty : typeOf (.builtin id) = pure (.type "method_descriptor")) (hm : MtR X id r) (ho : PE X o to) (ha : PA X (e :: es) t)
    (hbase : attributeBase o name X.env (eval o X.env) = eval o X.env := by rfl)
    (hfew : ((backTo cpos (starEach (e :: es) X.env)).all (fun x => !x.1) && (backToKw cpos (keywordEach [] X.env)).all (fun x => x.1.isSome)
      && decide ((e :: es).length + ([] : List Keyword).length + (if ([] : List Keyword).isEmpty then 0 else 1) < 30)) = true := by rfl)
    (hline : (apos.endLine == cpos.line) = true := by rfl) (hs : starEach (e :: es) X.env = (false, eval e X.env) :: starEach es X.env := by rfl) (hplain : (backTo cpos (starEach es X.env)).any (·.1) = false := by rfl) :
    PE X (.Call (.Attribute o name apos) (e :: es) [] cpos) (tBM X.K T r to t) := by
  intro pins s σ H Q I h
  refine wpAny_Call_method_late hbase hfew hline rfl (thn (ho pins s σ H _ I h) fun v s1 ⟨x, H1, I1, r1, ty, q1⟩ => ?_)
  obtain ⟨h1, h2⟩ := tyV_is I1 r1 ty
  refine ⟨T, id, pa, slot, hty, h1, h2, ?_⟩
  have hA := ha cpos pins s1 σ H1 _ I1 q1
  rw [hs] at hA ⊢
  refine Calls.callWith_builtin (by show (false || (backTo cpos (starEach es X.env)).any (·.1)) = false; rw [hplain] <;> rfl) (Calls.evalArgs_plain ?_)
  exact thn hA fun us s2 ⟨vs, H2, I2, r2, q2⟩ => hm pins s2 σ H2 x vs v us Q I2 r1 r2 q2
end
end L2
namespace L2
open PySem PySem.Spec PyProof.Rows
def MtM (X : Cx) (id : String) (r : V → List V → Hp → VK → Prop) : Prop :=
  ∀ (pins : List (Addr × Obj)) (s : Shared) (σ : St) (H : Hp) (x : V) (xs : List V) (v : Value) (us : List Value) (Q : VK), Inv X pins σ H s → RelV x v → Vals xs us → r x xs H Q →
    wpAny (model X.prog X.w) X.A (call (.builtin id) (v :: us)) (EP X pins σ Q) X.xe s
theorem Vals.one : ∀ {x : V} {us : List Value}, Vals [x] us → ∃ u, us = [u] ∧ RelV x u
  | _, _, .cons r .nil => ⟨_, rfl, r⟩
section
variable {X : Cx} {pins : List (Addr × Obj)} {σ : St} {H : Hp} {s : Shared} {l b : Addr} {xs ys zs : List V}
theorem Inv.lset {its its' : List Value} {n : Nat} {f : Array Value → Array Value} {t' : Nat} (I : Inv X pins σ H s) (hH : H l = some (.lst xs))
    (e : s.heap.get? l = some { cls := .type "list", data := .seq its.toArray n }) (hf : f its.toArray = its'.toArray) (hv : Vals ys its') (hz : ys.length ≤ sizeLine) :
    Inv X pins σ (upd H l (.lst ys)) { s with heap := s.heap.update l (Obj.mapSeq f), toks := t' } := by
  have q := PySem.IsL.update e f
  rw [hf] at q
  refine I.write (x := l) (e := l) (by rw [hH]; exact trivial) (.inl rfl) (fun b' u hb hu => (Heap.get?_update_other s.heap (Obj.mapSeq f) (Ne.symm hb)).trans hu) ⟨_, q⟩ ?_
  exact ⟨hz, its', _, hv, q⟩
theorem Inv.lnew {its : List Value} {t' : Nat} (I : Inv X pins σ H s) (hv : Vals ys its) (hz : ys.length ≤ sizeLine) :
    Inv X pins σ (upd H s.heap.objs.size (.lst ys)) { s with heap := s.heap.push { cls := .type "list", data := .seq its.toArray }, toks := t' } :=
  I.laid (fun _ _ q => Heap.get?_push_of_some _ q) (Nat.le_refl _) ⟨hz, its, 0, hv, Heap.get?_push_size _ rfl⟩
theorem Inv.fresh (I : Inv X pins σ H s) : H s.heap.objs.size = none := I.hok.fresh (Nat.le_refl _)
theorem Inv.lstM (I : Inv X pins σ H s) (hH : H l = some (.lst xs)) : xs.length ≤ sizeLine ∧ ∃ (its : List Value) (n : Nat), Vals xs its ∧ xs.length = its.length ∧ s.heap.get? l = some { cls := .type "list", data := .seq its.toArray n } := by
  obtain ⟨z, its, n, r, e⟩ := I.hok l _ hH
  exact ⟨z, its, n, r, r.length, e⟩
end
section
variable {X : Cx}
def rAppend : V → List V → Hp → VK → Prop := fun x vs H Q => ∃ l xs y, x = .ref l ∧ vs = [y] ∧ H l = some (.lst xs) ∧ xs.length < sizeLine ∧ Q .non (upd H l (.lst (xs ++ [y])))
theorem mt_append : MtM X "list.append" rAppend := by
  intro pins s σ H x vs v us Q I rx rv h
  obtain ⟨l, xs, y, rfl, rfl, hH, hz, q⟩ := h
  cases rx
  obtain ⟨u, rfl, ru⟩ := rv.one
  obtain ⟨z, its, n, r, hl, e⟩ := I.lstM hH
  refine call_meets F.slot_list_append ⟨_, e, rfl⟩ F.entry_list_append (F.args_list_append_2 _ _) (PySem.list_append l its.toArray n u (by rw [List.size_toArray]; omega)) ⟨e, ?_⟩
  refine ⟨.non, _, I.lset (its' := its ++ [u]) hH e (by simp) (r.append (.cons ru .nil)) ?_, rfl, q⟩
  rw [List.length_append, List.length_singleton]
  omega
def rCat : R2 := fun x y H Q => ∃ l b xs zs, x = .ref l ∧ y = .ref b ∧ H l = some (.lst xs) ∧ H b = some (.lst zs) ∧ xs.length + zs.length ≤ sizeLine ∧ ∀ p, H p = none → Q (.ref p) (upd H p (.lst (xs ++ zs)))
theorem op_cat : OpR X (binaryOp .Add) rCat := by
  intro pins s σ H x y v u Q I rx ry h
  obtain ⟨l, b, xs, zs, rfl, rfl, hH, hB, hz, q⟩ := h
  cases rx
  cases ry
  obtain ⟨z, its, n, r, hl, e⟩ := I.lstM hH
  obtain ⟨z2, its2, n2, r2, hl2, e2⟩ := I.lstM hB
  refine PySem.P.add_list e e2 ?_ (by rw [List.size_toArray, List.size_toArray]; omega)
  have ea : its.toArray ++ its2.toArray = (its ++ its2).toArray := by simp
  rw [ea]
  exact ⟨.ref _, _, I.lnew (t' := s.toks) (r.append r2) (by rw [List.length_append]; omega), rfl, q _ I.fresh⟩
end
end L2
namespace Att
open PySem PySem.W PySem.Calls PyProof.Rows
theorem ints_of_wellAll {P : Params} {h : Heap} : ∀ (ns : List Int) (vs : List Value), WellAll P h vs (ns.map WData.int) → IntsAre vs ns := by
  intro ns
  induction ns with
  | nil =>
    intro vs w
    rw [List.map_nil] at w
    cases w
    exact .nil
  | cons n ns ih =>
    intro vs w
    rw [List.map_cons] at w
    cases w with
    | cons a b =>
      cases a
      exact .cons _ _ (ih _ b)
theorem script_of {l : OpenLaw} {n : Nat} (hn : l.most = some n) {P : Params} {h : Heap} {args : List WData} {vals : List Value}
    (hpre : l.row.toRowW.claim.pre args = true) (hwl : WellAll P h vals args) :
    ∃ a vs ns, vals = [Value.ref a] ∧ args = [WData.list (ns.map WData.int)] ∧ h.get? a = some { cls := .type "list", data := .seq vs.toArray } ∧ IntsAre vs ns ∧ ns.length ≤ n := by
  have hsh : WShape.hasAll [] args [.list .int] = true := (pre_splitW hpre).1
  have hc : l.pre.holds [] { args := args } = true := (pre_splitW hpre).2
  obtain ⟨d, r, rfl, h1, h2⟩ := hasAllW_cons hsh
  obtain rfl := hasAllW_nil h2
  obtain ⟨xs, rfl, h3⟩ := hasW_list h1
  obtain ⟨ns, rfl⟩ := items_int h3
  have hlen : ns.length ≤ n := by
    unfold OpenLaw.pre at hc
    have h4 : (WTm.not (.lt (.lit (.int (n : Int))) (.len (.arg 0)))).holds [] { args := [.list (ns.map .int)] } = true := by
      have h4 := (holds_andW hc).1
      rw [hn] at h4
      exact h4
    have h5 := condW_of h4 (w_not (w_lt w_lit (w_len_list (w_arg rfl))))
    rw [List.length_map] at h5
    refine Nat.le_of_not_lt fun q => ?_
    have q' : (n : Int) < ((ns.length : Nat) : Int) := by omega
    first
      | (rw [decide_eq_true q'] at h5; exact absurd h5 (by decide))
      | (simp at h5; omega)
  cases hwl with
  | cons w1 w2 =>
    cases w2
    cases w1 with
    | list ho hall => exact ⟨_, _, ns, rfl, rfl, ho, ints_of_wellAll ns _ hall, hlen⟩
theorem post_true (l : OpenLaw) (args : List WData) : l.row.toRowW.claim.post args (.bool true) args = true :=
  postW_of (r := l.row.toRowW) (X := (true == true))
    (show WShape.has [] (.bool true) .bool = true by first | rfl | decide | simp [WShape.has, WShape.arms, WShape.armsAll])
    (show (WTm.eq .res (.lit (.bool true))).value [] { args := args, res := some (.bool true), after := args } = some (.bool (true == true)) from w_eq_bool (w_res rfl) w_lit) rfl
theorem attach_call {l : OpenLaw} {n : Nat} {q : Program} {loose : List Str} {XP : (Str → Option Value) → Heap → Prop} {YP : World → Heap → Prop} {d : DefRec}
    (hn : l.most = some n) (hdf : d.params.defaults = [])
    (call : ∀ (w : World) (s₀ s₁ : Shared) (mg mb : Str → Option Value) (fa : Addr) (o : Obj) (pm cd doc : Value) (a : Addr) (vs : List Value) (ns : List Int),
      Ground q loose [] XP w s₀ mg mb s₁.heap → YP w s₁.heap →
      s₁.heap.get? fa = some o → o.data = .func (docDef d.name d.params d.body d.scope pm cd doc) → s₁.heap.CodeRec cd d.name → mg d.name = some (.ref fa) →
      s₁.heap.get? a = some { cls := .type "list", data := .seq vs.toArray } → IntsAre vs ns → ns.length ≤ n → s₁.gens = #[] →
      codeAny (model l.prog w) callerA (.call (.ref fa) ⟨[.ref a], []⟩) (fun r s' => r = .ok (.ret (.bool true)) ∧ OldK s₁.heap s'.heap ∧ s'.os = s₁.os ∧ AllBare s'.gens) s₁) :
    WalkO q loose XP YP l.row.toRowW d [] (fun f vs => PySem.call f vs) := by
  intro w s₀ s₁ mg mb G Y fa o pm cd doc dV kV ho hd hcd hD hmg hg args vals as hpre hlay hrd hwl hlo
  obtain rfl : dV = .none := Dflts.none hD hdf
  obtain rfl : kV = .none := Dflts.noKw hD
  obtain ⟨a, vs, ns, rfl, rfl, hobj, hints, hlen⟩ := script_of hn hpre hwl
  refine enter_call (codeAny_mono (call w s₀ s₁ mg mb fa o pm cd doc a vs ns G Y ho (fd_plain hd) hcd hmg hobj hints hlen hg) fun r s' hq => ?_)
  obtain ⟨rfl, h2, h3, h4⟩ := hq
  exact ⟨.inl ⟨.bool true, .bool true, [], rfl, fun _ => rfl, .bool true, post_true l _, fun _ => ⟨List.Pairwise.nil, fun _ hm => (nomatch hm)⟩⟩, h2, h3, h4⟩
end Att
namespace L2
open PySem PySem.Spec PyProof.Rows
theorem vals_ints : ∀ {vs : List Value} {ns : List Int}, IntsAre vs ns → Vals (ns.map V.int) vs
  | _, _, .nil => .nil
  | _, _, .cons n t h => .cons ⟨t, rfl⟩ (vals_ints h)
def Only (H : Hp) : Prop := ∀ b, H b = none ∨ ∃ o xs, H b = some (.frz o (.lst xs))
theorem law_call {P : Program} {w : World} {K : PySem.W.Frag} {mg mb : Str → Option Value} {CX : CXT} {k : Nat} {fa a : Addr} {fd : FuncData} {x : Str} {sp : Sp} {s₁ : Shared} {vs : List Value} {ns : List Int}
    (KX : K.In s₁.heap) (hns : s₁.heap.Ns mainGlobals mg) (hb : s₁.heap.Ns builtinsNs mb) (hbb : ∀ x : Str, x ≠ "__name__" → mb x = bootBuiltins x) (hlim : s₁.heap.NoLimit) (hg : s₁.gens = #[])
    (ha : s₁.heap.get? a = some { cls := .type "list", data := .seq vs.toArray }) (hi : IntsAre vs ns) (hl : ns.length ≤ sizeLine) (hr : Room k callerA)
    (F : ∀ base : Heap, K.In base → base.Ns mainGlobals mg → FnOk P w K mg base CX k fa fd [x] sp) (hbind : ∀ (s : Shared) (u : Value), BindsTo s fd ⟨[u], []⟩ [(x, u)])
    (hsp : ∀ H : Hp, Only H → SqL K H a (ns.map V.int) → sp [.ref a] H (fun v _ => v = .bl true) fun _ _ _ => False)
    (hCX : ∀ H e s', CX [] H s₁ (fun _ _ _ => False) e s' → False) :
    codeAny (model P w) callerA (.call (.ref fa) ⟨[.ref a], []⟩) (fun r s' => r = .ok (.ret (.bool true)) ∧ OldK s₁.heap s'.heap ∧ s'.os = s₁.os ∧ AllBare s'.gens) s₁ := by
  have rv := vals_ints hi
  have lenV := hi.length
  have core : ∀ H : Hp, Only H → SqL K H a (ns.map V.int) → HOk P w H s₁.heap → (∀ b, H b ≠ none → b = a) → (H a ≠ none → K.lookup a = none) →
      codeAny (model P w) callerA (.call (.ref fa) ⟨[.ref a], []⟩) (fun r s' => r = .ok (.ret (.bool true)) ∧ OldK s₁.heap s'.heap ∧ s'.os = s₁.os ∧ AllBare s'.gens) s₁ := by
    intro H hO hS hok hA hK
    have base_of : ∀ {b : Addr} {o : Obj}, s₁.heap.get? b = some o → H b = none → (hidT s₁.heap H).get? b = some o := fun e n => hidT_get e n
    have noA : ∀ {b : Addr} {o : Obj} {es : Array DictEntry} {ep : Nat}, s₁.heap.get? b = some o → o.data = .dict es ep → H b = none := fun {b o es ep} e d => by
      cases q : H b with
      | none => rfl
      | some u =>
        have e' : b = a := hA b (by rw [q]; simp)
        subst e'
        rw [ha] at e; cases e
        have d' : Data.seq vs.toArray _ = Data.dict es ep := d
        cases d'
    have nsK : ∀ {b : Addr} {m : Str → Option Value}, s₁.heap.Ns b m → (hidT s₁.heap H).Ns b m := fun {b m} ⟨o, es, ep, e, d, r⟩ => ⟨o, es, ep, base_of e (noA e d), d, r⟩
    have hKb : K.In (hidT s₁.heap H) := fun b o e => base_of (KX b o e) (by
      cases q : H b with
      | none => rfl
      | some u =>
        have e' : b = a := hA b (by rw [q]; simp)
        subst e'
        rw [hK (by rw [q]; simp)] at e; cases e)
    have hM : Mod K mg (hidT s₁.heap H) := ⟨hKb, nsK hns, ⟨mb, nsK hb, hbb⟩, let ⟨mc, h1, h2⟩ := hlim; ⟨mc, nsK h1, h2⟩⟩
    have e0 : Env0 P w K mg (hidT s₁.heap H) callerA [] s₁ H := ⟨rfl, hM, fun b o e => of_hidT e, Nat.le_of_eq (hidT_size _ _), trivial, fun b hb => absurd (show b ∈ ([] : List Addr) from hb) (by simp), hok, .of_eq hg⟩
    refine codeAny_mono ((F _ hKb (nsK hns)).run callerA [] s₁ H ⟨[.ref a], []⟩ [.ref a] [.ref a] _ _ hr e0 (hbind s₁ (.ref a)) (.cons rfl .nil) (hsp H hO hS)) fun r s' h => ?_
    cases r with
    | error e => exact (hCX H e s' h).elim
    | ok fl =>
      cases fl with
      | next => exact False.elim h
      | brk => exact False.elim h
      | cont => exact False.elim h
      | ret u =>
        obtain ⟨v, H', os, bare, un, hok', r', q⟩ := h
        have q' : v = .bl true := q
        subst q'
        obtain rfl : u = Value.bool true := r'
        refine ⟨rfl, OldK.of_keep fun b o e => ?_, os, bare⟩
        cases q : H b with
        | none => exact un.keep b o e q (by intro z; exact absurd (show b ∈ ([] : List Addr) from z) (by simp)) (by simp)
        | some u =>
          rcases hO b with z | ⟨ob, xs, z⟩
          · rw [q] at z; cases z
          · have z2 := un.frzs b ob _ z
            obtain ⟨e1, _⟩ := hok b _ z
            obtain ⟨e2, _⟩ := hok' b _ z2
            rw [e] at e1; cases e1
            exact e2
  cases hk : K.lookup a with
  | some o =>
    have e := KX a o hk
    rw [ha] at e
    cases e
    refine core (fun _ => none) (fun _ => .inl rfl) (.inr ⟨_, vs.toArray, _, hk, rfl, rfl, rfl, by rw [List.size_toArray, lenV]; exact hl, by simpa using rv⟩) (fun b u z => by have z' : (none : Option HO) = some u := z; cases z') (fun b z => absurd rfl z) fun z => absurd rfl z
  | none =>
    refine core (fun b => if b = a then some (.frz { cls := .type "list", data := .seq vs.toArray } (.lst (ns.map V.int))) else none) (fun b => ?_) (.inl (.inr ⟨{ cls := .type "list", data := .seq vs.toArray }, if_pos rfl⟩)) (fun b u z => ?_) (fun b z => ?_) fun _ => hk
    · by_cases hb : b = a
      · exact .inr ⟨_, _, if_pos hb⟩
      · exact .inl (if_neg hb)
    · by_cases hb : b = a
      · have z' := (if_pos hb).symm.trans z
        cases z'
        subst hb
        exact ⟨ha, by rw [List.length_map]; exact hl, vs, _, rv, ha⟩
      · have z' := (if_neg hb).symm.trans z
        cases z'
    · by_cases hb : b = a
      · exact hb
      · exact absurd (if_neg hb) z
end L2
namespace L2
open PySem PySem.Spec PyProof.Rows
theorem walk_of {l : PySem.W.OpenLaw} {n k : Nat} {q : Program} {loose : List Str} {XP : (Str → Option Value) → Heap → Prop} {YP : World → Heap → Prop} {d : DefRec} {K : Params → PySem.W.Frag} {CX : World → CXT} {sp : World → Sp} {x : Str}
    (hn : l.most = some n) (hn2 : n ≤ sizeLine) (hdf : d.params.defaults = []) (hr : Room k callerA)
    (hY : ∀ (w : World) (h : Heap), YP w h → (K w.params).In h)
    (F : ∀ (w : World) (mg : Str → Option Value) (fa : Addr) (h : Heap), (K w.params).In h → h.Ns mainGlobals mg → mg d.name = some (.ref fa) →
      ∃ fd : FuncData, (∀ (s : Shared) (u : Value), BindsTo s fd ⟨[u], []⟩ [(x, u)]) ∧
        ∀ base : Heap, (K w.params).In base → base.Ns mainGlobals mg → FnOk l.prog w (K w.params) mg base (CX w) k fa fd [x] (sp w))
    (hsp : ∀ (w : World) (H : Hp) (a : Addr) (ns : List Int), ns.length ≤ n → Only H → SqL (K w.params) H a (ns.map V.int) → sp w [.ref a] H (fun v _ => v = .bl true) fun _ _ _ => False)
    (hCX : ∀ (w : World) (H : Hp) (s : Shared) (e : Value) (s' : Shared), CX w [] H s (fun _ _ _ => False) e s' → False) :
    PySem.W.WalkO q loose XP YP l.row.toRowW d [] (fun f vs => PySem.call f vs) := by
  refine Att.attach_call hn hdf fun w s₀ s₁ mg mb fa o pm cd doc a vs ns G Y ho hd hcd hmg hobj hints hlen hg => ?_
  have KX := hY w _ Y
  obtain ⟨fd, hb, hF⟩ := F w mg fa _ KX G.T.g hmg
  exact law_call KX G.T.g G.T.b G.T.builtins G.T.nolimit hg hobj hints (Nat.le_trans hlen hn2) hr hF hb (fun H hO hS => hsp w H a ns hlen hO hS) fun H e s' => hCX w H s₁ e s'
end L2
namespace L2
open PySem PySem.Spec PyProof.Rows
def defArgs (s : Stmt) : Arguments := match s with
  | .FunctionDef _ a _ _ _ _ _ _ _ _ => a
  | _ => { posonlyargs := [], args := [], vararg := none, kwonlyargs := [], kw_defaults := [], kwarg := none, defaults := [] }
def defBody (s : Stmt) : List Stmt := match s with
  | .FunctionDef _ _ b _ _ _ _ _ _ _ => b
  | _ => []
def defScope (s : Stmt) : Scope := match s with
  | .FunctionDef _ _ _ _ _ _ sc _ _ _ => sc
  | _ => { kind := .function, names := [], isGenerator := false, isCoroutine := false }
abbrev CX0 : CXT := fun _ _ _ _ _ _ => False
abbrev E0 : XK := fun _ _ _ => False
theorem pass0 {X : Cx} : Passes CX0 X E0 := fun _ _ _ _ _ _ _ h => h.elim
structure Fun (K : PySem.W.Frag) (x qual : Str) (st : Stmt) (f : Addr) (fd : FuncData) : Prop where
  ex : ∃ (oc : Value) (od : Option Addr) (kV doc pm : Value) (an : Option Addr) (cdv ct : Value) (osl : Array (Option Value)),
    fd = PySem.W.fnOf x qual (defArgs st) (defBody st) (defScope st) .none kV doc pm an cdv ct ∧ K.lookup f = some ⟨oc, od, .func fd, osl⟩ ∧ PySem.W.codeIn K cdv qual = true
  kp : PySem.W.keepIn K (.ref f) = true
section
variable {P : Program} {w : World} {K : PySem.W.Frag} {mg : Str → Option Value} {base : Heap}
theorem Fun.ok {x qual : Str} {st : Stmt} {f : Addr} {fd : FuncData} {N ps : List Str} {k : Nat} {sp : Sp} (F : Fun K x qual st f fd) (S : FnScope N ps (defScope st)) (len : ∀ vs H Q E, sp vs H Q E → vs.length = ps.length)
    (hbody : ∀ (cdv : Value) (A : Around) (outer : List Env) (s : Shared) (H : Hp) (vs : List V) (Q : VK) (E : XK), Room k (A.deeper (envOfC qual (defScope st) s.heap.objs.size f cdv)) → sp vs H Q E →
      ∃ t, PSs (cxOf CX0 P w K mg base N qual (defScope st) f cdv A outer s H E).nox (defBody st) t ∧ t { nx := fun _ H' => Q .non H', rt := Q } (start N vs) H) : FnOk P w K mg base CX0 (k + 1) f fd ps sp := by
  obtain ⟨oc, od, kV, doc, pm, an, cdv, ct, osl, rfl, lk, hcd⟩ := F.ex
  refine fn_of lk hcd S len fun A outer s H vs Q E hr hsp => ?_
  obtain ⟨t, h, q⟩ := hbody cdv A outer s H vs Q E hr hsp
  exact ⟨t, h.nox, q⟩
theorem Fun.binds {x qual : Str} {st : Stmt} {f : Addr} {fd : FuncData} {ps : List Str} (F : Fun K x qual st f fd)
    (h : ∀ (kV doc pm : Value) (an : Option Addr) (cdv ct : Value) (us : List Value), us.length = ps.length → bindArgs (PySem.W.fnOf x qual (defArgs st) (defBody st) (defScope st) .none kV doc pm an cdv ct) ⟨us, []⟩ = pure (ps.zip us)) : Binds K fd ps [] := by
  obtain ⟨oc, od, kV, doc, pm, an, cdv, ct, osl, rfl, lk, hcd⟩ := F.ex
  exact .all (h kV doc pm an cdv ct)
theorem fun_mk {x qual : Str} {st : Stmt} {f : Addr} {oc : Value} {od an : Option Addr} {osl : Array (Option Value)} {kV doc pm cdv ct : Value} (l : K.lookup f = some ⟨oc, od, .func (PySem.W.fnOf x qual (defArgs st) (defBody st) (defScope st) .none kV doc pm an cdv ct), osl⟩)
    (c : PySem.W.codeIn K cdv qual = true) (k : PySem.W.keepIn K (.ref f) = true) : Fun K x qual st f (PySem.W.fnOf x qual (defArgs st) (defBody st) (defScope st) .none kV doc pm an cdv ct) := ⟨⟨oc, od, kV, doc, pm, an, cdv, ct, osl, rfl, l, c⟩, k⟩
end
theorem hu_of {A : Around} {k : Nat} (hr : Room k A) : A.units + 1 < cLine := Nat.lt_of_le_of_lt (Nat.add_le_add_left (by decide : 1 ≤ 64) _) hr.units
theorem small1000 {n : Nat} (h : n ≤ 1000) : n < sizeLine := Nat.lt_of_le_of_lt h (by decide)
section
variable {X : Cx}
theorem pv (i : Nat) {x : Str} {pos : PySem.Pos} (hN : X.N[i]? = some x := by rfl) (hv : Vis X.env.scope x := by first | exact Or.inl rfl | exact Or.inr (Or.inl rfl) | exact Or.inr (Or.inr rfl)) (hd : (x == ("__debug__" : Str)) = false := by decide)
    (hcd : (x == ("__classdict__" : Str)) = false := by decide) : PE X (.Name x pos) (tVar i) := pe_var hN hv hd hcd
end
theorem iteF {A B : Prop} (h : B) : if false = true then A else B := by
  rw [if_neg Bool.false_ne_true]
  exact h
theorem iteT {A B : Prop} (h : A) : if true = true then A else B := by
  rw [if_pos rfl]
  exact h
theorem ite2 {c A B : Prop} [Decidable c] (h1 : c → A) (h2 : ¬ c → B) : if c then A else B := by
  by_cases h : c
  · rw [if_pos h]
    exact h1 h
  · rw [if_neg h]
    exact h2 h
def Same (H H' : Hp) : Prop := ∀ b o, H b = some o → H' b = some o
theorem Same.refl (H : Hp) : Same H H := fun _ _ h => h
theorem Same.trans {H H1 H2 : Hp} (a : Same H H1) (b : Same H1 H2) : Same H H2 := fun c o h => b c o (a c o h)
theorem Same.free {H H' : Hp} (e : Same H H') {l : Addr} (h : H' l = Option.none) : H l = Option.none := by
  cases q : H l with
  | none => rfl
  | some o =>
    rw [e l o q] at h
    cases h
theorem Same.seq {K : PySem.W.Frag} {H H' : Hp} {a : Addr} {xs : List V} (e : Same H H') (h : SqL K H a xs) : SqL K H' a xs := by
  rcases h with (h | ⟨o, h⟩) | h
  · exact .inl (.inl (e _ _ h))
  · exact .inl (.inr ⟨o, e _ _ h⟩)
  · exact .inr h
end L2
set_option Elab.async false
set_option linter.all false
set_option maxRecDepth 100000
set_option maxHeartbeats 4000000
namespace L2
open PySem PySem.Spec PyProof.Rows
section
variable {X : Cx}
def CDivL (i j : Int) : Prop := 0 < j ∧ j.natAbs.log2 < 9000
theorem op_fdivL : OpR X (binaryOp .FloorDiv) (rI CDivL fun i j => .int (i / j)) := opI fun i j _ _ _ _ _ hc q => by
  have h1 : (0 : Int) < j := hc.1
  exact floordiv_int (by omega) (by rw [Int.fdiv_eq_ediv_of_nonneg i (by omega)]; exact q) (.inl (PyProof.noPylong_of_log2 hc.2))
theorem call_isinst {T : String} : CallR X (.builtin "isinstance") (fun xs H Q => ∃ x t b, xs = [x, .ty T] ∧ TyOf X.K H x t ∧ PySem.W.kitOne X.K t (.type T) = some b ∧ Q (.bl b) H) := by
  intro pins s σ H xs us Q I r h
  obtain ⟨x, t, b, rfl, ty, e, q⟩ := h
  obtain ⟨u, w', rfl, r1, r2⟩ := vals2 r
  cases (show w' = .type T from r2)
  exact isinst_ok I r1 ty e fun tk => ⟨.bl b, H, I.tok _, rfl, q⟩
end
end L2
set_option Elab.async false
set_option linter.all false
set_option maxRecDepth 100000
set_option maxHeartbeats 4000000
namespace L2
open PySem PySem.Spec PyProof.Rows
section
variable {X : Cx}
theorem clos_go (env : Env) : ∀ (names : List (Str × NameKind)) (acc : List (Str × Addr)), (∀ y ∈ names, y.2 = .free → ∃ c, env.cells.lookup y.1 = some c) → (∀ y c, acc.lookup y = some c → env.cells.lookup y = some c) →
    ∃ cl, (forIn names acc fun (x : Str × NameKind) (r : List (Str × Addr)) => if (x.2 == NameKind.free) = true then (do let c ← cellOf env x.1; pure (ForInStep.yield ((x.1, c) :: r))) else pure (ForInStep.yield r) : Sem _) = pure cl ∧
      (∀ y c, cl.lookup y = some c → env.cells.lookup y = some c) ∧ (∀ y, (y, NameKind.free) ∈ names → (cl.lookup y).isSome = true) ∧ (∀ y, (acc.lookup y).isSome = true → (cl.lookup y).isSome = true)
  | [], acc, _, h => ⟨acc, by simp, h, fun y z => absurd z (by simp), fun _ z => z⟩
  | (n, k) :: r, acc, hf, h => by
    by_cases hk : k = .free
    · subst hk
      obtain ⟨c, hc⟩ := hf (n, .free) List.mem_cons_self rfl
      obtain ⟨cl, e, h1, h2, h3⟩ := clos_go env r ((n, c) :: acc) (fun y hy => hf y (List.mem_cons_of_mem _ hy)) (fun y d hd => by
        rw [List.lookup_cons] at hd
        cases z : y == n with
        | true =>
          rw [z] at hd
          have : y = n := by simpa using z
          subst this
          cases hd
          exact hc
        | false => rw [z] at hd; exact h y d hd)
      have hin : ∀ y, (((n, c) :: acc).lookup y).isSome = true ∨ True := fun _ => .inr trivial
      refine ⟨cl, ?_, h1, fun y hy => ?_, fun y hy => h3 y ?_⟩
      · rw [List.forIn_cons]
        have e0 : cellOf env n = pure c := by unfold cellOf; rw [hc]
        simp only [beq_self_eq_true, if_true, e0, pure_bind]
        exact e
      · rcases List.mem_cons.mp hy with z | z
        · cases z
          exact h3 _ (by rw [List.lookup_cons]; simp)
        · exact h2 y z
      · rw [List.lookup_cons]
        cases y == n with
        | true => rfl
        | false => exact hy
    · obtain ⟨cl, e, h1, h2, h3⟩ := clos_go env r acc (fun y hy => hf y (List.mem_cons_of_mem _ hy)) h
      refine ⟨cl, ?_, h1, fun y hy => ?_, h3⟩
      · rw [List.forIn_cons]
        have hb : (k == NameKind.free) = false := by simpa using hk
        simp only [hb, Bool.false_eq_true, if_false, pure_bind]
        exact e
      · rcases List.mem_cons.mp hy with z | z
        · cases z; exact absurd rfl hk
        · exact h2 y z
theorem clos_ok {scope : Scope} {env : Env} (hf : ∀ y ∈ scope.names, y.2 = .free → ∃ c, env.cells.lookup y.1 = some c) : ∃ cl, closureFor scope env = pure cl ∧ (∀ y c, cl.lookup y = some c → env.cells.lookup y = some c) ∧ (∀ y, (y, NameKind.free) ∈ scope.names → (cl.lookup y).isSome = true) := by
  obtain ⟨cl, e, h1, h2, _⟩ := clos_go env scope.names [] hf (fun y c h => by cases h)
  refine ⟨cl, ?_, h1, h2⟩
  unfold closureFor
  simp only [bind_pure]
  exact e
end
end L2
namespace L2
open PySem PySem.Spec PyProof.Rows
section
variable {X : Cx}
def tYes : TT := fun _ H Q => Q true H
def PIf (X : Cx) (ifs : List Expr) (t : TT) : Prop :=
  ∀ (pins : List (Addr × Obj)) (s : Shared) (σ : St) (H : Hp) (Q : Bool → Hp → Prop), Inv X pins σ H s → t σ H Q →
    wpAny (model X.prog X.w) X.A (forIn ifs true fun c r => if r = true then do let ok ← isTrue c X.env (eval c X.env); pure (ForInStep.yield ok) else pure (ForInStep.yield r)) (TP X pins σ Q) X.xe s
theorem pif_nil : PIf X [] tYes := fun pins s σ H Q I h => wpAny_tests_nil ⟨H, I, h⟩
theorem relabel_kind {names : List (Str × NameKind)} {env : Env} {x : Str} {k : NameKind} (hc : ∀ y ∈ names, y.2 ≠ .cell) (h : (names.map fun (n, k) => if (k == NameKind.free && env.scope.kind == .function && env.kindOf n == some .cell) then (n, NameKind.cell) else (n, k)).lookup x = some k) :
    (k = .cell ∨ k = .free) → names.lookup x = some .free ∧ (k = .cell → env.kindOf x = some .cell) := by
  induction names with
  | nil => cases h
  | cons p r ih =>
    obtain ⟨n, k0⟩ := p
    intro hk
    have h : List.lookup x ((if (k0 == NameKind.free && env.scope.kind == .function && env.kindOf n == some .cell) = true then (n, NameKind.cell) else (n, k0)) :: _) = some k := h
    by_cases c : (k0 == NameKind.free && env.scope.kind == .function && env.kindOf n == some .cell) = true
    · rw [if_pos c] at h
      rw [List.lookup_cons] at h ⊢
      cases z : x == n with
      | true =>
        have e : x = n := by simpa using z
        subst e
        simp only [Bool.and_eq_true, beq_iff_eq] at c
        exact ⟨by rw [c.1.1], fun _ => c.2⟩
      | false => rw [z] at h; exact ih (fun y hy => hc y (List.mem_cons_of_mem _ hy)) h hk
    · rw [if_neg c] at h
      rw [List.lookup_cons] at h ⊢
      cases z : x == n with
      | true =>
        rw [z] at h
        have e : k0 = k := Option.some.inj h
        subst e
        rcases hk with rfl | rfl
        · exact absurd rfl (hc (n, .cell) List.mem_cons_self)
        · exact ⟨rfl, fun z => by cases z⟩
      | false => rw [z] at h; exact ih (fun y hy => hc y (List.mem_cons_of_mem _ hy)) h hk
end
end L2
set_option Elab.async false
set_option linter.all false
set_option maxRecDepth 100000
set_option maxHeartbeats 4000000
namespace L2
open PySem PySem.Spec PyProof.Rows
section
variable {X : Cx}
theorem relabel_local {names : List (Str × NameKind)} {env : Env} {x : Str} (h : (names.map fun (n, k) => if (k == NameKind.free && env.scope.kind == .function && env.kindOf n == some .cell) then (n, NameKind.cell) else (n, k)).lookup x = some .local) :
    names.lookup x = some .local := by
  induction names with
  | nil => cases h
  | cons p r ih =>
    obtain ⟨n, k0⟩ := p
    have h : List.lookup x ((if (k0 == NameKind.free && env.scope.kind == .function && env.kindOf n == some .cell) = true then (n, NameKind.cell) else (n, k0)) :: _) = some .local := h
    by_cases c : (k0 == NameKind.free && env.scope.kind == .function && env.kindOf n == some .cell) = true
    · rw [if_pos c] at h
      rw [List.lookup_cons] at h ⊢
      cases z : x == n with
      | true => rw [z] at h; cases h
      | false => rw [z] at h; exact ih h
    · rw [if_neg c] at h
      rw [List.lookup_cons] at h ⊢
      cases z : x == n with
      | true => rw [z] at h; exact h
      | false => rw [z] at h; exact ih h
end
end L2
set_option Elab.async false
set_option linter.all false
set_option maxRecDepth 100000
set_option maxHeartbeats 4000000
namespace L2
open PySem PySem.Spec PyProof.Rows
inductive DI (K : PySem.W.Frag) (H : Hp) : V → PyData → Prop where
  | non : DI K H .non .none
  | bl (b : Bool) : DI K H (.bl b) (.bool b)
  | int (i : Int) : DI K H (.int i) (.int i)
  | str (x : Str) : DI K H (.str x) (.str x)
  | tup {a : Addr} {xs : List V} {ds : List PyData} : SqT K H a xs → xs.length = ds.length → (∀ (i : Nat) (x : V) (d : PyData), xs[i]? = some x → ds[i]? = some d → DI K H x d) → DI K H (.ref a) (.tuple ds)
  | lst {a : Addr} {xs : List V} {ds : List PyData} : SqL K H a xs → xs.length = ds.length → (∀ (i : Nat) (x : V) (d : PyData), xs[i]? = some x → ds[i]? = some d → DI K H x d) → DI K H (.ref a) (.list ds)
section
variable {X : Cx} {pins : List (Addr × Obj)} {σ : St} {H : Hp} {s : Shared}
theorem readsAll_of : ∀ {us : List Value} {ds : List PyData} {xs : List V}, Vals xs us → xs.length = ds.length → (∀ (i : Nat) (x : V) (d : PyData) (u : Value), xs[i]? = some x → ds[i]? = some d → RelV x u → ∃ as, Reads s.heap u d as) → ∃ as, ReadsAll s.heap us ds as
  | _, ds, _, .nil, hl, _ => by
    cases ds with
    | nil => exact ⟨_, .nil⟩
    | cons d r => cases hl
  | _, ds, _, .cons (a := x) r t, hl, h => by
    cases ds with
    | nil => cases hl
    | cons d rest =>
      obtain ⟨as, ra⟩ := h 0 x d _ rfl rfl r
      obtain ⟨bs, rb⟩ := readsAll_of t (by simpa using hl) (fun i y e u h1 h2 h3 => h (i + 1) y e u (by simpa using h1) (by simpa using h2) h3)
      exact ⟨_, .cons ra rb⟩
theorem DI.reads (I : Inv X pins σ H s) {x : V} {d : PyData} (h : DI X.K H x d) : ∀ {u : Value}, RelV x u → ∃ as, Reads s.heap u d as := by
  induction h with
  | non => intro u r; cases r; exact ⟨_, .none⟩
  | bl b => intro u r; cases r; exact ⟨_, .bool b⟩
  | int i => intro u r; obtain ⟨t, rfl⟩ := r; exact ⟨_, .int i t⟩
  | str x => intro u r; obtain ⟨t, rfl⟩ := r; exact ⟨_, .str x t⟩
  | tup hq hl _ ih =>
    intro u r
    cases r
    obtain ⟨its, rv, ⟨o, e, c, n, hd⟩, _⟩ := I.tuple hq
    obtain ⟨as, ra⟩ := readsAll_of (s := s) rv hl (fun i y d u h1 h2 h3 => ih i y d h1 h2 h3)
    exact ⟨_, .tuple e c hd (by simpa using ra)⟩
  | lst hq hl _ ih =>
    intro u r
    cases r
    obtain ⟨its, rv, pl, _⟩ := I.list hq
    obtain ⟨o, e, c, n, hd⟩ := pl.isList
    obtain ⟨as, ra⟩ := readsAll_of (s := s) rv hl (fun i y d u h1 h2 h3 => ih i y d h1 h2 h3)
    exact ⟨_, .list e c hd (by simpa using ra)⟩
def rEqD (K : PySem.W.Frag) (g : Bool → Bool) : R2 := fun x y H Q => ∃ dx dy, DI K H x dx ∧ DI K H y dy ∧ dx.canLay0 = true ∧ dy.canLay0 = true ∧ dx.depth ≤ 60 ∧ Q (.bl (g (PyData.eqv dx dy))) H
theorem op_eqD {k : Nat} (hr : Room k X.A) : OpR X (compareOp .Eq) (rEqD X.K fun b => b) := by
  intro pins s σ H x y v u Q I rx ry h
  obtain ⟨dx, dy, hx, hy, cx, cy, hd, q⟩ := h
  obtain ⟨as, ra⟩ := hx.reads I rx
  obtain ⟨bs, rb⟩ := hy.reads I ry
  have hu := hr.units
  exact SeqAt.compareEq_reads ra rb cx cy (by omega) ⟨.bl _, H, I, rfl, q⟩
theorem op_neD {k : Nat} (hr : Room k X.A) : OpR X (compareOp .NotEq) (rEqD X.K fun b => !b) := by
  intro pins s σ H x y v u Q I rx ry h
  obtain ⟨dx, dy, hx, hy, cx, cy, hd, q⟩ := h
  obtain ⟨as, ra⟩ := hx.reads I rx
  obtain ⟨bs, rb⟩ := hy.reads I ry
  have hu := hr.units
  exact SeqAt.compareNe_reads ra rb cx cy (by omega) ⟨.bl _, H, I, rfl, q⟩
end
end L2
set_option Elab.async false
set_option linter.all false
set_option maxRecDepth 100000
set_option maxHeartbeats 4000000
namespace L2
open PySem PySem.Spec PyProof.Rows
section
variable {X : Cx}
theorem range_all_get (bs : List Bool) : (List.range bs.length).all (fun i => bs.getD i true) = bs.all id := by
  induction bs with
  | nil => rfl
  | cons b r ih =>
    rw [List.length_cons, List.range_succ_eq_map, List.all_cons, List.all_map, List.all_cons]
    have : (List.range r.length).all ((fun i => (b :: r).getD i true) ∘ Nat.succ) = (List.range r.length).all (fun i => r.getD i true) := by
      congr 1
    rw [this, ih]
    rfl
theorem call_all (hc : X.calm = true) : CallR X (.builtin "all") (fun xs H Q => ∃ (p : Addr) (bs : List Bool), xs = [.ref p] ∧ SqL X.K H p (bs.map V.bl) ∧ Q (.bl (bs.all id)) H) := by
  intro pins s σ H xs us Q I r h
  obtain ⟨p, bs, rfl, hq, q⟩ := h
  obtain ⟨u, rfl, rx⟩ := vals1 r
  cases rx
  obtain ⟨its, rv, pl, hz⟩ := I.list hq
  have hlt : p < s.heap.objs.size := by
    obtain ⟨o, e, _⟩ := pl.isList
    exact Heap.lt_size e
  have hlen : its.length = bs.length := by have := rv.length; rw [List.length_map] at this; exact this.symm
  refine call_all_walk (wpAny_pyIter_list pl.isList ?_)
  refine ⟨_, _, _, _, _, _, fun i => bs.getD i true, rfl, Walks.list (A := X.A.in1) (I.ok.hd hc) s.heap.objs.size p (Nat.ne_of_lt hlt) its.toArray, ?_, ?_, fun h' tk hk => ?_⟩
  · exact ⟨⟨_, Heap.get?_push_size _ rfl, rfl, rfl⟩, (let ⟨o, e, c⟩ := pl.isList; ⟨o, Heap.get?_push_of_some _ e, c⟩)⟩
  · intro i v s' Q' E' hP hQ
    have hv : its[i]? = some v := by simpa using hP
    have hil : i < bs.length := by rw [← hlen]; exact (List.getElem?_eq_some_iff.mp hv).1
    obtain ⟨u, e, ru⟩ := rv.get (x := V.bl (bs.getD i true)) (i := i) (by rw [List.getElem?_map, List.getElem?_eq_getElem hil, List.getD_eq_getElem?_getD, List.getElem?_eq_getElem hil]; rfl)
    rw [hv] at e
    cases e
    cases ru
    exact wpAny_truthy_bool hQ
  · have e : (List.range its.toArray.size).all (fun i => bs.getD i true) = bs.all id := by
      rw [List.size_toArray, hlen]; exact range_all_get bs
    rw [e]
    refine ⟨.bl _, H, ?_, rfl, q⟩
    exact I.kept fun b o eb => hk b o (by simp; exact Nat.ne_of_lt (Heap.lt_size eb)) (Heap.get?_push_of_some _ eb)
theorem call_isinstK {K : PySem.W.Frag} {T : String} (hK : X.K = K := by rfl) : CallR X (.builtin "isinstance") (fun xs H Q => ∃ x t b, xs = [x, .ty T] ∧ TyOf K H x t ∧ PySem.W.kitOne K t (.type T) = some b ∧ Q (.bl b) H) := by
  subst hK; exact call_isinst
theorem ix_listK {K : PySem.W.Frag} (hK : X.K = K := by rfl) : IxR X (rIxL K) := by subst hK; exact ix_list
theorem ix_tupK {K : PySem.W.Frag} (hK : X.K = K := by rfl) : IxR X (rIxT K) := by subst hK; exact ix_tup
theorem call_lenK {K : PySem.W.Frag} (hK : X.K = K := by rfl) : CallR X (.builtin "len") (fun xs H Q => ∃ p ys, xs = [.ref p] ∧ (SqL K H p ys ∨ SqT K H p ys) ∧ Q (.int ys.length) H) := by subst hK; exact call_len_seq
end
end L2
set_option Elab.async false
set_option linter.all false
set_option maxRecDepth 100000
set_option maxHeartbeats 1000000
namespace L2
open PySem PySem.Spec PyProof.Rows
structure XCls (K : PySem.W.Frag) (C : Addr) : Prop where
  ga : PySem.W.findIn K (.ref C) "__getattribute__" = some (some (.builtin "BaseException.__getattribute__"))
  na : PySem.W.findIn K (.ref C) "__getattr__" = some none
  cl : PySem.W.findIn K (.ref C) "__class__" = some (some (.builtin "object.__class__"))
  be : PySem.W.subIn K (.ref C) (.type "BaseException") = some true
  ob : PySem.W.subIn K (.ref C) (.type "object") = some true
  ty : PySem.W.typeIn K (.ref C) = some (.type "type")
  co : (PySem.W.clsIn K C).isSome = true
  rf : PySem.W.subIn K (.ref C) (.ref C) = some true
section
variable {prog : Program} {w : World} {A : Around} {E : Value → Shared → Prop} {h : Heap} {g : Array GenState} {d : Drawn} {t : Nat} {os : OsState} {a C : Addr} {o : Obj} {K : PySem.W.Frag}
theorem xc_get {R : Result → Shared → Prop} (X : K.In h) (c : XCls K C) (hx : h.get? a = some o) (hc : o.cls = .ref C) (hq : R (.ok (.ret (.ref C))) ⟨h, g, d, t, os⟩) :
    codeAny (model prog w) A (.call (.builtin "getset_descriptor.__get__") ⟨[.builtin "object.__class__", .ref a, .ref C], []⟩) R ⟨h, g, d, t, os⟩ := by
  have hT5 : (⟨h, g, d, t, os⟩ : Shared).TypeIs (.builtin "object.__class__") "getset_descriptor" := F.typeOf_object_class
  have hs : PySem.W.Looks (model prog w) h (isSubtype (.ref C) (.type (".".intercalate ("object.__class__".cutAt '.').dropLast))) true := by
    rw [F.owner_object_class]
    exact PySem.W.looks_subIn X c.ob
  refine codeAny_call_builtin F.slot_gs_get.plain F.entry_gs_get (F.slot_gs_get.check _ _ _ _ _ _ _ _ hT5 (F.args_gs_get _ _ _) ?_)
  repeat (any_goals (first | assumption | (with_reducible refine wpAny_loadPart_at hx ?_; rw [hc]) | with_reducible refine hs.at ?_ | wp_step))
  refine ⟨Code.quiet_builtin _ (by decide +kernel), codeAny_builtin F.entry_object_class ?_⟩
  repeat (any_goals (first | assumption | (with_reducible refine wpAny_loadPart_at hx ?_; rw [hc]) | wp_step))
theorem xc_entry {tk : Tok} {Q : Fin → Shared → Prop} (X : K.In h) (c : XCls K C) (hx : h.get? a = some o) (hc : o.cls = .ref C) (hq : Q (.done (.ret (.ref C))) ⟨h, g, d, t, os⟩) :
    wpAny (model prog w) A (Builtin.«object.__getattribute__» ⟨[.ref a, .str "__class__" tk], []⟩) Q E ⟨h, g, d, t, os⟩ := by
  have hT5 : (⟨h, g, d, t, os⟩ : Shared).TypeIs (.builtin "object.__class__") "getset_descriptor" := F.typeOf_object_class
  have f4 : PySem.W.Looks (model prog w) h (typeLookup (.ref C) "__class__") _ := PySem.W.looks_findIn X c.cl
  have f5 := F.typeOf_object_class
  have f6 := F.slot_gs_get.lookup
  have f7 := F.slot_gs_set.lookup
  repeat (any_goals (first | assumption | (with_reducible refine wpAny_loadPart_at hx ?_; rw [hc]) | with_reducible refine f4.at ?_ | wp_step))
  refine xc_get X c hx hc ?_
  repeat (any_goals (first | assumption | wp_step))
theorem xc_check {M : Model} {nameV : Value} {Q : Unit → Shared → Prop} (X : K.In h) (c : XCls K C) (hx : h.get? a = some o) (hc : o.cls = .ref C) (hq : Q () ⟨h, g, d, t, os⟩) : wpAny M A (checkBuiltinCall "BaseException.__getattribute__" ⟨[.ref a, nameV], []⟩) Q E ⟨h, g, d, t, os⟩ := by
  have hk : builtinKind "BaseException.__getattribute__" = some .slot := by decide +kernel
  have hsplit : splitId "BaseException.__getattribute__" = some ("BaseException", "__getattribute__") := by decide +kernel
  have hs : PySem.W.Looks M h (isSubtype (.ref C) (.type "BaseException")) true := PySem.W.looks_subIn X c.be
  have ha := F.args_bexc_ga (.ref a) nameV
  simp only [checkBuiltinCall, hk, hsplit]
  refine wpAny_bind ?_
  · unfold isInstance
    repeat (first | (with_reducible refine wpAny_loadPart_at hx ?_; rw [hc]) | with_reducible refine hs.at ?_ | wp_step)
    exact hq
theorem xc_call {tk : Tok} {R : Result → Shared → Prop} (X : K.In h) (c : XCls K C) (hx : h.get? a = some o) (hc : o.cls = .ref C) (hq : R (.ok (.ret (.ref C))) ⟨h, g, d, t, os⟩) :
    codeAny (model prog w) A (.call (.builtin "BaseException.__getattribute__") ⟨[.ref a, .str "__class__" tk], []⟩) R ⟨h, g, d, t, os⟩ :=
  codeAny_call_builtin (PySem.F.attr_ValueError).ga.plain F.entry_bexc_ga (xc_check X c hx hc (xc_entry X c hx hc hq))
theorem xc_by {tk : Tok} {Q : Value → Shared → Prop} (X : K.In h) (c : XCls K C) (hx : h.get? a = some o) (hc : o.cls = .ref C) (hq : Q (.ref C) ⟨h, g, d, t, os⟩) :
    wpAny (model prog w) A (getAttrBy (.ref a) (.str "__class__" tk) false) Q E ⟨h, g, d, t, os⟩ := by
  have f3 := (PySem.F.attr_ValueError).ga.bind (.ref a)
  have hx2 : (Value.builtin "BaseException.__getattribute__" == Value.builtin "object.__getattribute__") = false := by decide +kernel
  have hx1 : (onTheHeap (Value.ref C) && Value.builtin "BaseException.__getattribute__" == Value.builtin "object.__getattribute__") = false := by rw [hx2]; rfl
  have f1 : PySem.W.Looks (model prog w) h (typeLookup (.ref C) "__getattribute__") _ := PySem.W.looks_findIn X c.ga
  have f2 : PySem.W.Looks (model prog w) h (typeLookup (.ref C) "__getattr__") _ := PySem.W.looks_findIn X c.na
  repeat (any_goals (first | assumption | (with_reducible refine wpAny_loadPart_at hx ?_; rw [hc]) | with_reducible refine f1.at ?_ | with_reducible refine f2.at ?_ | wp_step))
  refine xc_call X c hx hc ?_
  repeat (any_goals (first | assumption | wp_step))
theorem xc_attr {Q : Option Value → Shared → Prop} (X : K.In h) (c : XCls K C) (hx : h.get? a = some o) (hc : o.cls = .ref C) (hq : Q (some (.ref C)) ⟨h, g, d, t + 1, os⟩) : wpAny (model prog w) A (getAttr? (.ref a) "__class__") Q E ⟨h, g, d, t, os⟩ := by
  unfold getAttr? getAttrBy?
  repeat (any_goals (first | assumption | with_reducible apply xc_by X c hx hc | wp_step))
end
theorem kitx_exc {K : PySem.W.Frag} {a C : Addr} (c : XCls K C) : PySem.W.KitX K (.ref a) (.ref C) (fun h => ∃ o, h.get? a = some o ∧ o.cls = .ref C) where
  ty := fun M h _ ⟨o, h1, h2⟩ => h2 ▸ (PySem.W.Looks.ld h1).andThen .now
  it := fun M h X _ => by
    have z := c.co
    unfold PySem.W.clsIn at z
    split at z
    · rename_i c' d' cd' sl' ho
      intro A' Q' E' s' k q
      unfold isType loadHead
      exact wpAny_bind (wpAny_loadPart (k _ _ (X _ _ ho)) (wpAny_pure q))
    · cases z
  ne := fun h tp dd its n sl X htp => by
    have z := c.co
    refine Bool.eq_false_iff.mpr fun q => ?_
    have e : C = tp := Value.ref.inj (beq_iff_eq.mp q)
    subst e
    unfold PySem.W.clsIn at z
    split at z
    · rename_i c' d' cd' sl' ho
      have z := (X _ _ ho).symm.trans htp
      cases z
    · cases z
  ca := fun {_ _ _ _ _ s} X ⟨o, h1, h2⟩ k => by
    obtain ⟨h, g, d, t, os⟩ := s
    exact xc_attr X c h1 h2 k
end L2
set_option Elab.async false
set_option linter.all false
set_option maxRecDepth 100000
set_option maxHeartbeats 1000000
namespace L2
open PySem PySem.Spec PyProof.Rows
def CXE (P : Program) (w : World) : CXT := fun outer H s E e s' => ∃ (a C : Addr) (a0 : Value) (B : Heap) (H' : Hp), e = .ref a ∧ s'.os = s.os ∧ AllBare s'.gens ∧ Un (frs outer) [] H H' s.heap s'.heap ∧ HOk P w H' s'.heap ∧
  Heap.FlyingW B outer a (.ref C) a0 s'.heap ∧ (∀ b o, s.heap.get? b = some o → b ∉ frs outer → ∃ o', B.get? b = some o') ∧ (∀ b o, H' b = some o → ∃ o', B.get? b = some o') ∧ E (.ref C) none H'
theorem ObjOk.there {P : Program} {w : World} {H : Hp} {h : Heap} {a : Addr} {o : HO} (x : ObjOk P w H h a o) : ∃ ob, h.get? a = some ob := by
  cases o with
  | lst xs => obtain ⟨_, _, _, _, e⟩ := x; exact ⟨_, e⟩
  | tup xs => obtain ⟨_, _, _, o, e, _⟩ := x; exact ⟨_, e⟩
  | dK kvs => obtain ⟨_, _, _, _, o, _, _, e, _⟩ := x; exact ⟨_, e⟩
  | dT kvs => obtain ⟨_, _, _, _, o, _, _, e, _⟩ := x; exact ⟨_, e⟩
  | set S n => obtain ⟨o, _, _, _, e, _⟩ := x; exact ⟨_, e⟩
  | ins C dx fs => obtain ⟨_, _, _, e, _⟩ := x; exact ⟨_, e⟩
  | own y => exact x
  | xd fs => obtain ⟨_, ⟨_, _, _, e, _⟩, _⟩ := x; exact ⟨_, e⟩
  | rng lo hi => obtain ⟨_, _, _, e⟩ := x; exact ⟨_, e⟩
  | frz ob u => exact ⟨_, x.1⟩
  | tbl ps => exact ⟨_, x⟩
  | met f y => exact ⟨_, x⟩
  | ext φ => exact x.2.1
section
variable {X : Cx} {pins : List (Addr × Obj)} {σ : St} {H1 H' : Hp} {s1 : Shared} {h1 h' B : Heap}
theorem leave_un (I : Inv X pins σ H1 s1) (hex : X.ex = []) (u : Un (frs X.stack) [] H1 H' s1.heap h1) (hok : HOk X.prog X.w H' h1) (b1 : B.StaysIn h1) (b2 : B.StaysIn h') (sm : h1.UpToSlots h')
    (c1 : ∀ b o, s1.heap.get? b = some o → b ∉ frs X.stack → ∃ o', B.get? b = some o') (c2 : ∀ b o, H' b = some o → ∃ o', B.get? b = some o') :
    Un X.fs [] X.H₀ H' X.s₀.heap h' ∧ HOk X.prog X.w H' h' ∧ ∀ b o, X.s₀.heap.get? b = some o → b ∉ X.fs → ∃ o', B.get? b = some o' := by
  have nex : ∀ b : Addr, b ∉ X.ex := fun b z => by rw [hex] at z; cases z
  have c0 : ∀ b o, X.s₀.heap.get? b = some o → b ∉ X.fs → ∃ o', B.get? b = some o' := fun b o e hb => by
    obtain ⟨o1, e1⟩ := I.base.there b o e (nex b)
    refine c1 b o1 e1 fun z => ?_
    rcases List.mem_cons.mp (I.stkSub b z) with q | q
    · exact absurd (Nat.lt_of_lt_of_le (Heap.lt_size e) I.ok.above) (by rw [q]; exact Nat.lt_irrefl _)
    · exact hb q
  have J := (I.call (g' := s1.gens) (t' := s1.toks) (d' := s1.drawn) (ch := []) u hok I.bare (fun b z => nomatch z)).base
  rw [hex] at J
  have same : ∀ b o, h1.get? b = some o → (∃ o', B.get? b = some o') → h'.get? b = some o := fun b o e ⟨o', q⟩ => by
    have := b1 b o' q
    rw [e] at this
    cases this
    exact b2 b _ q
  have frm : ∀ b ∈ X.fs, ∀ o, h1.get? b = some o → ∃ sl, h'.get? b = some { o with slots := sl } := fun b hb o e => by
    obtain ⟨_, o0, e0, hd⟩ := I.ok.funs.mem hb
    obtain ⟨sl, e1⟩ := J.slot b o0 e0 (I.ok.frf b hb) hb (by simp)
    have e1 : h1.get? b = some _ := e1
    rw [e] at e1
    cases e1
    exact sm b _ e hd
  refine ⟨⟨fun b o e n hb _ => ?_, fun b o e n hb _ => ?_, J.free, fun b o e _ => ?_, J.tups, J.frzs, J.tbls⟩, fun b u' e => ?_, c0⟩
  · exact same b o (J.keep b o e n hb (by simp)) (c0 b o e hb)
  · obtain ⟨sl, e1⟩ := J.slot b o e n hb (by simp)
    obtain ⟨sl', e2⟩ := frm b hb _ e1
    exact ⟨sl', e2⟩
  · obtain ⟨o1, e1⟩ := J.there b o e (by simp)
    by_cases hb : b ∈ X.fs
    · obtain ⟨sl, e2⟩ := frm b hb _ e1
      exact ⟨_, e2⟩
    · exact ⟨o1, same b o1 e1 (c0 b o e hb)⟩
  · refine (hok b u' e).stay (fun c v hc r => same c v r ?_) (fun _ q => q) fun _ _ q => q
    rcases hc with rfl | hc
    · exact c2 _ _ e
    · exact c2 _ _ hc
end
section
variable {P : Program} {w : World} {K : PySem.W.Frag} {mg : Str → Option Value} {base : Heap} {N : List Str} {qual : Str} {scope : Scope} {f : Addr} {cd : Value} {A : Around} {outer : List Env} {s : Shared} {H : Hp} {E : XK}
def PassesX (X : Cx) (Ex : Value → St → Hp → Prop) : Prop := ∀ (pins : List (Addr × Obj)) (σ : St) (H : Hp) (s : Shared) (e : Value) (s' : Shared), Inv X pins σ H s → CXE X.prog X.w X.stack H s (fun c _ H' => Ex c σ H') e s' → X.xe e s'
theorem passE : PassesX (cxOf (CXE P w) P w K mg base N qual scope f cd A outer s H E) (fun c _ H' => E c none H') := by
  rintro pins σ H1 s1 e s' I ⟨a, C, a0, B, H', rfl, ho, hb, un, hok, fl, c1, c2, q⟩
  refine wpAny_leaves_onW (I.ok.frames) rfl fl fun h' fl' sm => ?_
  obtain ⟨u2, hok2, c0⟩ := leave_un I rfl un hok fl.1 fl'.1 sm c1 c2
  exact ⟨a, C, a0, B, H', rfl, ho.trans I.os, hb, u2, hok2, fl', c0, c2, q⟩
def tRaise (E : XK) (C : Addr) : TS := fun _ _ H => E (.ref C) none H
theorem own_of {K : PySem.W.Frag} {h : Heap} {C : Addr} {bmB : List Value} {newId : String} (X : K.In h) (q : PySem.W.excIn K C bmB newId = true) :
    ∃ bm N nm q bs hdct sn sub ab col dd k0 k1 k2 k3 k5 mN, h.get? C = some (excClassObj nm q C N bs bm hdct sn sub ab col dd k0 k1 k2 k3 k5 newId) ∧ h.Ns N mN ∧ mN "__init__" = none ∧ OwnTail h bmB bm := by
  unfold PySem.W.excIn at q
  split at q
  · rename_i dd cd sl ho
    split at q
    · rename_i C' bm k0 k1 k2 k3 n k5 hm hs
      simp only [Bool.and_eq_true, beq_iff_eq, Bool.not_eq_true'] at q
      obtain ⟨⟨⟨⟨⟨rfl, rfl⟩, hdel⟩, ht⟩, hok⟩, hni⟩ := q
      obtain ⟨nm, bs, mro, ns, qn, hd, sn, sub, ab, col, del⟩ := cd
      dsimp only at hm hdel hok hni
      subst hm hdel
      have hsl : sl = #[k0, k1, k2, k3, some (.builtin n), k5] := by
        obtain ⟨l⟩ := sl
        simp only at hs
        rw [hs]
      subst hsl
      exact ⟨bm, ns, nm, qn, bs, hd, sn, sub, ab, col, dd, k0, k1, k2, k3, k5, _, X _ _ ho, .of_isNs (PySem.W.isNs_of_in X hok), PySem.W.nsMap_none_of_in X hok hni, PySem.W.tail_of_in X ht⟩
    · cases q
  · cases q
abbrev bmV : List Value := [.type "ValueError", .type "Exception", .type "BaseException", .type "object"]
theorem funs_hide {base h : Heap} {as : List Addr} {l : List Env} (hl : h.FunFrames base l) (hin : ∀ b ∈ frs l, b ∈ as) : h.FunFrames (PySem.W.hideAll h as) l := by
  refine PySem.W.funFrames_hide hl fun env he a hf => hin a ?_
  exact List.mem_filterMap.mpr ⟨env, he, hf⟩
theorem ps_raise {C : Addr} {x : Str} {np cpos pos : PySem.Pos} {e₀ : Expr} {v : V} (hc : PySem.W.excIn K C bmV "ValueError.__new__" = true) (hd : A.handled = none) (hm : mg x = some (.ref C)) (he₀ : PE (cxOf (CXE P w) P w K mg base N qual scope f cd A outer s H E) e₀ (tC v))
    (hg : Gl (cxOf (CXE P w) P w K mg base N qual scope f cd A outer s H E) x)
    (he : starEach [e₀] (cxOf (CXE P w) P w K mg base N qual scope f cd A outer s H E).env = (false, eval e₀ (cxOf (CXE P w) P w K mg base N qual scope f cd A outer s H E).env) :: starEach [] (cxOf (CXE P w) P w K mg base N qual scope f cd A outer s H E).env := by rfl) (hdb : (x == ("__debug__" : Str)) = false := by decide) :
    PS (cxOf (CXE P w) P w K mg base N qual scope f cd A outer s H E) (.Raise (some (.Call (.Name x np) [e₀] [] cpos)) none pos) (tRaise E C) := by
  intro pins s1 σ H1 D I h
  obtain ⟨tl, NN, nm, q, bs, hdct, sn, sub, ab, col, dd, k0, k1, k2, k3, k5, mN, hC, hN, hni, T⟩ := own_of I.ok.mod.kin hc
  refine wpAny_Raise_call_subU (C := C) (nm := nm) (q := q) (N := NN) (bs := bs) (bm := tl) (hdct := hdct) (sn := sn) (sub := sub) (ab := ab) (col := col) (dd := dd) (k0 := k0) (k1 := k1) (k2 := k2) (k3 := k3) (k5 := k5)
    PySem.F.excBase_ValueError (by decide) PySem.F.excBase_ValueError (mN := mN) (T.hasType PySem.F.excBase_ValueError.hasBase) hd (by rw [he]; rfl) hni (ld_glob I hg hm ⟨rfl, ?_⟩ hdb)
  have hp : PA (cxOf (CXE P w) P w K mg base N qual scope f cd A outer s H E) [e₀] (tCons (tC v) tNil) := pa_cons he₀ pa_nil he
  have hs := hp cpos pins s1 σ H1 (fun vs H' => vs.length = 1 ∧ E (.ref C) none H') I ⟨rfl, h⟩
  rw [he] at hs ⊢
  refine Calls.evalArgs_plain (wpAny_mono hs (fun us s2 h2 => ?_) fun _ _ y => y)
  obtain ⟨vs, H2, I2, rv, l1, q2⟩ := h2
  have lu : us.length = 1 := by rw [← rv.length]; exact l1
  refine ⟨rfl, by rw [lu]; decide, I2.bk _ _ hC, hN.keeps I2.bk, T.keeps I2.bk, fun h3 e mk => ?_⟩
  have hin : ∀ b ∈ frs (cxOf (CXE P w) P w K mg base N qual scope f cd A outer s H E).stack, b ∈ frs (cxOf (CXE P w) P w K mg base N qual scope f cd A outer s H E).stack := fun b z => z
  refine wpAny_leaves_madeW (h := s2.heap) (base := PySem.W.hideAll s2.heap (frs (cxOf (CXE P w) P w K mg base N qual scope f cd A outer s H E).stack)) I2.ok.frames rfl (fun b o z => PySem.W.of_hideAll _ z) (funs_hide I2.stack hin) mk fun h' t fl _ _ sm => ?_
  have c1 : ∀ b o, s2.heap.get? b = some o → b ∉ frs (cxOf (CXE P w) P w K mg base N qual scope f cd A outer s H E).stack → ∃ o', (PySem.W.hideAll s2.heap (frs (cxOf (CXE P w) P w K mg base N qual scope f cd A outer s H E).stack)).get? b = some o' := fun b o z n => ⟨o, PySem.W.hideAll_get _ z n⟩
  have c2 : ∀ b o, H2 b = some o → ∃ o', (PySem.W.hideAll s2.heap (frs (cxOf (CXE P w) P w K mg base N qual scope f cd A outer s H E).stack)).get? b = some o' := fun b o z => by
    obtain ⟨o', e'⟩ := ObjOk.there (I2.hok b o z)
    exact c1 b o' e' fun n => by rw [I2.stkFree b n] at z; cases z
  obtain ⟨u2, hok2, c0⟩ := leave_un I2 rfl (Un.kept mk.keeps) (I2.hok.kept mk.keeps) (fun b o z => mk.keeps b o (PySem.W.of_hideAll _ z)) fl.1 sm c1 c2
  exact ⟨e, C, _, _, H2, rfl, I2.os, I2.bare, u2, hok2, fl, c0, c2, q2⟩
end
end L2
set_option Elab.async false
set_option linter.all false
set_option maxRecDepth 100000
set_option maxHeartbeats 1000000
namespace L2
open PySem PySem.Spec PyProof.Rows
structure KnX (P : Program) (w : World) (K : PySem.W.Frag) (mg : Str → Option Value) (base : Heap) (x : Str) (k : Nat) (ps : List Str) (sp : Sp) : Prop where
  ex : ∃ (f : Addr) (fd : FuncData), FnOk P w K mg base (CXE P w) k f fd ps sp ∧ mg x = some (.ref f) ∧ PySem.W.keepIn K (.ref f) = true ∧ Binds K fd ps []
def tCallX (sp : Sp) (Ex : Value → St → Hp → Prop) (t : TA) : TE := fun σ H Q => t σ H fun vs H1 => sp vs H1 Q (fun c _ H' => Ex c σ H')
theorem pe_callX {X : Cx} {x : Str} {k j : Nat} {ps : List Str} {sp : Sp} {e : Expr} {es : List Expr} {t : TA} {p pos : PySem.Pos} {Ex : Value → St → Hp → Prop} (G : KnX X.prog X.w X.K X.mg X.base x k ps sp) (px : PassesX X Ex) (hr : Room j X.A) (hg : Gl X x) (ha : PA X (e :: es) t) (hle : k ≤ j := by decide)
    (hdb : (x == ("__debug__" : Str)) = false := by decide)
    (he : starEach (e :: es) X.env = (false, eval e X.env) :: starEach es X.env := by rfl) (hpl : (backTo pos (starEach es X.env)).any (·.1) = false := by rfl) : PE X (.Call (.Name x p) (e :: es) [] pos) (tCallX sp Ex t) := by
  obtain ⟨f, fd, F, hm, hk, hb⟩ := G.ex
  intro pins s σ H Q I h
  refine wpAny_Call_Name_kw (ld_glob I hg hm ?_ hdb)
  refine PySem.W.callWith_K (h₀ := X.base) I.ok.mod.kin hk (thn (ha pos pins s σ H _ I h) fun us s1 ⟨vs, H1, I1, r, q⟩ => ⟨I1.kIn, ?_⟩) he hpl
  have hl : us.length = ps.length := by rw [← r.length]; exact F.len _ _ _ _ q
  have hb1 := hb s1 us I1.kIn (by rw [List.append_nil]; exact hl)
  rw [List.append_nil] at hb1
  refine wpAny_call (codeAny_mono (F.run X.A X.stack s1 H1 ⟨us, []⟩ us vs Q (fun c _ H' => Ex c σ H') (hr.mono hle) I1.env0 hb1 r q) fun r s' hq => ?_)
  cases r with
  | error e => exact px pins σ H1 s1 e s' I1 hq
  | ok fl =>
    cases fl with
    | ret u => exact I1.after hq
    | next => exact False.elim hq
    | brk => exact False.elim hq
    | cont => exact False.elim hq
theorem Fun.okX {P : Program} {w : World} {K : PySem.W.Frag} {mg : Str → Option Value} {base : Heap} {x qual : Str} {st : Stmt} {f : Addr} {fd : FuncData} {N ps : List Str} {k : Nat} {sp : Sp} (F : Fun K x qual st f fd) (S : FnScope N ps (defScope st)) (len : ∀ vs H Q E, sp vs H Q E → vs.length = ps.length)
    (hbody : ∀ (cdv : Value) (A : Around) (outer : List Env) (s : Shared) (H : Hp) (vs : List V) (Q : VK) (E : XK), A.handled = none → Room k (A.deeper (envOfC qual (defScope st) s.heap.objs.size f cdv)) → sp vs H Q E →
      ∃ t, PSs (cxOf (CXE P w) P w K mg base N qual (defScope st) f cdv A outer s H E) (defBody st) t ∧ t { nx := fun _ H' => Q .non H', rt := Q } (start N vs) H) : FnOk P w K mg base (CXE P w) (k + 1) f fd ps sp := by
  obtain ⟨oc, od, kV, doc, pm, an, cdv, ct, osl, rfl, lk, hcd⟩ := F.ex
  exact fn_of lk hcd S len fun A outer s H vs Q E hr hsp => hbody cdv A outer s H vs Q E hr.hd hr hsp
theorem PS.nox {X : Cx} {st : Stmt} {t : TS} (h : PS X.nox st t) : PS X st t := fun pins s σ H D I hw =>
  wpAny_mono (h pins s σ H D (I.wish _) hw) (fun _ _ q => q.unwish) fun _ _ z => False.elim z
theorem flown {P : Program} {w : World} {fs : List Addr} {H1 H' : Hp} {h1 hs h' B : Heap} (un : Un fs [] H1 H' h1 hs) (hok : HOk P w H' hs) (b1 : B.StaysIn hs) (b2 : B.StaysIn h') (sm : hs.UpToSlots h')
    (c1 : ∀ b o, h1.get? b = some o → b ∉ fs → ∃ o', B.get? b = some o') (c2 : ∀ b o, H' b = some o → ∃ o', B.get? b = some o') (ff : ∀ b ∈ fs, H1 b = none ∧ ∃ o, h1.get? b = some o ∧ ∀ vs, o.data ≠ .fields vs) : Un fs [] H1 H' h1 h' ∧ HOk P w H' h' := by
  have same : ∀ b o, hs.get? b = some o → (∃ o', B.get? b = some o') → h'.get? b = some o := fun b o e ⟨o', q⟩ => by
    have := b1 b o' q
    rw [e] at this
    cases this
    exact b2 b _ q
  have frm : ∀ b ∈ fs, ∀ o, hs.get? b = some o → ∃ sl, h'.get? b = some { o with slots := sl } := fun b hb o e => by
    obtain ⟨hn, o0, e0, hd⟩ := ff b hb
    obtain ⟨sl, e1⟩ := un.slot b o0 e0 hn hb (by simp)
    rw [e] at e1
    cases e1
    exact sm b _ e hd
  refine ⟨⟨fun b o e n hb _ => ?_, fun b o e n hb _ => ?_, un.free, fun b o e _ => ?_, un.tups, un.frzs, un.tbls⟩, fun b u' e => ?_⟩
  · exact same b o (un.keep b o e n hb (by simp)) (c1 b o e hb)
  · obtain ⟨sl, e1⟩ := un.slot b o e n hb (by simp)
    obtain ⟨sl', e2⟩ := frm b hb _ e1
    exact ⟨sl', e2⟩
  · obtain ⟨o1, e1⟩ := un.there b o e (by simp)
    by_cases hb : b ∈ fs
    · obtain ⟨sl, e2⟩ := frm b hb _ e1
      exact ⟨_, e2⟩
    · exact ⟨o1, same b o1 e1 (c1 b o e hb)⟩
  · refine (hok b u' e).stay (fun c v hc r => same c v r ?_) (fun _ q => q) fun _ _ q => q
    rcases hc with rfl | hc
    · exact c2 _ _ e
    · exact c2 _ _ hc
abbrev Cx.tried (X : Cx) (pins : List (Addr × Obj)) (xe : Value → Shared → Prop) : Cx := { X with pn := X.pn ++ pins, xe := xe }
abbrev Cx.suite (X : Cx) (a : Addr) (oe : Obj) : Cx := { X with A := X.A.mark (some (.ref a)), calm := false, pn := X.pn ++ [(a, oe)], xe := fun _ _ => False }
section
variable {X : Cx} {pins : List (Addr × Obj)} {σ : St} {H : Hp} {s : Shared} {xe : Value → Shared → Prop}
theorem Cx.Ok.tried (ok : X.Ok) : (X.tried pins xe).Ok := ⟨ok.mod, ok.kind, ok.glob, ok.blt, ok.above, ok.inj, ok.has, ok.cab, ok.hd, ok.frames, ok.stk, ok.exf, ok.bs, ok.bsz, ok.noex, ok.exfs, ok.funs, ok.frf⟩
theorem Cx.Ok.untried (ok : (X.tried pins xe).Ok) : X.Ok := ⟨ok.mod, ok.kind, ok.glob, ok.blt, ok.above, ok.inj, ok.has, ok.cab, ok.hd, ok.frames, ok.stk, ok.exf, ok.bs, ok.bsz, ok.noex, ok.exfs, ok.funs, ok.frf⟩
theorem Inv.tried (I : Inv X pins σ H s) : Inv (X.tried pins xe) [] σ H s := ⟨I.ok.tried, I.os, I.bare, I.base, I.loc, I.cell, I.free, I.freeC, fun p hp => I.pin p (by simpa using hp), I.hok, I.len⟩
theorem Inv.untried {pins' : List (Addr × Obj)} (I : Inv (X.tried pins xe) pins' σ H s) : Inv X pins σ H s := ⟨I.ok.untried, I.os, I.bare, I.base, I.loc, I.cell, I.free, I.freeC, fun p hp => I.pin p (List.mem_append_left _ hp), I.hok, I.len⟩
theorem SP.untried {D : Ends} {f : Flow} {s' : Shared} {pins' : List (Addr × Obj)} (h : SP (X.tried pins xe) pins' D f s') : SP X pins D f s' := by
  cases f with
  | next => obtain ⟨σ', H', I, q⟩ := h; exact ⟨σ', H', I.untried, q⟩
  | brk => obtain ⟨σ', H', I, q⟩ := h; exact ⟨σ', H', I.untried, q⟩
  | cont => obtain ⟨σ', H', I, q⟩ := h; exact ⟨σ', H', I.untried, q⟩
  | ret u => obtain ⟨v, σ', H', I, r, q⟩ := h; exact ⟨v, σ', H', I.untried, r, q⟩
theorem Cx.Ok.suite {a : Addr} {oe : Obj} (ok : X.Ok) : (X.suite a oe).Ok := ⟨ok.mod, ok.kind, ok.glob, ok.blt, ok.above, ok.inj, ok.has, ok.cab, fun z => (nomatch z), ok.frames, ok.stk, ok.exf, ok.bs, ok.bsz, ok.noex, ok.exfs, ok.funs, ok.frf⟩
theorem Inv.suite {a : Addr} {oe : Obj} (I : Inv X pins σ H s) (ha : s.heap.get? a = some oe) (hn : H a = none) (hl : a ≠ X.env.locals) (hf : a ∉ X.fs) (hc : ∀ v, oe.data ≠ .cell v) : Inv (X.suite a oe) pins σ H s :=
  ⟨I.ok.suite, I.os, I.bare, I.base, I.loc, I.cell, I.free, I.freeC, fun p hp => by
    have hp : p ∈ X.pn ++ [(a, oe)] ++ pins := hp
    rcases List.mem_append.mp hp with hp | hp
    · rcases List.mem_append.mp hp with hp | hp
      · exact I.pin p (List.mem_append_left _ hp)
      · rcases List.mem_singleton.mp hp with rfl
        exact ⟨ha, hn, hl, hf, hc⟩
    · exact I.pin p (List.mem_append_right _ hp), I.hok, I.len⟩
theorem Inv.unsuite {a : Addr} {oe : Obj} (ok : X.Ok) (I : Inv (X.suite a oe) pins σ H s) : Inv X pins σ H s :=
  ⟨ok, I.os, I.bare, I.base, I.loc, I.cell, I.free, I.freeC, fun p hp => I.pin p (by
    rcases List.mem_append.mp hp with hp | hp
    · exact List.mem_append_left _ (List.mem_append_left _ hp)
    · exact List.mem_append_right _ hp), I.hok, I.len⟩
theorem Inv.gone {h' : Heap} {m' : Str → Option Value} {t' : Nat} (I : Inv X pins σ H s) (hn : h'.Ns X.env.locals m') (hs : Heap.SameBut X.env.locals s.heap h') : Inv X pins (List.replicate X.N.length none) H { s with heap := h', toks := t' } := by
  obtain ⟨m, hm, _⟩ := id I.loc
  obtain ⟨oL, _, _, hoL, _⟩ := id hm
  have cne := I.cne
  refine ⟨I.ok, I.os, I.bare, ⟨fun b o e n hb hx => ?_, fun b o e n hb hx => ?_, I.base.free, fun b o e hx => ?_, I.base.tups, I.base.frzs, I.base.tbls⟩, ⟨m', hn, fun j y v' e1 e2 e3 => ?_⟩, fun y c e => ?_, I.free, I.freeC, fun p hp => ?_, fun b ob e => ?_, by simp⟩
  · exact (hs.2 b (Nat.ne_of_lt (Nat.lt_of_lt_of_le (Heap.lt_size e) I.ok.above))).trans (I.base.keep b o e n hb hx)
  · obtain ⟨sl, e1⟩ := I.base.slot b o e n hb hx
    exact ⟨sl, (hs.2 b (Nat.ne_of_lt (Nat.lt_of_lt_of_le (Heap.lt_size e) I.ok.above))).trans e1⟩
  · obtain ⟨o', e1⟩ := I.base.there b o e hx
    exact ⟨o', (hs.2 b (Nat.ne_of_lt (Nat.lt_of_lt_of_le (Heap.lt_size e) I.ok.above))).trans e1⟩
  · rw [List.getElem?_replicate] at e2
    split at e2 <;> cases e2
  · obtain ⟨w', z⟩ := I.cell y c e
    exact ⟨w', z.sameBut hs (cne y c e)⟩
  · obtain ⟨e, n, ne, nf, d⟩ := I.pin p hp
    exact ⟨(hs.2 p.1 ne).trans e, n, ne, nf, d⟩
  · refine (I.hok b ob e).stay (fun c w' hc q => (hs.2 c ?_).trans q) (fun _ q => q) fun _ _ q => q
    rintro rfl
    rcases hc with rfl | hc
    · rw [I.free] at e; cases e
    · rw [I.free] at hc; cases hc
end
end L2
set_option Elab.async false
set_option linter.all false
set_option maxRecDepth 100000
set_option maxHeartbeats 1000000
namespace L2
open PySem PySem.Spec PyProof.Rows
theorem x_matches {M : Model} {A : Around} {E : Value → Shared → Prop} {K : PySem.W.Frag} {h : Heap} {g : Array GenState} {d : Drawn} {t : Nat} {os : OsState} {a C C' : Addr} {oe : Obj} {Q : Bool → Shared → Prop} (X : K.In h) (c : XCls K C') (he : h.get? a = some oe) (hcls : oe.cls = .ref C)
    (hsub : PySem.W.subIn K (.ref C) (.ref C') = some true) (hq : Q true ⟨h, g, d, t, os⟩) : wpAny M A (excMatches (.ref a) (.ref C')) Q E ⟨h, g, d, t, os⟩ := by
  have l1 : PySem.W.Looks M h (typeOf (.ref C')) (.type "type") := PySem.W.looks_typeIn X c.ty
  have l2 : PySem.W.Looks M h (isSubtype (.ref C') (.type "BaseException")) true := PySem.W.looks_subIn X c.be
  have l3 : PySem.W.Looks M h (typeOf (.ref a)) (.ref C) := hcls ▸ (PySem.W.Looks.ld he).andThen .now
  have l4 : PySem.W.Looks M h (isSubtype (.ref C) (.ref C')) true := PySem.W.looks_subIn X hsub
  have f := tc_notTuple
  have z := c.co
  unfold PySem.W.clsIn at z
  split at z
  · rename_i c' d' cd' sl' ho
    have hC := X _ _ ho
    unfold excMatches isInstance isExcClass
    repeat (first | with_reducible refine l1.at ?_ | with_reducible refine l2.at ?_ | with_reducible refine l3.at ?_ | with_reducible refine l4.at ?_ | with_reducible refine wpAny_loadPart_at hC ?_ | wp_step)
    exact hq
  · cases z
def endsAs (n : Nat) (D : Ends) : Ends := { nx := fun _ H => D.nx (List.replicate n none) H, rt := D.rt, bk := fun _ H => D.bk (List.replicate n none) H, ct := fun _ H => D.ct (List.replicate n none) H }
def tTry (K : PySem.W.Frag) (n i : Nat) (C' : Addr) (tb : (Value → St → Hp → Prop) → TS) (ts : Addr → Addr → TS) : TS := fun D σ H =>
  tb (fun c σ' H' => ∃ C, c = .ref C ∧ PySem.W.subIn K (.ref C) (.ref C') = some true ∧ ∀ a, H' a = none → ts C a (endsAs n D) (σ'.set i (some (.ref a))) H') D σ H
theorem frs_mem {X : Cx} {pins : List (Addr × Obj)} {σ : St} {H : Hp} {s : Shared} (I : Inv X pins σ H s) : ∀ b ∈ frs X.stack, H b = none ∧ ∃ o, s.heap.get? b = some o ∧ ∀ vs, o.data ≠ .fields vs := fun b hb => ⟨I.stkFree b hb, (I.stack.mem hb).2⟩
theorem ps_try {X : Cx} {x n : Str} {i : Nat} {C' : Addr} {np hp pos : PySem.Pos} {body : List Stmt} {b₀ : Stmt} {suite : List Stmt} {tb : (Value → St → Hp → Prop) → TS} {ts : Addr → Addr → TS} (hN : X.N.Nodup) (hi : X.N[i]? = some n) (hloc : X.env.scope.names.lookup n = some .local)
    (hst : X.stack = X.env :: X.outer) (hfr : X.env.frame = some X.env.locals) (hm : X.mg x = some (.ref C')) (hg : Gl X x) (hcl : XCls X.K C')
    (hb : ∀ pins xe Ex, PassesX (X.tried pins xe) Ex → PSs (X.tried pins xe) body (tb Ex))
    (hs : ∀ (C a : Addr) (oe : Obj), oe.cls = .ref C → PSs (X.suite a oe) (b₀ :: suite) (ts C a)) (hdb : (x == ("__debug__" : Str)) = false := by decide) :
    PS X (.Try body [.ExceptHandler (some (.Name x np)) (some n) (b₀ :: suite) hp] [] [] pos) (tTry X.K X.N.length i C' tb ts) := by
  intro pins s σ H D I h
  refine wpAny_Try_except ?_
  refine wpAny_mono (hb pins _ _ ?_ [] s σ H D I.tried h) (fun f s1 q => ?_) fun e s1 q => q
  · rintro pins' σ1 H1 s1 e s' I1 ⟨a, C, a0, B, H', rfl, ho, hbare, un, hok, fl, c1, c2, C0, ec, hsub, q⟩
    cases ec
    have ff := frs_mem I1
    refine wpAny_looks_onW (by rw [← hst]; exact I1.ok.frames) hfr (by rw [← hst]; exact fl) fun h4 held4 sm4 => ?_
    refine wpAny_landsW held4 fun h5 fl5 sm5 => ?_
    obtain ⟨u5, hok5⟩ := flown un hok fl.1 fl5.1 (sm4.trans sm5) c1 c2 ff
    have J5 : Inv X pins σ1 H' { s' with heap := h5 } := (I1.call' (s' := { s' with heap := h5 }) ho u5 hok5 hbare (fun b z => nomatch z)).untried
    obtain ⟨oe5, he5, hc5⟩ := fl5.there
    refine wpAny_handleBy_cons (codeAny_handlers_test ?_) (by intro q; cases q)
    refine Calls.Name_function_global J5.ok.kind hg (Calls.loadGlobal_global (by rw [J5.ok.glob]; exact J5.mod.glob.keeps J5.bk) hm ?_) hdb
    refine x_matches J5.kIn hcl he5 hc5 hsub (codeAny_handlers_suite_as ?_)
    refine lands_againW fl5 fun h6 fl6 sm6 => ?_
    obtain ⟨u6, hok6⟩ := flown un hok fl.1 fl6.1 ((sm4.trans sm5).trans sm6) c1 c2 ff
    have J6 : Inv X pins σ1 H' { s' with heap := h6 } := (I1.call' (s' := { s' with heap := h6 }) ho u6 hok6 hbare (fun b z => nomatch z)).untried
    obtain ⟨oe, vs, T, oT, tss, he, ⟨hc, h0⟩, hd, _⟩ := fl6.2.2.2
    have hna : H' a = none := by
      cases z : H' a with
      | none => rfl
      | some o =>
        obtain ⟨o', e'⟩ := c2 a o z
        rw [fl.2.1] at e'
        cases e'
    have nfr : a ∉ frs X.stack := fun z => by
      obtain ⟨_, o, e, nd⟩ := frs_mem J6 a z
      rw [he] at e
      cases e
      exact nd _ hd
    have nl : a ≠ X.env.locals := fun z => nfr (by rw [hst]; unfold frs; rw [List.filterMap_cons, hfr, z]; exact List.mem_cons_self)
    have nfs : a ∉ X.fs := fun z => nfr (by
      rw [hst]; unfold frs; rw [List.filterMap_cons, hfr]; exact List.mem_cons_of_mem _ z)
    have J7 : Inv (X.suite a oe) pins σ1 H' { s' with heap := h6 } := J6.suite he hna nl nfs (fun v z => by rw [hd] at z; cases z)
    refine store_ok (X := X.suite a oe) (i := i) (v := .ref a) J7 hN hi (.inl hloc) rfl (fun s7 J8 => ?_) (.inr hloc)
    refine wpAny_mono (hs C a oe hc pins s7 (σ1.set i (some (.ref a))) H' (endsAs X.N.length D) J8 (q a hna)) (fun f s8 r8 => ?_) fun e s8 z => False.elim z
    have fin : ∀ {σ8 : St} {H8 : Hp}, Inv (X.suite a oe) pins σ8 H8 s8 → (∀ s9, Inv X pins (List.replicate X.N.length none) H8 s9 → SP X pins D f s9) → wpAny (model X.prog X.w) X.A (do bindName X.env n .none; unbindBehindTheSuite X.env n hp) (fun _ s9 => SP X pins D f s9) X.xe s8 := fun {σ8 H8} J k => by
      obtain ⟨m, hn, _⟩ := J.loc
      refine wpAny_nameGoes hloc hn (by rw [show X.env.scope.kind = .function from J.ok.kind]; rfl) fun h' m' hn' hs' => k _ ?_
      exact (J.unsuite J6.ok).gone hn' hs'
    cases f with
    | next => obtain ⟨σ8, H8, J, r⟩ := r8; exact fin J fun s9 J9 => ⟨_, _, J9, r⟩
    | brk => obtain ⟨σ8, H8, J, r⟩ := r8; exact fin J fun s9 J9 => ⟨_, _, J9, r⟩
    | cont => obtain ⟨σ8, H8, J, r⟩ := r8; exact fin J fun s9 J9 => ⟨_, _, J9, r⟩
    | ret u => obtain ⟨v, σ8, H8, J, rv, r⟩ := r8; exact fin J fun s9 J9 => ⟨v, _, _, J9, rv, r⟩
  · cases f with
    | next => exact wpAny_execs_nil (SP.untried q)
    | brk => exact SP.untried q
    | cont => exact SP.untried q
    | ret u => exact SP.untried q
end L2
set_option Elab.async false
set_option linter.all false
set_option maxRecDepth 100000
set_option maxHeartbeats 1000000
namespace L2
open PySem PySem.Spec PyProof.Rows
def rIsi (K : PySem.W.Frag) (C a : Addr) : List V → Hp → VK → Prop := fun xs H Q => XCls K C ∧ ∃ b, ((∃ C2, xs = [.ref a, .ref C2] ∧ XCls K C2 ∧ PySem.W.subIn K (.ref C) (.ref C2) = some b) ∨ (∃ T, xs = [.ref a, .ty T] ∧ PySem.W.kitMeta T = true ∧ PySem.W.subIn K (.ref C) (.type T) = some b) ∨
  (∃ (tp : Addr) (Cs : List Addr), xs = [.ref a, .ref tp] ∧ H tp = some (.tup (Cs.map V.ref)) ∧ (∀ c ∈ Cs, XCls K c) ∧ (∀ c ∈ Cs, PySem.W.subIn K (.ref C) (.ref c) = some false) ∧ b = false)) ∧ Q (.bl b) H
theorem kitOne_own {K : PySem.W.Frag} {C C2 : Addr} {b : Bool} (c : XCls K C) (c2 : XCls K C2) (h : PySem.W.subIn K (.ref C) (.ref C2) = some b) : PySem.W.kitOne K (.ref C) (.ref C2) = some b := by
  unfold PySem.W.kitOne
  by_cases q : C = C2
  · subst q
    rw [c.rf] at h
    cases h
    rw [if_pos (by simp)]
  · rw [if_neg (by simpa using q)]
    unfold PySem.W.kitCls
    dsimp only
    rw [if_pos (by rw [c2.co, c2.ty]; rfl)]
    exact h
theorem kitAny_own {K : PySem.W.Frag} {C : Addr} (c : XCls K C) : ∀ {Cs : List Addr}, (∀ x ∈ Cs, XCls K x) → (∀ x ∈ Cs, PySem.W.subIn K (.ref C) (.ref x) = some false) → PySem.W.kitAny K (.ref C) (Cs.map Value.ref) = some false
  | [], _, _ => rfl
  | x :: r, h1, h2 => by
    show PySem.W.kitAny K (.ref C) (Value.ref x :: r.map Value.ref) = some false
    unfold PySem.W.kitAny
    rw [kitOne_own c (h1 x List.mem_cons_self) (h2 x List.mem_cons_self)]
    exact kitAny_own c (fun y hy => h1 y (List.mem_cons_of_mem _ hy)) fun y hy => h2 y (List.mem_cons_of_mem _ hy)
theorem vals_cls : ∀ {Cs : List Addr} {us : List Value}, Vals (Cs.map V.ref) us → us = Cs.map Value.ref
  | [], us, h => by cases h; rfl
  | c :: r, us, h => by
    cases h with
    | cons r1 r2 =>
      cases (show _ = Value.ref c from r1)
      rw [vals_cls r2]
      rfl
theorem call_isiX {X : Cx} {a C : Addr} {oe : Obj} {K : PySem.W.Frag} (hoe : oe.cls = .ref C) (hK : X.K = K := by rfl) : CallR (X.suite a oe) (.builtin "isinstance") (rIsi K C a) := by
  subst hK
  intro pins s σ H xs us Q I r h
  obtain ⟨c, b, h, q⟩ := h
  have he : s.heap.get? a = some oe := (I.pin (a, oe) (List.mem_append_left _ (List.mem_append_right _ (List.mem_singleton.mpr rfl)))).1
  have hx : Value.ref a ≠ .builtin "__main__.__loader__#opaque" := fun z => nomatch z
  have fin : ∀ tk, EP (X.suite a oe) pins σ Q (.bool b) { s with toks := tk } := fun tk => ⟨.bl b, H, I.tok _, rfl, q⟩
  rcases h with ⟨C2, rfl, c2, e⟩ | ⟨T, rfl, hm, e⟩ | ⟨tp, Cs, rfl, ht, h1, h2, rfl⟩
  · obtain ⟨u, v, rfl, r1, r2⟩ := vals2 r
    cases (show u = Value.ref a from r1)
    cases (show v = Value.ref C2 from r2)
    exact PySem.W.kia_one (kitx_exc c) I.kIn ⟨oe, he, hoe⟩ (kitOne_own c c2 e) hx fin
  · obtain ⟨u, v, rfl, r1, r2⟩ := vals2 r
    cases (show u = Value.ref a from r1)
    cases (show v = Value.type T from r2)
    refine PySem.W.kia_one (kitx_exc c) I.kIn ⟨oe, he, hoe⟩ ?_ hx fin
    unfold PySem.W.kitOne PySem.W.kitCls
    rw [if_neg (by simp)]
    dsimp only
    rw [if_pos hm]
    exact e
  · obtain ⟨u, v, rfl, r1, r2⟩ := vals2 r
    cases (show u = Value.ref a from r1)
    cases (show v = Value.ref tp from r2)
    obtain ⟨_, its, rv, ob, h3, h4, n, h5⟩ := (show ObjOk X.prog X.w H s.heap tp (.tup (Cs.map V.ref)) from I.hok tp _ ht)
    obtain rfl := vals_cls rv
    obtain ⟨oc, od, odt, osl⟩ := ob
    cases h4
    cases h5
    exact PySem.W.kia_tup (kitx_exc c) I.kIn ⟨oe, he, hoe⟩ h3 (kitAny_own c h1 h2) hx fin
end L2
namespace L2
open PySem PySem.Spec PyProof.Rows
theorem passN {X : Cx} : PassesX X (fun _ _ _ => False) := by
  rintro pins σ H1 s1 e s' I ⟨a, C, a0, B, H', rfl, ho, hb, un, hok, fl, c1, c2, q⟩
  exact q.elim
end L2
set_option Elab.async false
set_option linter.all false
set_option maxRecDepth 100000
namespace L2
open PySem PySem.Spec PyProof.Rows
section
variable {κ : Type} [DecidableEq κ]
def valV (kvs : List (κ × V)) (k : κ) : Option V := (kvs.find? fun kv => decide (kv.1 = k)).map (·.2)
def putK (kvs : List (κ × V)) (k : κ) (v : V) : List (κ × V) :=
  if (kvs.any fun kv => decide (kv.1 = k)) = true then kvs.map (fun kv => if kv.1 = k then (kv.1, v) else kv) else kvs ++ [(k, v)]
theorem valV_pos {p : κ × V} {r : List (κ × V)} {k : κ} (e : p.1 = k) : valV (p :: r) k = some p.2 := by simp [valV, List.find?_cons, e]
theorem valV_neg {p : κ × V} {r : List (κ × V)} {k : κ} (e : ¬ p.1 = k) : valV (p :: r) k = valV r k := by simp [valV, List.find?_cons, e]
theorem valV_any (k : κ) : ∀ kvs : List (κ × V), (kvs.any fun kv => decide (kv.1 = k)) = (valV kvs k).isSome
  | [] => rfl
  | p :: r => by
    rw [List.any_cons]
    by_cases e : p.1 = k
    · simp only [valV_pos e, decide_eq_true e, Bool.true_or, Option.isSome_some]
    · rw [valV_neg e, decide_eq_false e, Bool.false_or]; exact valV_any k r
theorem length_putK (kvs : List (κ × V)) (k : κ) (v : V) : (putK kvs k v).length ≤ kvs.length + 1 := by
  unfold putK
  split
  · rw [List.length_map]; omega
  · rw [List.length_append, List.length_cons, List.length_nil]; omega
theorem RelO.isSome_eq {o : Option V} {u : Option Value} (r : RelO o u) : o.isSome = u.isSome := by
  cases o with
  | none => cases u with
    | none => rfl
    | some _ => exact (show False from r).elim
  | some _ => cases u with
    | none => exact (show False from r).elim
    | some _ => rfl
theorem RelO.getD {o : Option V} {u : Option Value} {d : V} {d' : Value} (r : RelO o u) (rd : RelV d d') : RelV (o.getD d) (u.getD d') := by
  cases o with
  | none => cases u with
    | none => exact rd
    | some _ => exact (show False from r).elim
  | some _ => cases u with
    | none => exact (show False from r).elim
    | some _ => exact r
theorem KV.val {kvs : List (κ × V)} {vs : List (κ × Value)} (r : KV kvs vs) (k : κ) : RelO (valV kvs k) (valueAt vs k) := by
  unfold KV at r
  induction r with
  | nil => exact True.intro
  | @cons p q ps qs h t ih =>
    obtain ⟨h1, h2⟩ := h
    by_cases e : p.1 = k
    · have e' : q.1 = k := h1.symm.trans e
      have b : valueAt (q :: qs) k = some q.2 := by simp [valueAt, List.find?_cons, e']
      rw [valV_pos e, b]; exact h2
    · have e' : ¬ q.1 = k := fun z => e (h1.trans z)
      have b : valueAt (q :: qs) k = valueAt qs k := by simp [valueAt, List.find?_cons, e']
      rw [valV_neg e, b]; exact ih
theorem KV.any {kvs : List (κ × V)} {vs : List (κ × Value)} (r : KV kvs vs) (k : κ) : (kvs.any fun kv => decide (kv.1 = k)) = vs.any fun kv => decide (kv.1 = k) := by
  unfold KV at r
  induction r with
  | nil => rfl
  | cons h t ih => rw [List.any_cons, List.any_cons, ih, h.1]
theorem KV.repl {kvs : List (κ × V)} {vs : List (κ × Value)} (r : KV kvs vs) (k : κ) {y : V} {u : Value} (ry : RelV y u) :
    KV (kvs.map fun kv => if kv.1 = k then (kv.1, y) else kv) (vs.map fun kv => if kv.1 = k then (kv.1, u) else kv) := by
  unfold KV at r ⊢
  induction r with
  | nil => exact .nil
  | @cons p q ps qs h t ih =>
    rw [List.map_cons, List.map_cons]
    refine .cons ?_ ih
    obtain ⟨h1, h2⟩ := h
    by_cases e : p.1 = k
    · rw [if_pos e, if_pos (h1.symm.trans e)]; exact ⟨h1, ry⟩
    · rw [if_neg e, if_neg (fun z => e (h1.trans z))]; exact ⟨h1, h2⟩
theorem KV.put {kvs : List (κ × V)} {vs : List (κ × Value)} (r : KV kvs vs) (k : κ) {y : V} {u : Value} (ry : RelV y u) : KV (putK kvs k y) (stored vs k u) := by
  unfold putK stored
  rw [r.any k]
  by_cases e : (vs.any fun kv => decide (kv.1 = k)) = true
  · rw [if_pos e, if_pos e]; exact r.repl k ry
  · rw [if_neg e, if_neg e]; exact Paired.snoc r ⟨rfl, ry⟩
theorem KV.length {kvs : List (κ × V)} {vs : List (κ × Value)} (r : KV kvs vs) : kvs.length = vs.length := Paired.length r
end
theorem kV_is {P : Program} {w : World} {k : Key} {u : Value} (r : RelV (kV k) u) : (mixKind P w).is k u = true := by
  cases k with
  | inl i => obtain ⟨t, e⟩ := (show ∃ t, u = Value.int i t from r); subst e; exact mixKind_int P w i t
  | inr x => obtain ⟨t, e⟩ := (show ∃ t, u = Value.str x t from r); subst e; exact mixKind_str P w x t
theorem items_are {P : Program} {w : World} : ∀ {ks : List Key} {us : List Value}, Vals (ks.map kV) us → ItemsAre (mixKind P w) ks us
  | [], _, r => by rw [List.map_nil] at r; cases r; exact .nil
  | k :: ks, _, r => by
    rw [List.map_cons] at r
    cases r with
    | cons h t => exact .cons (kV_is h) (items_are t)
abbrev KT (H : Hp) : List (List Key × V) → List (List Key × Addr × Value) → Prop := Paired fun p q => p.1 = q.1 ∧ H q.2.1 = some (.tup (p.1.map kV)) ∧ RelV p.2 q.2.2
theorem KT.val {H : Hp} {kvs : List (List Key × V)} {xs : List (List Key × Addr × Value)} (r : KT H kvs xs) (k : List Key) : RelO (valV kvs k) ((atKey xs k).map (·.2)) := by
  induction r with
  | nil => exact True.intro
  | @cons p q ps qs h t ih =>
    obtain ⟨h1, _, h2⟩ := h
    by_cases e : p.1 = k
    · have e' : q.1 = k := h1.symm.trans e
      have b : atKey (q :: qs) k = some q.2 := by simp [atKey, List.find?_cons, e']
      rw [valV_pos e, b]; exact h2
    · have e' : ¬ q.1 = k := fun z => e (h1.trans z)
      have b : atKey (q :: qs) k = atKey qs k := by simp [atKey, List.find?_cons, e']
      rw [valV_neg e, b]; exact ih
theorem KT.repl {H : Hp} {kvs : List (List Key × V)} {xs : List (List Key × Addr × Value)} (r : KT H kvs xs) (k : List Key) {y : V} {u : Value} (ry : RelV y u) :
    KT H (kvs.map fun kv => if kv.1 = k then (kv.1, y) else kv) (xs.map (putAt k u)) := by
  induction r with
  | nil => exact .nil
  | @cons p q ps qs h t ih =>
    rw [List.map_cons, List.map_cons]
    refine .cons ?_ ih
    obtain ⟨h1, h2, h3⟩ := h
    unfold putAt
    by_cases e : p.1 = k
    · rw [if_pos e, if_pos (h1.symm.trans e)]; exact ⟨h1, h2, ry⟩
    · rw [if_neg e, if_neg (fun z => e (h1.trans z))]; exact ⟨h1, h2, h3⟩
theorem KT.put {H : Hp} {kvs : List (List Key × V)} {xs : List (List Key × Addr × Value)} (r : KT H kvs xs) (k : List Key) {b : Addr} {y : V} {u : Value} (hb : H b = some (.tup (k.map kV))) (ry : RelV y u) :
    KT H (putK kvs k y) (storedH xs k b u) := by
  have e : (kvs.any fun kv => decide (kv.1 = k)) = (atKey xs k).isSome := by
    rw [valV_any, (r.val k).isSome_eq, Option.isSome_map]
  unfold putK storedH
  rw [e]
  by_cases q : (atKey xs k).isSome = true
  · rw [if_pos q, if_pos q]; exact r.repl k ry
  · rw [if_neg q, if_neg q]; exact Paired.snoc r ⟨rfl, hb, ry⟩
theorem KT.keeps {H H' : Hp} {kvs : List (List Key × V)} {xs : List (List Key × Addr × Value)} (r : KT H kvs xs) (ht : ∀ b ys, H b = some (.tup ys) → H' b = some (.tup ys)) : KT H' kvs xs :=
  Paired.mapP r fun _ _ z => ⟨z.1, ht _ _ z.2.1, z.2.2⟩
section
variable {P : Program} {w : World} {H : Hp} {h : Heap} {a : Addr}
theorem rd_of {u : HO} (ok : HOk P w H h) (e : Rd H a u) : ObjOk P w H h a u := e.ok ok
theorem dk_rd {kvs : List (Key × V)} (ok : HOk P w H h) (e : Rd H a (.dK kvs)) : kvs.length ≤ sizeLine ∧ (a == sysModules) = false ∧ ∃ vs, KV kvs vs ∧ h.DictOf (mixKind P w) a vs :=
  show ObjOk P w H h a (.dK kvs) from rd_of ok e
theorem dk_of {kvs : List (Key × V)} (ok : HOk P w H h) (e : H a = some (.dK kvs)) : kvs.length ≤ sizeLine ∧ (a == sysModules) = false ∧ ∃ vs, KV kvs vs ∧ h.DictOf (mixKind P w) a vs := dk_rd ok (.inl e)
theorem key_of {ks : List Key} (ok : HOk P w H h) (e : H a = some (.tup (ks.map kV))) : (tupleKind (mixKind P w)).is h ks a := by
  obtain ⟨_, its, r, o, h1, h2, n, h3⟩ := (show ObjOk P w H h a (.tup (ks.map kV)) from ok a _ e)
  exact ⟨o, its.toArray, n, h1, h2, h3, by simpa using items_are r⟩
theorem dt_rd {kvs : List (List Key × V)} (ok : HOk P w H h) (e : Rd H a (.dT kvs)) : kvs.length ≤ sizeLine ∧ (a == sysModules) = false ∧
    ∃ xs, KT H kvs xs ∧ h.DictOfH (tupleKind (mixKind P w)) a xs := by
  obtain ⟨z, y, xs, r, o, es, ep, h1, h2, h3, h4, h5⟩ := (show ObjOk P w H h a (.dT kvs) from rd_of ok e)
  refine ⟨z, y, xs, r, o, es, ep, h1, h2, h3, h4, fun x hx => ?_, h5⟩
  have all : ∀ {l : List (List Key × V)} {m : List (List Key × Addr × Value)}, KT H l m → ∀ x ∈ m, (tupleKind (mixKind P w)).is h x.1 x.2.1 := by
    intro l m q
    induction q with
    | nil => intro x hx; exact nomatch hx
    | @cons p q ps qs hq t ih =>
      intro x hx
      rcases List.mem_cons.mp hx with e | hx
      · subst e
        exact key_of ok (by rw [← hq.1]; exact hq.2.1)
      · exact ih x hx
  exact all r x hx
theorem dt_of {kvs : List (List Key × V)} (ok : HOk P w H h) (e : H a = some (.dT kvs)) : kvs.length ≤ sizeLine ∧ (a == sysModules) = false ∧
    ∃ xs, KT H kvs xs ∧ h.DictOfH (tupleKind (mixKind P w)) a xs := dt_rd ok (.inl e)
end
def DGet (H : Hp) (a : Addr) (y : V) (r : Option V) : Prop :=
  (∃ kvs k, Rd H a (.dK kvs) ∧ y = kV k ∧ r = valV kvs k) ∨ ∃ kvs k b, Rd H a (.dT kvs) ∧ y = .ref b ∧ H b = some (.tup (k.map kV)) ∧ r = valV kvs k
def DPut (H : Hp) (a : Addr) (y v : V) (H' : Hp) : Prop :=
  (∃ kvs k, H a = some (.dK kvs) ∧ y = kV k ∧ kvs.length < sizeLine ∧ H' = upd H a (.dK (putK kvs k v))) ∨
  ∃ kvs k b, H a = some (.dT kvs) ∧ y = .ref b ∧ H b = some (.tup (k.map kV)) ∧ kvs.length < sizeLine ∧ H' = upd H a (.dT (putK kvs k v))
theorem DGet.t {H : Hp} {a b : Addr} {kvs : List (List Key × V)} {k : List Key} (e : H a = some (.dT kvs)) (eb : H b = some (.tup (k.map kV))) : DGet H a (.ref b) (valV kvs k) := .inr ⟨kvs, k, b, .inl e, rfl, eb, rfl⟩
theorem DPut.t {H : Hp} {a b : Addr} {kvs : List (List Key × V)} {k : List Key} {v : V} (e : H a = some (.dT kvs)) (eb : H b = some (.tup (k.map kV))) (hl : kvs.length < sizeLine) :
    DPut H a (.ref b) v (upd H a (.dT (putK kvs k v))) := .inr ⟨kvs, k, b, e, rfl, eb, hl, rfl⟩
section
variable {X : Cx} {pins : List (Addr × Obj)} {σ : St} {H : Hp} {s : Shared} {a : Addr} {y v : V} {u r : Value} {o : Option V} {A : Around} {E : Value → Shared → Prop}
theorem Inv.big (I : Inv X pins σ H s) : sysModules < s.heap.objs.size := by
  have h : mainGlobals < s.heap.objs.size := (I.mod.glob.keeps I.bk).lt
  exact Nat.lt_trans (by decide) h
theorem d_write {h' : Heap} {t' : Nat} {ob : HO} (I : Inv X pins σ H s) (mu : Mut (H a)) (hs : Heap.SameBut a s.heap h') (he : ∃ q, h'.get? a = some q) (new : ObjOk X.prog X.w (upd H a ob) h' a ob) :
    Inv X pins σ (upd H a ob) { s with heap := h', toks := t' } :=
  I.write (x := a) (e := a) mu (.inl rfl) (fun b q hb z => (hs.2 b hb).trans z) he new
theorem dk_new {P : Program} {w : World} {H' : Hp} {h' : Heap} {kvs : List (Key × V)} {vs : List (Key × Value)} (z : kvs.length ≤ sizeLine) (hd : (a == sysModules) = false) (rel : KV kvs vs) (dd : h'.DictOf (mixKind P w) a vs) :
    ObjOk P w H' h' a (.dK kvs) := ⟨z, hd, vs, rel, dd⟩
theorem d_setItem {H' : Hp} {Q : Unit → Shared → Prop} (hu : A.units + 1 < cLine) (I : Inv X pins σ H s) (g : DPut H a y v H') (ry : RelV y u) (rv : RelV v r) (h : ∀ s', Inv X pins σ H' s' → Q () s') :
    wpAny (model X.prog X.w) A (setItem (.ref a) u r) Q E s := by
  rcases g with ⟨kvs, k, e, ey, l, eH⟩ | ⟨kvs, k, b, e, ey, eb, l, eH⟩
  · subst ey eH
    obtain ⟨z, hd, vs, rel, dd⟩ := dk_of I.hok e
    have hz : vs.length ≤ sizeLine := by rw [← rel.length]; exact z
    have hl : (putK kvs k v).length ≤ sizeLine := by have := length_putK kvs k v; omega
    refine wpAny_setItem_pairs (hsz := hz) (kV_is ry) dd fun h' dd' hs => h _ ?_
    have he : ∃ q, h'.get? a = some q := let ⟨q, _, _, hq, _⟩ := dd'; ⟨q, hq⟩
    exact d_write I (by rw [e]; exact True.intro) hs he (dk_new hl hd (rel.put k rv) dd')
  · subst ey eH
    cases (show u = Value.ref b from ry)
    obtain ⟨z, hd, xs, rel, dd⟩ := dt_of I.hok e
    have hz : xs.length ≤ sizeLine := by rw [← Paired.length rel]; exact z
    have hl : (putK kvs k v).length ≤ sizeLine := by have := length_putK kvs k v; omega
    refine wpAny_setItem_heap (hsz := hz) (tupleKind_room_in1 hu) (key_of I.hok eb) dd fun h' dd' hs => h _ ?_
    obtain ⟨q, es, ep, hq, h2, h3, h4, _, h5⟩ := dd'
    refine d_write I (by rw [e]; exact True.intro) hs ⟨q, hq⟩ ⟨hl, hd, _, (rel.put k eb rv).keeps fun c ys ec => ?_, q, es, ep, hq, h2, h3, h4, h5⟩
    rw [upd_ne (ne_of ec e (fun z => nomatch z))]
    exact ec
end
def NoSl (i : Expr) : Prop := ∀ ov iv, subscripted i false ov iv = operate [ov, iv] (getItem ov iv)
theorem subD_of {prog : Program} {w : World} {A : Around} {E : Value → Shared → Prop} {s : Shared} {env : Env} {value slice : Expr} {pos : PySem.Pos} {T id : String} {Q : Value → Shared → Prop}
    (hl : typeLookup (.type T) "__getitem__" = pure (some (.builtin id))) (hs : NoSl slice)
    (h : wpAny (model prog w) A (eval value env) (fun o s₁ => wpAny (model prog w) A (eval slice env) (fun i s₂ => s₂.TypeIs o T ∧ wpAny (model prog w) A (getItem o i) Q E s₂) E s₁) E s) :
    wpAny (model prog w) A (eval (.Subscript value slice pos) env) Q E s := by
  refine Subscript_ (wpAny_mono h (fun o s₁ h₁ => wpAny_mono h₁ (fun i s₂ h₂ => ?_) fun _ _ x => x) fun _ _ x => x)
  obtain ⟨hT, h₂⟩ := h₂
  unfold subscriptTail
  refine wpAny_bind ?_
  rw [getitemInPython_of_ne hT.not_modules]
  refine wpAny_bind (wpAny_specialOf hT hl ?_)
  have fin : wpAny (model prog w) A (subscripted slice false o i) (fun r s₃ => wpAny (model prog w) A (letTemporaryGo value o r >>= fun _ => pure r) Q E s₃) E s₂ := by
    rw [hs o i]
    exact wpAny_operating (wpAny_mono h₂ (fun r s₃ h₃ => wpAny_bind (wpAny_letTemporaryGo (wpAny_pure h₃))) fun _ _ x => x)
  first
    | exact wpAny_pure (wpAny_bind fin)
    | exact wpAny_bind (wpAny_pure (wpAny_bind fin))
    | exact wpAny_bind fin
def sDPut (td ty tv : TE) : TS := fun D σ H => tv σ H fun v H1 => td σ H1 fun x H2 => ty σ H2 fun y H3 => ∃ a H4, x = .ref a ∧ DPut H3 a y v H4 ∧ D.nx σ H4
section
variable {X : Cx} {o i e value : Expr} {pos pos' tpos : PySem.Pos} {td ty tv : TE}
theorem ps_dput (hu : X.A.units + 1 < cLine) (ho : PE X o td) (hi : PE X i ty) (hv : PE X value tv) (hs : swapsWith value (some (.Subscript o i pos')) pos.line X.env = pure false) :
    PS X (.Assign [.Subscript o i pos'] value pos) (sDPut td ty tv) := by
  intro pins s σ H D I h
  refine wpAny_Assign_Subscript (thn (hv pins s σ H _ I h) fun r s1 ⟨v, H1, I1, rv, q1⟩ => thn (ho pins s1 σ H1 _ I1 q1) fun u s2 ⟨x, H2, I2, rx, q2⟩ => thn (hi pins s2 σ H2 _ I2 q2) fun iv s3 ⟨y, H3, I3, ry, a, H4, ex, g, q3⟩ => ?_) hs
  subst ex
  obtain rfl : u = Value.ref a := rx
  exact d_setItem hu I3 g ry rv fun s4 I4 => ⟨σ, H4, I4, q3⟩
end
theorem dt_empty {P : Program} {w : World} {H : Hp} (h : Heap) (hb : sysModules < h.objs.size) : ObjOk P w H (h.push { cls := .type "dict", data := .dict #[] }) h.objs.size (.dT []) :=
  ⟨Nat.zero_le _, beq_eq_false_iff_ne.mpr (Ne.symm (Nat.ne_of_lt hb)), [], .nil, _, #[], 0, Heap.get?_push_size _ rfl, ⟨rfl, rfl, rfl⟩, rfl, rfl, List.nodup_nil⟩
def tDNewT : TE := fun _ H Q => ∀ p, H p = none → Q (.ref p) (upd H p (.dT []))
section
variable {X : Cx} {pos : PySem.Pos}
theorem pe_dnewT : PE X (.Dict [] [] pos) tDNewT := fun pins s σ H Q I h =>
  wpAny_Dict_empty ⟨.ref s.heap.objs.size, _, I.laid (a := s.heap.objs.size) (o := .dT []) (t' := s.toks) (fun _ _ q => Heap.get?_push_of_some _ q) (Nat.le_refl _) (dt_empty s.heap I.big), rfl, h _ (I.hok.fresh (Nat.le_refl _))⟩
end
structure M1 (X : Cx) (o : Expr) (m : Str) (apos : PySem.Pos) (e : Expr) (cpos : PySem.Pos) : Prop where
  base : attributeBase o m X.env (eval o X.env) = eval o X.env
  few : ((backTo cpos (starEach [e] X.env)).all (fun x => !x.1) && (backToKw cpos (keywordEach [] X.env)).all (fun x => x.1.isSome)
    && decide (([e] : List Expr).length + ([] : List Keyword).length + (if ([] : List Keyword).isEmpty then 0 else 1) < 30)) = true
  line : (apos.endLine == cpos.line) = true
  trees : backTo cpos (starEach [e] X.env) = [(false, eval e X.env)]
structure M2 (X : Cx) (o : Expr) (m : Str) (apos : PySem.Pos) (e f : Expr) (cpos : PySem.Pos) : Prop where
  base : attributeBase o m X.env (eval o X.env) = eval o X.env
  few : ((backTo cpos (starEach [e, f] X.env)).all (fun x => !x.1) && (backToKw cpos (keywordEach [] X.env)).all (fun x => x.1.isSome)
    && decide (([e, f] : List Expr).length + ([] : List Keyword).length + (if ([] : List Keyword).isEmpty then 0 else 1) < 30)) = true
  line : (apos.endLine == cpos.line) = true
  trees : backTo cpos (starEach [e, f] X.env) = [(false, eval e X.env), (false, eval f X.env)]
def IsD (H : Hp) (a : Addr) : Prop := (∃ kvs, Rd H a (.dK kvs)) ∨ ∃ kvs, Rd H a (.dT kvs)
theorem isD_at {X : Cx} {pins : List (Addr × Obj)} {σ : St} {H : Hp} {s : Shared} {a : Addr} (I : Inv X pins σ H s) (d : IsD H a) :
    s.TypeIs (.ref a) "dict" ∧ (∀ b, Value.ref a = .ref b → ∃ ob, s.heap.get? b = some ob ∧ ob.dict = none) ∧ (a == sysModules) = false := by
  rcases d with ⟨kvs, e⟩ | ⟨kvs, e⟩
  · obtain ⟨_, hd, vs, _, dd⟩ := dk_rd I.hok e
    refine ⟨dd.typeIs, fun b q => ?_, hd⟩
    cases q
    obtain ⟨ob, _, _, h1, h2, _⟩ := dd
    exact ⟨ob, h1, h2.2.1⟩
  · obtain ⟨_, hd, xs, _, dd⟩ := dt_rd I.hok e
    refine ⟨dd.typeIs, fun b q => ?_, hd⟩
    cases q
    obtain ⟨ob, _, _, h1, h2, _⟩ := dd
    exact ⟨ob, h1, h2.2.1⟩
section
variable {X : Cx} {pins : List (Addr × Obj)} {σ : St} {H : Hp} {s : Shared} {a : Addr} {y d : V} {u r : Value} {o : Option V} {A : Around} {E : Value → Shared → Prop}
theorem d_get2 {Q : Value → Shared → Prop} (hu : A.units + 1 < cLine) (I : Inv X pins σ H s) (g : DGet H a y o) (ry : RelV y u) (rd : RelV d r) (h : ∀ w' s', Inv X pins σ H s' → RelV (o.getD d) w' → Q w' s') :
    wpAny (model X.prog X.w) A (call (.builtin "dict.get") [.ref a, u, r]) Q E s := by
  rcases g with ⟨kvs, k, e, ey, l⟩ | ⟨kvs, k, b, e, ey, eb, l⟩
  · subst ey
    obtain ⟨z, hd, vs, rel, dd⟩ := dk_rd I.hok e
    refine call_meetsIn PySem.F.slot_dict_get dd.typeIs PySem.F.entry_dict_get (PySem.F.args_dict_get_3 _ _ _) (meets_dict_get_default (mixKind X.prog X.w) a (kV_is ry) hd r) ⟨_, dd.mapOf, h _ _ (I.tok _) ?_⟩
    rw [l]
    exact (rel.val k).getD rd
  · subst ey
    cases (show u = Value.ref b from ry)
    obtain ⟨z, hd, xs, rel, dd⟩ := dt_rd I.hok e
    refine call_meetsIn PySem.F.slot_dict_get dd.typeIs PySem.F.entry_dict_get (PySem.F.args_dict_get_3 _ _ _) (meetsH_dict_get_default (tupleKind (mixKind X.prog X.w)) a b hd r) ⟨tupleKind_room_in1 hu, k, xs, key_of I.hok eb, dd, h _ _ (I.tok _) ?_⟩
    rw [l]
    exact (rel.val k).getD rd
end
def tDGet2 (td ty tx : TE) : TE := fun σ H Q => td σ H fun x H1 => ∃ a, x = .ref a ∧ IsD H1 a ∧ ty σ H1 fun y H2 => tx σ H2 fun z H3 => ∃ o, DGet H3 a y o ∧ Q (o.getD z) H3
section
variable {X : Cx} {o e f : Expr} {apos cpos : PySem.Pos} {td ty tx : TE}
theorem pe_dget2 (hu : X.A.units + 1 < cLine) (ho : PE X o td) (he : PE X e ty) (hf : PE X f tx) (m : M2 X o "get" apos e f cpos) : PE X (.Call (.Attribute o "get" apos) [e, f] [] cpos) (tDGet2 td ty tx) := by
  intro pins s σ H Q I h
  refine wpAny_Call_method m.base m.few m.line PySem.F.plainAttrs_dict PySem.F.slot_dict_get PySem.F.type_dict_get (thn (ho pins s σ H _ I h) fun u s1 ⟨x, H1, I1, rx, a, ex, d, q1⟩ => ?_)
  subst ex
  obtain rfl : u = Value.ref a := rx
  obtain ⟨t1, t2, _⟩ := isD_at I1 d
  refine ⟨t1, t2, ?_⟩
  rw [m.trees]
  refine Calls.callWith_builtin rfl (Calls.evalArgs_plain (Calls.spliced_cons (thn (he pins s1 σ H1 _ I1 q1) fun iv s2 ⟨y, H2, I2, ry, q2⟩ =>
    Calls.spliced_cons (thn (hf pins s2 σ H2 _ I2 q2) fun fv s3 ⟨z, H3, I3, rz, ov, g, q3⟩ => Calls.spliced_nil ?_))))
  exact d_get2 hu I3 g ry rz fun w' s4 I4 rw' => ⟨_, H3, I4, rw', q3⟩
end
end L2
set_option Elab.async false
set_option linter.all false
set_option maxRecDepth 100000
set_option maxHeartbeats 1000000
namespace L2
open PySem PySem.Spec PyProof.Rows
structure KDict (w : World) (K : PySem.W.Frag) (a : Addr) (kvs : List (Str × Addr)) : Prop where
  sm : (a == sysModules) = false
  dd : ∀ (P : Program) (h : Heap), K.In h → h.DictOf (PySem.strKind P w) a (kvs.map fun p => (p.1, Value.ref p.2))
def entK (w : World) (p : Str × Tok × Addr) : DictEntry := ⟨PyData.keyHash w.params p.1, .str p.1 p.2.1, .ref p.2.2⟩
theorem kdict_of {w : World} {K : PySem.W.Frag} {a : Addr} {n : Nat} {ps : List (Str × Tok × Addr)} (l : K.lookup a = some ⟨.type "dict", none, .dict (ps.map (entK w)).toArray n, #[]⟩) (sm : (a == sysModules) = false) (nd : (ps.map (·.1)).Nodup) : KDict w K a (ps.map fun p => (p.1, p.2.2)) := by
  refine ⟨sm, fun P h X => ⟨_, _, _, X _ _ l, ⟨rfl, rfl, rfl⟩, rfl, fun e he => ?_, ?_, ?_⟩⟩
  · have he : e ∈ (ps.map (entK w)) := by simpa using he
    obtain ⟨p, _, rfl⟩ := List.mem_map.mp he
    exact ⟨p.1, by simp [PySem.strKind, entK, Value.isStrOf], rfl⟩
  · rw [List.toList_toArray, List.map_map]
    clear l nd
    induction ps with
    | nil => exact .nil
    | cons p r ih => exact .cons (by simp [PySem.strKind, entK, Value.isStrOf]) rfl ih
  · rw [List.map_map, List.map_map]
    exact nd
def valK (kvs : List (Str × Addr)) (x : Str) : Option Addr := (kvs.find? fun kv => decide (kv.1 = x)).map (·.2)
theorem valK_at (kvs : List (Str × Addr)) (x : Str) : valueAt (kvs.map fun p => (p.1, Value.ref p.2)) x = (valK kvs x).map Value.ref := by
  unfold valueAt valK
  induction kvs with
  | nil => rfl
  | cons p r ih =>
    rw [List.map_cons, List.find?_cons, List.find?_cons]
    by_cases h : p.1 = x
    · simp [h]
    · simp only [h, decide_false]
      exact ih
section
variable {X : Cx} {i : Expr} {x : Str} {pos np : PySem.Pos} {ty : TE} {a : Addr} {kvs : List (Str × Addr)}
def tKGet (kvs : List (Str × Addr)) (ty : TE) : TE := fun σ H Q => ty σ H fun y H1 => ∃ k v, y = .str k ∧ valK kvs k = some v ∧ Q (.ref v) H1
theorem pe_kget (hk : KDict X.w X.K a kvs) (hg : Gl X x) (hm : X.mg x = some (.ref a)) (hi : PE X i ty) (hs : NoSl i) (hdb : (x == ("__debug__" : Str)) = false := by decide) : PE X (.Subscript (.Name x np) i pos) (tKGet kvs ty) := by
  intro pins s σ H Q I h
  refine subD_of PySem.F.slot_dict_getitem.lookup hs (ld_glob I hg hm (thn (hi pins s σ H _ I h) fun iv s2 ⟨y, H2, I2, ry, k, v, ey, e, q⟩ => ?_) hdb)
  subst ey
  obtain ⟨t, rfl⟩ := ry
  have dd := hk.dd X.prog s2.heap I2.kIn
  refine ⟨dd.typeIs, wpAny_getItem_of (knd := PySem.strKind X.prog X.w) (k := k) (by simp [PySem.strKind, Value.isStrOf]) dd.mapOf (v := .ref v) ?_ ⟨.ref v, H2, I2.tok _, rfl, q⟩⟩
  rw [valK_at, e]
  rfl
def tKNotIn (kvs : List (Str × Addr)) (ty : TE) : TE := fun σ H Q => ty σ H fun y H1 => ∃ k, y = .str k ∧ Q (.bl (!(valK kvs k).isSome)) H1
theorem pc_knotin (hk : KDict X.w X.K a kvs) (hg : Gl X x) (hm : X.mg x = some (.ref a)) (hi : PE X i ty) (hdb : (x == ("__debug__" : Str)) = false := by decide) : PC X .NotIn i (.Name x np) (tKNotIn kvs ty) := by
  intro pins s σ H Q I h
  refine thn (hi pins s σ H _ I h) fun iv s1 ⟨y, H1, I1, ry, k, ey, q⟩ => ld_glob I1 hg hm ?_ hdb
  subst ey
  obtain ⟨t, rfl⟩ := ry
  have dd := hk.dd X.prog s1.heap I1.kIn
  refine wpAny_notIn_of (knd := PySem.strKind X.prog X.w) (k := k) (by simp [PySem.strKind, Value.isStrOf]) hk.sm dd.mapOf ⟨.bl _, H1, I1.tok _, rfl, ?_⟩
  rw [valK_at, Option.isSome_map]
  exact q
end
def tCallL (i : Nat) (f : Addr) (sp : Sp) (Ex : Value → St → Hp → Prop) (t : TA) : TE := fun σ H Q => tVar i σ H fun x H1 => x = .ref f ∧ t σ H1 fun vs H2 => sp vs H2 Q (fun c _ H' => Ex c σ H')
theorem pe_callL {X : Cx} {x : Str} {k j i : Nat} {ps : List Str} {sp : Sp} {e : Expr} {es : List Expr} {t : TA} {p pos : PySem.Pos} {Ex : Value → St → Hp → Prop} {f : Addr} {fd : FuncData} (F : FnOk X.prog X.w X.K X.mg X.base (CXE X.prog X.w) k f fd ps sp) (hk : PySem.W.keepIn X.K (.ref f) = true) (hb : Binds X.K fd ps []) (px : PassesX X Ex) (hr : Room j X.A) (hv : PE X (.Name x p) (tVar i)) (ha : PA X (e :: es) t) (hle : k ≤ j := by decide)
    (he : starEach (e :: es) X.env = (false, eval e X.env) :: starEach es X.env := by rfl) (hpl : (backTo pos (starEach es X.env)).any (·.1) = false := by rfl) : PE X (.Call (.Name x p) (e :: es) [] pos) (tCallL i f sp Ex t) := by
  intro pins s σ H Q I h
  refine wpAny_Call_Name_kw (thn (hv pins s σ H _ I h) fun u s0 ⟨y, H0, I0, ry, ey, h0⟩ => ?_)
  subst ey
  cases (show u = Value.ref f from ry)
  refine PySem.W.callWith_K (h₀ := X.base) I0.ok.mod.kin hk (thn (ha pos pins s0 σ H0 _ I0 h0) fun us s1 ⟨vs, H1, I1, r, q⟩ => ⟨I1.kIn, ?_⟩) he hpl
  have hl : us.length = ps.length := by rw [← r.length]; exact F.len _ _ _ _ q
  have hb1 := hb s1 us I1.kIn (by rw [List.append_nil]; exact hl)
  rw [List.append_nil] at hb1
  refine wpAny_call (codeAny_mono (F.run X.A X.stack s1 H1 ⟨us, []⟩ us vs Q (fun c _ H' => Ex c σ H') (hr.mono hle) I1.env0 hb1 r q) fun r s' hq => ?_)
  cases r with
  | error e => exact px pins σ H1 s1 e s' I1 hq
  | ok fl =>
    cases fl with
    | ret u => exact I1.after hq
    | next => exact False.elim hq
    | brk => exact False.elim hq
    | cont => exact False.elim hq
end L2
namespace L2
open PySem PySem.Spec PyProof.Rows
theorem op_eqDS {X : Cx} {a : Addr} {oe : Obj} {k : Nat} {K : PySem.W.Frag} (hr : Room k X.A) (hK : X.K = K := by rfl) : OpR (X.suite a oe) (compareOp .Eq) (rEqD K fun b => b) := by
  subst hK
  intro pins s σ H x y v u Q I rx ry h
  obtain ⟨dx, dy, hx, hy, cx, cy, hd, q⟩ := h
  obtain ⟨as, ra⟩ := hx.reads I rx
  obtain ⟨bs, rb⟩ := hy.reads I ry
  have hu := hr.units
  exact SeqAt.compareEq_reads ra rb cx cy (by show X.A.units + min dx.depth dy.depth < cLine; omega) ⟨.bl _, H, I, rfl, q⟩
end L2
set_option Elab.async false
set_option linter.all false
set_option maxRecDepth 100000
set_option maxHeartbeats 4000000
set_option Elab.async false
set_option linter.all false
set_option maxRecDepth 100000
set_option maxHeartbeats 4000000
namespace L2
open PySem PySem.Spec PyProof.Rows
section
variable {X : Cx}
section
variable {prog : Program} {w : World} {A : Around} {R : Result → Shared → Prop} {s : Shared}
theorem loop_turns {elt tg iter : Expr} {ifs : List Expr} {scope : Scope} {pos : PySem.Pos} {it acc : Value} {env : Env} {EE : Value → Shared → Prop} (hE : EE = notedBy (model prog w) A env fun e s' => R (.error e) s') (I : Nat → Shared → Prop)
    (turn : ∀ n s, I n s → wpAny (model prog w) A (pyNext it) (fun r z1 => match r with
      | none => R (.ok .next) z1
      | some v => wpAny (model prog w) A (letOwnedTupleGo tg it v) (fun _ y1 => wpAny (model prog w) A (assign tg env v) (fun _ z2 =>
          wpAny (model prog w) A (forIn ifs true fun c r => if r = true then do let ok ← isTrue c env (eval c env); pure (ForInStep.yield ok) else pure (ForInStep.yield r)) (fun ok z3 =>
            if ok = true then wpAny (model prog w) A (eval elt env) (fun x z4 => wpAny (model prog w) A (call (.builtin "list.append") [acc, x]) (fun _ z5 => ∃ m, m < n ∧ I m z5) EE z4) EE z3 else ∃ m, m < n ∧ I m z3) EE z2) EE y1) EE z1) EE s)
    (n : Nat) (h : I n s) : codeAny (model prog w) A (.compLoop (.ListComp elt [⟨tg, iter, ifs, 0⟩] scope pos) 0 it acc env) R s := by
  subst hE
  refine codeAny_loop rfl I (fun n s hI => ?_) n h
  show wpAny _ A ((compTurn (.ListComp elt [⟨tg, iter, ifs, 0⟩] scope pos) 0 it acc env).onRaise (fun x => do noteFrame x env; theTreesLotGoes x)) _ _ s
  refine wpAny_noted ?_
  rw [compTurn_list]
  refine wpAny_bind (wpAny_standAt (wpAny_bind (wpAny_mono (turn n s hI) (fun r z1 q1 => ?_) fun _ _ z => z)))
  cases r with
  | none => exact wpAny_pure q1
  | some v =>
    refine wpAny_bind (wpAny_mono q1 (fun _ y1 q1 => ?_) fun _ _ z => z)
    refine wpAny_bind (wpAny_mono q1 (fun _ z2 q2 => wpAny_bind (wpAny_mono q2 (fun ok z3 q3 => ?_) fun _ _ z => z)) fun _ _ z => z)
    cases ok with
    | false => exact wpAny_pure ⟨rfl, q3⟩
    | true => exact wpAny_bind (wpAny_bind (wpAny_mono q3 (fun x z4 q4 => wpAny_bind (wpAny_mono q4 (fun _ z5 q5 => wpAny_pure (wpAny_pure ⟨rfl, q5⟩)) fun _ _ z => z)) fun _ _ z => z))
end
def cxC (X : Cx) (xs Nb : List Str) (scope : Scope) (cl : List (Str × Addr)) (C : Addr) (s₂ : Shared) (H₂ : Hp) (fp : List Addr) : Cx :=
  { X with N := xs ++ Nb, s₀ := s₂, H₀ := H₂, env := compEnvC scope cl C X.env, outer := X.stack, stack := X.stack, ex := fp, fn := fun _ => false, pn := [], xe := fun _ _ => False }
def InB (X : Cx) (xs Nb : List Str) (scope : Scope) (φ : Cx → Prop) : Prop := ∀ (cl : List (Str × Addr)) (C : Addr) (s₂ : Shared) (H₂ : Hp) (fp : List Addr), φ (cxC X xs Nb scope cl C s₂ H₂ fp)
def CGo (k : Nat) (J : It) (g : TG) (tt : TT) (te : TE) (Q : VK) (σ : St) (H1 : Hp) : Prop := ∃ W : Nat → Nat → List V → Hp → Prop, (∃ m, W 0 m [] H1) ∧ ∀ i m ys H, W i m ys H →
  (J.stop i H ∧ ∀ D, H D = none → Q (.ref D) (upd H D (.lst ys))) ∨ (J.go i H ∧ ys.length < sizeLine ∧ ∃ N : List V → Hp → Prop, (∀ zs H', N zs H' → ∃ m', m' < m ∧ W (i + 1) m' zs H') ∧ ∀ v H' (pre : St), pre.length = k → J.yld i H v H' → g v (pre ++ σ) H' fun σ' H2 => (∃ pre' : St, σ' = pre' ++ σ ∧ pre'.length = k) ∧ tt σ' H2 fun ok H3 => if ok = true then te σ' H3 fun y H4 => N (ys ++ [y]) H4 else N ys H3)
def tCompG (k : Nat) (wi : TI) (g : TG) (tt : TT) (te : TE) : TE := fun σ H Q => wi σ H fun J H1 => CGo k J g tt te Q σ H1
theorem comp_core {elt iter tg : Expr} {xs Nb : List Str} {ifs : List Expr} {scope : Scope} {pos : PySem.Pos} {wi : TI} {g : TG} {tt : TT} {te : TE}
    (hc : X.calm = true) (hi : PI X tg iter wi) (hlen : Nb.length = X.N.length) (hNb : ∀ p ∈ Nb.zip X.N, p.1 = p.2 ∨ scope.names.lookup p.1 = none) (hxN : ∀ y ∈ Nb, scope.names.lookup y ≠ some .local)
    (hg : InB X xs Nb scope fun Y => PG Y tg g) (ht : InB X xs Nb scope fun Y => PIf Y ifs tt) (he : InB X xs Nb scope fun Y => PE Y elt te)
    (hcell : ∀ y ∈ scope.names, y.2 ≠ .cell) (hkind : scope.kind = .function) (hnames : ∀ y ∈ scope.names, y.2 = .local → scope.names.lookup y.1 = some .local)
    (hfree : ∀ y ∈ scope.names, y.2 = .free → X.env.kindOf y.1 = some .cell)
    (hs : ∀ x, foldedSetIterable iter X.env x = pure x) {pos2 : PySem.Pos} {use : Option (Value → Sem Unit)} {QQ : Value → Shared → Prop} {pins : List (Addr × Obj)} {s : Shared} {σ : St} {H : Hp} {Q : VK} (I : Inv X pins σ H s) (h : tCompG xs.length wi g tt te σ H Q)
    (post : ∀ (s2 s4 : Shared) (H2 H4 : Hp) (C D : Addr) (m4 : Str → Option Value), Inv X pins σ H2 s2 → s2.heap.objs.size ≤ C → s4.heap.Ns C m4 → H4 C = none → (∀ h', Heap.SameBut C s4.heap h' → Inv X pins σ H4 { s4 with heap := h' }) → Q (.ref D) H4 → compPost (model X.prog X.w) X.A X.xe use QQ (.ref D) C (.ok .next) s4) :
    wpAny (model X.prog X.w) X.A (comprehension (.ListComp elt [⟨tg, iter, ifs, 0⟩] scope pos) scope X.env pos2 (newList []) false (eval iter X.env) use) QQ X.xe s := by
  obtain ⟨cl, hcl, cl1, cl2⟩ := clos_ok (scope := scope) (env := X.env) (fun y hy hf => I.ok.has y.1 (.inl (hfree y hy hf)))
  refine wpAny_comprehension_free rfl hs hcl hkind hnames (thn (hi pins s σ H _ I h) fun v s1 h1 => thn h1 fun itv s2 h2 => ?_)
  obtain ⟨it, fp, tn, J, H2, e, I2, T, st2, f2, W, ⟨m0, w0⟩, turn⟩ := h2
  subst e
  refine wpAny_newObj_type (wpAny_newFunctionEnv hcell (by intro y hy; simp at hy) (fun h₁ hns₁ hsb₁ => ?_) hkind)
  dsimp only at hns₁ hsb₁ ⊢
  generalize hHp : s2.heap.push { cls := .type "list", dict := none, data := .seq ([] : List Value).toArray } = Hp2 at hns₁ hsb₁ ⊢
  have hC : Hp2.objs.size = s2.heap.objs.size + 1 := by rw [← hHp, Heap.size_push]
  have hDC : s2.heap.objs.size ≠ Hp2.objs.size := by rw [hC]; exact Nat.ne_of_lt (Nat.lt_succ_self _)
  have below : ∀ b, b < s2.heap.objs.size → b ≠ Hp2.objs.size ∧ b ≠ s2.heap.objs.size := fun b hb => ⟨by rw [hC]; exact Nat.ne_of_lt (Nat.lt_succ_of_lt hb), Nat.ne_of_lt hb⟩
  have old : ∀ b o, s2.heap.get? b = some o → h₁.get? b = some o := fun b o e => hsb₁.extBut b o (below b (Heap.lt_size e)).1 (Heap.get?_push_of_some _ (hHp ▸ Heap.get?_push_of_some _ e))
  have hacc : h₁.PlainList s2.heap.objs.size #[] := ⟨_, hsb₁.extBut _ _ hDC (Heap.get?_push_of_some _ (hHp ▸ Heap.get?_push_size _ rfl))⟩
  generalize hY : cxC X xs Nb scope cl Hp2.objs.size s2 H2 fp = Y
  have Yprog : Y.prog = X.prog := by rw [← hY]; rfl
  have fpLt : ∀ b ∈ fp, b < s2.heap.objs.size := fun b hb => by
    obtain ⟨o, e, _⟩ := T.obj _ _ st2 b hb
    exact Heap.lt_size e
  have cellLt : ∀ y c, cl.lookup y = some c → c < s2.heap.objs.size := fun y c hc => by
    obtain ⟨v, q⟩ := I2.cell y c (cl1 y c hc)
    exact q.lt
  have frSub : ∀ b ∈ frs X.stack, b < s2.heap.objs.size := fun b hb => by
    rcases List.mem_cons.mp (I2.stkSub b hb) with z | z
    · rw [z]; exact I2.lt
    · by_cases hlt : b < s2.heap.objs.size
      · exact hlt
      · exact absurd z (I2.nofs (Nat.le_of_not_lt hlt))
  have ok : (cxC X xs Nb scope cl Hp2.objs.size s2 H2 fp).Ok := by
    refine ⟨I2.ok.mod, hkind, I2.ok.glob, I2.ok.blt, (by show s2.heap.objs.size ≤ Hp2.objs.size; omega), fun y z c h1 h2 => I2.ok.inj y z c (cl1 y c h1) (cl1 z c h2), fun y hy => ?_, fun y c hf _ => absurd hf (by intro z; cases z), I2.ok.hd, I2.ok.frames, .inl rfl, fun b hb => ⟨?_, fun y c h1 h2 => ?_⟩, I2.bs, Nat.le_trans I2.ok.bsz I2.sz, fun b o e hb => ?_, fun b hb hm => ?_, I2.stack, I2.stkFree⟩
    · have hy : (scope.names.map fun (n, k) => if (k == NameKind.free && X.env.scope.kind == .function && X.env.kindOf n == some .cell) then (n, NameKind.cell) else (n, k)).lookup y = some .cell ∨ (scope.names.map fun (n, k) => if (k == NameKind.free && X.env.scope.kind == .function && X.env.kindOf n == some .cell) then (n, NameKind.cell) else (n, k)).lookup y = some .free := hy
      have q : scope.names.lookup y = some .free := by
        rcases hy with z | z
        · exact (relabel_kind hcell z (.inl rfl)).1
        · exact (relabel_kind hcell z (.inr rfl)).1
      exact Option.isSome_iff_exists.mp (cl2 y (PySem.mem_of_lookup q))
    · exact (below b (fpLt b hb)).1
    · exact (f2 b hb).2.2.2.2.1 y c (cl1 y c h1) h2
    · rcases (f2 b hb).2.2.2.1 with z | z
      · exact I2.ok.noex b o e z
      · exact absurd (Nat.lt_of_lt_of_le (Heap.lt_size e) (Nat.le_trans I2.ok.bsz z)) (Nat.lt_irrefl _)
    · rcases List.mem_cons.mp (I2.stkSub b hm) with z | z
      · exact (f2 b hb).2.1 z
      · exact (f2 b hb).2.2.1 z
  have fpY : ∀ {H' : Hp} {pl : List (Addr × Obj)}, (∀ b ∈ fp, H' b = none) → (∀ p ∈ pl, p.1 = s2.heap.objs.size) → ∀ b ∈ fp, FpOk Y pl H' b := fun {H' pl} hn hp b hb => by
    rw [← hY]
    refine ⟨hn b hb, (below b (fpLt b hb)).1, fun hm => ?_, .inl hb, fun y c h1 h2 => (f2 b hb).2.2.2.2.1 y c (cl1 y c h1) h2, fun p hm z => ?_⟩
    · rcases List.mem_cons.mp (I2.stkSub b hm) with z | z
      · exact (f2 b hb).2.1 z
      · exact (f2 b hb).2.2.1 z
    · have hm : p ∈ pl := hm
      rw [hp p hm] at z
      exact (below b (fpLt b hb)).2 z.symm
  have HD : H2 s2.heap.objs.size = none := I2.hok.fresh (Nat.le_refl _)
  have HC : H2 Hp2.objs.size = none := I2.hok.fresh (by omega)
  obtain ⟨m2, hns2, hloc2⟩ := I2.loc
  have IY : ∀ tk, Inv (cxC X xs Nb scope cl Hp2.objs.size s2 H2 fp) [] (List.replicate xs.length none ++ σ) H2 { s2 with heap := h₁, toks := tk } := fun tk => by
    refine ⟨ok, rfl, I2.bare, Un.kept old, ⟨_, hns₁, fun i y v h1 h2 h3 => ?_⟩, fun y c h1 => ?_, HC, fun y c h1 => I2.freeC y c (cl1 y c h1), fun p hp => absurd (show p ∈ ([] : List (Addr × Obj)) from hp) (by simp), I2.hok.kept old, (by show (List.replicate xs.length (none : Option V) ++ σ).length = (xs ++ Nb).length; rw [List.length_append, List.length_append, List.length_replicate, hlen, I2.len])⟩
    · have h1 : (xs ++ Nb)[i]? = some y := h1
      by_cases hik : i < xs.length
      · rw [List.getElem?_append_left (by rw [List.length_replicate]; exact hik), List.getElem?_replicate, if_pos hik] at h2
        cases h2
      · rw [List.getElem?_append_right (by omega)] at h1
        rw [List.getElem?_append_right (by rw [List.length_replicate]; omega), List.length_replicate] at h2
        generalize i - xs.length = i at h1 h2
        have h3 : Vis (relabel scope X.env) y := h3
        have key : ∀ k, (k = NameKind.cell ∨ k = NameKind.free) → (relabel scope X.env).names.lookup y = some k → ∃ u, RelV v u ∧ Look (compEnvC scope cl Hp2.objs.size X.env) h₁ (fun x => ([] : List (Str × Value)).reverse.lookup x) y u := fun k hk hl => by
          obtain ⟨q1, _⟩ := relabel_kind hcell hl hk
          have q2 := hfree (y, .free) (PySem.mem_of_lookup q1) rfl
          have h1' : X.N[i]? = some y := by
            have hi' : i < X.N.length := by rw [← hlen]; exact (List.getElem?_eq_some_iff.mp h1).1
            have hz : (Nb.zip X.N)[i]? = some (y, X.N[i]) := by rw [List.getElem?_zip_eq_some]; exact ⟨h1, List.getElem?_eq_getElem hi'⟩
            rcases hNb _ (List.mem_of_getElem? hz) with z | z
            · have z : y = X.N[i] := z
              rw [z]; exact List.getElem?_eq_getElem hi'
            · have z : scope.names.lookup y = none := z
              rw [q1] at z; cases z
          obtain ⟨u, r, l⟩ := hloc2 i y v h1' h2 (.inr (.inl q2))
          refine ⟨u, r, .inr ⟨?_, ?_⟩⟩
          · rcases hk with rfl | rfl
            · exact .inl hl
            · exact .inr hl
          · rcases l with ⟨k1, _⟩ | ⟨_, c, e1, z⟩
            · rw [q2] at k1; cases k1
            · obtain ⟨c', e2⟩ := Option.isSome_iff_exists.mp (cl2 y (PySem.mem_of_lookup q1))
              have e3 := cl1 y c' e2
              rw [e1] at e3
              cases e3
              obtain ⟨o, ho, hd⟩ := z
              exact ⟨c, e2, o, old c o ho, hd⟩
        rcases h3 with h3 | h3 | h3
        ·
          exfalso
          exact hxN y (List.mem_of_getElem? h1) (relabel_local h3)
        · exact key _ (.inl rfl) h3
        · exact key _ (.inr rfl) h3
    · obtain ⟨v, o, ho, hd⟩ := I2.cell y c (cl1 y c h1)
      exact ⟨v, o, old c o ho, hd⟩
  have noErr : ∀ {α : Type} {m : Sem α} {G : α → Shared → Prop} {E' : Value → Shared → Prop} {s' : Shared}, wpAny (model X.prog X.w) X.A m G (fun _ _ => False) s' → wpAny (model X.prog X.w) X.A m G E' s' := fun h => wpAny_mono h (fun _ _ q => q) fun _ _ q => q.elim
  have loop : ∀ (tk : Nat) (R : Result → Shared → Prop), R = compPost (model X.prog X.w) X.A X.xe use QQ (.ref s2.heap.objs.size) Hp2.objs.size →
      codeAny (model X.prog X.w) X.A (.compLoop (.ListComp elt [⟨tg, iter, ifs, 0⟩] scope pos) 0 (.ref it) (.ref s2.heap.objs.size) (compEnvC scope cl Hp2.objs.size X.env)) R { s2 with heap := h₁, toks := tk } := by
    rintro tk R rfl
    refine loop_turns rfl (fun n s' => ∃ i σv H' ys its, σv.length = xs.length ∧ Inv Y [] (σv ++ σ) H' s' ∧ tn i s'.heap ∧ (∀ b ∈ fp, H' b = none) ∧ Vals ys its ∧ ys.length ≤ sizeLine ∧ s'.heap.PlainList s2.heap.objs.size its.toArray ∧ H' s2.heap.objs.size = none ∧ W i n ys H') ?_ m0
      ⟨0, List.replicate xs.length none, H2, [], [], List.length_replicate, hY ▸ IY tk, T.keep _ _ _ st2 fun b _ o e => old b o e, fun b hb => (f2 b hb).1, .nil, Nat.zero_le _, hacc, HD, w0⟩
    rintro n s3 ⟨i, σv, H3, ys, its, lv, I3, st3, fr3, rv, hz, ⟨nn, pl3⟩, HD3, w3⟩
    have I3p : Inv Y [(s2.heap.objs.size, { cls := .type "list", data := .seq its.toArray nn })] (σv ++ σ) H3 s3 := I3.pins_of fun p hp => by
      rw [List.mem_singleton] at hp
      subst hp
      refine ⟨pl3, HD3, ?_, fun hm => ?_, fun v z => by cases z⟩
      · rw [← hY]; exact hDC
      · rw [← hY] at hm
        exact absurd (frSub _ hm) (Nat.lt_irrefl _)
    have pinD : ∀ p ∈ [((s2.heap.objs.size : Addr), ({ cls := .type "list", data := .seq its.toArray nn } : Obj))], p.1 = s2.heap.objs.size := fun p hp => by
      rw [List.mem_singleton] at hp
      rw [hp]
    subst hY
    rcases turn i n ys H3 w3 with ⟨stop, qn⟩ | ⟨go, hlt, NN, hNN, step⟩
    · refine noErr (thn (T.done (cxC X xs Nb scope cl Hp2.objs.size s2 H2 fp) rfl rfl rfl hc i _ s3 _ H3 (fun _ _ => False) I3p (fpY fr3 pinD) st3 stop) fun r s4 ⟨hr, I4⟩ => ?_)
      subst hr
      obtain ⟨m4, hns4, _⟩ := I4.loc
      refine post s2 s4 H2 (upd H3 s2.heap.objs.size (.lst ys)) Hp2.objs.size s2.heap.objs.size m4 I2 (by omega) hns4 (by rw [upd_ne (Ne.symm hDC)]; exact I4.free) (fun h' sb => ?_) (qn _ HD3)
      have pl4 := (I4.pin _ (List.mem_append_right _ List.mem_cons_self)).1
      have up : ∀ b o, b ≠ Hp2.objs.size → s4.heap.get? b = some o → h'.get? b = some o := fun b o hb e => sb.extBut b o hb e
      have base := I4.base
      have HC4 : H3 Hp2.objs.size = none := I4.free
      have neC : ∀ b o, s2.heap.get? b = some o → b ≠ Hp2.objs.size := fun b o e => (below b (Heap.lt_size e)).1
      have neD : ∀ b o, s2.heap.get? b = some o → b ≠ s2.heap.objs.size := fun b o e => (below b (Heap.lt_size e)).2
      have hokN : HOk X.prog X.w (upd H3 s2.heap.objs.size (.lst ys)) h' := fun b u e => by
        by_cases hb : b = s2.heap.objs.size
        · subst hb
          rw [upd_same] at e
          cases e
          exact ⟨hz, its, nn, rv, up _ _ hDC pl4⟩
        · rw [upd_ne hb] at e
          refine (I4.hok b u e).stay (fun c v hc q => up c v ?_ q) (fun c q => by rw [upd_ne (ne_of_none q HD3)]; exact q) fun c xs q => by rw [upd_ne (ne_of_none q HD3)]; exact q
          rcases hc with z | z
          · rw [z]; exact ne_of_none e HC4
          · exact ne_of_none z HC4
      refine I2.call' (s' := { s4 with heap := h' }) (ch := fp) I4.os ⟨fun b o e n hb hx' => up b o (neC b o e) (base.keep b o e n hb hx'), fun b o e n hb hx' => ?_, fun b o e n hx' => ?_, fun b o e hx' => ?_, fun b xs e => ?_, fun b o u e => ?_, fun b ps e => ?_⟩ hokN I4.bare (fun b hb => ?_)
      · obtain ⟨sl, q⟩ := base.slot b o e n hb hx'
        exact ⟨sl, up b _ (neC b o e) q⟩
      · rw [upd_ne (neD b o e)]
        exact base.free b o e n hx'
      · obtain ⟨o', q⟩ := base.there b o e hx'
        exact ⟨o', up b o' (neC b o e) q⟩
      · have q := base.tups b xs e
        rw [upd_ne (ne_of_none q HD3)]; exact q
      · have q := base.frzs b o u e
        rw [upd_ne (ne_of_none q HD3)]; exact q
      · obtain ⟨more, q⟩ := base.tbls b ps e
        exact ⟨more, by rw [upd_ne (ne_of_none q HD3)]; exact q⟩
      · obtain ⟨_, g1, _, g3, g4, g5⟩ := f2 b hb
        exact ⟨g3, g1, g4, g5⟩
    · refine noErr (thn (T.item (cxC X xs Nb scope cl Hp2.objs.size s2 H2 fp) rfl rfl rfl hc i _ s3 _ H3 (fun _ _ => False) I3p (fpY fr3 pinD) st3 go) fun r s4 ⟨u, hr, h4⟩ => ?_)
      subst hr
      refine noErr (thn h4 fun _ s5 ⟨v, H5, I5, r5, y5, st5, fr5⟩ => ?_)
      have I5' := I5.pinned (fpY fr5 pinD) (T.obj _ _ st5)
      have stp := step v H5 σv lv y5
      refine noErr (thn (hg cl Hp2.objs.size s2 H2 fp _ s5 _ H5 v u _ I5' r5 stp) fun _ s6 ⟨σ6, H6, I6, ⟨pre', e6, l6⟩, stp⟩ => ?_)
      subst e6
      have again : ∀ {s7 s8 : Shared} {H7 : Hp} {zs : List V} {ws : List Value} {m' : Nat}, Inv (cxC X xs Nb scope cl Hp2.objs.size s2 H2 fp) ([((s2.heap.objs.size : Addr), ({ cls := .type "list", data := .seq its.toArray nn } : Obj))] ++ pinsAt fp s5.heap) (pre' ++ σ) H7 s7 →
          (∃ h', s8 = { s7 with heap := h' } ∧ (∀ b o, b ≠ s2.heap.objs.size → s7.heap.get? b = some o → h'.get? b = some o) ∧ h'.PlainList s2.heap.objs.size ws.toArray) → Vals zs ws → zs.length ≤ sizeLine → m' < n → W (i + 1) m' zs H7 →
          ∃ m, m < n ∧ ∃ i σv H' ys its, σv.length = xs.length ∧ Inv (cxC X xs Nb scope cl Hp2.objs.size s2 H2 fp) [] (σv ++ σ) H' s8 ∧ tn i s8.heap ∧ (∀ b ∈ fp, H' b = none) ∧ Vals ys its ∧ ys.length ≤ sizeLine ∧ s8.heap.PlainList s2.heap.objs.size its.toArray ∧ H' s2.heap.objs.size = none ∧ W i m ys H' := by
        rintro s7 s8 H7 zs ws m' I7 ⟨h', rfl, up, plw⟩ rz hzz hm w7
        have HD7 : H7 s2.heap.objs.size = none := (I7.pin _ (List.mem_append_right _ (List.mem_append_left _ List.mem_cons_self))).2.1
        have fr7 : ∀ b ∈ fp, H7 b = none := fun b hb => by
          obtain ⟨o, e, d⟩ := T.obj _ _ st5 b hb
          exact (I7.pin (b, o) (List.mem_append_right _ (List.mem_append_right _ (mem_pinsAt hb e)))).2.1
        have I7' : Inv (cxC X xs Nb scope cl Hp2.objs.size s2 H2 fp) [] (pre' ++ σ) H7 s7 := I7.pins_of fun p hp => absurd hp (by simp)
        refine ⟨m', hm, i + 1, pre', H7, zs, ws, l6, ?_, ?_, fr7, rz, hzz, plw, HD7, w7⟩
        · have := I7'.turned (it := s2.heap.objs.size) (h' := h') (t' := s7.toks) up HD7 hDC (.inr (Nat.le_refl _)) (fun y c h1 h2 => absurd (cellLt y c h1) (by rw [h2]; exact Nat.lt_irrefl _)) (fun p hp => absurd (show p ∈ ([] : List (Addr × Obj)) from hp) (by simp))
          exact this
        · refine T.keep _ _ _ st5 fun b hb o e => up b o (below b (fpLt b hb)).2 ?_
          exact (I7.pin (b, o) (List.mem_append_right _ (List.mem_append_right _ (mem_pinsAt hb e)))).1
      refine noErr (thn (ht cl Hp2.objs.size s2 H2 fp _ s6 _ H6 _ I6 stp) fun okb s7 ⟨H7, I7, q7⟩ => ?_)
      have pl7 := (I7.pin _ (List.mem_append_right _ (List.mem_append_left _ List.mem_cons_self))).1
      cases okb with
      | false =>
        rw [if_neg Bool.false_ne_true] at q7 ⊢
        obtain ⟨m', hm, w7⟩ := hNN _ _ q7
        exact again I7 ⟨s7.heap, rfl, fun _ _ _ e => e, nn, pl7⟩ rv hz hm w7
      | true =>
        rw [if_pos rfl] at q7 ⊢
        refine noErr (thn (he cl Hp2.objs.size s2 H2 fp _ s7 _ H7 _ I7 q7) fun w' s8 ⟨y, H8, I8, r8, q8⟩ => ?_)
        obtain ⟨m', hm, w8⟩ := hNN _ _ q8
        have pl8 := (I8.pin _ (List.mem_append_right _ (List.mem_append_left _ List.mem_cons_self))).1
        refine wpAny_list_append_plain (hsz := by have := rv.length; simp only [List.size_toArray]; omega) ⟨nn, pl8⟩ fun h9 pl9 sb9 => ?_
        refine again I8 ⟨h9, rfl, fun b o hb e => sb9.extBut b o hb e, ?_⟩ (rv.append (.cons r8 .nil)) (by rw [List.length_append, List.length_singleton]; omega) hm w8
        have e9 : its.toArray.push w' = (its ++ [w']).toArray := by simp
        rw [← e9]
        exact pl9
  refine codeAny_compStart_list (loop _ _ rfl) (noErr (T.self _ 0 _ _ _ (T.keep _ _ _ st2 fun b _ o e => old b o e) (loop _ _ rfl)))
theorem pe_compG {elt iter tg : Expr} {xs Nb : List Str} {ifs : List Expr} {scope : Scope} {pos : PySem.Pos} {wi : TI} {g : TG} {tt : TT} {te : TE}
    (hc : X.calm = true) (hi : PI X tg iter wi) (hlen : Nb.length = X.N.length) (hNb : ∀ p ∈ Nb.zip X.N, p.1 = p.2 ∨ scope.names.lookup p.1 = none) (hxN : ∀ y ∈ Nb, scope.names.lookup y ≠ some .local)
    (hg : InB X xs Nb scope fun Y => PG Y tg g) (ht : InB X xs Nb scope fun Y => PIf Y ifs tt) (he : InB X xs Nb scope fun Y => PE Y elt te)
    (hcell : ∀ y ∈ scope.names, y.2 ≠ .cell) (hkind : scope.kind = .function) (hnames : ∀ y ∈ scope.names, y.2 = .local → scope.names.lookup y.1 = some .local)
    (hfree : ∀ y ∈ scope.names, y.2 = .free → X.env.kindOf y.1 = some .cell)
    (hs : ∀ x, foldedSetIterable iter X.env x = pure x := by intro _; rfl) :
    PE X (.ListComp elt [⟨tg, iter, ifs, 0⟩] scope pos) (tCompG xs.length wi g tt te) := by
  intro pins s σ H Q I h
  rw [eval_ListComp]
  exact comp_core (use := none) (QQ := EP X pins σ Q) hc hi hlen hNb hxN hg ht he hcell hkind hnames hfree hs I h fun s2 s4 H2 H4 C D m4 _ _ hn _ IX q => ⟨m4, hn, fun h' sb => ⟨.ref D, H4, IX h' sb, rfl, q⟩⟩
theorem compL {K : PySem.W.Frag} {k : Nat} {a : Addr} {xs : List V} {g : TG} {tt : TT} {te : TE} {Q : VK} {σ : St} {H : Hp} (Pv : Nat → List V → Hp → Prop) (h0 : Pv 0 [] H) (hb : xs.length ≤ 1000) (hz : ∀ i ys H, Pv i ys H → ys.length ≤ i) (hl : ∀ i ys H, i ≤ xs.length → Pv i ys H → SqL K H a xs)
    (hs : ∀ i x ys H (pre : St), pre.length = k → xs[i]? = some x → Pv i ys H → g x (pre ++ σ) H fun σ' H2 => (∃ pre' : St, σ' = pre' ++ σ ∧ pre'.length = k) ∧ tt σ' H2 fun ok H3 => if ok = true then te σ' H3 fun y H4 => Pv (i + 1) (ys ++ [y]) H4 else Pv (i + 1) ys H3) (hd : ∀ ys H, Pv xs.length ys H → ∀ D, H D = none → Q (.ref D) (upd H D (.lst ys))) : CGo k (Itl K a) g tt te Q σ H := by
  refine ⟨fun i m ys H => m = xs.length - i ∧ i ≤ xs.length ∧ Pv i ys H, ⟨xs.length, by simp, Nat.zero_le _, h0⟩, ?_⟩
  rintro i m ys H ⟨rfl, hi, p⟩
  have q := hl i ys H hi p
  by_cases hlt : i < xs.length
  · refine .inr ⟨⟨xs, xs[i], q, by simp [hlt]⟩, Nat.lt_of_le_of_lt (hz i ys H p) (small1000 (by omega)), Pv (i + 1), fun zs H' p' => ⟨xs.length - (i + 1), by omega, rfl, hlt, p'⟩, fun x H' pre hp y => ?_⟩
    obtain ⟨e, y⟩ := y
    subst e
    exact hs i x ys _ pre hp (y xs q) p
  · have e : i = xs.length := by omega
    subst e
    exact .inl ⟨⟨xs, q, Nat.le_refl _⟩, hd ys H p⟩
theorem compR {k : Nat} {lo : Int} {n : Nat} {g : TG} {tt : TT} {te : TE} {Q : VK} {σ : St} {H : Hp} (Pv : Nat → List V → Hp → Prop) (h0 : Pv 0 [] H) (hb : n ≤ 1000) (hz : ∀ i ys H, Pv i ys H → ys.length ≤ i)
    (hs : ∀ (i : Nat) ys H (pre : St), pre.length = k → i < n → Pv i ys H → g (.int (lo + i)) (pre ++ σ) H fun σ' H2 => (∃ pre' : St, σ' = pre' ++ σ ∧ pre'.length = k) ∧ tt σ' H2 fun ok H3 => if ok = true then te σ' H3 fun y H4 => Pv (i + 1) (ys ++ [y]) H4 else Pv (i + 1) ys H3) (hd : ∀ ys H, Pv n ys H → ∀ D, H D = none → Q (.ref D) (upd H D (.lst ys))) : CGo k (Itr lo n) g tt te Q σ H := by
  refine ⟨fun i m ys H => m = n - i ∧ i ≤ n ∧ Pv i ys H, ⟨n, by simp, Nat.zero_le _, h0⟩, ?_⟩
  rintro i m ys H ⟨rfl, hi, p⟩
  by_cases hlt : i < n
  · refine .inr ⟨hlt, Nat.lt_of_le_of_lt (hz i ys H p) (small1000 (by omega)), Pv (i + 1), fun zs H' p' => ⟨n - (i + 1), by omega, rfl, hlt, p'⟩, fun x H' pre hp y => ?_⟩
    obtain ⟨e, y⟩ := y
    subst e y
    exact hs i ys _ pre hp hlt p
  · have e : i = n := by omega
    subst e
    exact .inl ⟨Nat.le_refl _, hd ys H p⟩
end
end L2
set_option Elab.async false
set_option linter.all false
set_option maxRecDepth 100000
set_option maxHeartbeats 4000000
namespace L2
open PySem PySem.Spec PyProof.Rows
section
variable {X : Cx}
section
variable {prog : Program} {w : World} {A : Around} {R : Result → Shared → Prop} {s : Shared}
abbrev e2 (elt tg iter : Expr) (ifs : List Expr) (tg2 iter2 : Expr) (ifs2 : List Expr) (scope : Scope) (pos : PySem.Pos) : Expr := .ListComp elt [⟨tg, iter, ifs, 0⟩, ⟨tg2, iter2, ifs2, 0⟩] scope pos
end
end
end L2
set_option Elab.async false
set_option linter.all false
set_option maxRecDepth 100000
set_option maxHeartbeats 4000000
namespace L2
open PySem PySem.Spec PyProof.Rows
section
variable {X : Cx}
theorem pg_tupK {K : PySem.W.Frag} {es : List Expr} {k : Nat} {t : TGs} {n : Nat} {pos : PySem.Pos} (hc : X.calm = true) (h : PGs X es t) (hK : X.K = K := by rfl)
    (hn : (assignEach es X.env).length = n := by rfl) (hst : (assignEach es X.env).findIdx? (·.1) = none := by rfl) : PG X (.Tuple es k pos) (gTup K n t) := by
  subst hK; exact pg_tup hc h hn hst
end
def dT (ns : List Int) : PyData := .tuple (ns.map .int)
def dE (e : Int × List Int) : PyData := .tuple [.int e.1, dT e.2]
def dL (L : List (Int × List Int)) : PyData := .list (L.map dE)
theorem eqvAll_ints : ∀ ns ms : List Int, PyData.eqvAll (ns.map .int) (ms.map .int) = decide (ns = ms)
  | [], [] => rfl
  | [], _ :: _ => rfl
  | _ :: _, [] => rfl
  | n :: ns, m :: ms => by
    show (PyData.eqv (.int n) (.int m) && PyData.eqvAll (ns.map .int) (ms.map .int)) = _
    rw [eqvAll_ints ns ms]
    show ((n == m) && _) = _
    by_cases h : n = m
    · subst h; by_cases h2 : ns = ms <;> simp [h2]
    · simp [h]
theorem eqv_dT (ns ms : List Int) : PyData.eqv (dT ns) (dT ms) = decide (ns = ms) := eqvAll_ints ns ms
theorem eqv_dE (a b : Int × List Int) : PyData.eqv (dE a) (dE b) = decide (a = b) := by
  show ((a.1 == b.1) && (PyData.eqv (dT a.2) (dT b.2) && true)) = _
  rw [eqv_dT]
  obtain ⟨a1, a2⟩ := a
  obtain ⟨b1, b2⟩ := b
  by_cases h : a1 = b1
  · subst h; by_cases h2 : a2 = b2 <;> simp [h2]
  · simp [h]
theorem eqvAll_dE : ∀ L M : List (Int × List Int), PyData.eqvAll (L.map dE) (M.map dE) = decide (L = M)
  | [], [] => rfl
  | [], _ :: _ => rfl
  | _ :: _, [] => rfl
  | a :: L, b :: M => by
    show (PyData.eqv (dE a) (dE b) && PyData.eqvAll (L.map dE) (M.map dE)) = _
    rw [eqvAll_dE L M, eqv_dE]
    by_cases h : a = b
    · subst h; by_cases h2 : L = M <;> simp [h2]
    · simp [h]
theorem eqv_dL (L M : List (Int × List Int)) : PyData.eqv (dL L) (dL M) = decide (L = M) := eqvAll_dE L M
theorem lay_ints : ∀ ns : List Int, PyData.canLayAll0 (ns.map .int) = true
  | [] => rfl
  | _ :: ns => by show (true && _) = true; rw [lay_ints ns]; rfl
theorem lay_dT (ns : List Int) : (dT ns).canLay0 = true := lay_ints ns
theorem lay_dE (e : Int × List Int) : (dE e).canLay0 = true := by show (true && ((dT e.2).canLay0 && true)) = true; rw [lay_dT]; rfl
theorem lay_dEs : ∀ L : List (Int × List Int), PyData.canLayAll0 (L.map dE) = true
  | [] => rfl
  | e :: L => by show ((dE e).canLay0 && _) = true; rw [lay_dE, lay_dEs L]; rfl
theorem lay_dL (L : List (Int × List Int)) : (dL L).canLay0 = true := lay_dEs L
theorem dep_ints : ∀ ns : List Int, PyData.depthAll (ns.map .int) = 0
  | [] => rfl
  | _ :: ns => by show max 0 _ = 0; rw [dep_ints ns]; rfl
theorem dep_dT (ns : List Int) : (dT ns).depth = 1 := by show PyData.depthAll _ + 1 = 1; rw [dep_ints]
theorem dep_dE (e : Int × List Int) : (dE e).depth = 2 := by show max 0 (max (dT e.2).depth 0) + 1 = 2; rw [dep_dT]; rfl
theorem dep_dEs : ∀ L : List (Int × List Int), PyData.depthAll (L.map dE) ≤ 2
  | [] => Nat.zero_le _
  | e :: L => by show max (dE e).depth _ ≤ 2; rw [dep_dE]; have := dep_dEs L; omega
theorem dep_dL (L : List (Int × List Int)) : (dL L).depth ≤ 60 := by show PyData.depthAll _ + 1 ≤ 60; have := dep_dEs L; omega
def Tups (H H' : Hp) : Prop := ∀ b ys, H b = some (.tup ys) → H' b = some (.tup ys)
theorem Tups.refl (H : Hp) : Tups H H := fun _ _ h => h
theorem Tups.trans {H H1 H2 : Hp} (a : Tups H H1) (b : Tups H1 H2) : Tups H H2 := fun c y h => b c y (a c y h)
theorem Tups.new {H H1 : Hp} {p : Addr} {o : HO} (a : Tups H H1) (h : H1 p = none) : Tups H (upd H1 p o) := fun c y e => by
  have := a c y e
  rw [upd_ne (ne_of_none this h)]; exact this
theorem Tups.lst {H H1 : Hp} {p : Addr} {xs ys : List V} (a : Tups H H1) (h : H1 p = some (.lst xs)) : Tups H (upd H1 p (.lst ys)) := fun c y e => by
  have := a c y e
  have hn : c ≠ p := fun z => by rw [z, h] at this; cases this
  rw [upd_ne hn]; exact this
theorem Same.tups {H H' : Hp} (s : Same H H') : Tups H H' := fun b ys e => s b _ e
def Sh (H : Hp) (x : V) (e : Int × List Int) : Prop := ∃ p w, x = .ref p ∧ H p = some (.tup [.int e.1, .ref w]) ∧ H w = some (.tup (e.2.map V.int))
def Wg (H : Hp) (xs : List V) (L : List (Int × List Int)) : Prop := xs.length = L.length ∧ ∀ (i : Nat) (x : V) (e : Int × List Int), xs[i]? = some x → L[i]? = some e → Sh H x e
theorem Sh.up {H H' : Hp} {x : V} {e : Int × List Int} (h : Sh H x e) (t : Tups H H') : Sh H' x e := by
  obtain ⟨p, w, rfl, h1, h2⟩ := h
  exact ⟨p, w, rfl, t _ _ h1, t _ _ h2⟩
theorem Wg.up {H H' : Hp} {xs : List V} {L : List (Int × List Int)} (h : Wg H xs L) (t : Tups H H') : Wg H' xs L := ⟨h.1, fun i x e h1 h2 => (h.2 i x e h1 h2).up t⟩
theorem Wg.nil (H : Hp) : Wg H [] [] := ⟨rfl, fun i x e h _ => by cases h⟩
theorem Wg.snoc {H : Hp} {xs : List V} {L : List (Int × List Int)} {x : V} {e : Int × List Int} (h : Wg H xs L) (s : Sh H x e) : Wg H (xs ++ [x]) (L ++ [e]) := by
  refine ⟨by simp [h.1], fun i y d h1 h2 => ?_⟩
  by_cases hi : i < xs.length
  · rw [List.getElem?_append_left hi] at h1
    rw [List.getElem?_append_left (by rw [← h.1]; exact hi)] at h2
    exact h.2 i y d h1 h2
  · have hl : i < (xs ++ [x]).length := (List.getElem?_eq_some_iff.mp h1).1
    rw [List.length_append, List.length_singleton] at hl
    have e0 : i = xs.length := by omega
    subst e0
    rw [List.getElem?_append_right (Nat.le_refl _), Nat.sub_self] at h1
    rw [List.getElem?_append_right (by rw [h.1]; exact Nat.le_refl _), h.1, Nat.sub_self] at h2
    cases h1
    cases h2
    exact s
theorem Wg.get {H : Hp} {xs : List V} {L : List (Int × List Int)} {i : Nat} {e : Int × List Int} (h : Wg H xs L) (he : L[i]? = some e) : ∃ x, xs[i]? = some x ∧ Sh H x e := by
  have hi : i < xs.length := by rw [h.1]; exact (List.getElem?_eq_some_iff.mp he).1
  exact ⟨xs[i], List.getElem?_eq_getElem hi, h.2 i _ e (List.getElem?_eq_getElem hi) he⟩
theorem Wg.at' {H : Hp} {xs : List V} {L : List (Int × List Int)} {i : Nat} {x : V} (h : Wg H xs L) (he : xs[i]? = some x) : ∃ e, L[i]? = some e ∧ Sh H x e := by
  have hi : i < L.length := by rw [← h.1]; exact (List.getElem?_eq_some_iff.mp he).1
  exact ⟨L[i], List.getElem?_eq_getElem hi, h.2 i _ _ he (List.getElem?_eq_getElem hi)⟩
theorem Wg.pop {H : Hp} {xs : List V} {L : List (Int × List Int)} (h : Wg H xs L) : Wg H xs.dropLast L.dropLast := by
  refine ⟨by rw [List.length_dropLast, List.length_dropLast, h.1], fun i x e h1 h2 => ?_⟩
  rw [List.getElem?_dropLast] at h1 h2
  split at h1
  · split at h2
    · exact h.2 i x e h1 h2
    · cases h2
  · cases h1
theorem di_ints {K : PySem.W.Frag} {H : Hp} {w : Addr} {ns : List Int} (h : H w = some (.tup (ns.map V.int))) : DI K H (.ref w) (dT ns) := by
  refine .tup (SqT.of h) (by simp) fun i x d h1 h2 => ?_
  rw [List.getElem?_map] at h1 h2
  cases z : ns[i]? with
  | none => rw [z] at h1; cases h1
  | some n =>
    rw [z] at h1 h2
    cases h1
    cases h2
    exact .int _
theorem Sh.di {K : PySem.W.Frag} {H : Hp} {x : V} {e : Int × List Int} (h : Sh H x e) : DI K H x (dE e) := by
  obtain ⟨p, w, rfl, h1, h2⟩ := h
  refine .tup (SqT.of h1) rfl fun i y d a b => ?_
  rcases i with _ | _ | i
  · cases a; cases b; exact .int _
  · cases a; cases b; exact di_ints h2
  · cases a
theorem Wg.di {K : PySem.W.Frag} {H : Hp} {a : Addr} {xs : List V} {L : List (Int × List Int)} (h : Wg H xs L) (ha : SqL K H a xs) : DI K H (.ref a) (dL L) := by
  refine .lst ha (by rw [List.length_map]; exact h.1) fun i x d h1 h2 => ?_
  rw [List.getElem?_map] at h2
  cases z : L[i]? with
  | none => rw [z] at h2; cases h2
  | some e =>
    rw [z] at h2
    cases h2
    exact (h.2 i x e h1 z).di
theorem di_nil {K : PySem.W.Frag} {H : Hp} {a : Addr} (ha : SqL K H a []) : DI K H (.ref a) (dL []) := .lst ha rfl fun i x d h1 _ => by cases h1
def shStep (acc : List (Int × List Int)) (e : Int × List Int) : List (Int × List Int) :=
  if 0 < e.1 then match acc.getLast? with
    | some l => if l.2 = e.2 then acc.dropLast ++ [(e.1 + l.1, e.2)] else acc ++ [e]
    | none => acc ++ [e]
  else acc
def shape (L : List (Int × List Int)) : List (Int × List Int) := L.foldl shStep []
def tot (L : List (Int × List Int)) : Int := (L.map (·.1)).sum
theorem tot_nil : tot [] = 0 := rfl
theorem tot_cons (e : Int × List Int) (L : List (Int × List Int)) : tot (e :: L) = e.1 + tot L := by unfold tot; simp
theorem tot_append (L M : List (Int × List Int)) : tot (L ++ M) = tot L + tot M := by unfold tot; simp
theorem take_succ' {α : Type} {L : List α} {i : Nat} {e : α} (h : L[i]? = some e) : L.take (i + 1) = L.take i ++ [e] := by
  rw [List.take_add_one, h]; rfl
theorem tot_succ {L : List (Int × List Int)} {i : Nat} {e : Int × List Int} (h : L[i]? = some e) : tot (L.take (i + 1)) = tot (L.take i) + e.1 := by
  rw [take_succ' h, tot_append, tot_cons, tot_nil]; omega
theorem shape_succ {L : List (Int × List Int)} {i : Nat} {e : Int × List Int} (h : L[i]? = some e) : shape (L.take (i + 1)) = shStep (shape (L.take i)) e := by
  unfold shape
  rw [take_succ' h, List.foldl_append]; rfl
theorem drop_get {α : Type} {L : List α} {l : α} (h : L.getLast? = some l) : L = L.dropLast ++ [l] := by
  have hne : L ≠ [] := by intro z; rw [z] at h; cases h
  rw [List.getLast?_eq_some_getLast hne] at h
  cases h
  exact (List.dropLast_concat_getLast hne).symm
end L2
set_option Elab.async false
set_option linter.all false
set_option maxRecDepth 100000
set_option maxHeartbeats 4000000
namespace L2
open PySem PySem.Spec PyProof.Rows
def Norm : List (Int × List Int) → Prop
  | [] => True
  | [e] => 0 < e.1
  | e :: d :: r => 0 < e.1 ∧ e.2 ≠ d.2 ∧ Norm (d :: r)
theorem Norm.snoc : ∀ {L : List (Int × List Int)} {e : Int × List Int}, Norm L → 0 < e.1 → (∀ l, L.getLast? = some l → l.2 ≠ e.2) → Norm (L ++ [e])
  | [], e, _, h, _ => h
  | [d], e, hd, h, k => ⟨hd, k d rfl, h⟩
  | d :: d' :: r, e, hd, h, k => by
    refine ⟨hd.1, hd.2.1, ?_⟩
    exact Norm.snoc (L := d' :: r) hd.2.2 h fun l hl => k l (by rw [List.getLast?_cons_cons]; exact hl)
theorem Norm.init : ∀ {L : List (Int × List Int)} {e : Int × List Int}, Norm (L ++ [e]) → Norm L ∧ 0 < e.1 ∧ ∀ l, L.getLast? = some l → l.2 ≠ e.2
  | [], e, h => ⟨trivial, h, fun l z => by cases z⟩
  | [d], e, h => ⟨h.1, h.2.2, fun l z => by cases z; exact h.2.1⟩
  | d :: d' :: r, e, h => by
    obtain ⟨a, b, c⟩ := Norm.init (L := d' :: r) h.2.2
    exact ⟨⟨h.1, h.2.1, a⟩, b, fun l z => c l (by rw [List.getLast?_cons_cons] at z; exact z)⟩
theorem Norm.pos : ∀ {L : List (Int × List Int)}, Norm L → ∀ e ∈ L, 0 < e.1
  | [], _, e, h => by cases h
  | [d], hd, e, h => by rw [List.mem_singleton] at h; subst h; exact hd
  | d :: d' :: r, hd, e, h => by
    rcases List.mem_cons.mp h with z | z
    · subst z; exact hd.1
    · exact Norm.pos (L := d' :: r) hd.2.2 e z
theorem shStep_norm {acc : List (Int × List Int)} {e : Int × List Int} (h : Norm acc) : Norm (shStep acc e) := by
  unfold shStep
  split
  · rename_i hp
    split
    · rename_i l hl
      have e0 := drop_get hl
      split
      · rename_i he
        rw [e0] at h
        obtain ⟨a, b, c⟩ := h.init
        refine a.snoc (by show 0 < e.1 + l.1; omega) fun d hd => ?_
        have := c d hd
        rw [he] at this; exact this
      · rename_i he
        exact h.snoc hp fun d hd => by rw [hl] at hd; cases hd; exact he
    · rename_i hl
      exact h.snoc hp fun d hd => by rw [hl] at hd; cases hd
  · exact h
theorem shape_norm (L : List (Int × List Int)) : Norm (shape L) := by
  have key : ∀ (L acc : List (Int × List Int)), Norm acc → Norm (L.foldl shStep acc) := by
    intro L
    induction L with
    | nil => intro acc h; exact h
    | cons e L ih => intro acc h; rw [List.foldl_cons]; exact ih _ (shStep_norm h)
  exact key L [] trivial
theorem shape_of_norm {L : List (Int × List Int)} (h : Norm L) : shape L = L := by
  have key : ∀ n, n ≤ L.length → shape (L.take n) = L.take n ∧ Norm (L.take n) := by
    have dec : ∀ m, m ≤ L.length → Norm (L.take (L.length - m)) := by
      intro m
      induction m with
      | zero => intro _; rw [Nat.sub_zero, List.take_length]; exact h
      | succ m ih =>
        intro hm
        have h1 := ih (by omega)
        have e : L.length - m = (L.length - (m + 1)) + 1 := by omega
        rw [e, take_succ' (List.getElem?_eq_getElem (by omega : L.length - (m + 1) < L.length))] at h1
        exact h1.init.1
    intro n hn
    have nm : Norm (L.take n) := by have := dec (L.length - n) (by omega); rwa [show L.length - (L.length - n) = n by omega] at this
    refine ⟨?_, nm⟩
    induction n with
    | zero => rfl
    | succ n ih =>
      have hlt : n < L.length := by omega
      have e1 := List.getElem?_eq_getElem hlt
      have nm2 := nm
      rw [take_succ' e1] at nm2
      obtain ⟨a, b, c⟩ := nm2.init
      rw [shape_succ e1, ih (by omega) a, take_succ' e1]
      unfold shStep
      rw [if_pos b]
      cases hl : (L.take n).getLast? with
      | none => rfl
      | some l => dsimp only; rw [if_neg (c l hl)]
  have := (key L.length (Nat.le_refl _)).1
  rw [List.take_length] at this
  exact this
theorem set_last {α : Type} {L : List α} {l v : α} (h : L.getLast? = some l) : L.set (L.length - 1) v = L.dropLast ++ [v] := by
  have e := drop_get h
  have hl : L.length - 1 = L.dropLast.length := by rw [List.length_dropLast]
  rw [hl]
  conv => lhs; rw [e]
  rw [List.dropLast_concat, List.set_append_right _ _ (Nat.le_refl _), Nat.sub_self]
  rfl
end L2
set_option Elab.async false
set_option linter.all false
set_option maxRecDepth 100000
set_option maxHeartbeats 4000000
set_option Elab.async false
set_option linter.all false
set_option maxRecDepth 100000
set_option maxHeartbeats 4000000
namespace L2
abbrev WL := List (Int × List Int)
def mn (i j : Int) : Int := if j < i then j else i
def mx (i j : Int) : Int := if j > i then j else i
theorem mn_le (i j : Int) : mn i j ≤ i ∧ mn i j ≤ j ∧ (mn i j = i ∨ mn i j = j) := by unfold mn; split <;> omega
theorem mx_ge (i j : Int) : i ≤ mx i j ∧ j ≤ mx i j ∧ (mx i j = i ∨ mx i j = j) := by unfold mx; split <;> omega
def piece (b e o m : Int) (w : List Int) : WL := if o < e ∧ b < o + m then [(mn (o + m) e - mx o b, w)] else []
def cutP (b e : Int) : Int → WL → WL
  | _, [] => []
  | o, x :: r => piece b e o x.1 x.2 ++ cutP b e (o + x.1) r
def takeF : Int → WL → WL
  | _, [] => []
  | rm, x :: r => (if 0 < rm then [(mn x.1 rm, x.2)] else []) ++ takeF (rm - mn x.1 rm) r
def dropF : Int → WL → WL
  | _, [] => []
  | a, x :: r => if a ≤ 0 then x :: r else if a < x.1 then (x.1 - a, x.2) :: r else dropF (a - x.1) r
def Pos (L : WL) : Prop := ∀ e ∈ L, 0 < e.1
theorem Pos.tail {x : Int × List Int} {r : WL} (h : Pos (x :: r)) : 0 < x.1 ∧ Pos r := ⟨h x List.mem_cons_self, fun e he => h e (List.mem_cons_of_mem _ he)⟩
theorem cutP_snoc (b e : Int) : ∀ (M : WL) (o : Int) (x : Int × List Int), cutP b e o (M ++ [x]) = cutP b e o M ++ piece b e (o + tot M) x.1 x.2
  | [], o, x => by
    show piece b e o x.1 x.2 ++ [] = [] ++ piece b e (o + tot []) x.1 x.2
    rw [tot_nil, Int.add_zero, List.append_nil, List.nil_append]
  | y :: M, o, x => by
    show piece b e o y.1 y.2 ++ cutP b e (o + y.1) (M ++ [x]) = (piece b e o y.1 y.2 ++ cutP b e (o + y.1) M) ++ piece b e (o + tot (y :: M)) x.1 x.2
    rw [cutP_snoc b e M (o + y.1) x, tot_cons, List.append_assoc, Int.add_assoc]
theorem piece_len (b e o m : Int) (w : List Int) : (piece b e o m w).length ≤ 1 := by unfold piece; split <;> simp
theorem cutP_len (b e : Int) : ∀ (L : WL) (o : Int), (cutP b e o L).length ≤ L.length
  | [], _ => Nat.le_refl _
  | x :: r, o => by
    show (piece b e o x.1 x.2 ++ cutP b e (o + x.1) r).length ≤ r.length + 1
    rw [List.length_append]
    have := piece_len b e o x.1 x.2
    have := cutP_len b e r (o + x.1)
    omega
theorem takeF_neg : ∀ {R : WL} {rm : Int}, Pos R → rm ≤ 0 → takeF rm R = []
  | [], _, _, _ => rfl
  | x :: r, rm, h, h0 => by
    obtain ⟨hx, hr⟩ := h.tail
    show (if 0 < rm then [(mn x.1 rm, x.2)] else []) ++ takeF (rm - mn x.1 rm) r = []
    rw [if_neg (by omega), List.nil_append]
    have := mn_le x.1 rm
    exact takeF_neg hr (by omega)
theorem cutP_take {b e : Int} : ∀ {R : WL} {o : Int}, Pos R → b ≤ o → cutP b e o R = takeF (e - o) R
  | [], _, _, _ => rfl
  | x :: r, o, h, hb => by
    obtain ⟨hx, hr⟩ := h.tail
    show piece b e o x.1 x.2 ++ cutP b e (o + x.1) r = (if 0 < e - o then [(mn x.1 (e - o), x.2)] else []) ++ takeF (e - o - mn x.1 (e - o)) r
    rw [cutP_take hr (by omega)]
    unfold piece mn mx
    by_cases h1 : o < e
    · rw [if_pos (show o < e ∧ b < o + x.1 from ⟨h1, by omega⟩), if_pos (show 0 < e - o by omega), if_neg (show ¬ b > o by omega)]
      by_cases h2 : e < o + x.1
      · rw [if_pos h2, if_pos (show e - o < x.1 by omega), takeF_neg hr (by omega), takeF_neg hr (by omega)]
      · rw [if_neg h2, if_neg (show ¬ e - o < x.1 by omega)]
        rw [show o + x.1 - o = x.1 by omega, show e - (o + x.1) = e - o - x.1 by omega]
    · rw [if_neg (show ¬ (o < e ∧ b < o + x.1) by omega), if_neg (show ¬ 0 < e - o by omega), if_pos (show e - o < x.1 by omega), takeF_neg hr (by omega), takeF_neg hr (by omega)]
def posB (e : Int × List Int) : Bool := decide (0 < e.1)
theorem takeF_pos : ∀ {R : WL} {rm : Int}, Pos R → Pos (takeF rm R)
  | [], _, _ => fun e he => by cases he
  | x :: r, rm, h => by
    obtain ⟨hx, hr⟩ := h.tail
    intro e he
    have he : e ∈ (if 0 < rm then [(mn x.1 rm, x.2)] else []) ++ takeF (rm - mn x.1 rm) r := he
    rcases List.mem_append.mp he with z | z
    · split at z
      · rw [List.mem_singleton] at z
        subst z
        have := mn_le x.1 rm
        show 0 < mn x.1 rm
        omega
      · cases z
    · exact takeF_pos hr e z
theorem filter_pos {L : WL} (h : Pos L) : L.filter posB = L := List.filter_eq_self.mpr fun e he => decide_eq_true (h e he)
theorem cutP_drop {b e : Int} (hbe : b ≤ e) : ∀ {R : WL} {o : Int}, Pos R → o ≤ b → (cutP b e o R).filter posB = takeF (e - b) (dropF (b - o) R)
  | [], _, _, _ => rfl
  | x :: r, o, h, hb => by
    obtain ⟨hx, hr⟩ := h.tail
    by_cases h0 : o = b
    · subst h0
      rw [cutP_take h (Int.le_refl _), filter_pos (takeF_pos h)]
      show _ = takeF (e - o) (if o - o ≤ 0 then x :: r else _)
      rw [if_pos (by omega)]
    · show (piece b e o x.1 x.2 ++ cutP b e (o + x.1) r).filter posB = takeF (e - b) (if b - o ≤ 0 then x :: r else if b - o < x.1 then (x.1 - (b - o), x.2) :: r else dropF (b - o - x.1) r)
      rw [if_neg (by omega)]
      by_cases h1 : b - o < x.1
      · rw [if_pos h1, List.filter_append, cutP_take hr (by omega), filter_pos (takeF_pos hr)]
        show _ = (if 0 < e - b then [(mn (x.1 - (b - o)) (e - b), x.2)] else []) ++ takeF (e - b - mn (x.1 - (b - o)) (e - b)) r
        unfold piece mn mx
        rw [if_pos (show o < e ∧ b < o + x.1 from ⟨by omega, by omega⟩), if_pos (show b > o by omega)]
        by_cases h2 : b < e
        · rw [if_pos (show 0 < e - b by omega)]
          by_cases h3 : e < o + x.1
          · rw [if_pos h3, if_pos (show e - b < x.1 - (b - o) by omega), takeF_neg hr (by omega), takeF_neg hr (by omega)]
            rw [List.filter_cons_of_pos (by unfold posB; exact decide_eq_true (by show 0 < e - b; omega))]
            rfl
          · rw [if_neg h3, if_neg (show ¬ e - b < x.1 - (b - o) by omega)]
            rw [List.filter_cons_of_pos (by unfold posB; exact decide_eq_true (by show 0 < o + x.1 - b; omega))]
            rw [show o + x.1 - b = x.1 - (b - o) by omega, show e - (o + x.1) = e - b - (x.1 - (b - o)) by omega]
            rfl
        · rw [if_neg (show ¬ 0 < e - b by omega), if_pos (show e < o + x.1 by omega), if_pos (show e - b < x.1 - (b - o) by omega), takeF_neg hr (by omega), takeF_neg hr (by omega)]
          rw [List.filter_cons_of_neg (by unfold posB; simp; omega)]
          rfl
      · rw [if_neg h1]
        have hp : piece b e o x.1 x.2 = [] := by unfold piece; rw [if_neg (by omega)]
        rw [hp, List.nil_append, cutP_drop hbe hr (by omega), show b - (o + x.1) = b - o - x.1 by omega]
theorem shape_filter (L : WL) : shape (L.filter posB) = shape L := by
  have key : ∀ (L acc : WL), (L.filter posB).foldl shStep acc = L.foldl shStep acc := by
    intro L
    induction L with
    | nil => intro acc; rfl
    | cons x L ih =>
      intro acc
      by_cases h : 0 < x.1
      · rw [List.filter_cons_of_pos (p := posB) (decide_eq_true h), List.foldl_cons, List.foldl_cons, ih]
      · rw [List.filter_cons_of_neg (p := posB) (by unfold posB; simpa using h), List.foldl_cons, ih]
        have : shStep acc x = acc := by unfold shStep; rw [if_neg h]
        rw [this]
  exact key L []
theorem Norm.tl {x : Int × List Int} {r : WL} (h : Norm (x :: r)) : 0 < x.1 ∧ Norm r ∧ ∀ y r', r = y :: r' → x.2 ≠ y.2 := by
  cases r with
  | nil => exact ⟨h, trivial, fun y r' z => by cases z⟩
  | cons y r => exact ⟨h.1, h.2.2, fun z r' e => by cases e; exact h.2.1⟩
theorem Norm.mk {x : Int × List Int} {r : WL} (h0 : 0 < x.1) (h1 : Norm r) (h2 : ∀ y r', r = y :: r' → x.2 ≠ y.2) : Norm (x :: r) := by
  cases r with
  | nil => exact h0
  | cons y r => exact ⟨h0, h2 y r rfl, h1⟩
theorem dropF_norm : ∀ {L : WL} {a : Int}, Norm L → Norm (dropF a L)
  | [], _, _ => trivial
  | x :: r, a, h => by
    show Norm (if a ≤ 0 then x :: r else if a < x.1 then (x.1 - a, x.2) :: r else dropF (a - x.1) r)
    obtain ⟨h0, h1, h2⟩ := h.tl
    split
    · exact h
    · split
      · exact Norm.mk (by show 0 < x.1 - a; omega) h1 h2
      · exact dropF_norm h1
theorem takeF_head {R : WL} {rm : Int} {y : Int × List Int} {t : WL} (hp : Pos R) (h : takeF rm R = y :: t) : ∃ x r, R = x :: r ∧ x.2 = y.2 := by
  cases R with
  | nil => cases h
  | cons x r =>
    obtain ⟨hx, hr⟩ := hp.tail
    refine ⟨x, r, rfl, ?_⟩
    have h : (if 0 < rm then [(mn x.1 rm, x.2)] else []) ++ takeF (rm - mn x.1 rm) r = y :: t := h
    by_cases h0 : 0 < rm
    · rw [if_pos h0] at h
      cases h; rfl
    · have := mn_le x.1 rm
      rw [if_neg h0, List.nil_append, takeF_neg hr (by omega)] at h
      cases h
theorem takeF_norm : ∀ {R : WL} {rm : Int}, Norm R → Norm (takeF rm R)
  | [], _, _ => trivial
  | x :: r, rm, h => by
    obtain ⟨h0, h1, h2⟩ := h.tl
    have hp : Pos r := h1.pos
    show Norm ((if 0 < rm then [(mn x.1 rm, x.2)] else []) ++ takeF (rm - mn x.1 rm) r)
    by_cases h3 : 0 < rm
    · rw [if_pos h3]
      have := mn_le x.1 rm
      refine Norm.mk (x := (mn x.1 rm, x.2)) (r := takeF (rm - mn x.1 rm) r) (by show 0 < mn x.1 rm; omega) (takeF_norm h1) fun y t e => ?_
      obtain ⟨x', r', e1, e2⟩ := takeF_head hp e
      have := h2 x' r' e1
      rw [e2] at this
      exact this
    · rw [if_neg h3]
      exact takeF_norm h1
theorem part_eq {L : WL} {b e : Int} (h : Norm L) (h0 : 0 ≤ b) (hbe : b ≤ e) : shape (cutP b e 0 L) = takeF (e - b) (dropF b L) := by
  rw [← shape_filter, cutP_drop hbe h.pos h0, Int.sub_zero]
  exact shape_of_norm (takeF_norm (dropF_norm h))
theorem cutP_nn {b e : Int} (hbe : b ≤ e) : ∀ {L : WL} {o : Int}, Pos L → ∀ d ∈ cutP b e o L, 0 ≤ d.1
  | [], _, _, d, hd => by cases hd
  | x :: r, o, h, d, hd => by
    obtain ⟨hx, hr⟩ := h.tail
    have hd : d ∈ piece b e o x.1 x.2 ++ cutP b e (o + x.1) r := hd
    rcases List.mem_append.mp hd with z | z
    · unfold piece at z
      split at z
      · rename_i hc
        rw [List.mem_singleton] at z
        subst z
        have := mn_le (o + x.1) e
        have := mx_ge o b
        show 0 ≤ mn (o + x.1) e - mx o b
        omega
      · cases z
    · exact cutP_nn hbe hr d z
end L2
set_option Elab.async false
set_option linter.all false
set_option maxRecDepth 100000
set_option maxHeartbeats 4000000
namespace L2
open PySem PySem.Spec PyProof.Rows
inductive Th (H : Hp) : V → PyData → Prop where
  | non : Th H .non .none
  | bl (b : Bool) : Th H (.bl b) (.bool b)
  | int (i : Int) : Th H (.int i) (.int i)
  | str (x : Str) : Th H (.str x) (.str x)
  | tup {a : Addr} {xs : List V} {ds : List PyData} : H a = some (.tup xs) → xs.length = ds.length → (∀ (i : Nat) (x : V) (d : PyData), xs[i]? = some x → ds[i]? = some d → Th H x d) → Th H (.ref a) (.tuple ds)
  | lst {a : Addr} {xs : List V} {ds : List PyData} : H a = some (.lst xs) → xs.length = ds.length → (∀ (i : Nat) (x : V) (d : PyData), xs[i]? = some x → ds[i]? = some d → Th H x d) → Th H (.ref a) (.list ds)
theorem Th.di {K : PySem.W.Frag} {H : Hp} {x : V} {d : PyData} (h : Th H x d) : DI K H x d := by
  induction h with
  | non => exact .non
  | bl b => exact .bl b
  | int i => exact .int i
  | str x => exact .str x
  | tup a b _ ih => exact .tup (SqT.of a) b ih
  | lst a b _ ih => exact .lst (SqL.of a) b ih
theorem Th.up {H H' : Hp} {x : V} {d : PyData} (h : Th H x d) (s : Same H H') : Th H' x d := by
  induction h with
  | non => exact .non
  | bl b => exact .bl b
  | int i => exact .int i
  | str x => exact .str x
  | tup a b _ ih => exact .tup (s _ _ a) b ih
  | lst a b _ ih => exact .lst (s _ _ a) b ih
def tyName : PyData → String
  | .none => "NoneType"
  | .bool _ => "bool"
  | .int _ => "int"
  | .str _ => "str"
  | .list _ => "list"
  | .tuple _ => "tuple"
  | .dict _ => "dict"
theorem Th.ty {K : PySem.W.Frag} {H : Hp} {x : V} {d : PyData} (h : Th H x d) : TyOf K H x (.type (tyName d)) := by
  cases h with
  | non => exact .non
  | bl b => exact .bl b
  | int i => exact .int i
  | str x => exact .str x
  | tup a _ _ => exact .tup a
  | lst a _ _ => exact .lst a
def isInt : PyData → Bool
  | .int _ | .bool _ => true
  | _ => false
def isBool : PyData → Bool
  | .bool _ => true
  | _ => false
def isTup : PyData → Bool
  | .tuple _ => true
  | _ => false
theorem kit_int {K : PySem.W.Frag} (d : PyData) : PySem.W.kitOne K (.type (tyName d)) (.type "int") = some (isInt d) := by
  cases d <;> with_unfolding_all rfl
theorem kit_bool {K : PySem.W.Frag} (d : PyData) : PySem.W.kitOne K (.type (tyName d)) (.type "bool") = some (isBool d) := by
  cases d <;> with_unfolding_all rfl
theorem kit_tup {K : PySem.W.Frag} (d : PyData) : PySem.W.kitOne K (.type (tyName d)) (.type "tuple") = some (isTup d) := by
  cases d <;> with_unfolding_all rfl
theorem Th.parts {H : Hp} {a : Addr} {ds : List PyData} (h : Th H (.ref a) (.tuple ds)) : ∃ xs, H a = some (.tup xs) ∧ xs.length = ds.length ∧ ∀ (i : Nat) (x : V) (d : PyData), xs[i]? = some x → ds[i]? = some d → Th H x d := by
  cases h with
  | tup a b c => exact ⟨_, a, b, c⟩
section
variable {X : Cx} {es : List Expr} {te : TE} {t : TA}
theorem pa_Constant {c : Const} {j : Nat} {p : PySem.Pos} (ha : PE X (.Constant c j p) te) (hr : PA X es t) : PA X (.Constant c j p :: es) (tCons te t) := pa_cons ha hr rfl
theorem pa_Name {x : Str} {p : PySem.Pos} (ha : PE X (.Name x p) te) (hr : PA X es t) : PA X (.Name x p :: es) (tCons te t) := pa_cons ha hr rfl
theorem pa_Tuple {l : List Expr} {k : Nat} {p : PySem.Pos} (ha : PE X (.Tuple l k p) te) (hr : PA X es t) : PA X (.Tuple l k p :: es) (tCons te t) := pa_cons ha hr rfl
theorem pa_BinOp {a b : Expr} {o : Operator} {p : PySem.Pos} (ha : PE X (.BinOp a o b p) te) (hr : PA X es t) : PA X (.BinOp a o b p :: es) (tCons te t) := pa_cons ha hr rfl
theorem pa_Subscript {a b : Expr} {p : PySem.Pos} (ha : PE X (.Subscript a b p) te) (hr : PA X es t) : PA X (.Subscript a b p :: es) (tCons te t) := pa_cons ha hr rfl
theorem pa_Call {f : Expr} {l : List Expr} {kw : List Keyword} {p : PySem.Pos} (ha : PE X (.Call f l kw p) te) (hr : PA X es t) : PA X (.Call f l kw p :: es) (tCons te t) := pa_cons ha hr rfl
end
theorem pa_o2 {X : Cx} {e1 e2 : Expr} {t1 t2 : TE} {es : List Expr} {t : TA} (h1 : PE X e1 t1) (h2 : PE X e2 t2) (hr : PA X es t) (s1 : ∀ l, starEach (e1 :: l) X.env = (false, eval e1 X.env) :: starEach l X.env := by intro _; rfl) (s2 : ∀ l, starEach (e2 :: l) X.env = (false, eval e2 X.env) :: starEach l X.env := by intro _; rfl) : PA X (e1 :: e2 :: es) (tCons t1 (tCons t2 t)) := (pa_cons h1 (pa_cons h2 hr (s2 _)) (s1 _))
theorem pa_o3 {X : Cx} {e1 e2 e3 : Expr} {t1 t2 t3 : TE} {es : List Expr} {t : TA} (h1 : PE X e1 t1) (h2 : PE X e2 t2) (h3 : PE X e3 t3) (hr : PA X es t) (s1 : ∀ l, starEach (e1 :: l) X.env = (false, eval e1 X.env) :: starEach l X.env := by intro _; rfl) (s2 : ∀ l, starEach (e2 :: l) X.env = (false, eval e2 X.env) :: starEach l X.env := by intro _; rfl) (s3 : ∀ l, starEach (e3 :: l) X.env = (false, eval e3 X.env) :: starEach l X.env := by intro _; rfl) : PA X (e1 :: e2 :: e3 :: es) (tCons t1 (tCons t2 (tCons t3 t))) := (pa_cons h1 (pa_cons h2 (pa_cons h3 hr (s3 _)) (s2 _)) (s1 _))
theorem pa_o4 {X : Cx} {e1 e2 e3 e4 : Expr} {t1 t2 t3 t4 : TE} {es : List Expr} {t : TA} (h1 : PE X e1 t1) (h2 : PE X e2 t2) (h3 : PE X e3 t3) (h4 : PE X e4 t4) (hr : PA X es t) (s1 : ∀ l, starEach (e1 :: l) X.env = (false, eval e1 X.env) :: starEach l X.env := by intro _; rfl) (s2 : ∀ l, starEach (e2 :: l) X.env = (false, eval e2 X.env) :: starEach l X.env := by intro _; rfl) (s3 : ∀ l, starEach (e3 :: l) X.env = (false, eval e3 X.env) :: starEach l X.env := by intro _; rfl) (s4 : ∀ l, starEach (e4 :: l) X.env = (false, eval e4 X.env) :: starEach l X.env := by intro _; rfl) : PA X (e1 :: e2 :: e3 :: e4 :: es) (tCons t1 (tCons t2 (tCons t3 (tCons t4 t)))) := (pa_cons h1 (pa_cons h2 (pa_cons h3 (pa_cons h4 hr (s4 _)) (s3 _)) (s2 _)) (s1 _))
theorem sw_sub {a b : Expr} {p : PySem.Pos} {t : Option Expr} {l : Nat} {env : Env} : swapsWith (.Subscript a b p) t l env = pure false := rfl
end L2
set_option Elab.async false
set_option linter.all false
set_option maxRecDepth 100000
set_option maxHeartbeats 1000000
namespace L2
open PySem PySem.Spec PyProof.Rows
section
variable {X : Cx} {pins : List (Addr × Obj)} {σ : St} {H : Hp} {s : Shared} {h' : Heap}
theorem Inv.turnedNew {t' : Nat} {ch : List Addr} {p : Addr} {xs : List V} (I : Inv X pins σ H s) (k : ∀ b o, b ∉ ch → s.heap.get? b = some o → h'.get? b = some o) (hf : ∀ b ∈ ch, FpOk X pins H b) (hp : s.heap.objs.size ≤ p)
    (new : ObjOk X.prog X.w (upd H p (.tup xs)) h' p (.tup xs)) : Inv X pins σ (upd H p (.tup xs)) { s with heap := h', toks := t' } := by
  have hn : H p = none := I.hok.fresh hp
  have nit : ∀ b u, H b = some u → b ∉ ch := fun b u e z => by rw [(hf b z).1] at e; cases e
  have nL : X.env.locals ∉ ch := fun z => (hf _ z).2.1 rfl
  refine I.step (g' := s.gens) (d' := s.drawn) (ch := ch) (fun b hb => ?_) (fun b o _ _ hc e _ => k b o hc e) (fun b o _ _ hc e _ => ⟨o.slots, k b o hc e⟩) (fun b o _ e n => ?_)
    (fun b o hc e => ⟨o, k b o hc e⟩) (fun b xs e => ?_) (fun b o u e => ?_) (fun b ps e => ⟨#[], ?_⟩) (fun m hm => ?_) (fun b u e => ?_) I.bare
  · obtain ⟨f0, f1, f2, f3, f4, f5⟩ := hf b hb
    exact ⟨f3, f1, f4, f5⟩
  · rw [upd_ne (fun z => by rw [z] at e; exact absurd (Nat.lt_of_lt_of_le (Heap.lt_size e) hp) (Nat.lt_irrefl _))]
    exact n
  · rw [upd_ne (ne_of_none e hn)]; exact e
  · rw [upd_ne (ne_of_none e hn)]; exact e
  · rw [upd_ne (ne_of_none e hn), e]; simp
  · obtain ⟨o, es, ep, ho, r⟩ := hm
    exact ⟨o, es, ep, k _ o nL ho, r⟩
  · by_cases hb : b = p
    · subst hb; rw [upd_same] at e; cases e; exact new
    · rw [upd_ne hb] at e
      refine (I.hok b u e).stay (fun c v hc q => k c v ?_ q) (fun c q => by rw [upd_ne (ne_of_none q hn)]; exact q) fun c xs q => by rw [upd_ne (ne_of_none q hn)]; exact q
      rcases hc with z | z
      · rw [z]; exact nit b u e
      · exact nit c _ z
theorem Inv.turnedL {t' : Nat} {ch : List Addr} (I : Inv X pins σ H s) (k : ∀ b o, b ∉ ch → s.heap.get? b = some o → h'.get? b = some o) (hf : ∀ b ∈ ch, FpOk X pins H b) : Inv X pins σ H { s with heap := h', toks := t' } := by
  have nit : ∀ b u, H b = some u → b ∉ ch := fun b u e z => by rw [(hf b z).1] at e; cases e
  have nL : X.env.locals ∉ ch := fun z => (hf _ z).2.1 rfl
  refine I.step (g' := s.gens) (d' := s.drawn) (ch := ch) (fun b hb => ?_) (fun b o _ _ hc e _ => k b o hc e) (fun b o _ _ hc e _ => ⟨o.slots, k b o hc e⟩) (fun b o _ e n => n)
    (fun b o hc e => ⟨o, k b o hc e⟩) (fun b xs e => e) (fun b o u e => e) (fun b ps e => ⟨#[], by rw [e]; simp⟩) (fun m hm => ?_) (fun b u e => ?_) I.bare
  · obtain ⟨f0, f1, f2, f3, f4, f5⟩ := hf b hb
    exact ⟨f3, f1, f4, f5⟩
  · obtain ⟨o, es, ep, ho, r⟩ := hm
    exact ⟨o, es, ep, k _ o nL ho, r⟩
  · refine (I.hok b u e).stay (fun c v hc q => k c v ?_ q) (fun _ q => q) fun _ _ q => q
    rcases hc with z | z
    · rw [z]; exact nit b u e
    · exact nit c _ z
end
end L2
set_option Elab.async false
set_option linter.all false
set_option maxRecDepth 100000
set_option maxHeartbeats 1000000
namespace L2
open PySem PySem.Spec PyProof.Rows
def ThL (H : Hp) (xs : List V) (ds : List PyData) : Prop := xs.length = ds.length ∧ ∀ (i : Nat) (x : V) (d : PyData), xs[i]? = some x → ds[i]? = some d → Th H x d
theorem ThL.nil {H : Hp} : ThL H [] [] := ⟨rfl, fun i x d h => by simp at h⟩
theorem ThL.cons {H : Hp} {x : V} {d : PyData} {xs : List V} {ds : List PyData} (h : Th H x d) (k : ThL H xs ds) : ThL H (x :: xs) (d :: ds) := by
  refine ⟨by rw [List.length_cons, List.length_cons, k.1], fun i y e h1 h2 => ?_⟩
  cases i with
  | zero => cases h1; cases h2; exact h
  | succ i => exact k.2 i y e h1 h2
theorem ThL.up {H H' : Hp} {xs : List V} {ds : List PyData} (k : ThL H xs ds) (s : Same H H') : ThL H' xs ds := ⟨k.1, fun i x d h1 h2 => (k.2 i x d h1 h2).up s⟩
theorem ThL.append {H : Hp} {xs ys : List V} {ds es : List PyData} (k : ThL H xs ds) (l : ThL H ys es) : ThL H (xs ++ ys) (ds ++ es) := by
  refine ⟨by rw [List.length_append, List.length_append, k.1, l.1], fun i x d h1 h2 => ?_⟩
  by_cases hi : i < xs.length
  · rw [List.getElem?_append_left hi] at h1
    rw [List.getElem?_append_left (k.1 ▸ hi)] at h2
    exact k.2 i x d h1 h2
  · rw [List.getElem?_append_right (by omega)] at h1
    rw [List.getElem?_append_right (by rw [← k.1]; omega), ← k.1] at h2
    exact l.2 _ x d h1 h2
theorem ThL.tup {H : Hp} {a : Addr} {xs : List V} {ds : List PyData} (k : ThL H xs ds) (h : H a = some (.tup xs)) : Th H (.ref a) (.tuple ds) := .tup h k.1 k.2
theorem ThL.lst {H : Hp} {a : Addr} {xs : List V} {ds : List PyData} (k : ThL H xs ds) (h : H a = some (.lst xs)) : Th H (.ref a) (.list ds) := .lst h k.1 k.2
end L2
set_option Elab.async false
set_option linter.all false
set_option maxRecDepth 100000
set_option maxHeartbeats 1000000
set_option Elab.async false
set_option linter.all false
set_option maxRecDepth 100000
set_option maxHeartbeats 1000000
set_option Elab.async false
set_option linter.all false
set_option maxRecDepth 100000
set_option maxHeartbeats 1000000
set_option Elab.async false
set_option linter.all false
set_option maxRecDepth 100000
set_option maxHeartbeats 2000000
set_option Elab.async false
set_option linter.all false
set_option maxRecDepth 100000
set_option maxHeartbeats 4000000
namespace L2
open PySem PySem.Spec PyProof.Rows
def ddStep (acc : List Int) (k : Int) : List Int := if k ∈ acc then acc else acc ++ [k]
def dd (ns : List Int) : List Int := ns.foldl ddStep []
end L2
set_option Elab.async false
set_option linter.all false
set_option maxRecDepth 100000
set_option maxHeartbeats 4000000
set_option Elab.async false
set_option linter.all false
set_option maxRecDepth 100000
set_option maxHeartbeats 4000000
namespace L2
open PySem PySem.Spec PyProof.Rows
section
variable {prog : Program} {w : World} {A : Around} {E : Value → Shared → Prop} {s : Shared} {S I T : Addr} {o : Obj} {es : Array (Int × Value)} {ep : Nat} {t : SetTable}
theorem stop_j {α : Type} {R : α → Shared → Prop} {Ex : Value → Shared → Prop} (hh : A.handled = none) (h : ∀ e h', (∀ b ob, s.heap.get? b = some ob → h'.get? b = some ob) → (∃ ob, h'.get? e = some ob ∧ ob.cls = .type "StopIteration") → Ex (.ref e) { s with heap := h' }) :
    wpAny (model prog w) A (newExc (.type "StopIteration") [] >>= fun e => (raiseNew e : Sem α)) R Ex s := by
  refine wpAny_bind ?_
  simp only [newExc, newTuple]
  refine wpAny_bind (wpAny_newObj_type ?_ (by size_fits))
  refine wpAny_bind (m := firstArgMember _ _) (wpAny_of_eq (a := Value.none) (by first | rfl | (simp only [firstArgMember]; rfl)) ?_)
  refine wpAny_newObj_type ?_ (by size_fits)
  simp only [raiseNew]
  refine wpAny_bind (wpAny_handled ?_)
  rw [hh]
  exact wpAny_bind (wpAny_pure (wpAny_throw (h _ _ (fun b ob z => Heap.get?_push_of_some _ (Heap.get?_push_of_some _ z)) ⟨_, Heap.get?_push_size _ rfl, rfl⟩)))
end
end L2
set_option Elab.async false
set_option linter.all false
set_option maxRecDepth 100000
set_option maxHeartbeats 4000000
set_option Elab.async false
set_option linter.all false
set_option maxRecDepth 100000
set_option maxHeartbeats 4000000
set_option Elab.async false
set_option linter.all false
set_option maxRecDepth 100000
set_option maxHeartbeats 1000000
set_option Elab.async false
set_option linter.all false
set_option maxRecDepth 100000
set_option maxHeartbeats 1000000
set_option Elab.async false
set_option linter.all false
set_option maxRecDepth 100000
set_option maxHeartbeats 1000000
set_option Elab.async false
set_option linter.all false
set_option maxRecDepth 100000
set_option maxHeartbeats 1000000
namespace L2
open PySem PySem.Spec PyProof.Rows
section
variable {prog : Program} {w : World} {A : Around} {E : Value → Shared → Prop} {s : Shared}
theorem nxT {it t : Addr} {i : Nat} {its : Array Value} {x : Value} {Q : Value → Shared → Prop} (st : s.heap.IsTupleIter it t i) (ht : s.heap.IsTuple t its) (hx : its[i]? = some x)
    (k : ∀ h', h'.IsTupleIter it t (i + 1) → Heap.SameBut it s.heap h' → Q x { s with heap := h' }) : wpAny (model prog w) A (Builtin.SmallTypes.nextOf (.ref it)) Q E s := by
  obtain ⟨o, e, c, d⟩ := id st
  obtain ⟨ot, et, _, m, dt⟩ := ht
  unfold Builtin.SmallTypes.nextOf
  refine wpAny_bind (wpAny_callSpecial?_slot (name := Str.ofString "__next__") st.typeIs F.slot_tuple_iterator_next (wpAny_call_entry F.slot_tuple_iterator_next st.typeIs F.entry_tuple_iterator_next (show wpAny _ _ (field (.ref it) 0 >>= _) _ _ s from wpAny_bind (wpAny_field e d (x := .ref t) rfl ?_)) (F.args_tuple_iterator_next_1 _)))
  show wpAny _ _ (if (Value.ref t == Value.none) = true then _ else _) _ _ s
  rw [if_neg (show ¬ (Value.ref t == Value.none) = true by intro z; exact Bool.false_ne_true z)]
  refine (show wpAny _ _ (field (.ref it) 1 >>= _) _ _ s from wpAny_bind (wpAny_field e d (x := .int i 0) rfl (show wpAny _ _ (seqItems? (.ref t) >>= _) _ _ s from wpAny_bind (wpAny_seqItems et dt ?_))))
  simp only [Int.toNat_natCast, hx]
  refine wpAny_bind (wpAny_setField e d (by simp) (wpAny_pure ⟨x, rfl, wpAny_pure (k _ ⟨_, Heap.get?_update_self _ e (Obj.isFreed_of_fields (Obj.data_mapFields d _)), (Obj.cls_mapFields ..).trans c, ?_⟩ (Heap.SameBut.update ..))⟩))
  rw [Obj.data_mapFields d]
  simp [rawInt]
theorem nxTe {it t : Addr} {i : Nat} {its : Array Value} {Q : Value → Shared → Prop} (hh : A.handled = none) (st : s.heap.IsTupleIter it t i) (ht : s.heap.IsTuple t its) (hx : its[i]? = none)
    (k : ∀ h' e, Heap.ExtBut it s.heap h' → (∃ o, h'.get? e = some o ∧ o.cls = .type "StopIteration") → E (.ref e) { s with heap := h' }) : wpAny (model prog w) A (Builtin.SmallTypes.nextOf (.ref it)) Q E s := by
  obtain ⟨o, e, c, d⟩ := id st
  obtain ⟨ot, et, _, m, dt⟩ := ht
  unfold Builtin.SmallTypes.nextOf
  refine wpAny_bind (wpAny_callSpecial?_slot (name := Str.ofString "__next__") st.typeIs F.slot_tuple_iterator_next (wpAny_call_entry F.slot_tuple_iterator_next st.typeIs F.entry_tuple_iterator_next (show wpAny _ _ (field (.ref it) 0 >>= _) _ _ s from wpAny_bind (wpAny_field e d (x := .ref t) rfl ?_)) (F.args_tuple_iterator_next_1 _)))
  show wpAny _ _ (if (Value.ref t == Value.none) = true then _ else _) _ _ s
  rw [if_neg (show ¬ (Value.ref t == Value.none) = true by intro z; exact Bool.false_ne_true z)]
  refine (show wpAny _ _ (field (.ref it) 1 >>= _) _ _ s from wpAny_bind (wpAny_field e d (x := .int i 0) rfl (show wpAny _ _ (seqItems? (.ref t) >>= _) _ _ s from wpAny_bind (wpAny_seqItems et dt ?_))))
  simp only [Int.toNat_natCast, hx]
  refine wpAny_bind (wpAny_rule (wpAny_bind (wpAny_setField e d (by simp) (show wpAny _ _ (newExc (.type "StopIteration") [] >>= _) _ _ _ from wpAny_bind ?_))))
  simp only [newExc, newTuple]
  refine wpAny_bind (wpAny_newObj_type (wpAny_bind (m := firstArgMember _ _) (wpAny_of_eq (a := Value.none) (by first | rfl | (simp only [firstArgMember]; rfl)) (wpAny_newObj_type ?_ (by size_fits)))) (by size_fits))
  simp only [raiseNew]
  refine wpAny_bind (wpAny_handled ?_)
  first | rw [show A.in1.handled = none from hh] | rw [hh]
  exact wpAny_bind (wpAny_pure (wpAny_throw (k _ _ (((Heap.SameBut.update ..).extBut.push _).push _) ⟨_, Heap.get?_push_size _ rfl, rfl⟩)))
theorem zT_item {z TI TO i1 i2 l1 l2 : Addr} {n1 n2 : Nat} {xs ys : Array Value} {x y u v : Value} {Q : Value → Shared → Prop} (D : ZipApart z TI TO i1 i2 l1 l2) (hz : IsZip s.heap z TI TO .none) (hI : IsPair s.heap TI (.ref i1) (.ref i2)) (hO : IsPair s.heap TO u v)
    (s1 : s.heap.IsTupleIter i1 l1 n1) (s2 : s.heap.IsTupleIter i2 l2 n2) (t1 : s.heap.IsTuple l1 xs) (t2 : s.heap.IsTuple l2 ys) (ex : xs[n1]? = some x) (ey : ys[n2]? = some y)
    (k : ∀ h', IsZip h' z TI TO (rawInt s.heap.objs.size) → IsPair h' TO x y → h'.IsTupleIter i1 l1 (n1 + 1) → h'.IsTupleIter i2 l2 (n2 + 1) → IsPair h' s.heap.objs.size x y → h'.objs.size = s.heap.objs.size + 1 → (∀ c o, c ≠ z → c ≠ TO → c ≠ i1 → c ≠ i2 → s.heap.get? c = some o → h'.get? c = some o) → Q (.ref s.heap.objs.size) { s with heap := h' }) :
    wpAny (model prog w) A (Builtin.«zip.__next__» ⟨[.ref z], []⟩) (fun fin s' => ∃ r, fin = .done (.ret r) ∧ Q r s') E s := by
  refine (show wpAny _ _ (field (.ref z) 2 >>= _) _ _ _ from wpAny_bind (wpAny_field hz rfl (x := .bool false) rfl (show wpAny _ _ (field (.ref z) 3 >>= _) _ _ _ from wpAny_bind (wpAny_field hz rfl (x := .ref TI) rfl (wpAny_bind (wpAny_seqItems hI rfl ?_))))))
  refine (show wpAny _ _ (Builtin.SmallTypes.ownedTupleIsFree (.ref z) >>= _) _ _ _ from wpAny_bind ?_)
  unfold Builtin.SmallTypes.ownedTupleIsFree
  refine wpAny_bind (wpAny_field hz rfl (x := .none) rfl (wpAny_pure ?_))
  simp only [if_true]
  refine wpAny_bind (wpAny_rule (wpAny_bind (wpAny_field hz rfl (x := .ref TO) rfl (wpAny_bind (wpAny_setField_rec hz (by simp) fun ha (za : IsZip ha z TI TO .ellipsis) ba => wpAny_bind ?_)))))
  simp only [List.zipIdx_cons, List.zipIdx_nil, List.forIn_cons, List.forIn_nil]
  refine wpAny_bind (wpAny_bind (wpAny_onRaise (show wpAny _ _ (Builtin.SmallTypes.nextOf (.ref i1) >>= _) _ _ _ from wpAny_bind (nxT (s1.extBut ba.extBut D.i1z) (t1.extBut ba.extBut D.l1z) ex fun hb sb bb => wpAny_pure ?_))))
  have Ob : IsPair hb TO u v := bb.extBut _ _ D.TOi1 (ba.extBut _ _ D.TOz hO)
  refine wpAny_bind (wpAny_seqItems Ob rfl (wpAny_bind (wpAny_updateSeq_pair Ob fun hc (Oc : IsPair hc TO x v) bc => wpAny_bind (wpAny_letGo (wpAny_pure ?_)))))
  refine wpAny_bind (wpAny_bind (wpAny_onRaise (show wpAny _ _ (Builtin.SmallTypes.nextOf (.ref i2) >>= _) _ _ _ from wpAny_bind (nxT (((s2.extBut ba.extBut D.i2z).extBut bb.extBut D.i12.symm).extBut bc.extBut D.TOi2.symm) (((t2.extBut ba.extBut D.l2z).extBut bb.extBut D.l2i1).extBut bc.extBut D.l2TO) ey fun hd sd bd => wpAny_pure ?_))))
  have Od : IsPair hd TO x v := bd.extBut _ _ D.TOi2 Oc
  refine wpAny_bind (wpAny_seqItems Od rfl (wpAny_bind (wpAny_updateSeq_pair Od fun he (Oe : IsPair he TO x y) be => wpAny_bind (wpAny_letGo (wpAny_pure (wpAny_pure (wpAny_bind (wpAny_seqItems Oe rfl (wpAny_bind (wpAny_newTuple ?_))))))))))
  have size : he.objs.size = s.heap.objs.size := be.1.trans (bd.1.trans (bc.1.trans (bb.1.trans ba.1)))
  have ze : IsZip he z TI TO .ellipsis := be.extBut _ _ D.TOz.symm (bd.extBut _ _ D.i2z.symm (bc.extBut _ _ D.TOz.symm (bb.extBut _ _ D.i1z.symm za)))
  have keep : ∀ c o, c ≠ z → c ≠ TO → c ≠ i1 → c ≠ i2 → s.heap.get? c = some o → he.get? c = some o := fun c o q1 q2 q3 q4 e => be.extBut _ _ q2 (bd.extBut _ _ q4 (bc.extBut _ _ q2 (bb.extBut _ _ q3 (ba.extBut _ _ q1 e))))
  have r1 : he.IsTupleIter i1 l1 (n1 + 1) := ((sb.extBut bc.extBut D.TOi1.symm).extBut bd.extBut D.i12).extBut be.extBut D.TOi1.symm
  have r2 : he.IsTupleIter i2 l2 (n2 + 1) := sd.extBut be.extBut D.TOi2.symm
  have zlt : z < he.objs.size := Heap.lt_size ze
  refine (show wpAny _ _ (Builtin.SmallTypes.ownedTupleHandOut (.ref z) (.ref he.objs.size) >>= _) _ _ _ from wpAny_bind ?_)
  unfold Builtin.SmallTypes.ownedTupleHandOut
  have zf : IsZip (he.push { cls := .type "tuple", data := .seq #[x, y] }) z TI TO .ellipsis := Heap.get?_push_of_some _ ze
  refine wpAny_bind (wpAny_setField_rec zf (by simp) fun hg (zg : IsZip hg z TI TO (rawInt he.objs.size)) bg => wpAny_setField_rec zg (by simp) fun hk (zk : IsZip hk z TI TO (rawInt he.objs.size)) bk => ?_)
  have up : ∀ c o, c ≠ z → he.get? c = some o → hk.get? c = some o := fun c o q e => bk.extBut _ _ q (bg.extBut _ _ q (Heap.get?_push_of_some _ e))
  have Tk : IsPair hk he.objs.size x y := bk.extBut _ _ (Nat.ne_of_gt zlt) (bg.extBut _ _ (Nat.ne_of_gt zlt) (Heap.get?_push_size _ rfl))
  have sk : hk.objs.size = he.objs.size + 1 := by rw [bk.1, bg.1, Heap.size_push]
  rw [size] at zk Tk sk
  refine wpAny_pure ⟨_, rfl, (show Q (.ref he.objs.size) _ from ?_)⟩
  rw [size]
  exact k hk zk (up _ _ D.TOz Oe) (r1.at fun o e => up _ o D.i1z e) (r2.at fun o e => up _ o D.i2z e) Tk sk fun c o q1 q2 q3 q4 e => up c o q1 (keep c o q1 q2 q3 q4 e)
theorem zT_end {z TI TO i1 i2 l1 l2 : Addr} {n1 n2 : Nat} {xs ys : Array Value} {u v : Value} {Q : Fin → Shared → Prop} (hh : A.handled = none) (D : ZipApart z TI TO i1 i2 l1 l2) (hz : IsZip s.heap z TI TO .none) (hI : IsPair s.heap TI (.ref i1) (.ref i2)) (hO : IsPair s.heap TO u v)
    (s1 : s.heap.IsTupleIter i1 l1 n1) (s2 : s.heap.IsTupleIter i2 l2 n2) (t1 : s.heap.IsTuple l1 xs) (t2 : s.heap.IsTuple l2 ys) (fin : xs[n1]? = none ∨ ys[n2]? = none)
    (k : ∀ h' e, (∀ c o, c ≠ z → c ≠ TO → c ≠ i1 → c ≠ i2 → s.heap.get? c = some o → h'.get? c = some o) → (∃ o, h'.get? e = some o ∧ o.cls = .type "StopIteration") → E (.ref e) { s with heap := h' }) :
    wpAny (model prog w) A (Builtin.«zip.__next__» ⟨[.ref z], []⟩) Q E s := by
  refine (show wpAny _ _ (field (.ref z) 2 >>= _) _ _ _ from wpAny_bind (wpAny_field hz rfl (x := .bool false) rfl (show wpAny _ _ (field (.ref z) 3 >>= _) _ _ _ from wpAny_bind (wpAny_field hz rfl (x := .ref TI) rfl (wpAny_bind (wpAny_seqItems hI rfl ?_))))))
  refine (show wpAny _ _ (Builtin.SmallTypes.ownedTupleIsFree (.ref z) >>= _) _ _ _ from wpAny_bind ?_)
  unfold Builtin.SmallTypes.ownedTupleIsFree
  refine wpAny_bind (wpAny_field hz rfl (x := .none) rfl (wpAny_pure ?_))
  simp only [if_true]
  refine wpAny_bind (wpAny_rule (wpAny_bind (wpAny_field hz rfl (x := .ref TO) rfl (wpAny_bind (wpAny_setField_rec hz (by simp) fun ha (za : IsZip ha z TI TO .ellipsis) ba => wpAny_bind ?_)))))
  simp only [List.zipIdx_cons, List.zipIdx_nil, List.forIn_cons, List.forIn_nil]
  refine wpAny_bind (wpAny_bind (wpAny_onRaise (show wpAny _ _ (Builtin.SmallTypes.nextOf (.ref i1) >>= _) _ _ _ from ?_)))
  cases ex : xs[n1]? with
  | none =>
    refine wpAny_bind (nxTe hh (s1.extBut ba.extBut D.i1z) (t1.extBut ba.extBut D.l1z) ex fun hb e bb ⟨oe, ge, ce⟩ => ?_)
    have zb : IsZip hb z TI TO .ellipsis := bb _ _ D.i1z.symm za
    have ne : e ≠ z := fun q => by subst q; rw [zb] at ge; cases ge; simp at ce
    exact wpAny_setField_rec zb (by simp) fun hc _ bc => k hc e (fun c o q1 _ q3 _ g => bc.extBut _ _ q1 (bb _ _ q3 (ba.extBut _ _ q1 g))) ⟨oe, bc.extBut _ _ ne ge, ce⟩
  | some x =>
    have ey : ys[n2]? = none := fin.resolve_left (by rw [ex]; exact fun q => by cases q)
    refine wpAny_bind (nxT (s1.extBut ba.extBut D.i1z) (t1.extBut ba.extBut D.l1z) ex fun hb sb bb => wpAny_pure ?_)
    have Ob : IsPair hb TO u v := bb.extBut _ _ D.TOi1 (ba.extBut _ _ D.TOz hO)
    refine wpAny_bind (wpAny_seqItems Ob rfl (wpAny_bind (wpAny_updateSeq_pair Ob fun hc Oc bc => wpAny_bind (wpAny_letGo (wpAny_pure (wpAny_bind (wpAny_bind (wpAny_onRaise (show wpAny _ _ (Builtin.SmallTypes.nextOf (.ref i2) >>= _) _ _ _ from wpAny_bind ?_)))))))))
    refine nxTe hh (((s2.extBut ba.extBut D.i2z).extBut bb.extBut D.i12.symm).extBut bc.extBut D.TOi2.symm) (((t2.extBut ba.extBut D.l2z).extBut bb.extBut D.l2i1).extBut bc.extBut D.l2TO) ey fun hd e bd ⟨oe, ge, ce⟩ => ?_
    have zd : IsZip hd z TI TO .ellipsis := bd _ _ D.i2z.symm (bc.extBut _ _ D.TOz.symm (bb.extBut _ _ D.i1z.symm za))
    have ne : e ≠ z := fun q => by subst q; rw [zd] at ge; cases ge; simp at ce
    exact wpAny_setField_rec zd (by simp) fun hf _ bf => k hf e (fun c o q1 q2 q3 q4 g => bf.extBut _ _ q1 (bd _ _ q4 (bc.extBut _ _ q2 (bb.extBut _ _ q3 (ba.extBut _ _ q1 g))))) ⟨oe, bf.extBut _ _ ne ge, ce⟩
theorem nextZT {z TI TO i1 i2 l1 l2 : Addr} {n1 n2 : Nat} {xs ys : Array Value} {x y u v : Value} {Q : Option Value → Shared → Prop} (D : ZipApart z TI TO i1 i2 l1 l2) (hz : IsZip s.heap z TI TO .none) (hI : IsPair s.heap TI (.ref i1) (.ref i2)) (hO : IsPair s.heap TO u v)
    (s1 : s.heap.IsTupleIter i1 l1 n1) (s2 : s.heap.IsTupleIter i2 l2 n2) (t1 : s.heap.IsTuple l1 xs) (t2 : s.heap.IsTuple l2 ys) (ex : xs[n1]? = some x) (ey : ys[n2]? = some y)
    (k : ∀ h', IsZip h' z TI TO (rawInt s.heap.objs.size) → IsPair h' TO x y → h'.IsTupleIter i1 l1 (n1 + 1) → h'.IsTupleIter i2 l2 (n2 + 1) → IsPair h' s.heap.objs.size x y → h'.objs.size = s.heap.objs.size + 1 → (∀ c o, c ≠ z → c ≠ TO → c ≠ i1 → c ≠ i2 → s.heap.get? c = some o → h'.get? c = some o) → Q (some (.ref s.heap.objs.size)) { s with heap := h' }) :
    wpAny (model prog w) A (pyNext (.ref z)) Q E s := by
  have ty : s.TypeIs (.ref z) "zip" := ⟨_, hz, rfl⟩
  unfold pyNext
  exact wpAny_bind (wpAny_attempt (wpAny_callSpecial?_slot (name := Str.ofString "__next__") ty F.slot_zip_next (wpAny_call_entry F.slot_zip_next ty F.entry_zip_next (zT_item D hz hI hO s1 s2 t1 t2 ex ey fun h' b1 b2 b3 b4 b5 b6 b7 => wpAny_pure (k h' b1 b2 b3 b4 b5 b6 b7)) (F.args_zip_next_1 _))))
theorem nextZTe {z TI TO i1 i2 l1 l2 : Addr} {n1 n2 : Nat} {xs ys : Array Value} {u v : Value} {Q : Option Value → Shared → Prop} (hh : A.handled = none) (D : ZipApart z TI TO i1 i2 l1 l2) (hz : IsZip s.heap z TI TO .none) (hI : IsPair s.heap TI (.ref i1) (.ref i2)) (hO : IsPair s.heap TO u v)
    (s1 : s.heap.IsTupleIter i1 l1 n1) (s2 : s.heap.IsTupleIter i2 l2 n2) (t1 : s.heap.IsTuple l1 xs) (t2 : s.heap.IsTuple l2 ys) (fin : xs[n1]? = none ∨ ys[n2]? = none)
    (k : ∀ h', (∀ c o, c ≠ z → c ≠ TO → c ≠ i1 → c ≠ i2 → s.heap.get? c = some o → h'.get? c = some o) → Q none { s with heap := h' }) : wpAny (model prog w) A (pyNext (.ref z)) Q E s := by
  have ty : s.TypeIs (.ref z) "zip" := ⟨_, hz, rfl⟩
  unfold pyNext
  refine wpAny_bind (wpAny_attempt (wpAny_callSpecial?_slot (name := Str.ofString "__next__") ty F.slot_zip_next (wpAny_call_entry F.slot_zip_next ty F.entry_zip_next (zT_end hh D hz hI hO s1 s2 t1 t2 fin fun h' e kp ⟨o, g, c⟩ => ?_) (F.args_zip_next_1 _))))
  exact wpAny_bind (wpAny_isInstance (T := "StopIteration") (b := true) ⟨o, g, c⟩ isSubtype_stop (wpAny_pure (k _ kp)))
end
def zh (h : Heap) (l1 l2 : Addr) : Heap := (((((h.push { cls := .type "tuple_iterator", data := .fields #[.ref l1, .int 0 0] }).push { cls := .type "tuple_iterator", data := .fields #[.ref l2, .int 0 0] }).push { cls := .type "tuple", data := .seq #[.ref h.objs.size, .ref (h.objs.size + 1)] }).push { cls := .type "tuple", data := .seq #[.none, .none] }).push { cls := .type "zip", data := .fields #[.none, .bool false, .bool false, .ref (h.objs.size + 2), .ref (h.objs.size + 3)] })
theorem newZT (l1 l2 : Addr) (xs ys : Array Value) :
    Meets (Builtin.«zip.__new__» ⟨[.type "zip", .ref l1, .ref l2], []⟩) (fun _ R s => s.heap.IsTuple l1 xs ∧ s.heap.IsTuple l2 ys ∧ R (.ok (.ret (.ref (s.heap.objs.size + 4)))) { s with heap := zh s.heap l1 l2 }) :=
  .of_wp fun prog w A R s h => by
    obtain ⟨hp, g, d, tk, os⟩ := s
    obtain ⟨t1, t2, h⟩ := h
    have hsub := sub_zip
    have T1 : Heap.IsTuple (Shared.heap ⟨hp, g, d, tk, os⟩) l1 xs := t1
    have T2 : Heap.IsTuple (Shared.heap ⟨hp.push { cls := .type "tuple_iterator", data := .fields #[.ref l1, .int 0 0] }, g, d, tk, os⟩) l2 ys := Heap.IsTuple.push t2 _
    wp_walk using wpAny_pyIter_tuple T1, wpAny_pyIter_tuple T2
    refine ⟨_, rfl, ?_⟩
    simp only [Heap.size_push]
    exact h
section
variable {prog : Program} {w : World} {A : Around} {E : Value → Shared → Prop} {s : Shared}
theorem callZT {l1 l2 : Addr} {xs ys : Array Value} {Q : Value → Shared → Prop} (t1 : s.heap.IsTuple l1 xs) (t2 : s.heap.IsTuple l2 ys)
    (k : ∀ h', IsZip h' (s.heap.objs.size + 4) (s.heap.objs.size + 2) (s.heap.objs.size + 3) .none → IsPair h' (s.heap.objs.size + 2) (.ref s.heap.objs.size) (.ref (s.heap.objs.size + 1)) → IsPair h' (s.heap.objs.size + 3) .none .none → h'.IsTupleIter s.heap.objs.size l1 0 → h'.IsTupleIter (s.heap.objs.size + 1) l2 0 → (∀ c o, s.heap.get? c = some o → h'.get? c = some o) → Q (.ref (s.heap.objs.size + 4)) { s with heap := h' }) :
    wpAny (model prog w) A (call (.type "zip") [.ref l1, .ref l2]) Q E s := by
  refine callType_new F.called_zip (by decide) (F.typeCall_zip_2 _ _) (F.newCall_zip_2 _ _) (fun obj => F.args_object_init_3 obj _ _) F.entry_zip_new (newZT l1 l2 xs ys) ⟨t1, t2, ?_⟩
  have ps : ∀ {c : Addr} {o p : Obj} {h : Heap}, h.get? c = some o → (h.push p).get? c = some o := fun e => Heap.get?_push_of_some _ e
  have sz1 : ∀ (h : Heap) (p : Obj), (h.push p).objs.size = h.objs.size + 1 := fun h p => Heap.size_push ..
  have at0 : ∀ (h : Heap) (p : Obj) (n : Nat), h.objs.size = n → p.isFreed = false → (h.push p).get? n = some p := fun h p n e f => by subst e; exact Heap.get?_push_size _ f
  have z5 : (zh s.heap l1 l2).get? (s.heap.objs.size + 4) = some _ := at0 _ _ _ (by simp only [sz1]) rfl
  have z4 : (zh s.heap l1 l2).get? (s.heap.objs.size + 3) = some _ := ps (at0 _ _ _ (by simp only [sz1]) rfl)
  have z3 : (zh s.heap l1 l2).get? (s.heap.objs.size + 2) = some _ := ps (ps (at0 _ _ _ (by simp only [sz1]) rfl))
  have z2 : (zh s.heap l1 l2).get? (s.heap.objs.size + 1) = some _ := ps (ps (ps (at0 _ _ _ (by simp only [sz1]) rfl)))
  have z1 : (zh s.heap l1 l2).get? s.heap.objs.size = some _ := ps (ps (ps (ps (at0 _ _ _ rfl rfl))))
  exact ⟨⟨_, z5, rfl⟩, k _ z5 z3 z4 ⟨_, z1, rfl, rfl⟩ ⟨_, z2, rfl, rfl⟩ fun c o e => ps (ps (ps (ps (ps e))))⟩
end
def Itzt (K : PySem.W.Frag) (a b : Addr) : It :=
  ⟨fun i H => ∃ xs ys x y, SqT K H a xs ∧ SqT K H b ys ∧ xs[i]? = some x ∧ ys[i]? = some y,
   fun i H v H' => ∃ p x y, v = .ref p ∧ H p = none ∧ H' = upd H p (.tup [x, y]) ∧ (∀ xs, SqT K H a xs → xs[i]? = some x) ∧ (∀ ys, SqT K H b ys → ys[i]? = some y),
   fun i H => ∃ xs ys, SqT K H a xs ∧ SqT K H b ys ∧ (xs[i]? = none ∨ ys[i]? = none)⟩
def ZipAtT (z TI TO i1 i2 a b : Addr) (i : Nat) (h : Heap) : Prop := IsZip h z TI TO .none ∧ IsPair h TI (.ref i1) (.ref i2) ∧ (∃ u v, IsPair h TO u v) ∧ h.IsTupleIter i1 a i ∧ h.IsTupleIter i2 b i
theorem turn_zipT {P : Program} {w : World} {K : PySem.W.Frag} {es : List Expr} {k : Nat} {pos : PySem.Pos} (a b z TI TO i1 i2 : Addr) (D : ZipApart z TI TO i1 i2 a b) : Turn P w K (.Tuple es k pos) (Itzt K a b) [z, TI, TO, i1, i2] z (ZipAtT z TI TO i1 i2 a b) where
  mem := by simp
  obj := fun i h st c hc => by
    obtain ⟨hz, hTI, ⟨u, v, hTO⟩, ⟨o1, e1, c1, d1⟩, ⟨o2, e2, c2, d2⟩⟩ := st
    simp only [List.mem_cons, List.not_mem_nil, or_false] at hc
    rcases hc with rfl | rfl | rfl | rfl | rfl
    · exact ⟨_, hz, fun v q => by cases q⟩
    · exact ⟨_, hTI, fun v q => by cases q⟩
    · exact ⟨_, hTO, fun v q => by cases q⟩
    · exact ⟨o1, e1, fun v q => by rw [d1] at q; cases q⟩
    · exact ⟨o2, e2, fun v q => by rw [d2] at q; cases q⟩
  keep := fun i h h' st q => by
    obtain ⟨hz, hTI, ⟨u, v, hTO⟩, l1, l2⟩ := st
    exact ⟨q _ (by simp) _ hz, q _ (by simp) _ hTI, ⟨u, v, q _ (by simp) _ hTO⟩, l1.at fun o e => q _ (by simp) o e, l2.at fun o e => q _ (by simp) o e⟩
  item := by
    intro X hP hw hK hc i pins s σ H E I hf st hg
    subst hP hw hK
    obtain ⟨xs, ys, x, y, hq1, hq2, hx, hy⟩ := hg
    obtain ⟨hz, hTI, ⟨u, v, hTO⟩, l1, l2⟩ := st
    obtain ⟨its1, rv1, p1, _⟩ := I.tuple hq1
    obtain ⟨its2, rv2, p2, _⟩ := I.tuple hq2
    obtain ⟨ux, hux, rux⟩ := rv1.get hx
    obtain ⟨uy, huy, ruy⟩ := rv2.get hy
    refine nextZT D hz hTI hTO l1 l2 p1 p2 (x := ux) (y := uy) (by simpa using hux) (by simpa using huy) fun h' z1 TO1 j1 j2 T1 sz kp => ?_
    refine ⟨_, rfl, wpAny_letOwnedTupleGo_zip z1 fun h2 z2 sb => ?_⟩
    have hzlt : z < s.heap.objs.size := Heap.lt_size hz
    have hpz : s.heap.objs.size ≠ z := Nat.ne_of_gt hzlt
    have T2 : IsPair h2 s.heap.objs.size ux uy := sb.extBut _ _ hpz T1
    have kp2 : ∀ c o, c ∉ [z, TI, TO, i1, i2] → s.heap.get? c = some o → h2.get? c = some o := fun c o hc e => by
      simp only [List.mem_cons, List.not_mem_nil, or_false, not_or] at hc
      exact sb.extBut _ _ hc.1 (kp c o hc.1 hc.2.2.1 hc.2.2.2.1 hc.2.2.2.2 e)
    have I2 : Inv X pins σ (upd H s.heap.objs.size (.tup [x, y])) { s with heap := h2, toks := s.toks } := I.turnedNew kp2 hf (Nat.le_refl _) ⟨by show 2 ≤ sizeLine; decide, [ux, uy], .cons rux (.cons ruy .nil), ⟨_, T2, rfl, _, rfl⟩⟩
    refine ⟨.ref s.heap.objs.size, _, I2, rfl, ⟨_, x, y, rfl, I.hok.fresh (Nat.le_refl _), rfl, fun xs' h => ?_, fun ys' h => ?_⟩, ⟨z2, ?_, ⟨ux, uy, ?_⟩, ?_, ?_⟩, fun c hc => ?_⟩
    · rw [I.tuple_inj h hq1]; exact hx
    · rw [I.tuple_inj h hq2]; exact hy
    · exact sb.extBut _ _ D.TIz (kp _ _ D.TIz D.TITO D.TIi1 D.TIi2 hTI)
    · exact sb.extBut _ _ D.TOz TO1
    · exact j1.at fun o e => sb.extBut _ _ D.i1z e
    · exact j2.at fun o e => sb.extBut _ _ D.i2z e
    · have hlt : c < s.heap.objs.size := by
        simp only [List.mem_cons, List.not_mem_nil, or_false] at hc
        rcases hc with rfl | rfl | rfl | rfl | rfl
        · exact hzlt
        · exact Heap.lt_size hTI
        · exact Heap.lt_size hTO
        · obtain ⟨_, e, _⟩ := l1; exact Heap.lt_size e
        · obtain ⟨_, e, _⟩ := l2; exact Heap.lt_size e
      rw [upd_ne (Nat.ne_of_lt hlt)]
      exact (hf c hc).1
  done := by
    intro X hP hw hK hc i pins s σ H E I hf st hg
    subst hP hw hK
    obtain ⟨xs, ys, hq1, hq2, hend⟩ := hg
    obtain ⟨hz, hTI, ⟨u, v, hTO⟩, l1, l2⟩ := st
    obtain ⟨its1, rv1, p1, _⟩ := I.tuple hq1
    obtain ⟨its2, rv2, p2, _⟩ := I.tuple hq2
    have e1 := rv1.length
    have e2 := rv2.length
    refine nextZTe (I.ok.hd hc) D hz hTI hTO l1 l2 p1 p2 (hend.imp (fun q => ?_) (fun q => ?_)) fun h' kp => ⟨rfl, I.turnedL (t' := s.toks) (ch := [z, TI, TO, i1, i2]) (fun c o hc e => ?_) hf⟩
    · rw [List.getElem?_eq_none_iff] at q
      simp
      omega
    · rw [List.getElem?_eq_none_iff] at q
      simp
      omega
    · simp only [List.mem_cons, List.not_mem_nil, or_false, not_or] at hc
      exact kp c o hc.1 hc.2.2.1 hc.2.2.2.1 hc.2.2.2.2 e
  self := fun _ _ _ _ _ st h => wpAny_pyIter_zip st.1 h
section
variable {X : Cx}
def iZipT (K : PySem.W.Frag) (ta : TA) : TI := fun σ H R => ta σ H fun vs H1 => ∃ a b, vs = [.ref a, .ref b] ∧ (∃ xs, SqT K H1 a xs) ∧ (∃ ys, SqT K H1 b ys) ∧ R (Itzt K a b) H1
theorem pi_zipT {tes : List Expr} {tk : Nat} {tpos p pos : PySem.Pos} {a b : Expr} {ta : TA} (hg : Gl X "zip") (hm : X.mg "zip" = none) (ha : PA X [a, b] ta)
    (hs : starEach [a, b] X.env = [(false, eval a X.env), (false, eval b X.env)] := by rfl) (hs2 : starEach [b] X.env = [(false, eval b X.env)] := by rfl) : PI X (.Tuple tes tk tpos) (.Call (.Name "zip" p) [a, b] [] pos) (iZipT X.K ta) := by
  intro pins s σ H R I h
  refine wpAny_Call_Name_kw (ld_blt I hg hm boot_zip ?_)
  refine PyProof.Rows.callWith_type1 (thn (ha pos pins s σ H _ I h) fun us s1 ⟨vs, H1, I1, r1, l1, l2, e, ⟨xs, hx⟩, ⟨ys, hy⟩, q⟩ => ?_) (by rw [hs, hs2]) (by rw [hs2]; rfl)
  subst e
  obtain ⟨u1, u2, rfl, rfl, rfl⟩ := vals2 r1
  obtain ⟨its1, rv1, p1, _⟩ := I1.tuple hx
  obtain ⟨its2, rv2, p2, _⟩ := I1.tuple hy
  have a1 : l1 < s1.heap.objs.size := by obtain ⟨_, e, _⟩ := p1; exact Heap.lt_size e
  have a2 : l2 < s1.heap.objs.size := by obtain ⟨_, e, _⟩ := p2; exact Heap.lt_size e
  refine callZT p1 p2 fun h' hz hTI hTO hi1 hi2 kp => ?_
  refine wpAny_pyIter_zip hz ?_
  refine ⟨_, [_, _, _, _, _], _, _, H1, rfl, I1.kept (t' := s1.toks) kp, turn_zipT l1 l2 _ _ _ _ _ (zipApart_new a1 a2), ⟨hz, hTI, ⟨_, _, hTO⟩, hi1, hi2⟩, fun c hc => ?_, q⟩
  have hge : s1.heap.objs.size ≤ c := by
    simp only [List.mem_cons, List.not_mem_nil, or_false] at hc
    rcases hc with rfl | rfl | rfl | rfl | rfl
    · exact Nat.le_add_right _ _
    · exact Nat.le_add_right _ _
    · exact Nat.le_add_right _ _
    · exact Nat.le_refl _
    · exact Nat.le_add_right _ _
  exact I1.fpOk hge (I1.hok.fresh hge)
theorem compZT {K : PySem.W.Frag} {k n : Nat} {a b : Addr} {xs ys : List V} {g : TG} {tt : TT} {te : TE} {Q : VK} {σ : St} {H : Hp} (Pv : Nat → List V → Hp → Prop) (h0 : Pv 0 [] H) (hn : n = min xs.length ys.length) (hb : n ≤ 1000) (hz : ∀ i zs H, Pv i zs H → zs.length ≤ i) (hl : ∀ i zs H, i ≤ n → Pv i zs H → SqT K H a xs ∧ SqT K H b ys)
    (hs : ∀ i x y zs H (pre : St) (p : Addr), pre.length = k → xs[i]? = some x → ys[i]? = some y → Pv i zs H → H p = none → g (.ref p) (pre ++ σ) (upd H p (.tup [x, y])) fun σ' H2 => (∃ pre' : St, σ' = pre' ++ σ ∧ pre'.length = k) ∧ tt σ' H2 fun ok H3 => if ok = true then te σ' H3 fun y H4 => Pv (i + 1) (zs ++ [y]) H4 else Pv (i + 1) zs H3) (hd : ∀ zs H, Pv n zs H → ∀ D, H D = none → Q (.ref D) (upd H D (.lst zs))) : CGo k (Itzt K a b) g tt te Q σ H := by
  refine ⟨fun i m zs H => m = n - i ∧ i ≤ n ∧ Pv i zs H, ⟨n, by simp, Nat.zero_le _, h0⟩, ?_⟩
  rintro i m zs H ⟨rfl, hi, p⟩
  obtain ⟨q1, q2⟩ := hl i zs H hi p
  by_cases hlt : i < n
  · have h1 : i < xs.length := by omega
    have h2 : i < ys.length := by omega
    refine .inr ⟨⟨xs, ys, xs[i], ys[i], q1, q2, by simp [h1], by simp [h2]⟩, Nat.lt_of_le_of_lt (hz i zs H p) (small1000 (by omega)), Pv (i + 1), fun zs H' p' => ⟨n - (i + 1), by omega, rfl, hlt, p'⟩, fun x H' pre hp y => ?_⟩
    obtain ⟨q, x1, y1, rfl, hq, rfl, e1, e2⟩ := y
    exact hs i x1 y1 zs _ pre q hp (e1 xs q1) (e2 ys q2) p hq
  · have e : i = n := by omega
    subst e
    refine .inl ⟨⟨xs, ys, q1, q2, ?_⟩, hd zs H p⟩
    by_cases hx : xs.length ≤ ys.length
    · exact .inl (List.getElem?_eq_none (by omega))
    · exact .inr (List.getElem?_eq_none (by omega))
end
end L2
set_option Elab.async false
set_option linter.all false
set_option maxRecDepth 100000
set_option maxHeartbeats 1000000
set_option Elab.async false
set_option linter.all false
set_option maxRecDepth 100000
set_option maxHeartbeats 1000000
set_option Elab.async false
set_option linter.all false
set_option maxRecDepth 100000
set_option maxHeartbeats 1000000
namespace L2
open PySem PySem.Spec PyProof.Rows
def RK (rk : Value → Int) (xs : Array Keyed) (i : Nat) : Int := match xs[i]? with
  | some p => rk p.1
  | none => 0
theorem RK_of {rk : Value → Int} {xs ys : Array Keyed} {i j : Nat} (h : xs[i]? = ys[j]?) : RK rk xs i = RK rk ys j := by unfold RK; rw [h]
theorem RK_bub {rk : Value → Int} {xs : Array Keyed} {a d : Nat} (ha : a < xs.size) (hd : d ≤ a) (k : Nat) : RK rk (bubble xs a d) k = if k = a - d then RK rk xs a else if a - d < k ∧ k ≤ a then RK rk xs (k - 1) else RK rk xs k := by
  have z := getElem?_bubble ha d hd k
  split
  · rename_i h; rw [if_pos h] at z; exact RK_of z
  · rename_i h
    rw [if_neg h] at z
    split
    · rename_i g; rw [if_pos g] at z; exact RK_of z
    · rename_i g; rw [if_neg g] at z; exact RK_of z
theorem RK_mir {rk : Value → Int} {xs : Array Keyed} {a b : Nat} (hb : b ≤ xs.size) (k : Nat) : RK rk (mirror xs a b ((b - a) / 2)) k = if a ≤ k ∧ k < b then RK rk xs (a + b - 1 - k) else RK rk xs k := by
  have z := getElem?_mirror_all (i := a) hb k
  split
  · rename_i h; rw [if_pos h] at z; exact RK_of z
  · rename_i h; rw [if_neg h] at z; exact RK_of z
structure SB (k0 : SortKind) (a0 : Array Keyed) (st : SortSt) : Prop where
  pm : (arrOf st).Perm a0
  kd : kindOf st = k0
  fl : failedOf st = none
  pn : pendingOf st = #[]
theorem SB.sz {k0 : SortKind} {a0 : Array Keyed} {st : SortSt} (b : SB k0 a0 st) : (arrOf st).size = a0.size := b.pm.size_eq
theorem SB.put {k0 : SortKind} {a0 xs : Array Keyed} {st : SortSt} (b : SB k0 a0 st) (p : xs.Perm (arrOf st)) : SB k0 a0 (setArr st xs) := ⟨p.trans b.pm, b.kd, b.fl, b.pn⟩
def LtOk (prog : Program) (w : World) (A : Around) (s : Shared) (k0 : SortKind) (a0 : Array Keyed) (rk : Value → Int) : Prop :=
  ∀ (E : Value → Shared → Prop) (x y : Keyed) (Q : Bool → Shared → Prop), x ∈ a0.toList → y ∈ a0.toList → Q (decide (rk x.1 < rk y.1)) s → wpAny (model prog w) A (keyLt' k0 x.1 y.1) Q E s
section
variable {prog : Program} {w : World} {A : Around} {E : Value → Shared → Prop} {s : Shared} {k0 : SortKind} {a0 : Array Keyed} {rk : Value → Int}
theorem SB.got {st : SortSt} (b : SB k0 a0 st) {i : Nat} (hi : i < a0.size) : ∃ x, (arrOf st)[i]? = some x ∧ x ∈ a0.toList ∧ RK rk (arrOf st) i = rk x.1 := by
  have hi' : i < (arrOf st).size := by rw [b.sz]; exact hi
  have z := Array.getElem?_eq_getElem hi'
  refine ⟨_, z, (Array.perm_iff_toList_perm.mp b.pm).subset (Array.getElem_mem_toList hi'), ?_⟩
  unfold RK
  rw [z]
theorem lt_at (hL : LtOk prog w A s k0 a0 rk) {st : SortSt} (b : SB k0 a0 st) {i j : Nat} (hi : i < a0.size) (hj : j < a0.size) {Q : Option Bool → SortSt → Prop}
    (h : Q (some (decide (RK rk (arrOf st) i < RK rk (arrOf st) j))) st) : wpS (model prog w) A E s (ltAt' i j) Q st := by
  obtain ⟨x, ex, mx, rx⟩ := b.got (rk := rk) hi
  obtain ⟨y, ey, my, ry⟩ := b.got (rk := rk) hj
  rw [rx, ry] at h
  rw [ltAt'_eq]
  refine wpS_bind (wpS_get ?_)
  dsimp only
  rw [elem'_eq, elem'_eq, ex, ey]
  refine wpS_bind (wpS_pure (wpS_bind (wpS_pure ?_)))
  rw [lt'_eq]
  refine wpS_bind (wpS_get (wpS_bind (wpS_lift (wpAny_attempt ?_))))
  rw [b.kd]
  exact hL _ x y _ mx my ⟨rfl, wpS_pure h⟩
theorem asc_ok (hL : LtOk prog w A s k0 a0 rk) {st : SortSt} (b : SB k0 a0 st) {f m : Nat} (hm : m ≤ a0.size) (f1 : 1 ≤ f) (fm : f ≤ m) {Q : AscSt → SortSt → Prop} (up : ∀ i j, i ≤ j → j < f → RK rk (arrOf st) i ≤ RK rk (arrOf st) j)
    (h : ∀ n, f ≤ n → n ≤ m → (∀ i j, i ≤ j → j < n → RK rk (arrOf st) i ≤ RK rk (arrOf st) j) → (n = m ∨ RK rk (arrOf st) n < RK rk (arrOf st) (n - 1)) → Q (none, n) st) : wpS (model prog w) A E s (ascLoop f m) Q st := by
  unfold ascLoop
  refine wpS_forRange (fun n c t => t = st ∧ c = (none, n) ∧ ∀ i j, i ≤ j → j < n → RK rk (arrOf st) i ≤ RK rk (arrOf st) j) ?_ ?_ ⟨rfl, rfl, up⟩
  · rintro n c t fn nm ⟨rfl, rfl, u⟩
    refine wpS_bind (lt_at hL b (by omega) (by omega) ?_)
    dsimp only
    by_cases z : RK rk (arrOf t) n < RK rk (arrOf t) (n - 1)
    · rw [decide_eq_true z, if_pos rfl]
      exact wpS_pure (h n fn (by omega) u (.inr z))
    · rw [decide_eq_false z, if_neg (by simp)]
      refine wpS_pure ⟨rfl, rfl, fun i j ij jn => ?_⟩
      rcases Nat.lt_or_eq_of_le (Nat.le_of_lt_succ jn) with q | rfl
      · exact u i j ij q
      · rcases Nat.lt_or_eq_of_le ij with q | rfl
        · have := u i (j - 1) (by omega) (by omega)
          omega
        · exact Int.le_refl _
  · rintro c t ⟨rfl, rfl, u⟩
    rw [Nat.max_eq_right fm] at u ⊢
    exact h m fm (Nat.le_refl _) u (.inl rfl)
theorem tail_ok (hL : LtOk prog w A s k0 a0 rk) {st : SortSt} (b : SB k0 a0 st) {n m : Nat} (hm : m ≤ a0.size) (n1 : 1 ≤ n) (nm : n ≤ m) {Q : Option Nat → SortSt → Prop} (dn : ∀ i j, i ≤ j → j < n → RK rk (arrOf st) j ≤ RK rk (arrOf st) i)
    (h : ∀ r t, SB k0 a0 t → 1 ≤ r → r ≤ m → (∀ i j, i ≤ j → j < r → RK rk (arrOf t) i ≤ RK rk (arrOf t) j) → Q (some r) t) : wpS (model prog w) A E s (tail3 n m) Q st := by
  unfold tail3
  refine wpS_bind (wpS_reverse ?_)
  have b2 := b.put (mirror_perm (arrOf st) 0 n ((n - 0) / 2))
  have hn : n ≤ (arrOf st).size := by rw [b.sz]; omega
  refine wpS_bind (asc_ok hL b2 hm n1 nm (fun i j ij jn => ?_) fun r nr rm u _ => wpS_pure (h r _ b2 (by omega) rm u))
  have z1 := RK_mir (rk := rk) (xs := arrOf st) (a := 0) hn i
  have z2 := RK_mir (rk := rk) (xs := arrOf st) (a := 0) hn j
  rw [if_pos ⟨Nat.zero_le _, by omega⟩] at z1
  rw [if_pos ⟨Nat.zero_le _, jn⟩] at z2
  have z3 := dn (0 + n - 1 - j) (0 + n - 1 - i) (by omega) (by omega)
  rw [← z1, ← z2] at z3
  exact z3
theorem mir_same {xs : Array Keyed} {a b : Nat} (hb : b ≤ xs.size) (e : ∀ i, a ≤ i → i < b → RK rk xs i = RK rk xs (b - 1)) (k : Nat) : RK rk (mirror xs a b ((b - a) / 2)) k = RK rk xs k := by
  rw [RK_mir hb]
  split
  · rename_i h
    rw [e k h.1 h.2]
    exact e _ (by omega) (by omega)
  · rfl
theorem desc_ok (hL : LtOk prog w A s k0 a0 rk) {st : SortSt} (b : SB k0 a0 st) {f m : Nat} (hm : m ≤ a0.size) (f1 : 1 ≤ f) (fm : f ≤ m) {Q : DescSt → SortSt → Prop} (dn : ∀ i j, i ≤ j → j < f → RK rk (arrOf st) j ≤ RK rk (arrOf st) i)
    (h : ∀ n q t, SB k0 a0 t → f ≤ n → n ≤ m → (∀ i j, i ≤ j → j < n → RK rk (arrOf t) j ≤ RK rk (arrOf t) i) → q + 1 ≤ n → (∀ i, n - (q + 1) ≤ i → i < n → RK rk (arrOf t) i = RK rk (arrOf t) (n - 1)) → Q (none, n, q) t) : wpS (model prog w) A E s (descLoop f m) Q st := by
  unfold descLoop
  refine wpS_forRange (fun n c t => ∃ q, c = (none, n, q) ∧ SB k0 a0 t ∧ (∀ i j, i ≤ j → j < n → RK rk (arrOf t) j ≤ RK rk (arrOf t) i) ∧ q + 1 ≤ n ∧ ∀ i, n - (q + 1) ≤ i → i < n → RK rk (arrOf t) i = RK rk (arrOf t) (n - 1)) ?_ ?_ ⟨0, rfl, b, dn, f1, fun i h1 h2 => by rw [show i = f - 1 by omega]⟩
  · rintro n c t fn nm ⟨q, rfl, bt, d, qn, e⟩
    dsimp only
    refine wpS_bind (lt_at hL bt (by omega) (by omega) ?_)
    dsimp only
    have ext : ∀ xs : Array Keyed, (∀ k, RK rk xs k = RK rk (arrOf t) k) → RK rk (arrOf t) n ≤ RK rk (arrOf t) (n - 1) → ∀ i j, i ≤ j → j < n + 1 → RK rk xs j ≤ RK rk xs i := fun xs hx le i j ij jn => by
      rw [hx, hx]
      rcases Nat.lt_or_eq_of_le (Nat.le_of_lt_succ jn) with z | rfl
      · exact d i j ij z
      · rcases Nat.lt_or_eq_of_le ij with z | rfl
        · have := d i (j - 1) (by omega) (by omega)
          omega
        · exact Int.le_refl _
    by_cases z : RK rk (arrOf t) n < RK rk (arrOf t) (n - 1)
    · rw [decide_eq_true z, if_pos rfl]
      by_cases q0 : q > 0
      · rw [if_pos q0]
        have hn : n ≤ (arrOf t).size := by rw [bt.sz]; omega
        exact wpS_bind (wpS_reverse (wpS_pure ⟨0, rfl, bt.put (mirror_perm _ _ _ _), ext _ (mir_same hn e) (Int.le_of_lt z), by omega, fun i h1 h2 => by rw [show i = n + 1 - 1 by omega]⟩))
      · rw [if_neg q0]
        exact wpS_pure ⟨0, rfl, bt, ext _ (fun _ => rfl) (Int.le_of_lt z), by omega, fun i h1 h2 => by rw [show i = n + 1 - 1 by omega]⟩
    · rw [decide_eq_false z, if_neg (by simp)]
      refine wpS_bind (lt_at hL bt (by omega) (by omega) ?_)
      dsimp only
      by_cases y : RK rk (arrOf t) (n - 1) < RK rk (arrOf t) n
      · rw [decide_eq_true y, if_pos rfl]
        exact wpS_pure (h n q t bt fn (by omega) d qn e)
      · rw [decide_eq_false y, if_neg (by simp)]
        have same : RK rk (arrOf t) n = RK rk (arrOf t) (n - 1) := by omega
        refine wpS_pure ⟨q + 1, rfl, bt, ext _ (fun _ => rfl) (by omega), by omega, fun i h1 h2 => ?_⟩
        rw [Nat.add_sub_cancel]
        rcases Nat.lt_or_eq_of_le (Nat.le_of_lt_succ h2) with x | rfl
        · rw [same]; exact e i (by omega) x
        · rfl
  · rintro c t ⟨q, rfl, bt, d, qn, e⟩
    rw [Nat.max_eq_right fm] at d qn e ⊢
    exact h m q t bt fm (Nat.le_refl _) d qn e
theorem part_ok (hL : LtOk prog w A s k0 a0 rk) {st : SortSt} (b : SB k0 a0 st) {n m : Nat} (hm : m ≤ a0.size) (nm : n + 1 ≤ m) {Q : Option Nat → SortSt → Prop} (dn : ∀ i j, i ≤ j → j < n + 1 → RK rk (arrOf st) j ≤ RK rk (arrOf st) i)
    (h : ∀ r t, SB k0 a0 t → 1 ≤ r → r ≤ m → (∀ i j, i ≤ j → j < r → RK rk (arrOf t) i ≤ RK rk (arrOf t) j) → Q (some r) t) : wpS (model prog w) A E s (descPart n m) Q st := by
  unfold descPart
  refine wpS_bind (wpS_lift (wpAny_rule ⟨rfl, wpS_bind (desc_ok hL b hm (by omega) nm dn fun r q t bt nr rm d qr e => ?_)⟩))
  dsimp only
  by_cases q0 : q > 0
  · rw [if_pos q0]
    have hr : r ≤ (arrOf t).size := by rw [bt.sz]; omega
    refine wpS_bind (wpS_reverse (tail_ok hL (bt.put (mirror_perm _ _ _ _)) hm (by omega) rm (fun i j ij jr => ?_) h))
    have z1 := mir_same hr e i
    have z2 := mir_same hr e j
    have z3 := d i j ij jr
    rw [← z1, ← z2] at z3
    exact z3
  · rw [if_neg q0]
    exact tail_ok hL bt hm (by omega) rm d h
theorem run_ok (hL : LtOk prog w A s k0 a0 rk) {st : SortSt} (b : SB k0 a0 st) {m : Nat} (hm : m ≤ a0.size) (m1 : 1 ≤ m) {Q : Option Nat → SortSt → Prop}
    (h : ∀ r t, SB k0 a0 t → 1 ≤ r → r ≤ m → (∀ i j, i ≤ j → j < r → RK rk (arrOf t) i ≤ RK rk (arrOf t) j) → Q (some r) t) : wpS (model prog w) A E s (countRun' 0 m) Q st := by
  rw [countRun0_eq]
  refine wpS_bind (asc_ok hL b hm (Nat.le_refl _) m1 (fun i j ij j1 => by rw [show i = j by omega]; exact Int.le_refl _) fun n n1 nm u z => ?_)
  dsimp only
  by_cases e : n = m
  · rw [if_pos (by simpa using e)]
    exact wpS_pure (h n st b n1 nm u)
  · rw [if_neg (by simpa using e)]
    have lt := z.resolve_left e
    by_cases n2 : n > 1
    · rw [if_pos n2]
      refine wpS_bind (lt_at hL b (by omega) (by omega) ?_)
      dsimp only
      by_cases y : RK rk (arrOf st) 0 < RK rk (arrOf st) (n - 1)
      · rw [decide_eq_true y, if_pos rfl]
        exact wpS_pure (h n st b n1 nm u)
      · rw [decide_eq_false y, if_neg (by simp)]
        have hn : n ≤ (arrOf st).size := by rw [b.sz]; omega
        have al : ∀ i, 0 ≤ i → i < n → RK rk (arrOf st) i = RK rk (arrOf st) (n - 1) := fun i _ hi => by
          have q1 := u 0 i (Nat.zero_le _) hi
          have q2 := u i (n - 1) (by omega) (by omega)
          omega
        refine wpS_bind (wpS_reverse (part_ok hL (b.put (mirror_perm _ _ _ _)) hm (by omega) (fun i j ij jn => ?_) h))
        have z1 := mir_same hn al i
        have z2 := mir_same hn al j
        have z3 : RK rk (arrOf st) j ≤ RK rk (arrOf st) i := by
          rcases Nat.lt_or_eq_of_le (Nat.le_of_lt_succ jn) with q | rfl
          · rw [al i (Nat.zero_le _) (by omega), al j (Nat.zero_le _) q]; exact Int.le_refl _
          · rcases Nat.lt_or_eq_of_le ij with q | rfl
            · rw [al i (Nat.zero_le _) q]; omega
            · exact Int.le_refl _
        rw [← z1, ← z2] at z3
        exact z3
    · rw [if_neg n2]
      have e1 : n = 1 := by omega
      subst e1
      refine part_ok hL b hm (by omega) (fun i j ij j2 => ?_) h
      rcases Nat.lt_or_eq_of_le ij with q | rfl
      · rw [show i = 0 by omega, show j = 1 by omega]; exact Int.le_of_lt lt
      · exact Int.le_refl _
theorem ins_ok (hL : LtOk prog w A s k0 a0 rk) {st : SortSt} (b : SB k0 a0 st) {m r : Nat} (hm : m ≤ a0.size) (rm : r ≤ m) {Q : Bool → SortSt → Prop} (up : ∀ i j, i ≤ j → j < r → RK rk (arrOf st) i ≤ RK rk (arrOf st) j)
    (h : ∀ t, SB k0 a0 t → (∀ i j, i ≤ j → j < m → RK rk (arrOf t) i ≤ RK rk (arrOf t) j) → Q true t) : wpS (model prog w) A E s (binarySort' 0 m r) Q st := by
  rw [binarySort'_eq]
  simp only [Nat.zero_add]
  refine wpS_bind (wpS_mono (wpS_forRange (fun n c t => c = (none, ()) ∧ SB k0 a0 t ∧ ∀ i j, i ≤ j → j < min n m → RK rk (arrOf t) i ≤ RK rk (arrOf t) j) (Q := fun c t => c = (none, ()) ∧ SB k0 a0 t ∧ ∀ i j, i ≤ j → j < m → RK rk (arrOf t) i ≤ RK rk (arrOf t) j) ?_ ?_ ⟨rfl, b, fun i j ij jl => ?_⟩) ?_)
  · rintro n c t n1 nm ⟨rfl, bt, u⟩
    rw [Nat.min_eq_left (Nat.le_of_lt nm)] at u
    refine wpS_bind (wpS_mono (wpS_forRange (fun x c t2 => t2 = t ∧ ∃ l g, c = (none, l, g) ∧ l ≤ g ∧ g ≤ n ∧ g - l ≤ n - x ∧ (∀ i, i < l → RK rk (arrOf t) i ≤ RK rk (arrOf t) n) ∧ ∀ i, g ≤ i → i < n → RK rk (arrOf t) n < RK rk (arrOf t) i)
      (Q := fun c t2 => t2 = t ∧ ∃ l g, c = (none, l, g) ∧ l ≤ n ∧ (∀ i, i < l → RK rk (arrOf t) i ≤ RK rk (arrOf t) n) ∧ ∀ i, l ≤ i → i < n → RK rk (arrOf t) n < RK rk (arrOf t) i) ?_ ?_ ⟨rfl, 0, n, rfl, Nat.zero_le _, Nat.le_refl _, Nat.le_refl _, fun i hi => absurd hi (Nat.not_lt_zero _), fun i h1 h2 => by omega⟩) ?_)
    · rintro x c t2 _ xn ⟨rfl, l, g, rfl, lg, gn, gl, lo, hi⟩
      dsimp only
      by_cases z : l ≥ g
      · rw [if_pos z]
        have e : l = g := by omega
        subst e
        exact wpS_pure ⟨rfl, l, l, rfl, gn, lo, hi⟩
      · rw [if_neg z]
        refine wpS_bind (lt_at hL bt (by omega) (by omega) ?_)
        dsimp only
        by_cases y : RK rk (arrOf t2) n < RK rk (arrOf t2) ((l + g) / 2)
        · rw [decide_eq_true y, if_pos rfl]
          refine wpS_pure ⟨rfl, l, (l + g) / 2, rfl, by omega, by omega, by omega, lo, fun i h1 h2 => ?_⟩
          have := u _ i h1 h2
          omega
        · rw [decide_eq_false y, if_neg (by simp)]
          refine wpS_pure ⟨rfl, (l + g) / 2 + 1, g, rfl, by omega, by omega, by omega, fun i h1 => ?_, hi⟩
          have := u i ((l + g) / 2) (by omega) (by omega)
          omega
    · rintro c t2 ⟨rfl, l, g, rfl, lg, gn, gl, lo, hi⟩
      have e : l = g := by omega
      subst e
      exact ⟨rfl, l, l, rfl, gn, lo, hi⟩
    · rintro c t2 ⟨rfl, l, g, rfl, ln, lo, hi⟩
      show wpS _ _ _ _ (moveDown' n l >>= fun _ => pure _) _ _
      rw [moveDown'_eq]
      refine wpS_bind (wpS_modify (wpS_pure ⟨rfl, bt.put (bubble_perm _ _ _), fun i j ij jn => ?_⟩))
      rw [Nat.min_eq_left (by omega)] at jn
      have hn : n < (arrOf t2).size := by rw [bt.sz]; omega
      have z1 := RK_bub (rk := rk) hn (Nat.sub_le n l) i
      have z2 := RK_bub (rk := rk) hn (Nat.sub_le n l) j
      rw [show n - (n - l) = l by omega] at z1 z2
      show RK rk (bubble (arrOf t2) n (n - l)) i ≤ RK rk (bubble (arrOf t2) n (n - l)) j
      rw [z1, z2]
      by_cases c1 : i = l
      · rw [if_pos c1]
        by_cases c2 : j = l
        · rw [if_pos c2]; exact Int.le_refl _
        · rw [if_neg c2, if_pos (by omega)]
          have := hi (j - 1) (by omega) (by omega)
          omega
      · rw [if_neg c1]
        by_cases c3 : l < i ∧ i ≤ n
        · rw [if_pos c3, if_neg (by omega), if_pos (by omega)]
          exact u _ _ (by omega) (by omega)
        · rw [if_neg c3]
          by_cases c2 : j = l
          · rw [if_pos c2]; exact lo i (by omega)
          · rw [if_neg c2]
            by_cases c4 : l < j ∧ j ≤ n
            · rw [if_pos c4]; exact u _ _ (by omega) (by omega)
            · rw [if_neg c4]; exact u _ _ ij (by omega)
  · rintro c t ⟨rfl, bt, u⟩
    refine ⟨rfl, bt, fun i j ij jm => u i j ij (by omega)⟩
  · by_cases z : j < r
    · exact up i j ij z
    · rw [show i = j by omega]; exact Int.le_refl _
  · rintro c t ⟨rfl, bt, u⟩
    exact wpS_pure (h t bt u)
theorem runs_ok (hL : LtOk prog w A s k0 a0 rk) {st : SortSt} (b : SB k0 a0 st) (h2 : 2 ≤ a0.size) (h64 : a0.size < 64) {Q : Unit → SortSt → Prop}
    (h : ∀ t, (arrOf t).Perm a0 → failedOf t = none → (∀ i j, i ≤ j → j < a0.size → RK rk (arrOf t) i ≤ RK rk (arrOf t) j) → Q () t) : wpS (model prog w) A E s sortRuns' Q st := by
  rw [sortRuns'_eq]
  refine wpS_bind (wpS_get ?_)
  have mr : minRun' a0.size a0.size 0 = a0.size := by
    cases z : a0.size with
    | zero => omega
    | succ n => rw [minRun'_succ, if_pos (by omega), Nat.add_zero]
  dsimp only
  rw [b.sz, mr]
  let Fin' : SortSt → Prop := fun t => (arrOf t).Perm a0 ∧ failedOf t = none ∧ pendingOf t = #[(0, a0.size, 0)] ∧ ∀ i j, i ≤ j → j < a0.size → RK rk (arrOf t) i ≤ RK rk (arrOf t) j
  have fin : ∀ t, SB k0 a0 t → (∀ i j, i ≤ j → j < a0.size → RK rk (arrOf t) i ≤ RK rk (arrOf t) j) → Fin' (setPending t ((pendingOf t).push (0, a0.size, 0))) := fun t bt u =>
    ⟨bt.pm, bt.fl, (by show (pendingOf t).push _ = _; rw [bt.pn]; rfl), u⟩
  refine wpS_bind (wpS_mono (wpS_forRange (fun n c t => (n = 0 ∧ c = (none, 0) ∧ SB k0 a0 t) ∨ (0 < n ∧ c = (none, a0.size) ∧ Fin' t)) (Q := fun c t => c = (none, a0.size) ∧ Fin' t) ?_ ?_ (.inl ⟨rfl, rfl, b⟩)) ?_)
  · rintro n c t _ _ (⟨rfl, rfl, bt⟩ | ⟨n0, rfl, ft⟩)
    · dsimp only
      rw [if_neg (by omega)]
      simp only [Nat.zero_add, Nat.min_self, Nat.sub_zero]
      refine wpS_bind (run_ok hL bt (Nat.le_refl _) (by omega) fun r t2 b2 r1 r2 u2 => ?_)
      dsimp only
      have last : ∀ t3, SB k0 a0 t3 → (∀ i j, i ≤ j → j < a0.size → RK rk (arrOf t3) i ≤ RK rk (arrOf t3) j) → (pendingOf t3).back? = none ∧ Fin' (setPending t3 ((pendingOf t3).push (0, a0.size, 0))) := fun t3 b3 u3 => ⟨by rw [b3.pn]; rfl, fin t3 b3 u3⟩
      by_cases z : r < a0.size
      · rw [if_pos z]
        refine wpS_bind (wpS_lift (wpAny_rule ⟨rfl, wpS_bind (ins_ok hL b2 (Nat.le_refl _) r2 u2 fun t3 b3 u3 => ?_)⟩))
        rw [if_neg (by simp)]
        refine wpS_bind (wpS_get ?_)
        rw [(last t3 b3 u3).1]
        dsimp only
        exact wpS_bind (wpS_modify (wpS_pure (.inr ⟨Nat.succ_pos _, rfl, (last t3 b3 u3).2⟩)))
      · rw [if_neg z]
        have e : r = a0.size := by omega
        subst e
        refine wpS_bind (wpS_get ?_)
        rw [(last t2 b2 u2).1]
        dsimp only
        exact wpS_bind (wpS_modify (wpS_pure (.inr ⟨Nat.succ_pos _, rfl, (last t2 b2 u2).2⟩)))
    · dsimp only
      rw [if_pos (Nat.le_refl _)]
      exact wpS_pure ⟨rfl, ft⟩
  · rintro c t (⟨z, _, _⟩ | ⟨_, e, ft⟩)
    · omega
    · exact ⟨e, ft⟩
  · rintro c t ⟨rfl, ft⟩
    dsimp only
    refine wpS_bind (wpS_mono (wpS_forRange (fun _ c t2 => t2 = t ∧ c = (none, ())) (Q := fun c t2 => t2 = t ∧ c = (none, ())) ?_ (fun _ _ z => z) ⟨rfl, rfl⟩) ?_)
    · rintro n c t2 _ _ ⟨rfl, rfl⟩
      refine wpS_bind (wpS_get ?_)
      rw [if_pos (by rw [ft.2.2.1]; exact Nat.le_refl 1)]
      exact wpS_pure ⟨rfl, rfl⟩
    · rintro c t2 ⟨rfl, rfl⟩
      exact wpS_pure (h _ ft.1 ft.2.1 ft.2.2.2)
end
end L2
set_option Elab.async false
set_option linter.all false
set_option maxRecDepth 100000
set_option maxHeartbeats 1000000
namespace L2
open PySem PySem.Spec PyProof.Rows
def lexB : List Int → List Int → Bool
  | [], [] => false
  | [], _ :: _ => true
  | _ :: _, [] => false
  | a :: x, b :: y => if a = b then lexB x y else decide (a < b)
theorem lexB_irr : ∀ x : List Int, lexB x x = false
  | [] => rfl
  | a :: x => by unfold lexB; rw [if_pos rfl]; exact lexB_irr x
theorem lexB_trans : ∀ {x y z : List Int}, lexB x y = true → lexB y z = true → lexB x z = true
  | [], [], _, h, _ => by cases h
  | [], _ :: _, [], _, h => by cases h
  | [], _ :: _, _ :: _, _, _ => rfl
  | _ :: _, [], _, h, _ => by cases h
  | _ :: _, _ :: _, [], _, h => by cases h
  | a :: x, b :: y, c :: z, h1, h2 => by
    unfold lexB at h1 h2 ⊢
    by_cases e1 : a = b
    · subst e1
      rw [if_pos rfl] at h1
      by_cases e2 : a = c
      · rw [if_pos e2] at h2 ⊢; exact lexB_trans h1 h2
      · rw [if_neg e2] at h2 ⊢; exact h2
    · rw [if_neg e1] at h1
      have l1 := of_decide_eq_true h1
      by_cases e2 : b = c
      · subst e2; rw [if_neg e1]; exact h1
      · rw [if_neg e2] at h2
        have l2 := of_decide_eq_true h2
        rw [if_neg (by omega)]
        exact decide_eq_true (by omega)
theorem lexB_tot : ∀ {x y : List Int}, lexB x y = false → lexB y x = false → x = y
  | [], [], _, _ => rfl
  | [], _ :: _, h, _ => by cases h
  | _ :: _, [], _, h => by cases h
  | a :: x, b :: y, h1, h2 => by
    unfold lexB at h1 h2
    by_cases e : a = b
    · subst e
      rw [if_pos rfl] at h1 h2
      rw [lexB_tot h1 h2]
    · rw [if_neg e] at h1
      rw [if_neg (Ne.symm e)] at h2
      have l1 := of_decide_eq_false h1
      have l2 := of_decide_eq_false h2
      omega
theorem filter_fewer {α : Type} {p q : α → Bool} : ∀ {l : List α}, (∀ z ∈ l, p z = true → q z = true) → (l.filter p).length ≤ (l.filter q).length
  | [], _ => Nat.le_refl _
  | a :: l, h => by
    have ih := filter_fewer (l := l) fun z hz => h z (List.mem_cons_of_mem _ hz)
    have ha := h a List.mem_cons_self
    cases hp : p a with
    | true => rw [List.filter_cons_of_pos hp, List.filter_cons_of_pos (ha hp)]; simp only [List.length_cons]; omega
    | false =>
      rw [List.filter_cons_of_neg (by simp [hp])]
      cases hq : q a with
      | true => rw [List.filter_cons_of_pos hq]; simp only [List.length_cons]; omega
      | false => rw [List.filter_cons_of_neg (by simp [hq])]; exact ih
theorem filter_less {α : Type} {p q : α → Bool} : ∀ {l : List α} {x : α}, (∀ z ∈ l, p z = true → q z = true) → x ∈ l → q x = true → p x = false → (l.filter p).length < (l.filter q).length
  | [], x, _, hx, _, _ => by cases hx
  | a :: l, x, h, hx, q1, p1 => by
    have hl : ∀ z ∈ l, p z = true → q z = true := fun z hz => h z (List.mem_cons_of_mem _ hz)
    rcases List.mem_cons.mp hx with rfl | hx
    · rw [List.filter_cons_of_neg (by simp [p1]), List.filter_cons_of_pos q1]
      have := filter_fewer hl
      simp only [List.length_cons]; omega
    · have ih := filter_less hl hx q1 p1
      have ha := h a List.mem_cons_self
      cases hp : p a with
      | true => rw [List.filter_cons_of_pos hp, List.filter_cons_of_pos (ha hp)]; simp only [List.length_cons]; omega
      | false =>
        rw [List.filter_cons_of_neg (by simp [hp])]
        cases hq : q a with
        | true => rw [List.filter_cons_of_pos hq]; simp only [List.length_cons]; omega
        | false => rw [List.filter_cons_of_neg (by simp [hq])]; exact ih
def rnk (ks : List (List Int)) (u : List Int) : Int := ((ks.filter fun z => lexB z u).length : Nat)
theorem rnk_lt {ks : List (List Int)} {x y : List Int} (hx : x ∈ ks) (h : lexB x y = true) : rnk ks x < rnk ks y := by
  have := filter_less (p := fun z => lexB z x) (q := fun z => lexB z y) (fun z _ hz => lexB_trans hz h) hx h (lexB_irr x)
  unfold rnk
  omega
theorem rnk_ok {ks : List (List Int)} {x y : List Int} (hx : x ∈ ks) (hy : y ∈ ks) : decide (rnk ks x < rnk ks y) = lexB x y := by
  cases h : lexB x y with
  | true => exact decide_eq_true (rnk_lt hx h)
  | false =>
    refine decide_eq_false fun z => ?_
    cases g : lexB y x with
    | true => have := rnk_lt hy g; omega
    | false => rw [lexB_tot h g] at z; omega
def vInt : Value → Int
  | .int n _ => n
  | _ => 0
theorem ints_map : ∀ {vs : List Value} {u : List Int}, IntsAre vs u → vs.map vInt = u
  | _, _, .nil => rfl
  | _, _, .cons n t h => by rw [List.map_cons, ints_map h]; rfl
def kfI (h : Heap) (v : Value) : List Int := match v with
  | .ref a => match h.get? a with
    | some o => match o.data with
      | .seq its _ => its.toList.map vInt
      | _ => []
    | none => []
  | _ => []
def TupI (h : Heap) (v : Value) (u : List Int) : Prop := ∃ a o its n, v = .ref a ∧ h.get? a = some o ∧ o.cls = .type "tuple" ∧ o.data = .seq its n ∧ IntsAre its.toList u
theorem TupI.kf {h : Heap} {v : Value} {u : List Int} (t : TupI h v u) : kfI h v = u := by
  obtain ⟨a, o, its, n, rfl, e, c, d, i⟩ := t
  unfold kfI
  dsimp only
  rw [e]
  dsimp only
  rw [d]
  exact ints_map i
theorem TupI.keep' {h h' : Heap} {v : Value} {u : List Int} (t : TupI h v u) (k : ∀ (b : Addr) (o : Obj), o.cls = .type "tuple" → h.get? b = some o → h'.get? b = some o) : TupI h' v u := by
  obtain ⟨a, o, its, n, rfl, e, c, r⟩ := t
  exact ⟨a, o, its, n, rfl, k a o c e, c, r⟩
end L2
set_option Elab.async false
set_option linter.all false
set_option maxRecDepth 100000
set_option maxHeartbeats 1000000
set_option Elab.async false
set_option linter.all false
set_option maxRecDepth 100000
set_option maxHeartbeats 1000000
namespace L2
open PySem PySem.Spec PyProof.Rows
section
variable {prog : Program} {w : World} {A : Around} {E : Value → Shared → Prop} {s : Shared}
theorem sort_gen {a : Addr} {vs : List Value} {n : Nat} {k0 : SortKind} {rk : Value → Int} {P : Fin → Shared → Prop} (hb : s.heap.get? a = some (seqObj "list" vs.toArray n)) (h64 : vs.length < 64)
    (hk : 2 ≤ vs.length → ∀ h' : Heap, (∀ b o, b ≠ a → s.heap.get? b = some o → h'.get? b = some o) → ∀ (E : Value → Shared → Prop) (Q : SortKind → Shared → Prop), Q k0 { s with heap := h' } → wpAny (model prog w) A (keyKind' vs.toArray) Q E { s with heap := h' })
    (hL : ∀ h' : Heap, (∀ b o, b ≠ a → s.heap.get? b = some o → h'.get? b = some o) → LtOk prog w A { s with heap := h' } k0 (pairsOf vs) rk)
    (h : ∀ xs : Array Keyed, xs.Perm (pairsOf vs) → (∀ i j, i ≤ j → j < (pairsOf vs).size → RK rk xs i ≤ RK rk xs j) → P (.done (.ret .none)) { s with heap := sortedHeap s.heap a vs (xs.map (·.2)) }) :
    wpAny (model prog w) A (Builtin.«list.sort» ⟨[.ref a], []⟩) P E s := by
  have la : a < s.heap.objs.size := Heap.lt_size hb
  have sv : vs.toArray.size = vs.length := List.size_toArray ..
  rw [list_sort_plain]
  refine wpAny_bind (listItems_at hb rfl (wpAny_bind (listUpdate_at hb rfl ?_)))
  have g1 := get?_update_seq hb (fun _ => (#[] : Array Value))
  have k1 : ∀ b o, b ≠ a → s.heap.get? b = some o → (s.heap.update a (Obj.mapSeq fun _ => #[])).get? b = some o := fun b o nb z => by
    rw [Heap.get?_update_ne _ _ _ _ nb]; exact z
  refine wpAny_bind (seqEpoch_at g1 rfl (wpAny_bind (wpAny_newTuple (wpAny_bind (wpAny_newList (wpAny_holding ?_))))))
  show wpAny (model prog w) A _ P E { s with heap := ((s.heap.update a (Obj.mapSeq fun _ => #[])).push (seqObj "tuple" vs.toArray 0)).push (seqObj "list" #[] 0) }
  have g6 := Heap.get?_push_of_some (seqObj "list" #[] 0) (Heap.get?_push_of_some (seqObj "tuple" vs.toArray 0) g1)
  have k6 : ∀ b o, b ≠ a → s.heap.get? b = some o → (((s.heap.update a (Obj.mapSeq fun _ => #[])).push (seqObj "tuple" vs.toArray 0)).push (seqObj "list" #[] 0)).get? b = some o := fun b o nb z => Heap.get?_push_of_some _ (Heap.get?_push_of_some _ (k1 b o nb z))
  have done : ∀ (xs : Array Keyed) (t : SortSt), arrOf t = xs → failedOf t = none → xs.Perm (pairsOf vs) → (∀ i j, i ≤ j → j < (pairsOf vs).size → RK rk xs i ≤ RK rk xs j) →
      wpAny (model prog w) A (do
        let touched := (← seqEpoch a) != (if (#[] : Array Value).size == vs.toArray.size then n else n + 1)
        Builtin.List.listUpdate (.ref a) fun _ => (arrOf t).map (·.2)
        if let some e := failedOf t then rule "list.sort.comparison-raised"; throw e
        if touched then rule "list.sort.modified"; raiseError "ValueError" "list modified during sort"
        ret .none) P E { s with heap := ((s.heap.update a (Obj.mapSeq fun _ => #[])).push (seqObj "tuple" vs.toArray 0)).push (seqObj "list" #[] 0) } := by
    rintro xs t rfl ft pm up
    refine wpAny_bind (seqEpoch_at g6 rfl (wpAny_bind (listUpdate_at g6 rfl ?_ (hsz2 := ?_))))
    · rw [ft]
      dsimp only
      rw [if_neg (by simp)]
      exact wpAny_pure (h _ pm up)
    · show ((arrOf t).map (·.2)).size ≤ sizeLine + 1
      rw [Array.size_map, pm.size_eq, pairsOf_size]
      exact Nat.le_trans (show vs.length ≤ 1000 by omega) (by decide)
  by_cases h2 : vs.toArray.size < 2
  · rw [if_pos h2, if_pos h2]
    refine wpAny_bind (wpAny_pure ?_)
    dsimp only
    rw [StateT.run_pure]
    refine wpAny_bind (wpAny_pure (done _ (SortSt.mk' general' (vs.toArray.zip vs.toArray) #[] 7 none) rfl rfl (Array.Perm.refl _) fun i j ij jl => ?_))
    rw [pairsOf_size] at jl
    rw [show i = j by omega]
    exact Int.le_refl _
  · rw [if_neg h2, if_neg h2]
    refine wpAny_bind (hk (by omega) _ k6 _ _ ?_)
    refine wpAny_bind (wpAny_mono (runs_ok (hL _ k6) (st := SortSt.mk' k0 (vs.toArray.zip vs.toArray) #[] 7 none) (a0 := pairsOf vs) ⟨Array.Perm.refl _, rfl, rfl, rfl⟩ (by rw [pairsOf_size]; omega) (by rw [pairsOf_size]; exact h64) (Q := fun _ t => (arrOf t).Perm (pairsOf vs) ∧ failedOf t = none ∧ ∀ i j, i ≤ j → j < (pairsOf vs).size → RK rk (arrOf t) i ≤ RK rk (arrOf t) j) fun t p1 p2 p3 => ⟨p1, p2, p3⟩) ?_ fun _ _ z => z)
    rintro ⟨⟨⟩, t⟩ s' ⟨rfl, p1, p2, p3⟩
    exact done _ t rfl p2 p1 p3
end
end L2
set_option Elab.async false
set_option linter.all false
set_option maxRecDepth 100000
set_option maxHeartbeats 1000000
set_option Elab.async false
set_option linter.all false
set_option maxRecDepth 100000
set_option maxHeartbeats 1000000
set_option Elab.async false
set_option linter.all false
set_option maxRecDepth 100000
set_option maxHeartbeats 1000000
set_option Elab.async false
set_option linter.all false
set_option maxRecDepth 100000
set_option maxHeartbeats 1000000
set_option Elab.async false
set_option linter.all false
set_option maxRecDepth 100000
set_option maxHeartbeats 1000000
set_option Elab.async false
set_option linter.all false
set_option maxRecDepth 100000
set_option maxHeartbeats 1000000
namespace L2
open PySem PySem.Spec PyProof.Rows
def hsh (prog : Program) (w : World) (u : List Int) : Int := tupleKeyHash (intKind prog w) u
end L2
set_option Elab.async false
set_option linter.all false
set_option maxRecDepth 100000
set_option maxHeartbeats 1000000
set_option Elab.async false
set_option linter.all false
set_option maxRecDepth 100000
set_option maxHeartbeats 4000000
namespace L2
open PySem PySem.Spec PyProof.Rows
def ddT (us : List (List Int)) : List (List Int) := us.foldl (fun acc k => if k ∈ acc then acc else acc ++ [k]) []
theorem ddT_mem (us : List (List Int)) (k : List Int) : k ∈ ddT us ↔ k ∈ us := by
  have : ∀ (us acc : List (List Int)), k ∈ us.foldl (fun acc k => if k ∈ acc then acc else acc ++ [k]) acc ↔ k ∈ acc ∨ k ∈ us := by
    intro us
    induction us with
    | nil => intro acc; simp
    | cons j us ih =>
      intro acc
      rw [List.foldl_cons, ih]
      split
      · rename_i h
        constructor
        · rintro (z | z)
          · exact .inl z
          · exact .inr (List.mem_cons_of_mem _ z)
        · rintro (z | z)
          · exact .inl z
          · rcases List.mem_cons.mp z with rfl | z
            · exact .inl h
            · exact .inr z
      · simp [or_assoc]
  have := this us []
  unfold ddT
  simpa using this
theorem ddT_nodup (us : List (List Int)) : (ddT us).Nodup := by
  have : ∀ (us acc : List (List Int)), acc.Nodup → (us.foldl (fun acc k => if k ∈ acc then acc else acc ++ [k]) acc).Nodup := by
    intro us
    induction us with
    | nil => intro acc h; exact h
    | cons j us ih =>
      intro acc h
      refine ih _ ?_
      show (if j ∈ acc then acc else acc ++ [j]).Nodup
      split
      · exact h
      · rename_i hj
        rw [List.nodup_append]
        exact ⟨h, by simp, fun a ha b hb z => hj (by rw [← List.mem_singleton.mp hb, ← z]; exact ha)⟩
  exact this us [] List.nodup_nil
end L2
set_option Elab.async false
set_option linter.all false
set_option maxRecDepth 100000
set_option maxHeartbeats 4000000
namespace L2
open PySem PySem.Spec PyProof.Rows
theorem tup_keep {h h' : Heap} {a : Addr} {o : Obj} (ho : h.get? a = some o) (hc : o.cls = .type "list") (k : ∀ b ob, b ≠ a → h.get? b = some ob → h'.get? b = some ob) (b : Addr) (ob : Obj) (c : ob.cls = .type "tuple") (e : h.get? b = some ob) : h'.get? b = some ob := by
  refine k b ob (fun z => ?_) e
  rw [z, ho] at e
  cases e
  rw [hc] at c
  exact absurd c (by decide)
end L2
set_option Elab.async false
set_option linter.all false
set_option maxRecDepth 100000
set_option maxHeartbeats 1000000
set_option Elab.async false
set_option linter.all false
set_option maxRecDepth 100000
set_option maxHeartbeats 1000000
namespace L2
open PySem PySem.Spec PyProof.Rows
def RawD (h : Heap) (d : Addr) (es : Array DictEntry) (ep : Nat) : Prop := ∃ o, h.get? d = some o ∧ o.ExactDict ∧ o.data = .dict es ep
theorem RawD.keep {h h' : Heap} {d : Addr} {es : Array DictEntry} {ep : Nat} (r : RawD h d es ep) (k : ∀ o, h.get? d = some o → h'.get? d = some o) : RawD h' d es ep :=
  let ⟨o, e, x⟩ := r; ⟨o, k o e, x⟩
def ItF (h : Heap) (it d : Addr) (f0 f1 : Value) (i n ep : Nat) (ok ov : Value) : Prop :=
  h.get? it = some { cls := .type "dict_itemiterator", data := .fields #[f0, f1, .ref d, .int i 0, .int n 0, .int ep 0, ok, ov] }
section
variable {prog : Program} {w : World} {A : Around} {E : Value → Shared → Prop} {s : Shared} {it d : Addr} {f0 f1 ok ov : Value} {i ep : Nat} {es : Array DictEntry}
theorem itf_type (g : ItF s.heap it d f0 f1 i es.size ep ok ov) : s.TypeIs (.ref it) "dict_itemiterator" := ⟨_, g, rfl⟩
theorem owns_it : Builtin.Dict_items.ownsTuple "dict_itemiterator" = true := by decide
theorem nx_pre {Q : Option Value → Shared → Prop} (g : ItF s.heap it d f0 f1 i es.size ep ok ov) (hd : RawD s.heap d es ep) (hi : i < es.size)
    (k : ∀ (A' : Around) (E' : Value → Shared → Prop) (h1 : Heap), ItF h1 it d f0 f1 (i + 1) es.size ep ok ov → Heap.SameBut it s.heap h1 → wpAny (model prog w) A' (Builtin.Dict_items.pairFromOwner (.ref it) 6 es[i].key es[i].val) (fun v s' => Q (some v) s') E' { s with heap := h1 }) :
    wpAny (model prog w) A (pyNext (.ref it)) Q E s := by
  obtain ⟨o, e1, e2, e3⟩ := hd
  have ty := itf_type g
  unfold pyNext
  refine wpAny_bind (wpAny_attempt (wpAny_callSpecial?_slot ty PySem.F.slot_dict_itemiterator_next (wpAny_call_entry PySem.F.slot_dict_itemiterator_next ty PySem.F.entry_dict_itemiterator_next ?_ (PySem.F.args_dict_itemiterator_next_1 _))))
  refine wpAny_bind (wpAny_pure (wpAny_bind (wpAny_bind (wpAny_bind (wpAny_typeNameOfWhole_itemiter ty (wpAny_pure (wpAny_bind (wpAny_fieldsOf g rfl ?_))))))))
  simp only [owns_it, if_true]
  show wpAny _ _ (if (Value.ref d == Value.none) = true then _ else _) _ _ _
  rw [if_neg (by intro z; cases z)]
  refine wpAny_bind (wpAny_pure (wpAny_bind (wpAny_dictEntries e1 e3 ?_)))
  rw [if_neg (by simp)]
  refine wpAny_bind (wpAny_pure (wpAny_bind (wpAny_dictEpoch e1 e3 ?_)))
  rw [if_neg (by simp)]
  refine wpAny_pure ?_
  have n0 : ¬ ((i : Int) < 0) := by omega
  simp only [n0, if_false, Int.toNat_natCast, Array.getElem?_eq_getElem hi]
  refine wpAny_bind (wpAny_bind (wpAny_typeNameOfWhole_itemiter ty (wpAny_pure (wpAny_bind (wpAny_isOneOf_itemiter ty ?_)))))
  show wpAny _ _ (setField (.ref it) 3 (rawInt ((i : Int) + 1)) >>= _) _ _ _
  refine wpAny_bind (wpAny_setField_rec g (by simp) fun h1 g1 sb => ?_)
  have g2 : ItF h1 it d f0 f1 (i + 1) es.size ep ok ov := g1
  have ty1 : Shared.TypeIs { s with heap := h1 } (.ref it) "dict_itemiterator" := ⟨_, g2, rfl⟩
  refine wpAny_bind (wpAny_holding (wpAny_bind (wpAny_isOneOf_itemiter ty1 (wpAny_bind (wpAny_isOneOf_itemiter ty1 ?_)))))
  show wpAny _ _ (Builtin.Dict_items.pairFromOwner (.ref it) 6 es[i].key es[i].val) _ _ _
  exact wpAny_mono (k _ _ h1 g2 sb) (fun v s' q => wpAny_pure ⟨v, rfl, wpAny_pure q⟩) fun _ _ z => z
theorem pair_first {key val : Value} {Q : Value → Shared → Prop} (g : ItF s.heap it d .none f1 i es.size ep ok ov)
    (k : ∀ h', ItF h' it d (rawInt s.heap.objs.size) (.bool false) i es.size ep key val → h'.get? s.heap.objs.size = some { cls := .type "tuple", data := .seq #[key, val] } → h'.objs.size = s.heap.objs.size + 1 → (∀ b o, b ≠ it → s.heap.get? b = some o → h'.get? b = some o) → Q (.ref s.heap.objs.size) { s with heap := h' }) :
    wpAny (model prog w) A (Builtin.Dict_items.pairFromOwner (.ref it) 6 key val) Q E s := by
  have hil : it < s.heap.objs.size := Heap.lt_size g
  unfold Builtin.Dict_items.pairFromOwner
  refine wpAny_bind (wpAny_newTuple ?_)
  have g1 : ItF (s.heap.push { cls := .type "tuple", data := .seq #[key, val] }) it d .none f1 i es.size ep ok ov := Heap.get?_push_of_some _ g
  have t1 : (s.heap.push { cls := .type "tuple", data := .seq #[key, val] }).get? s.heap.objs.size = some { cls := .type "tuple", data := .seq #[key, val] } := Heap.get?_push_size _ rfl
  have z1 : (s.heap.push { cls := .type "tuple", data := .seq #[key, val] }).objs.size = s.heap.objs.size + 1 := Heap.size_push ..
  have k1 : ∀ b o, b ≠ it → s.heap.get? b = some o → (s.heap.push { cls := .type "tuple", data := .seq #[key, val] }).get? b = some o := fun b o _ e => Heap.get?_push_of_some _ e
  show wpAny _ _ (Builtin.Dict_items.ownedTupleIsFree (.ref it) >>= _) _ _ { s with heap := s.heap.push { cls := .type "tuple", data := .seq #[key, val] } }
  generalize s.heap.push { cls := .type "tuple", data := .seq #[key, val] } = h1 at g1 t1 z1 k1
  unfold Builtin.Dict_items.ownedTupleIsFree
  refine wpAny_bind (wpAny_bind (wpAny_field g1 rfl (x := .none) rfl (wpAny_pure ?_)))
  simp only [if_true]
  refine wpAny_bind (wpAny_field g1 rfl (x := ok) rfl (wpAny_bind (wpAny_field g1 rfl (x := ov) rfl ?_)))
  refine wpAny_bind (wpAny_setField_rec g1 (by simp) fun h2 g2 b2 => ?_)
  refine wpAny_bind (wpAny_setField_rec g2 (by simp) fun h3 g3 b3 => ?_)
  refine wpAny_bind (wpAny_setField_rec g3 (by simp) fun h4 g4 b4 => ?_)
  refine wpAny_bind (wpAny_setField_rec g4 (by simp) fun h5 g5 b5 => ?_)
  have all : ∀ b o, b ≠ it → h1.get? b = some o → h5.get? b = some o := fun b o n e => Heap.SameBut.extBut b5 b o n (Heap.SameBut.extBut b4 b o n (Heap.SameBut.extBut b3 b o n (Heap.SameBut.extBut b2 b o n e)))
  have sz : h5.objs.size = s.heap.objs.size + 1 := by
    have q2 : h2.objs.size = h1.objs.size := b2.1
    have q3 : h3.objs.size = h2.objs.size := b3.1
    have q4 : h4.objs.size = h3.objs.size := b4.1
    have q5 : h5.objs.size = h4.objs.size := b5.1
    omega
  exact wpAny_bind (wpAny_letGo (wpAny_pure (k h5 g5 (all _ _ (Nat.ne_of_gt hil) t1) sz fun b o n e => all b o n (k1 b o n e))))
theorem pair_more {key val : Value} {a : Addr} {oa : Obj} {f : Bool} {Q : Value → Shared → Prop} (g : ItF s.heap it d (rawInt a) (.bool f) i es.size ep ok ov) (ha : s.heap.get? a = some oa)
    (k : ∀ h', ItF h' it d (rawInt a) (.bool true) i es.size ep ok ov → h'.get? s.heap.objs.size = some { cls := .type "tuple", data := .seq #[key, val] } → h'.objs.size = s.heap.objs.size + 1 → (∀ b o, b ≠ it → s.heap.get? b = some o → h'.get? b = some o) → Q (.ref s.heap.objs.size) { s with heap := h' }) :
    wpAny (model prog w) A (Builtin.Dict_items.pairFromOwner (.ref it) 6 key val) Q E s := by
  have hil : it < s.heap.objs.size := Heap.lt_size g
  unfold Builtin.Dict_items.pairFromOwner
  refine wpAny_bind (wpAny_newTuple ?_)
  have g1 : ItF (s.heap.push { cls := .type "tuple", data := .seq #[key, val] }) it d (rawInt a) (.bool f) i es.size ep ok ov := Heap.get?_push_of_some _ g
  have t1 : (s.heap.push { cls := .type "tuple", data := .seq #[key, val] }).get? s.heap.objs.size = some { cls := .type "tuple", data := .seq #[key, val] } := Heap.get?_push_size _ rfl
  have a1 := Heap.get?_push_of_some { cls := .type "tuple", data := .seq #[key, val] } ha
  have z1 : (s.heap.push { cls := .type "tuple", data := .seq #[key, val] }).objs.size = s.heap.objs.size + 1 := Heap.size_push ..
  have k1 : ∀ b o, b ≠ it → s.heap.get? b = some o → (s.heap.push { cls := .type "tuple", data := .seq #[key, val] }).get? b = some o := fun b o _ e => Heap.get?_push_of_some _ e
  show wpAny _ _ (Builtin.Dict_items.ownedTupleIsFree (.ref it) >>= _) _ _ { s with heap := s.heap.push { cls := .type "tuple", data := .seq #[key, val] } }
  generalize s.heap.push { cls := .type "tuple", data := .seq #[key, val] } = h1 at g1 t1 z1 k1 a1
  unfold Builtin.Dict_items.ownedTupleIsFree
  refine wpAny_bind (wpAny_bind (wpAny_field g1 rfl (x := rawInt a) rfl ?_))
  show wpAny _ _ (loadIfAlive ((a : Int).toNat) >>= _) _ _ _
  rw [Int.toNat_natCast]
  refine wpAny_bind (PySem.W.kdx_alive a1 ?_)
  simp only [Option.isNone_some, Bool.false_eq_true, if_false]
  refine wpAny_bind (wpAny_field g1 rfl (x := .bool f) rfl ?_)
  cases f with
  | true =>
    rw [if_neg (by decide)]
    refine wpAny_pure ?_
    simp only [Bool.false_eq_true, if_false]
    exact wpAny_pure (k h1 g1 t1 z1 k1)
  | false =>
    rw [if_pos (by decide)]
    refine wpAny_bind (wpAny_setField_rec g1 (by simp) fun h2 g2 b2 => wpAny_pure ?_)
    simp only [Bool.false_eq_true, if_false]
    exact wpAny_pure (k h2 g2 (Heap.SameBut.extBut b2 _ _ (Nat.ne_of_gt hil) t1) (by have q2 : h2.objs.size = h1.objs.size := b2.1; omega) fun b o n e => Heap.SameBut.extBut b2 b o n (k1 b o n e))
theorem nx_end {Q : Option Value → Shared → Prop} (hh : A.handled = none) (g : ItF s.heap it d f0 f1 es.size es.size ep ok ov) (hd : RawD s.heap d es ep)
    (k : ∀ h', Heap.ExtBut it s.heap h' → Q none { s with heap := h' }) : wpAny (model prog w) A (pyNext (.ref it)) Q E s := by
  obtain ⟨o, e1, e2, e3⟩ := hd
  have ty : s.TypeIs (.ref it) "dict_itemiterator" := ⟨_, g, rfl⟩
  unfold pyNext
  refine wpAny_bind (wpAny_attempt (wpAny_callSpecial?_slot ty PySem.F.slot_dict_itemiterator_next (wpAny_call_entry PySem.F.slot_dict_itemiterator_next ty PySem.F.entry_dict_itemiterator_next ?_ (PySem.F.args_dict_itemiterator_next_1 _))))
  refine wpAny_bind (wpAny_pure (wpAny_bind (wpAny_bind (wpAny_bind (wpAny_typeNameOfWhole_itemiter ty (wpAny_pure (wpAny_bind (wpAny_fieldsOf g rfl ?_))))))))
  simp only [owns_it, if_true]
  show wpAny _ _ (if (Value.ref d == Value.none) = true then _ else _) _ _ _
  rw [if_neg (by intro z; cases z)]
  refine wpAny_bind (wpAny_pure (wpAny_bind (wpAny_dictEntries e1 e3 ?_)))
  rw [if_neg (by simp)]
  refine wpAny_bind (wpAny_pure (wpAny_bind (wpAny_dictEpoch e1 e3 ?_)))
  rw [if_neg (by simp)]
  refine wpAny_pure ?_
  have n0 : ¬ ((es.size : Int) < 0) := by omega
  simp only [n0, if_false, Int.toNat_natCast, Array.getElem?_eq_none (Nat.le_refl _)]
  refine wpAny_bind (wpAny_bind (wpAny_typeNameOfWhole_itemiter ty (wpAny_pure ?_)))
  show wpAny _ _ (setField (.ref it) 2 .none >>= _) _ _ s
  refine wpAny_bind (wpAny_setField g rfl (by simp) ?_)
  show wpAny _ _ (newExc (Value.type "StopIteration") [] >>= fun e => raiseNew e) _ _ _
  refine stop_j hh fun e h' kp ⟨ob, ge, gc⟩ => ?_
  refine wpAny_bind (wpAny_isInstance (T := "StopIteration") (b := true) ⟨ob, ge, gc⟩ isSubtype_stop ?_)
  exact wpAny_pure (k _ fun b o n e => kp b o (Heap.SameBut.extBut (Heap.SameBut.update ..) b o n e))
def ItS (h : Heap) (it d S : Addr) (i n ep : Nat) : Prop := (i = 0 ∧ ∃ ok ov, ItF h it d .none (.bool false) 0 n ep ok ov) ∨ ∃ (a : Addr) (f : Bool) (ok ov : Value) (oa : Obj), ItF h it d (rawInt a) (.bool f) i n ep ok ov ∧ h.get? a = some oa ∧ a ≠ it ∧ a ≠ S
theorem ItS.keep {h h' : Heap} {S : Addr} {n : Nat} (x : ItS h it d S i n ep) (nS : it ≠ S) (k : ∀ b o, b ≠ S → h.get? b = some o → h'.get? b = some o) : ItS h' it d S i n ep := by
  rcases x with ⟨e, ok, ov, g⟩ | ⟨a, f, ok, ov, oa, g, ga, n1, n2⟩
  · exact .inl ⟨e, ok, ov, k _ _ nS g⟩
  · exact .inr ⟨a, f, ok, ov, oa, k _ _ nS g, k _ _ n2 ga, n1, n2⟩
theorem its_next {S : Addr} {Q : Option Value → Shared → Prop} (x : ItS s.heap it d S i es.size ep) (hS : S < s.heap.objs.size) (hd : RawD s.heap d es ep) (hi : i < es.size)
    (k : ∀ h', ItS h' it d S (i + 1) es.size ep → h'.get? s.heap.objs.size = some { cls := .type "tuple", data := .seq #[es[i].key, es[i].val] } → h'.objs.size = s.heap.objs.size + 1 → (∀ b o, b ≠ it → s.heap.get? b = some o → h'.get? b = some o) → Q (some (.ref s.heap.objs.size)) { s with heap := h' }) :
    wpAny (model prog w) A (pyNext (.ref it)) Q E s := by
  rcases x with ⟨rfl, ok, ov, g⟩ | ⟨a, f, ok, ov, oa, g, ga, n1, n2⟩
  · refine nx_pre g hd hi fun A' E' h1 g1 sb => ?_
    have z1 : h1.objs.size = s.heap.objs.size := sb.1
    have hil : it < s.heap.objs.size := Heap.lt_size g
    refine pair_first (s := { s with heap := h1 }) g1 fun h' g2 t2 z2 k2 => ?_
    dsimp only at g2 t2 z2 k2 ⊢
    rw [z1] at g2 t2 z2 ⊢
    exact k h' (.inr ⟨_, _, _, _, _, g2, t2, Nat.ne_of_gt hil, Nat.ne_of_gt hS⟩) t2 z2 fun b o n e => k2 b o n (Heap.SameBut.extBut sb b o n e)
  · refine nx_pre g hd hi fun A' E' h1 g1 sb => ?_
    have z1 : h1.objs.size = s.heap.objs.size := sb.1
    refine pair_more (s := { s with heap := h1 }) g1 (Heap.SameBut.extBut sb _ _ n1 ga) fun h' g2 t2 z2 k2 => ?_
    dsimp only at g2 t2 z2 k2 ⊢
    rw [z1] at t2 z2 ⊢
    have k3 : ∀ b o, b ≠ it → s.heap.get? b = some o → h'.get? b = some o := fun b o n e => k2 b o n (Heap.SameBut.extBut sb b o n e)
    exact k h' (.inr ⟨a, true, ok, ov, oa, g2, k3 _ _ n1 ga, n1, n2⟩) t2 z2 k3
theorem its_end {S : Addr} {Q : Option Value → Shared → Prop} (hh : A.handled = none) (x : ItS s.heap it d S es.size es.size ep) (hd : RawD s.heap d es ep)
    (k : ∀ h', Heap.ExtBut it s.heap h' → Q none { s with heap := h' }) : wpAny (model prog w) A (pyNext (.ref it)) Q E s := by
  rcases x with ⟨e, ok, ov, g⟩ | ⟨a, f, ok, ov, oa, g, _⟩
  · have g' : ∀ m, m = 0 → ItF s.heap it d .none (.bool false) m es.size ep ok ov := fun m z => by subst z; exact g
    exact nx_end hh (g' _ e) hd k
  · exact nx_end hh g hd k
def PairsAt (h : Heap) (es : Array DictEntry) (as : List Addr) : Prop := ∀ (j : Nat) (a : Addr), as[j]? = some a → ∃ e, es[j]? = some e ∧ h.get? a = some { cls := .type "tuple", data := .seq #[e.key, e.val] }
theorem pairs_keep {h h' : Heap} {as : List Addr} (p : PairsAt h es as) (k : ∀ a ∈ as, ∀ o, h.get? a = some o → h'.get? a = some o) : PairsAt h' es as := fun j a e => by
  obtain ⟨x, e1, e2⟩ := p j a e
  exact ⟨x, e1, k a (List.mem_of_getElem? e) _ e2⟩
theorem loop_its {R : Result → Shared → Prop} {S I : Addr} (hh : A.handled = none) (hSI : S ≠ I) (hSd : S ≠ d) (hId : I ≠ d) (hn : es.size ≤ sizeLine) (res : Value) {h0 : Heap}
    (hR : ∀ (h' : Heap) (c : Nat) (acc : Array Value) (as : List Addr), (∀ b o, b ≠ S → b ≠ I → h0.get? b = some o → h'.get? b = some o) → h'.get? S = some { cls := .type "list", data := .seq acc c } → as.length = es.size → PairsAt h' es as → (∀ a ∈ as, h0.objs.size ≤ a) → acc.toList = as.map Value.ref → R (.ok (.ret res)) { s with heap := h' }) :
    ∀ (k i : Nat) (h : Heap) (c : Nat) (acc : Array Value) (as : List Addr), es.size - i = k → i ≤ es.size → ItS h I d S i es.size ep → RawD h d es ep → (∀ b o, b ≠ S → b ≠ I → h0.get? b = some o → h.get? b = some o) → h0.objs.size ≤ h.objs.size → h.get? S = some { cls := .type "list", data := .seq acc c } → acc.toList = as.map Value.ref → as.length = i → PairsAt h es as → (∀ a ∈ as, h0.objs.size ≤ a ∧ a ≠ S ∧ a ≠ I) →
      codeAny (model prog w) A (.builtin "list.extend.loop" ⟨[.ref S, .ref I, res], []⟩) R { s with heap := h } := by
  intro k
  induction k with
  | zero =>
    intro i h c acc as hk hi st rd kp sz gS ha hl pa na
    have ei : i = es.size := by omega
    subst ei
    refine codeAny_builtin PySem.F.entry_extend_loop ?_
    rw [Around.under_plainId PySem.F.plain_extend_loop _]
    show wpAny _ A.in1 (pyNext (.ref I) >>= _) _ _ _
    refine wpAny_bind (its_end (s := { s with heap := h }) hh st rd fun h' x => wpAny_pure (hR h' c acc as (fun b o n1 n2 e => x b o n2 (kp b o n1 n2 e)) (x _ _ hSI gS) hl (pairs_keep pa fun a m o e => x a o (na a m).2.2 e) (fun a m => (na a m).1) ha))
  | succ k ih =>
    intro i h c acc as hk hi st rd kp sz gS ha hl pa na
    have il : i < es.size := by omega
    refine codeAny_builtin PySem.F.entry_extend_loop ?_
    rw [Around.under_plainId PySem.F.plain_extend_loop _]
    show wpAny _ A.in1 (pyNext (.ref I) >>= _) _ _ _
    refine wpAny_bind (its_next (s := { s with heap := h }) st (Heap.lt_size gS) rd il fun h' st' t' z' x => ?_)
    dsimp only at t' z' x ⊢
    have gS' := x _ _ hSI gS
    have asz : acc.size = i := by rw [← Array.length_toList, ha, List.length_map, hl]
    show wpAny _ A.in1 (updateSeq S (·.push (.ref h.objs.size)) >>= _) _ _ _
    have oth : ∀ b o, b ≠ S → h'.get? b = some o → (h'.update S (Obj.mapSeq (·.push (.ref h.objs.size)))).get? b = some o := fun b o n e => (Heap.get?_update_other _ _ (Ne.symm n)).trans e
    have Il : I < h.objs.size := by
      rcases st with ⟨_, _, _, g⟩ | ⟨_, _, _, _, _, g, _⟩ <;> exact Heap.lt_size g
    have sn : h.objs.size ≠ S := Nat.ne_of_gt (Heap.lt_size gS)
    refine wpAny_bind (wpAny_updateSeq gS' rfl (wpAny_pure ⟨plainId_quiet PySem.F.plain_extend_loop _, ih (i + 1) _ _ (acc.push (.ref h.objs.size)) (as ++ [h.objs.size]) (by omega) il (st'.keep (Ne.symm hSI) oth) (rd.keep fun o e => oth d o (Ne.symm hSd) (x d o (Ne.symm hId) e)) (fun b o n1 n2 e => oth b o n1 (x b o n2 (kp b o n1 n2 e))) ?_ (Heap.get?_update_self _ gS' rfl) ?_ ?_ ?_ ?_⟩) (by rw [asz]; omega) (by show (acc.push _).size ≤ sizeLine + 1; rw [Array.size_push, asz]; omega))
    · rw [Heap.size_update]
      show h0.objs.size ≤ h'.objs.size
      omega
    · rw [Array.toList_push, ha, List.map_append]; rfl
    · rw [List.length_append, hl]; rfl
    · intro j a e
      by_cases jl : j < as.length
      · rw [List.getElem?_append_left jl] at e
        obtain ⟨y, e1, e2⟩ := pa j a e
        have na' := na a (List.mem_of_getElem? e)
        exact ⟨y, e1, oth a _ na'.2.1 (x a _ na'.2.2 e2)⟩
      · rw [List.getElem?_append_right (by omega)] at e
        have j0 : j = i := by
          have := (List.getElem?_eq_some_iff.mp e).1
          simp only [List.length_cons, List.length_nil] at this
          omega
        subst j0
        rw [hl, Nat.sub_self] at e
        cases e
        exact ⟨es[j], Array.getElem?_eq_getElem il, oth _ _ sn t'⟩
    · intro a m
      rcases List.mem_append.mp m with m | m
      · exact na a m
      · rw [List.mem_singleton.mp m]
        exact ⟨sz, sn, Nat.ne_of_gt Il⟩
theorem iter_its {v : Addr} {Q : Value → Shared → Prop} (hv : s.heap.IsItemsView v d) (hd : RawD s.heap d es ep)
    (k : Q (.ref s.heap.objs.size) { s with heap := s.heap.push { cls := .type "dict_itemiterator", data := .fields #[.none, .bool false, .ref d, .int 0 0, .int es.size 0, .int ep 0, .none, .none] } }) : wpAny (model prog w) A (pyIter (.ref v)) Q E s := by
  obtain ⟨o, e1, e2, e3⟩ := hd
  have ty := hv.typeIs
  obtain ⟨ov, g1, g2, g3⟩ := hv
  refine wpAny_pyIter_slot ty PySem.F.slot_dict_items_iter (wpAny_call_entry PySem.F.slot_dict_items_iter ty PySem.F.entry_dict_items_iter ?_ (PySem.F.args_dict_items_iter_1 _))
  unfold Builtin.«dict_items.__iter__» Builtin.Dict_items.dictOf Builtin.Dict_items.newIterator
  refine wpAny_bind (wpAny_pure (wpAny_bind (wpAny_bind (wpAny_field g1 g3 (x := .ref d) rfl (wpAny_pure (wpAny_bind (wpAny_bind (wpAny_dictEntries e1 e3 (wpAny_bind (wpAny_dictEpoch e1 e3 ?_))))))))))
  simp only [owns_it, if_true]
  refine wpAny_newObj_type (wpAny_pure ⟨_, rfl, "dict_itemiterator", _, ⟨_, Heap.get?_push_size _ rfl, rfl⟩, PySem.F.slot_dict_itemiterator_next.lookup, ?_⟩) ?_
  · simpa [rawInt, Builtin.Dict_items.ownedTupleFields] using k
  · simp only [sizeOk, Builtin.Dict_items.ownedTupleFields, List.size_toArray, List.length_append, List.length_cons, List.length_nil]
    decide
theorem collect_its {v : Addr} {Q : List Value → Shared → Prop} (hh : A.handled = none) (hv : s.heap.IsItemsView v d) (hd : RawD s.heap d es ep) (hn : es.size ≤ sizeLine)
    (k : ∀ (h' : Heap) (as : List Addr), (∀ b o, s.heap.get? b = some o → h'.get? b = some o) → as.length = es.size → PairsAt h' es as → (∀ a ∈ as, s.heap.objs.size ≤ a) → Q (as.map Value.ref) { s with heap := h' }) : wpAny (model prog w) A (collect (.ref v)) Q E s := by
  have vl : v < s.heap.objs.size := let ⟨_, e, _⟩ := hv; Heap.lt_size e
  have dl : d < s.heap.objs.size := let ⟨_, e, _⟩ := hd; Heap.lt_size e
  have ext : ∀ (s : Shared) (R : Result → Shared → Prop) (S : Addr) (n0 : Nat), s.heap.IsItemsView v d → RawD s.heap d es ep → s.heap.get? S = some { cls := .type "list", data := .seq #[] n0 } → S ≠ v → S ≠ d →
      (∀ (h' : Heap) (c : Nat) (acc : Array Value) (as : List Addr), (∀ b o, b ≠ S → s.heap.get? b = some o → h'.get? b = some o) → h'.get? S = some { cls := .type "list", data := .seq acc c } → as.length = es.size → PairsAt h' es as → (∀ a ∈ as, s.heap.objs.size ≤ a) → acc.toList = as.map Value.ref → R (.ok (.ret (.ref S))) { s with heap := h' }) →
      wpAny (model prog w) A.in1 (Builtin.List.listExtendWith (.ref S) (.ref v) (.ref S)) (fun fin s' => match fin with | .done f => R (.ok f) s' | .again c' => c'.quiet = true ∧ codeAny (model prog w) A c' R s') (fun e s' => R (.error e) s') s := by
    intro s R S n0 hv hd gS nv nd hR
    have dl : d < s.heap.objs.size := let ⟨_, e, _⟩ := hd; Heap.lt_size e
    have Sl : S < s.heap.objs.size := Heap.lt_size gS
    unfold Builtin.List.listExtendWith
    refine wpAny_bind (wpAny_typeOf (T := "dict_items") hv.typeIs ?_)
    have e1 : Builtin.List.listSameRef (.ref S) (.ref v) = false := by simp [Builtin.List.listSameRef, nv]
    have e2 : (Value.type "dict_items" == Value.type "list") = false := by decide
    have e3 : (Value.type "dict_items" == Value.type "tuple") = false := by decide
    simp only [e1, e2, e3, Bool.or_false, Bool.false_eq_true, if_false]
    refine wpAny_bind (iter_its hv hd ?_)
    have g1 := Heap.get?_push_of_some { cls := .type "dict_itemiterator", data := .fields #[.none, .bool false, .ref d, .int 0 0, .int es.size 0, .int ep 0, .none, .none] } gS
    have it1 : ItF (s.heap.push { cls := .type "dict_itemiterator", data := .fields #[.none, .bool false, .ref d, .int 0 0, .int es.size 0, .int ep 0, .none, .none] }) s.heap.objs.size d .none (.bool false) 0 es.size ep .none .none := Heap.get?_push_size _ rfl
    have k1 : ∀ b o, s.heap.get? b = some o → (s.heap.push { cls := .type "dict_itemiterator", data := .fields #[.none, .bool false, .ref d, .int 0 0, .int es.size 0, .int ep 0, .none, .none] }).get? b = some o := fun b o e => Heap.get?_push_of_some _ e
    have z1 : s.heap.objs.size ≤ (s.heap.push { cls := .type "dict_itemiterator", data := .fields #[.none, .bool false, .ref d, .int 0 0, .int es.size 0, .int ep 0, .none, .none] }).objs.size := by rw [Heap.size_push]; omega
    have hv1 : (s.heap.push { cls := .type "dict_itemiterator", data := .fields #[.none, .bool false, .ref d, .int 0 0, .int es.size 0, .int ep 0, .none, .none] }).IsItemsView v d := let ⟨o, e, x⟩ := hv; ⟨o, k1 _ _ e, x⟩
    generalize s.heap.push { cls := .type "dict_itemiterator", data := .fields #[.none, .bool false, .ref d, .int 0 0, .int es.size 0, .int ep 0, .none, .none] } = h1 at g1 it1 k1 z1 hv1
    have go : ∀ (h2 : Heap) (c : Nat), (∀ b o, b ≠ S → h1.get? b = some o → h2.get? b = some o) → h1.objs.size ≤ h2.objs.size → h2.get? S = some { cls := .type "list", data := .seq #[] c } → codeAny (model prog w) A (.builtin "list.extend.loop" ⟨[.ref S, .ref s.heap.objs.size, .ref S], []⟩) R { s with heap := h2 } := fun h2 c k2 z2 g2 => by
      refine loop_its (h0 := s.heap) hh (Nat.ne_of_lt Sl) nd (Nat.ne_of_gt dl) hn (.ref S) (fun h' c acc as q1 q2 q3 q4 q5 q6 => ?_) es.size 0 h2 c #[] [] rfl (Nat.zero_le _) (.inl ⟨rfl, _, _, k2 _ _ (Nat.ne_of_gt Sl) it1⟩) (hd.keep fun o e => k2 _ _ (Ne.symm nd) (k1 _ _ e)) (fun b o n1 _ e => k2 b o n1 (k1 b o e)) (Nat.le_trans z1 z2) g2 rfl rfl (fun j a e => by cases e) (fun a m => by cases m)
      exact hR h' c acc as (fun b o n e => q1 b o n (Nat.ne_of_lt (Heap.lt_size e)) e) q2 q3 q4 q5 q6
    refine wpAny_bind (wpAny_holding (PySem.W.kdx_hint (hv1.typeIs (s := { s with heap := h1 })) ?_))
    refine wpAny_ite_split (fun _ => ?_) (fun _ => wpAny_pure ⟨plainId_quiet PySem.F.plain_extend_loop _, go h1 n0 (fun b o _ e => e) (Nat.le_refl _) g1⟩)
    refine wpAny_bind (wpAny_rule (wpAny_bind ?_))
    show wpAny _ _ (updateSeq S (·.push .none) >>= fun _ => updateSeq S (·.pop)) _ _ _
    refine wpAny_bind (wpAny_updateSeq g1 rfl ?_)
    have g2 := Heap.get?_update_self (Obj.mapSeq (·.push Value.none)) g1 rfl
    refine wpAny_updateSeq (hz := by seq_fits) g2 rfl ?_
    have g3 := Heap.get?_update_self (Obj.mapSeq (·.pop)) g2 rfl
    refine wpAny_pure ⟨plainId_quiet PySem.F.plain_extend_loop _, go _ _ (fun b o n e => ?_) ?_ g3⟩
    · exact (Heap.get?_update_other _ _ (Ne.symm n)).trans ((Heap.get?_update_other _ _ (Ne.symm n)).trans e)
    · rw [Heap.size_update, Heap.size_update]; exact Nat.le_refl _
  have key : ∀ R : Result → Shared → Prop, (∀ (h' : Heap) (c : Nat) (acc : Array Value) (as : List Addr), (∀ b o, s.heap.get? b = some o → h'.get? b = some o) → h'.get? s.heap.objs.size = some { cls := .type "list", data := .seq acc c } → as.length = es.size → PairsAt h' es as → (∀ a ∈ as, s.heap.objs.size ≤ a) → acc.toList = as.map Value.ref → R (.ok (.ret (.ref s.heap.objs.size))) { s with heap := h' }) →
      codeAny (model prog w) A (.builtin "proto.collect" ⟨[.ref v], []⟩) R s := by
    intro R hR
    refine codeAny_builtin PySem.F.entry_proto_collect ?_
    rw [Around.under_plainId PySem.F.plain_proto_collect _]
    show wpAny _ A.in1 (newList [] >>= fun q => again (.builtin "list.__iadd__" ⟨[q, .ref v], []⟩)) _ _ s
    refine wpAny_bind (wpAny_newObj_type (wpAny_pure ⟨plainId_quiet PySem.F.plain_list_iadd _, codeAny_builtin PySem.F.entry_list_iadd ?_⟩))
    rw [Around.under_plainId PySem.F.plain_list_iadd _]
    show wpAny _ A.in1 (Builtin.List.listExtendWith (.ref s.heap.objs.size) (.ref v) (.ref s.heap.objs.size)) _ _ _
    refine ext { s with heap := s.heap.push { cls := .type "list", data := .seq ([] : List Value).toArray } } R s.heap.objs.size 0 (let ⟨o, e, x⟩ := hv; ⟨o, Heap.get?_push_of_some _ e, x⟩) (hd.keep fun o e => Heap.get?_push_of_some _ e) (Heap.get?_push_size _ rfl) (Nat.ne_of_gt vl) (Nat.ne_of_gt dl) fun h' c acc as q1 q2 q3 q4 q5 q6 => ?_
    refine hR h' c acc as (fun b o e => q1 b o (Nat.ne_of_lt (Heap.lt_size e)) (Heap.get?_push_of_some _ e)) q2 q3 q4 (fun a m => ?_) q6
    have := q5 a m
    rw [Heap.size_push] at this
    omega
  unfold collect
  refine wpAny_bind (wpAny_runValue (key _ fun h' c acc as q1 q2 q3 q4 q5 q6 => ?_))
  show wpAny _ A (load s.heap.objs.size >>= _) _ _ _
  refine wpAny_bind (wpAny_load q2 (wpAny_pure ?_))
  have := k h' as q1 q3 q4 q5
  rw [← q6] at this
  exact this
end
end L2
set_option Elab.async false
set_option linter.all false
set_option maxRecDepth 100000
set_option maxHeartbeats 1000000
namespace L2
open PySem PySem.Spec PyProof.Rows
def PrI (h : Heap) (v : Value) (u : List Int) (m : Int) : Prop := ∃ (a : Addr) (o : Obj) (ka : Value) (t : Tok) (n : Nat), v = .ref a ∧ h.get? a = some o ∧ o.cls = .type "tuple" ∧ o.data = .seq #[ka, .int m t] n ∧ TupI h ka u
def kfP (h : Heap) (v : Value) : List Int := match v with
  | .ref a => match h.get? a with
    | some o => match o.data with
      | .seq its _ => kfI h (its.getD 0 .none)
      | _ => []
    | none => []
  | _ => []
def kfM (h : Heap) (v : Value) : Int := match v with
  | .ref a => match h.get? a with
    | some o => match o.data with
      | .seq its _ => vInt (its.getD 1 .none)
      | _ => 0
    | none => 0
  | _ => 0
theorem PrI.kf {h : Heap} {v : Value} {u : List Int} {m : Int} (p : PrI h v u m) : kfP h v = u ∧ kfM h v = m := by
  obtain ⟨a, o, ka, t, n, rfl, e, c, d, x⟩ := p
  unfold kfP kfM
  dsimp only
  rw [e]
  dsimp only
  rw [d]
  exact ⟨x.kf, rfl⟩
theorem PrI.keep {h h' : Heap} {v : Value} {u : List Int} {m : Int} (p : PrI h v u m) (k : ∀ (b : Addr) (o : Obj), o.cls = .type "tuple" → h.get? b = some o → h'.get? b = some o) : PrI h' v u m := by
  obtain ⟨a, o, ka, t, n, rfl, e, c, d, x⟩ := p
  exact ⟨a, o, ka, t, n, rfl, k a o c e, c, d, x.keep' k⟩
theorem ints_items {P : Program} {w : World} : ∀ {vs : List Value} {u : List Int}, IntsAre vs u → ItemsAre (intKind P w) u vs
  | _, _, .nil => .nil
  | _, _, .cons n t h => .cons (intKind_is _ _ _ _) (ints_items h)
theorem lexB_lt : ∀ (u v : List Int), HT.lexLt u v = lexB u v
  | [], [] => rfl
  | [], _ :: _ => rfl
  | _ :: _, [] => rfl
  | a :: u, b :: v => by rw [HT.lexLt_cons, lexB_lt u v]; rfl
section
variable {prog : Program} {w : World} {A : Around} {E : Value → Shared → Prop} {s : Shared}
theorem lt_pairs {x y : Value} {u v : List Int} {m n : Int} {Q : Bool → Shared → Prop} (hu : A.units < cLine) (hx : PrI s.heap x u m) (hy : PrI s.heap y v n) (hm : u = v → m = n) (h : Q (lexB u v) s) : wpAny (model prog w) A (keyLt' (tuples' false) x y) Q E s := by
  obtain ⟨a, o, ka, t, z, rfl, e, c, d, tx⟩ := hx
  obtain ⟨a', o', ka', t', z', rfl, e', c', d', ty⟩ := hy
  obtain ⟨p, op, ip, np, rfl, g1, g2, g3, g4⟩ := tx
  obtain ⟨q, oq, iq, nq, rfl, k1, k2, k3, k4⟩ := ty
  refine PySem.W.kat_lt e d e' d' (PySem.W.kat_cons ?_)
  refine wpAny_eqBool_tuple (knd := intKind prog w) hu ⟨op, ip, np, g1, g2, g3, ints_items g4⟩ ⟨oq, iq, nq, k1, k2, k3, ints_items k4⟩ ?_
  by_cases z : u = v
  · rw [decide_eq_true z]
    refine PySem.W.kat_yes (PySem.W.kat_cons ((intKind prog w).eqBool (a := m) (b := n) (intKind_is _ _ _ _) (intKind_is _ _ _ _) ?_))
    rw [decide_eq_true (hm z)]
    refine PySem.W.kat_yes (PySem.W.kat_nil ?_)
    rw [z, lexB_irr] at h
    exact h
  · rw [decide_eq_false z]
    refine PySem.W.kat_no (PySem.W.kat_one _ _ ?_)
    refine HT.lt_tupInts (items := ip) (items2 := iq) ⟨op, g1, g2, np, g3⟩ ⟨oq, k1, k2, nq, k3⟩ g4 k4 hu ?_
    rw [lexB_lt]
    exact h
theorem kind_pairs {vs : List Value} (hv : ∀ v ∈ vs, ∃ u m, PrI s.heap v u m) (h1 : vs ≠ []) {Q : SortKind → Shared → Prop} (h : Q (tuples' false) s) : wpAny (model prog w) A (keyKind' vs.toArray) Q E s := by
  have key : ∀ vs : List Value, (∀ v ∈ vs, ∃ u m, PrI s.heap v u m) → ∃ fs : List Value, PySem.W.KatTups s.heap vs fs ∧ fs.length = vs.length ∧ ∀ f ∈ fs, ∃ u, TupI s.heap f u := by
    intro vs
    induction vs with
    | nil => exact fun _ => ⟨[], trivial, rfl, fun f m => by cases m⟩
    | cons v vs ih =>
      intro hv
      obtain ⟨fs, f1, f2, f3⟩ := ih fun z m => hv z (List.mem_cons_of_mem _ m)
      obtain ⟨u, m, a, o, ka, t, n, rfl, e, c, d, x⟩ := hv v List.mem_cons_self
      refine ⟨ka :: fs, ⟨⟨a, o, _, n, rfl, e, c, d, rfl⟩, f1⟩, by simp [f2], fun f q => ?_⟩
      rcases List.mem_cons.mp q with rfl | q
      · exact ⟨u, x⟩
      · exact f3 f q
  obtain ⟨fs, f1, f2, f3⟩ := key vs hv
  refine PySem.W.kat_kind (T := .type "tuple") f1 ?_ (fun v m => ?_) (by decide) h
  · cases vs with
    | nil => exact absurd rfl h1
    | cons _ _ => rw [f2]; simp
  · obtain ⟨u, a, o, its, n, rfl, e, c, _⟩ := f3 v m
    exact fun A Q E s k q => wpAny_typeOf (T := "tuple") ⟨o, k _ _ e, c⟩ q
theorem sort_pairs {a : Addr} {vs : List Value} {n : Nat} {P : Fin → Shared → Prop} (hu : A.units < cLine) (hb : s.heap.get? a = some (seqObj "list" vs.toArray n)) (h64 : vs.length < 64) (hv : ∀ v ∈ vs, ∃ u m, PrI s.heap v u m)
    (hm : ∀ v ∈ vs, ∀ v' ∈ vs, kfP s.heap v = kfP s.heap v' → kfM s.heap v = kfM s.heap v')
    (h : ∀ out : Array Value, out.toList.Perm vs → (out.toList.map (kfP s.heap)).Pairwise (fun x y => lexB y x = false) → P (.done (.ret .none)) { s with heap := sortedHeap s.heap a vs out }) : wpAny (model prog w) A (Builtin.«list.sort» ⟨[.ref a], []⟩) P E s := by
  have kt : ∀ h' : Heap, (∀ b o, b ≠ a → s.heap.get? b = some o → h'.get? b = some o) → ∀ v ∈ vs, ∃ u m, PrI h' v u m ∧ kfP s.heap v = u ∧ kfM s.heap v = m := fun h' k v q => by
    obtain ⟨u, m, t⟩ := hv v q
    exact ⟨u, m, t.keep (tup_keep hb rfl k), t.kf.1, t.kf.2⟩
  have mz : ∀ p, p ∈ (pairsOf vs).toList → p.1 = p.2 ∧ p.1 ∈ vs := fun p q => by rw [pairsOf_toList] at q; exact mem_zip_self q
  refine sort_gen (k0 := tuples' false) (rk := fun v => rnk (vs.map (kfP s.heap)) (kfP s.heap v)) hb h64 (fun h2 h' k E' Q' q => ?_) (fun h' k E' x y Q' hx hy q => ?_) fun xs pm up => ?_
  · refine kind_pairs (s := { s with heap := h' }) (fun v hv' => ?_) (fun z => by rw [z] at h2; simp at h2) q
    obtain ⟨u, m, t, _⟩ := kt h' k v hv'
    exact ⟨u, m, t⟩
  · obtain ⟨u, m, t, eu, em⟩ := kt h' k x.1 (mz x hx).2
    obtain ⟨u', m', t', eu', em'⟩ := kt h' k y.1 (mz y hy).2
    refine lt_pairs (s := { s with heap := h' }) hu t t' (fun z => ?_) ?_
    · rw [← em, ← em']
      exact hm _ (mz x hx).2 _ (mz y hy).2 (by rw [eu, eu', z])
    have m1 : kfP s.heap x.1 ∈ vs.map (kfP s.heap) := List.mem_map.mpr ⟨_, (mz x hx).2, rfl⟩
    have m2 : kfP s.heap y.1 ∈ vs.map (kfP s.heap) := List.mem_map.mpr ⟨_, (mz y hy).2, rfl⟩
    have e3 : lexB u u' = decide (rnk (vs.map (kfP s.heap)) (kfP s.heap x.1) < rnk (vs.map (kfP s.heap)) (kfP s.heap y.1)) := by rw [rnk_ok m1 m2, eu, eu']
    rw [e3]
    exact q
  · have pl : xs.toList.Perm (vs.zip vs) := by rw [← pairsOf_toList]; exact Array.perm_iff_toList_perm.mp pm
    have ps : (xs.map (·.2)).toList.Perm vs := by
      rw [Array.toList_map]
      have := pl.map (·.2)
      rw [List.map_snd_zip (Nat.le_refl _)] at this
      exact this
    refine h (xs.map (·.2)) ps ?_
    rw [List.pairwise_iff_getElem]
    intro i j hi hj ij
    have lx : (xs.map (·.2)).toList.length = xs.size := by rw [Array.length_toList, Array.size_map]
    rw [List.length_map, lx] at hi hj
    have hz : xs.size = (pairsOf vs).size := pm.size_eq
    have q := up i j (Nat.le_of_lt ij) (by omega)
    have mi : xs[i] ∈ (pairsOf vs).toList := (Array.perm_iff_toList_perm.mp pm).subset (Array.getElem_mem_toList hi)
    have mj : xs[j] ∈ (pairsOf vs).toList := (Array.perm_iff_toList_perm.mp pm).subset (Array.getElem_mem_toList hj)
    unfold RK at q
    rw [Array.getElem?_eq_getElem hi, Array.getElem?_eq_getElem hj] at q
    dsimp only at q
    have e := rnk_ok (ks := vs.map (kfP s.heap)) (x := kfP s.heap xs[j].1) (y := kfP s.heap xs[i].1) (List.mem_map.mpr ⟨_, (mz _ mj).2, rfl⟩) (List.mem_map.mpr ⟨_, (mz _ mi).2, rfl⟩)
    rw [decide_eq_false (by omega)] at e
    simp only [List.getElem_map, Array.getElem_toList, Array.getElem_map]
    rw [← (mz _ mi).1, ← (mz _ mj).1]
    exact e.symm
theorem sorted_its {v d : Addr} {es : Array DictEntry} {ep : Nat} {Q : Value → Shared → Prop} (hu : A.in1.in1.units < cLine) (hh : A.handled = none) (hv : s.heap.IsItemsView v d) (hd : RawD s.heap d es ep) (h64 : es.size < 64) {ks : List (List Int × Int)} (hl : es.size = ks.length)
    (he : ∀ (j : Nat) (e : DictEntry) (k : List Int × Int), es[j]? = some e → ks[j]? = some k → TupI s.heap e.key k.1 ∧ ∃ t, e.val = .int k.2 t) (hn : (ks.map (·.1)).Nodup)
    (h : ∀ (out : Array Value) (ws : List (List Int × Int)) (h1 h' : Heap) (e : Nat), (∀ b ob, s.heap.get? b = some ob → h1.get? b = some ob) → (∀ b ob, h1.get? b = some ob → h'.get? b = some ob) → out.size = ws.length → (∀ (i : Nat) (v : Value) (u : List Int × Int), out[i]? = some v → ws[i]? = some u → ∃ (a ka : Addr) (t : Tok), v = .ref a ∧ s.heap.objs.size ≤ a ∧ h1.get? a = some { cls := .type "tuple", data := .seq #[.ref ka, .int u.2 t] } ∧ (∃ en ∈ es.toList, en.key = .ref ka) ∧ TupI s.heap (.ref ka) u.1) → ws.Perm ks → ws.Pairwise (fun x y => lexB y.1 x.1 = false) → h'.get? h1.objs.size = some (seqObj "list" out e) → Q (.ref h1.objs.size) { s with heap := h' }) :
    wpAny (model prog w) A (call (.builtin "sorted") [.ref v]) Q E s := by
  refine Calls.call_function_entry kind_sorted plain_sorted entry_sorted (args_sorted1 _) ?_
  unfold Builtin.«sorted»
  refine wpAny_bind (m := checkCount "sorted" 1 1 _) (wpAny_pure (wpAny_bind (collect_its (by simp [hh]) hv hd (Nat.le_of_lt (small1000 (by omega))) fun h1 as kp la pa na => ?_)))
  have PR : ∀ (j : Nat) (a : Addr) (k : List Int × Int), as[j]? = some a → ks[j]? = some k → PrI h1 (.ref a) k.1 k.2 ∧ ∃ (ka : Addr) (t : Tok), h1.get? a = some { cls := .type "tuple", data := .seq #[.ref ka, .int k.2 t] } ∧ (∃ en ∈ es.toList, en.key = .ref ka) ∧ TupI s.heap (.ref ka) k.1 := fun j a k e1 e2 => by
    obtain ⟨e, x1, x2⟩ := pa j a e1
    obtain ⟨y1, t, y2⟩ := he j e k x1 e2
    rw [y2] at x2
    refine ⟨⟨a, _, e.key, t, _, rfl, x2, rfl, rfl, y1.keep' fun b o _ q => kp b o q⟩, ?_⟩
    have y1' := y1
    obtain ⟨ka, o, its, n, ek, _⟩ := y1'
    rw [ek] at x2 y1
    exact ⟨ka, t, x2, ⟨e, by rw [← Array.getElem?_toList] at x1; exact List.mem_of_getElem? x1, ek⟩, y1⟩
  have lz : as.length = ks.length := by omega
  refine wpAny_bind (wpAny_newList ?_)
  have hoL : (h1.push { cls := .type "list", data := .seq (as.map Value.ref).toArray }).get? h1.objs.size = some (seqObj "list" (as.map Value.ref).toArray 0) := Heap.get?_push_size _ rfl
  have kp2 : ∀ (b : Addr) (o : Obj), o.cls = .type "tuple" → h1.get? b = some o → (h1.push { cls := .type "list", data := .seq (as.map Value.ref).toArray }).get? b = some o := fun b o _ e => Heap.get?_push_of_some _ e
  have at_ : ∀ v ∈ as.map Value.ref, ∃ (j : Nat) (a : Addr) (k : List Int × Int), v = .ref a ∧ as[j]? = some a ∧ ks[j]? = some k := fun v m => by
    obtain ⟨a, ma, rfl⟩ := List.mem_map.mp m
    obtain ⟨j, hj⟩ := List.mem_iff_getElem?.mp ma
    have jl := (List.getElem?_eq_some_iff.mp hj).1
    exact ⟨j, a, ks[j], rfl, hj, List.getElem?_eq_getElem (by omega)⟩
  refine wpAny_bind (wpAny_holding (wpAny_call_entry slot_list_sort ⟨_, hoL, rfl⟩ entry_list_sort (sort_pairs (s := { s with heap := h1.push { cls := .type "list", data := .seq (as.map Value.ref).toArray } }) ?_ hoL (by rw [List.length_map]; omega) (fun v q => ?_) (fun v q v' q' ev => ?_) fun out po so => ⟨_, rfl, ?_⟩) (args_list_sort _)))
  · exact hu
  · obtain ⟨j, a, k, rfl, e1, e2⟩ := at_ v q
    exact ⟨_, _, (PR j a k e1 e2).1.keep kp2⟩
  · obtain ⟨j, a, k, rfl, e1, e2⟩ := at_ v q
    obtain ⟨j', a', k', rfl, e1', e2'⟩ := at_ v' q'
    have p1 := ((PR j a k e1 e2).1.keep kp2).kf
    have p2 := ((PR j' a' k' e1' e2').1.keep kp2).kf
    dsimp only at ev ⊢
    rw [p1.1, p2.1] at ev
    rw [p1.2, p2.2]
    have jj : j = j' := by
      have l1 : (ks.map (·.1))[j]? = some k.1 := by rw [List.getElem?_map, e2]; rfl
      have l2 : (ks.map (·.1))[j']? = some k.1 := by rw [List.getElem?_map, e2', ev]; rfl
      obtain ⟨b1, c1⟩ := List.getElem?_eq_some_iff.mp l1
      obtain ⟨b2, c2⟩ := List.getElem?_eq_some_iff.mp l2
      exact (List.getElem_inj hn).mp (c1.trans c2.symm)
    subst jj
    rw [e2] at e2'
    cases e2'
    rfl
  · obtain ⟨e, hE⟩ := sortedHeap_at (out := out) hoL
    generalize hH : h1.push { cls := .type "list", data := .seq (as.map Value.ref).toArray } = H1 at *
    have kf : ∀ (j : Nat) (a : Addr) (k : List Int × Int), as[j]? = some a → ks[j]? = some k → (kfP H1 (.ref a), kfM H1 (.ref a)) = k := fun j a k e1 e2 => by
      have p1 := ((PR j a k e1 e2).1.keep kp2).kf
      rw [p1.1, p1.2]
    have ek : (as.map Value.ref).map (fun v => (kfP H1 v, kfM H1 v)) = ks := by
      apply List.ext_getElem?
      intro i
      rw [List.getElem?_map, List.getElem?_map]
      by_cases z : i < as.length
      · have e1 : as[i]? = some as[i] := List.getElem?_eq_getElem z
        have e2 : ks[i]? = some ks[i] := List.getElem?_eq_getElem (by omega)
        rw [e1, e2]
        show some (kfP H1 (.ref as[i]), kfM H1 (.ref as[i])) = _
        rw [kf i _ _ e1 e2]
      · rw [List.getElem?_eq_none (by omega), List.getElem?_eq_none (by omega)]
        rfl
    refine wpAny_pure ⟨_, rfl, h out (out.toList.map (fun v => (kfP H1 v, kfM H1 v))) h1 _ e kp (fun b ob z => ?_) (by rw [List.length_map, Array.length_toList]) (fun i v u h3 h4 => ?_) ?_ ?_ hE⟩
    · have hlt : b < h1.objs.size := Heap.lt_size z
      have hlt2 : b < H1.objs.size := by rw [← hH, Heap.size_push]; exact Nat.lt_succ_of_lt hlt
      rw [sortedHeap_old (Nat.ne_of_lt hlt) hlt2]
      rw [← hH]
      exact Heap.get?_push_of_some _ z
    · rw [List.getElem?_map, Array.getElem?_toList, h3] at h4
      cases h4
      have mv : v ∈ as.map Value.ref := po.mem_iff.mp (by rw [← Array.getElem?_toList] at h3; exact List.mem_of_getElem? h3)
      obtain ⟨j, a, k, rfl, e1, e2⟩ := at_ v mv
      obtain ⟨ka, t, y1, y2, y3⟩ := (PR j a k e1 e2).2
      have := kf j a k e1 e2
      have k1 : kfP H1 (.ref a) = k.1 := congrArg Prod.fst this
      have k2 : kfM H1 (.ref a) = k.2 := congrArg Prod.snd this
      dsimp only
      rw [k1, k2]
      exact ⟨a, ka, t, rfl, na a (List.mem_of_getElem? e1), y1, y2, y3⟩
    · have p1 := po.map (fun v => (kfP H1 v, kfM H1 v))
      rw [ek] at p1
      exact p1
    · rw [List.pairwise_map] at so ⊢
      exact so
end
end L2
set_option Elab.async false
set_option linter.all false
set_option maxRecDepth 100000
set_option maxHeartbeats 1000000
namespace L2
open PySem PySem.Spec PyProof.Rows
def IView (v d : Addr) : Heap → Prop := fun h => h.IsItemsView v d
def PrL (H : Hp) (xs : List V) (us : List (List Int × Int)) : Prop := xs.length = us.length ∧ ∀ (i : Nat) (x : V) (u : List Int × Int), xs[i]? = some x → us[i]? = some u → ∃ a b : Addr, x = .ref a ∧ H a = some (.tup [.ref b, .int u.2]) ∧ H b = some (.tup (u.1.map V.int))
theorem meets_its (prog : Program) (w : World) (d : Addr) (hd : (d == sysModules) = false) : MeetsIn prog w (Builtin.«dict.items» ⟨[.ref d], []⟩) (fun _ R s => s.TypeIs (.ref d) "dict" ∧ R (.ok (.ret (.ref s.heap.objs.size))) { s with heap := s.heap.push { cls := .type "dict_items", data := .fields #[.ref d] } }) :=
  .of_wp fun A R s ⟨ty, h⟩ => by
    unfold Builtin.«dict.items» Builtin.Dict.noArgs
    refine wpAny_bind (wpAny_bind (wpAny_notOrdered_dict ty ?_))
    show wpAny _ _ (pure d) _ _ s
    refine wpAny_pure ?_
    show wpAny _ _ (Builtin.Dict.showsAll d >>= _) _ _ s
    unfold Builtin.Dict.showsAll
    rw [if_neg (by rw [hd]; decide)]
    exact wpAny_bind (wpAny_pure (wpAny_bind (wpAny_newObj_type (wpAny_pure ⟨_, rfl, h⟩))))
theorem paired_at {α β : Type} {F : α → β → Prop} {l1 : List α} {l2 : List β} (p : Paired F l1 l2) : l1.length = l2.length ∧ ∀ (j : Nat) (a : α) (b : β), l1[j]? = some a → l2[j]? = some b → F a b := by
  induction p with
  | nil => exact ⟨rfl, fun j a b e => by cases e⟩
  | cons h t ih =>
    refine ⟨by simp [ih.1], fun j a b e1 e2 => ?_⟩
    cases j with
    | zero => cases e1; cases e2; exact h
    | succ j => exact ih.2 j a b (by simpa using e1) (by simpa using e2)
def cont (h : Heap) (b : Addr) : Option HO := match h.get? b with
  | some o => match o.data with
    | .seq its _ => match its.toList with
      | [.ref ka, .int m _] => some (.tup [.ref ka, .int m])
      | _ => none
    | _ => none
  | none => none
def adr : Value → Addr
  | .ref a => a
  | _ => 0
def withPairs (H : Hp) (h : Heap) (l : Addr) (al : List Addr) : Hp := fun b => match H b with
  | some o => some o
  | none => if b = l then some (.lst (al.map V.ref)) else if b ∈ al then cont h b else none
theorem Inv.more {X : Cx} {pins : List (Addr × Obj)} {σ : List (Option V)} {H H' : Hp} {s : Shared} {h' : Heap} {t' : Nat} (I : Inv X pins σ H s) (k : ∀ b u, s.heap.get? b = some u → h'.get? b = some u) (old : ∀ b o, H b = some o → H' b = some o) (new : ∀ b o, H b = none → H' b = some o → s.heap.get? b = none ∧ ObjOk X.prog X.w H' h' b o) : Inv X pins σ H' { s with heap := h', toks := t' } := by
  refine I.un ⟨fun b u q _ _ _ => k b u q, fun b u q _ _ _ => ⟨u.slots, k b u q⟩, fun b u q n _ => ?_, fun b u q _ => ⟨u, k b u q⟩, fun b xs q => old b _ q, fun b u xs q => old b _ q, fun b ps q => ⟨#[], by rw [old b _ q]; simp⟩⟩ fun b o e => ?_
  · cases z : H' b with
    | none => rfl
    | some o => rw [(new b o n z).1] at q; cases q
  · cases z : H b with
    | none => exact (new b o z e).2
    | some o' =>
      have := old b o' z
      rw [e] at this
      cases this
      exact (I.hok b o z).stay (fun c v _ q => k c v q) (fun c q => old c _ q) fun c xs q => old c _ q
section
variable {X : Cx}
def tDItems (td : TE) : TE := fun σ H Q => td σ H fun x H1 => ∃ d kvs, x = .ref d ∧ H1 d = some (.dT kvs) ∧ ∀ v, H1 v = none → Q (.ref v) (upd H1 v (.ext (IView v d)))
theorem pe_ditems {o : Expr} {td : TE} {apos cpos : PySem.Pos} (ho : PE X o td) (hbase : attributeBase o "items" X.env (eval o X.env) = eval o X.env := by rfl) (hline : (apos.endLine == cpos.line) = true := by rfl) : PE X (.Call (.Attribute o "items" apos) [] [] cpos) (tDItems td) := by
  intro pins s σ H Q I h
  refine wpAny_Call_method0_late hbase hline (thn (ho pins s σ H _ I h) fun u s1 ⟨x, H1, I1, rx, d, kvs, ex, hd, q⟩ => ?_)
  subst ex
  cases rx
  obtain ⟨t1, t2, t3⟩ := isD_at I1 (.inr ⟨kvs, .inl hd⟩)
  refine ⟨"dict", "dict.items", PySem.F.plainAttrs_dict, PySem.F.slot_dict_items, PySem.F.type_dict_items, t1, t2, Calls.callWith_builtin rfl (PySem.evalArgs_none ?_)⟩
  refine call_meetsIn PySem.F.slot_dict_items t1 PySem.F.entry_dict_items (PySem.F.args_dict_items_1 _) (meets_its X.prog X.w d t3) ⟨t1, ?_⟩
  have g : (s1.heap.push { cls := .type "dict_items", data := .fields #[.ref d] }).get? s1.heap.objs.size = some { cls := .type "dict_items", data := .fields #[.ref d] } := Heap.get?_push_size _ rfl
  exact ⟨.ref s1.heap.objs.size, _, I1.laid (t' := s1.toks) (o := .ext (IView s1.heap.objs.size d)) (fun b o e => Heap.get?_push_of_some _ e) (Nat.le_refl _) ⟨⟨_, g, rfl, rfl⟩, ⟨_, g⟩, fun h1 h2 ⟨ob, e, c⟩ k => ⟨ob, k ob e, c⟩⟩, rfl, q _ (I1.hok.fresh (Nat.le_refl _))⟩
theorem call_sortedI {k : Nat} (hr : Room k X.A) : CallR X (.builtin "sorted") (fun xs H Q => ∃ (v d : Addr) (ks : List (List Int × Int)), xs = [.ref v] ∧ H v = some (.ext (IView v d)) ∧ H d = some (.dT (ks.map fun k => (k.1.map Sum.inl, V.int k.2))) ∧ ks.length < 64 ∧
    ∀ (l : Addr) (ps : List V) (ws : List (List Int × Int)) (H' : Hp), H l = none → (∀ b o, H b = some o → H' b = some o) → H' l = some (.lst ps) → PrL H' ps ws → ws.Perm ks → ws.Pairwise (fun x y => lexB y.1 x.1 = false) → Q (.ref l) H') := by
  intro pins s σ H xs us Q I r h
  obtain ⟨v, d, ks, rfl, hv, hd, h64, q⟩ := h
  obtain ⟨u, rfl, rx⟩ := vals1 r
  cases rx
  obtain ⟨iv, _, _⟩ := (show ObjOk X.prog X.w H s.heap v (.ext (IView v d)) from I.hok v _ hv)
  obtain ⟨_, hsys, xs, rel, o, es, ep, ho, hx, hdat, hes, hn⟩ := (show ObjOk X.prog X.w H s.heap d (.dT _) from I.hok d _ hd)
  obtain ⟨rl, ra⟩ := paired_at rel
  rw [List.length_map] at rl
  have row : ∀ (j : Nat) (e : DictEntry) (k : List Int × Int), es[j]? = some e → ks[j]? = some k → ∃ (ka : Addr) (t : Tok), e.key = .ref ka ∧ e.val = .int k.2 t ∧ H ka = some (.tup (k.1.map V.int)) := fun j e k e1 e2 => by
    rw [← Array.getElem?_toList, hes, List.getElem?_map] at e1
    cases z : xs[j]? with
    | none => rw [z] at e1; cases e1
    | some x =>
      rw [z] at e1
      cases e1
      have g := ra j _ x (by rw [List.getElem?_map, e2]; rfl) z
      obtain ⟨g1, g2, g3⟩ := g
      have g3 : RelV (V.int k.2) x.2.2 := g3
      obtain ⟨t, g4⟩ := g3
      refine ⟨x.2.1, t, rfl, g4, ?_⟩
      have g2 : H x.2.1 = some (.tup ((k.1.map Sum.inl).map kV)) := g2
      rw [List.map_map] at g2
      exact g2
  have tupI : ∀ (ka : Addr) (u : List Int), H ka = some (.tup (u.map V.int)) → TupI s.heap (.ref ka) u := fun ka u g => by
    obtain ⟨_, its, rv, o, e, c, n, dd⟩ := (show ObjOk X.prog X.w H s.heap ka (.tup (u.map V.int)) from I.hok ka _ g)
    exact ⟨ka, o, its.toArray, n, rfl, e, c, dd, by rw [List.toList_toArray]; exact intsAre_of rv⟩
  have sz : es.size = ks.length := by rw [← Array.length_toList, hes, List.length_map, ← rl]
  have nd : (ks.map (·.1)).Nodup := by
    have e : xs.map (·.1) = (ks.map (·.1)).map (fun u => u.map Sum.inl) := by
      apply List.ext_getElem?
      intro j
      rw [List.getElem?_map, List.map_map, List.getElem?_map]
      cases z : xs[j]? with
      | none => rw [List.getElem?_eq_none (by have := List.getElem?_eq_none_iff.mp z; omega)]; rfl
      | some x =>
        have jl := (List.getElem?_eq_some_iff.mp z).1
        have e2 : ks[j]? = some ks[j] := List.getElem?_eq_getElem (by omega)
        have g := ra j _ x (by rw [List.getElem?_map, e2]; rfl) z
        rw [e2]
        show some x.1 = some _
        rw [← g.1]
        rfl
    rw [e] at hn
    exact (List.pairwise_map.mp hn).imp fun h e => h (by rw [e])
  have hu : X.A.in1.in1.units < cLine := by
    have := hr.un
    show X.A.units + 1 + 1 < cLine
    omega
  refine sorted_its (ks := ks) hu hr.hd iv ⟨o, ho, hx, hdat⟩ (by omega) sz (fun j e k e1 e2 => ?_) nd fun out ws h1 h' e kp kp2 lo hout pm sr hl => ?_
  · obtain ⟨ka, t, g1, g2, g3⟩ := row j e k e1 e2
    rw [g1]
    exact ⟨tupI _ _ g3, t, g2⟩
  · have hw : ∀ (i : Nat) (v : Value) (u : List Int × Int), out[i]? = some v → ws[i]? = some u → ∃ (a ka : Addr) (t : Tok), v = .ref a ∧ s.heap.objs.size ≤ a ∧ h1.get? a = some { cls := .type "tuple", data := .seq #[.ref ka, .int u.2 t] } ∧ H ka = some (.tup (u.1.map V.int)) := fun i v u e1 e2 => by
      obtain ⟨a, ka, t, x1, x2, x3, ⟨en, x4, x5⟩, x6⟩ := hout i v u e1 e2
      obtain ⟨j, hj⟩ := List.mem_iff_getElem?.mp x4
      rw [Array.getElem?_toList] at hj
      have jl := (Array.getElem?_eq_some_iff.mp hj).1
      have kj : ks[j]? = some ks[j] := List.getElem?_eq_getElem (by omega)
      obtain ⟨ka', t', y1, y2, y3⟩ := row j en _ hj kj
      rw [x5] at y1
      cases y1
      have := x6.kf.symm.trans (tupI _ _ y3).kf
      rw [← this] at y3
      exact ⟨a, ka, t, x1, x2, x3, y3⟩
    have fresh : ∀ a, s.heap.objs.size ≤ a → H a = none := fun a q => I.hok.fresh q
    have I1 : Inv X pins σ H { s with heap := h1 } := I.kept (t' := s.toks) kp
    have fl : H h1.objs.size = none := I1.hok.fresh (Nat.le_refl _)
    have gone : ∀ a, s.heap.objs.size ≤ a → s.heap.get? a = none := fun a q => by
      cases z : s.heap.get? a with
      | none => rfl
      | some o => exact absurd (Heap.lt_size z) (Nat.not_lt.mpr q)
    have gl : s.heap.get? h1.objs.size = none := by
      cases z : s.heap.get? h1.objs.size with
      | none => rfl
      | some o => exact absurd (Heap.lt_size (kp _ _ z)) (Nat.lt_irrefl _)
    have atI : ∀ a ∈ out.toList.map adr, ∃ (ka : Addr) (t : Tok) (u : List Int × Int), s.heap.objs.size ≤ a ∧ h1.get? a = some { cls := .type "tuple", data := .seq #[.ref ka, .int u.2 t] } ∧ H ka = some (.tup (u.1.map V.int)) := fun a m => by
      obtain ⟨v, mv, ev⟩ := List.mem_map.mp m
      obtain ⟨i, hi⟩ := List.mem_iff_getElem?.mp mv
      rw [Array.getElem?_toList] at hi
      have il := (Array.getElem?_eq_some_iff.mp hi).1
      obtain ⟨a', ka, t, x1, x2, x3, x4⟩ := hw i v _ hi (List.getElem?_eq_getElem (by omega))
      rw [x1] at ev
      have ev : a' = a := ev
      subst ev
      exact ⟨ka, t, _, x2, x3, x4⟩
    have ct : ∀ (a ka : Addr) (m : Int) (t : Tok), h1.get? a = some { cls := .type "tuple", data := .seq #[.ref ka, .int m t] } → cont h1 a = some (.tup [.ref ka, .int m]) := fun a ka m t g => by
      unfold cont
      rw [g]
    have wp : ∀ (a ka : Addr) (m : Int) (t : Tok), a ∈ out.toList.map adr → s.heap.objs.size ≤ a → h1.get? a = some { cls := .type "tuple", data := .seq #[.ref ka, .int m t] } → withPairs H h1 h1.objs.size (out.toList.map adr) a = some (.tup [.ref ka, .int m]) := fun a ka m t ma sa g => by
      unfold withPairs
      rw [fresh a sa]
      dsimp only
      rw [if_neg (Nat.ne_of_lt (Heap.lt_size g)), if_pos ma, ct a ka m t g]
    have old : ∀ b o, H b = some o → withPairs H h1 h1.objs.size (out.toList.map adr) b = some o := fun b o q => by
      unfold withPairs
      rw [q]
    have wl : withPairs H h1 h1.objs.size (out.toList.map adr) h1.objs.size = some (.lst ((out.toList.map adr).map V.ref)) := by
      unfold withPairs
      rw [fl]
      dsimp only
      rw [if_pos rfl]
    have o64 : out.size ≤ 63 := by rw [lo, pm.length_eq]; omega
    have I2 : Inv X pins σ (withPairs H h1 h1.objs.size (out.toList.map adr)) { s with heap := h', toks := s.toks } := by
      refine Inv.more I (fun b u z => kp2 b u (kp b u z)) old fun b ob nb hb => ?_
      have hb' := hb
      unfold withPairs at hb'
      rw [nb] at hb'
      dsimp only at hb'
      by_cases zl : b = h1.objs.size
      · subst zl
        rw [if_pos rfl] at hb'
        cases hb'
        refine ⟨gl, ?_, out.toList, e, ?_, ?_⟩
        · rw [List.length_map, List.length_map, Array.length_toList]
          exact Nat.le_of_lt (small1000 (by omega))
        · have vr : ∀ l : List Value, (∀ v ∈ l, ∃ a, v = Value.ref a) → Vals ((l.map adr).map V.ref) l := by
            intro l
            induction l with
            | nil => exact fun _ => .nil
            | cons v l ih =>
              intro hl
              obtain ⟨a, rfl⟩ := hl v List.mem_cons_self
              exact .cons rfl (ih fun z m => hl z (List.mem_cons_of_mem _ m))
          refine vr _ fun v mv => ?_
          obtain ⟨i, hi⟩ := List.mem_iff_getElem?.mp mv
          rw [Array.getElem?_toList] at hi
          have il := (Array.getElem?_eq_some_iff.mp hi).1
          obtain ⟨a', ka, t, x1, _⟩ := hw i v _ hi (List.getElem?_eq_getElem (by omega))
          exact ⟨a', x1⟩
        · rw [hl]
      · rw [if_neg zl] at hb'
        by_cases zm : b ∈ out.toList.map adr
        · rw [if_pos zm] at hb'
          obtain ⟨ka, t, u, x1, x2, x3⟩ := atI b zm
          rw [ct b ka _ t x2] at hb'
          cases hb'
          exact ⟨gone b x1, (by show 2 ≤ sizeLine; decide), [.ref ka, .int u.2 t], .cons rfl (.cons ⟨t, rfl⟩ .nil), _, kp2 _ _ x2, rfl, _, rfl⟩
        · rw [if_neg zm] at hb'
          cases hb'
    refine ⟨.ref h1.objs.size, _, I2, rfl, q _ _ ws _ fl old wl ⟨?_, fun i x u e1 e2 => ?_⟩ pm sr⟩
    · rw [List.length_map, List.length_map, Array.length_toList, lo]
    · rw [List.getElem?_map, List.getElem?_map, Array.getElem?_toList] at e1
      cases z : out[i]? with
      | none => rw [z] at e1; cases e1
      | some v =>
        rw [z] at e1
        obtain ⟨a, ka, t, x1, x2, x3, x4⟩ := hw i v u z e2
        subst x1
        cases e1
        refine ⟨a, ka, rfl, wp a ka _ t ?_ x2 x3, old _ _ x4⟩
        rw [← Array.getElem?_toList] at z
        exact List.mem_map.mpr ⟨_, List.mem_of_getElem? z, rfl⟩
end
end L2
set_option Elab.async false
set_option linter.all false
set_option maxRecDepth 100000
set_option maxHeartbeats 1000000
namespace L2
open PySem PySem.Spec PyProof.Rows
theorem lex_uniL : ∀ {a b : List (List Int)}, a.Perm b → a.Pairwise (fun x y => lexB y x = false) → b.Pairwise (fun x y => lexB y x = false) → a = b
  | [], b, p, _, _ => p.nil_eq
  | x :: a, [], p, _, _ => absurd p.length_eq (by simp)
  | x :: a, y :: b, p, h1, h2 => by
    obtain ⟨u1, u2⟩ := List.pairwise_cons.mp h1
    obtain ⟨v1, v2⟩ := List.pairwise_cons.mp h2
    have e : x = y := by
      have m1 : x ∈ y :: b := p.subset List.mem_cons_self
      have m2 : y ∈ x :: a := p.symm.subset List.mem_cons_self
      rcases List.mem_cons.mp m1 with q | q
      · exact q
      rcases List.mem_cons.mp m2 with r | r
      · exact r.symm
      exact lexB_tot (v1 x q) (u1 y r)
    subst e
    rw [lex_uniL p.cons_inv u2 v2]
def putI (ks : List (List Int × Int)) (u : List Int) (z : Int) : List (List Int × Int) := if (ks.any fun k => decide (k.1 = u)) = true then ks.map fun k => if k.1 = u then (k.1, z) else k else ks ++ [(u, z)]
def getI (ks : List (List Int × Int)) (u : List Int) : Int := ((ks.find? fun k => decide (k.1 = u)).map (·.2)).getD 0
def emb (k : List Int × Int) : List Key × V := (k.1.map Sum.inl, V.int k.2)
theorem inlM : ∀ {u v : List Int}, u.map (Sum.inl : Int → Key) = v.map Sum.inl → u = v
  | [], [], _ => rfl
  | [], _ :: _, h => by cases h
  | _ :: _, [], h => by cases h
  | a :: u, b :: v, h => by
    rw [List.map_cons, List.map_cons] at h
    obtain ⟨h1, h2⟩ := List.cons.inj h
    rw [inlM h2, Sum.inl.inj h1]
theorem emb_key (k : List Int × Int) (u : List Int) : decide ((emb k).1 = u.map Sum.inl) = decide (k.1 = u) := by
  by_cases h : k.1 = u
  · rw [decide_eq_true h]; exact decide_eq_true (by unfold emb; rw [h])
  · rw [decide_eq_false h]; exact decide_eq_false fun q => h (inlM q)
theorem any_emb (ks : List (List Int × Int)) (u : List Int) : ((ks.map emb).any fun k => decide (k.1 = u.map Sum.inl)) = ks.any fun k => decide (k.1 = u) := by
  induction ks with
  | nil => rfl
  | cons k ks ih => rw [List.map_cons, List.any_cons, List.any_cons, ih, emb_key]
theorem put_emb (ks : List (List Int × Int)) (u : List Int) (z : Int) : putK (ks.map emb) (u.map Sum.inl) (V.int z) = (putI ks u z).map emb := by
  unfold putK putI
  rw [any_emb]
  by_cases h : (ks.any fun k => decide (k.1 = u)) = true
  · rw [if_pos h, if_pos h, List.map_map, List.map_map]
    refine List.map_congr_left fun k _ => ?_
    show (if (emb k).1 = u.map Sum.inl then ((emb k).1, V.int z) else emb k) = emb (if k.1 = u then (k.1, z) else k)
    have e := emb_key k u
    by_cases q : k.1 = u
    · rw [if_pos q, if_pos (of_decide_eq_true (by rw [e]; exact decide_eq_true q))]; rfl
    · rw [if_neg q, if_neg (of_decide_eq_false (by rw [e]; exact decide_eq_false q))]
  · rw [if_neg h, if_neg h, List.map_append]; rfl
theorem val_emb (ks : List (List Int × Int)) (u : List Int) : (valV (ks.map emb) (u.map Sum.inl)).getD (.int 0) = V.int (getI ks u) := by
  induction ks with
  | nil => rfl
  | cons k ks ih =>
    rw [List.map_cons]
    have e := emb_key k u
    unfold getI
    rw [List.find?_cons]
    by_cases q : k.1 = u
    · rw [decide_eq_true q]
      rw [valV_pos (of_decide_eq_true (by rw [e]; exact decide_eq_true q))]
      rfl
    · rw [decide_eq_false q]
      rw [valV_neg (of_decide_eq_false (by rw [e]; exact decide_eq_false q))]
      exact ih
theorem putI_len (ks : List (List Int × Int)) (u : List Int) (z : Int) : (putI ks u z).length ≤ ks.length + 1 := by
  unfold putI
  split
  · rw [List.length_map]; omega
  · rw [List.length_append]; exact Nat.le_refl _
def totU (W : List (Int × List Int)) (u : List Int) : Int := ((W.filter fun e => decide (e.2 = u)).map (·.1)).sum
theorem totU_snoc (W : List (Int × List Int)) (e : Int × List Int) (u : List Int) : totU (W ++ [e]) u = totU W u + if e.2 = u then e.1 else 0 := by
  unfold totU
  rw [List.filter_append, List.map_append, List.sum_append]
  by_cases h : e.2 = u
  · rw [if_pos h]; simp [h]
  · rw [if_neg h]; simp [h]
theorem totU_none {W : List (Int × List Int)} {u : List Int} (h : u ∉ W.map (·.2)) : totU W u = 0 := by
  unfold totU
  have : W.filter (fun e => decide (e.2 = u)) = [] := List.filter_eq_nil_iff.mpr fun e he => by
    intro q
    exact h (List.mem_map.mpr ⟨e, he, of_decide_eq_true q⟩)
  rw [this]
  rfl
structure DIs (W : List (Int × List Int)) (ks : List (List Int × Int)) : Prop where
  nd : (ks.map (·.1)).Nodup
  mem : ∀ u, u ∈ ks.map (·.1) ↔ u ∈ W.map (·.2)
  val : ∀ k ∈ ks, k.2 = totU W k.1
  len : ks.length ≤ W.length
theorem DIs.nil : DIs [] [] := ⟨List.Pairwise.nil, fun u => Iff.rfl, fun k h => (by cases h), Nat.le_refl _⟩
theorem DIs.get {W : List (Int × List Int)} {ks : List (List Int × Int)} (d : DIs W ks) (u : List Int) : getI ks u = totU W u := by
  unfold getI
  cases h : ks.find? fun k => decide (k.1 = u) with
  | none =>
    rw [totU_none]
    · rfl
    · intro q
      obtain ⟨k, hk, e⟩ := List.mem_map.mp ((d.mem u).mpr q)
      have := List.find?_eq_none.mp h k hk
      exact this (decide_eq_true e)
  | some k =>
    have e := List.find?_some h
    have m := List.mem_of_find?_eq_some h
    have e : k.1 = u := of_decide_eq_true e
    show k.2 = _
    rw [d.val k m, e]
theorem DIs.put {W : List (Int × List Int)} {ks : List (List Int × Int)} (d : DIs W ks) (e : Int × List Int) : DIs (W ++ [e]) (putI ks e.2 (getI ks e.2 + e.1)) := by
  have gt := d.get e.2
  have mk : (ks.any fun k => decide (k.1 = e.2)) = true ↔ e.2 ∈ ks.map (·.1) := by
    rw [List.any_eq_true, List.mem_map]
    constructor
    · rintro ⟨k, hk, q⟩; exact ⟨k, hk, of_decide_eq_true q⟩
    · rintro ⟨k, hk, q⟩; exact ⟨k, hk, decide_eq_true q⟩
  refine ⟨?_, fun u => ?_, fun k hk => ?_, ?_⟩
  · unfold putI
    by_cases h : (ks.any fun k => decide (k.1 = e.2)) = true
    · rw [if_pos h, List.map_map]
      have : (fun k : List Int × Int => k.1) ∘ (fun k => if k.1 = e.2 then (k.1, getI ks e.2 + e.1) else k) = fun k => k.1 := by
        funext k
        show (if k.1 = e.2 then (k.1, getI ks e.2 + e.1) else k).1 = k.1
        split <;> rfl
      rw [this]
      exact d.nd
    · rw [if_neg h, List.map_append]
      refine List.nodup_append.mpr ⟨d.nd, by simp, fun a ha b hb => ?_⟩
      have hb : b = e.2 := by simpa using hb
      rintro rfl
      exact h (mk.mpr (hb ▸ ha))
  · rw [List.map_append, List.mem_append]
    have : u ∈ (putI ks e.2 (getI ks e.2 + e.1)).map (·.1) ↔ u ∈ ks.map (·.1) ∨ u = e.2 := by
      unfold putI
      by_cases h : (ks.any fun k => decide (k.1 = e.2)) = true
      · rw [if_pos h, List.map_map]
        have q : (fun k : List Int × Int => k.1) ∘ (fun k => if k.1 = e.2 then (k.1, getI ks e.2 + e.1) else k) = fun k => k.1 := by
          funext k
          show (if k.1 = e.2 then (k.1, getI ks e.2 + e.1) else k).1 = k.1
          split <;> rfl
        rw [q]
        constructor
        · exact .inl
        · rintro (z | z)
          · exact z
          · rw [z]; exact mk.mp h
      · rw [if_neg h, List.map_append, List.mem_append]
        simp
    rw [this, d.mem u]
    simp
  · rw [totU_snoc]
    unfold putI at hk
    by_cases h : (ks.any fun k => decide (k.1 = e.2)) = true
    · rw [if_pos h] at hk
      obtain ⟨k', hk', rfl⟩ := List.mem_map.mp hk
      by_cases q : k'.1 = e.2
      · rw [if_pos q]
        show getI ks e.2 + e.1 = totU W k'.1 + if e.2 = k'.1 then e.1 else 0
        rw [if_pos q.symm, gt, q]
      · rw [if_neg q, if_neg (fun z => q z.symm), Int.add_zero]
        exact d.val k' hk'
    · rw [if_neg h] at hk
      rcases List.mem_append.mp hk with hk | hk
      · rw [if_neg, Int.add_zero]
        · exact d.val k hk
        · intro z
          exact h (mk.mpr (List.mem_map.mpr ⟨k, hk, z.symm⟩))
      · rw [List.mem_singleton.mp hk]
        show getI ks e.2 + e.1 = _
        rw [if_pos rfl, gt]
  · have := putI_len ks e.2 (getI ks e.2 + e.1)
    have := d.len
    rw [List.length_append]
    simp only [List.length_cons, List.length_nil]
    omega
structure SortsOf (W : List (Int × List Int)) (ws : List (List Int × Int)) : Prop where
  keys : (ws.map (·.1)).Perm (ddT (W.map (·.2)))
  rise : (ws.map (·.1)).Pairwise (fun x y => lexB y x = false)
  val : ∀ k ∈ ws, k.2 = totU W k.1
theorem sorts_of {W : List (Int × List Int)} {ks ws : List (List Int × Int)} (d : DIs W ks) (p : ws.Perm ks) (s : ws.Pairwise (fun x y => lexB y.1 x.1 = false)) : SortsOf W ws := by
  refine ⟨(p.map _).trans ((List.perm_ext_iff_of_nodup d.nd (ddT_nodup _)).mpr fun u => ?_), List.pairwise_map.mpr s, fun k hk => d.val k (p.subset hk)⟩
  rw [ddT_mem, d.mem]
theorem sorts_uni {W : List (Int × List Int)} {ws vs : List (List Int × Int)} (a : SortsOf W ws) (b : SortsOf W vs) : ws = vs := by
  have e := lex_uniL (a.keys.trans b.keys.symm) a.rise b.rise
  have r : ∀ {l : List (List Int × Int)}, (∀ k ∈ l, k.2 = totU W k.1) → l = (l.map (·.1)).map fun u => (u, totU W u) := fun {l} h => by
    rw [List.map_map]
    refine (List.map_id l).symm.trans (List.map_congr_left fun k hk => ?_)
    show k = (k.1, totU W k.1)
    rw [← h k hk]
  rw [r a.val, r b.val, e]
theorem PrL.up {H H' : Hp} {xs : List V} {us : List (List Int × Int)} (h : PrL H xs us) (t : Tups H H') : PrL H' xs us := ⟨h.1, fun i x u h1 h2 => by
  obtain ⟨a, b, rfl, ha, hb⟩ := h.2 i x u h1 h2
  exact ⟨a, b, rfl, t _ _ ha, t _ _ hb⟩⟩
end L2
set_option Elab.async false
set_option linter.all false
set_option maxRecDepth 100000
set_option maxHeartbeats 1000000
set_option Elab.async false
set_option linter.all false
set_option maxRecDepth 100000
set_option maxHeartbeats 1000000
set_option Elab.async false
set_option linter.all false
set_option maxRecDepth 100000
set_option maxHeartbeats 1000000
set_option Elab.async false
set_option linter.all false
set_option maxRecDepth 100000
set_option maxHeartbeats 1000000
set_option linter.all false
set_option Elab.async false
set_option linter.all false
set_option maxRecDepth 100000
set_option maxHeartbeats 1000000
set_option Elab.async false
set_option linter.all false
set_option maxRecDepth 100000
set_option maxHeartbeats 1000000
set_option Elab.async false
set_option linter.all false
set_option maxRecDepth 100000
set_option maxHeartbeats 1000000
set_option Elab.async false
set_option linter.all false
set_option maxRecDepth 100000
set_option maxHeartbeats 1000000
set_option Elab.async false
set_option linter.all false
set_option maxRecDepth 100000
set_option maxHeartbeats 1000000
namespace L2
open PySem PySem.Spec PyProof.Rows
theorem Same.nw {p : Addr} {H H' : Hp} {o : HO} (a : Same H H') (h : H' p = none) : Same H (upd H' p o) := fun c u e => by
  have := a c u e
  rw [upd_ne (ne_of_none this h)]; exact this
theorem Same.ow {p : Addr} {H H' : Hp} {o : HO} (a : Same H H') (h : H p = none) : Same H (upd H' p o) := fun c u e => by
  rw [upd_ne (ne_of_none e h)]; exact a c u e
end L2
set_option Elab.async false
set_option linter.all false
set_option maxRecDepth 100000
set_option maxHeartbeats 1000000
set_option Elab.async false
set_option linter.all false
set_option maxRecDepth 100000
set_option maxHeartbeats 1000000
set_option Elab.async false
set_option linter.all false
set_option maxRecDepth 100000
set_option maxHeartbeats 1000000
set_option Elab.async false
set_option linter.all false
set_option maxRecDepth 100000
set_option maxHeartbeats 1000000
set_option Elab.async false
set_option linter.all false
set_option maxRecDepth 100000
set_option maxHeartbeats 1000000
set_option Elab.async false
set_option linter.all false
set_option maxRecDepth 100000
set_option maxHeartbeats 1000000
namespace L2
open PySem PySem.Spec PyProof.Rows
section
variable {X : Cx}
theorem sl_tupKz {K : PySem.W.Frag} (hK : X.K = K := by rfl) : SlR X (rSlT K) := by subst hK; exact sl_tup
end
end L2
set_option Elab.async false
set_option linter.all false
set_option maxRecDepth 100000
set_option maxHeartbeats 1000000
set_option Elab.async false
set_option linter.all false
set_option maxRecDepth 100000
set_option maxHeartbeats 1000000
namespace L2
open PySem PySem.Spec PyProof.Rows
def nv (m : Nat) : V := .int (m : Int)
def pc (p : Nat × Nat) : List Int := [(p.1 : Int), (p.2 : Int)]
end L2
set_option Elab.async false
set_option linter.all false
set_option maxRecDepth 100000
set_option maxHeartbeats 1000000
set_option Elab.async false
set_option linter.all false
set_option maxRecDepth 100000
set_option maxHeartbeats 1000000
set_option Elab.async false
set_option linter.all false
set_option maxRecDepth 100000
set_option maxHeartbeats 1000000
set_option Elab.async false
set_option linter.all false
set_option maxRecDepth 100000
set_option maxHeartbeats 1000000
set_option Elab.async false
set_option linter.all false
set_option maxRecDepth 100000
set_option maxHeartbeats 1000000
set_option Elab.async false
set_option linter.all false
set_option maxRecDepth 100000
set_option maxHeartbeats 1000000
set_option Elab.async false
set_option linter.all false
set_option maxRecDepth 100000
set_option maxHeartbeats 1000000
set_option Elab.async false
set_option linter.all false
set_option maxRecDepth 100000
set_option maxHeartbeats 1000000
set_option Elab.async false
set_option linter.all false
set_option maxRecDepth 100000
set_option maxHeartbeats 1000000
set_option Elab.async false
set_option linter.all false
set_option maxRecDepth 100000
set_option maxHeartbeats 1000000
namespace L2
open PySem PySem.Spec PyProof.Rows
def CpL (H : Hp) (ys : List V) (vss : List (List V)) : Prop := ys.length = vss.length ∧ ∀ (i : Nat) (y : V) (vs : List V), ys[i]? = some y → vss[i]? = some vs → ∃ q : Addr, y = .ref q ∧ H q = some (.tup vs)
theorem CpL.up {H H' : Hp} {ys : List V} {vss : List (List V)} (h : CpL H ys vss) (t : Tups H H') : CpL H' ys vss := ⟨h.1, fun i y vs h1 h2 => by
  obtain ⟨q, e, hq⟩ := h.2 i y vs h1 h2
  exact ⟨q, e, t _ _ hq⟩⟩
theorem CpL.snoc {H : Hp} {ys : List V} {vss : List (List V)} {q : Addr} {vs : List V} (h : CpL H ys vss) (hq : H q = some (.tup vs)) : CpL H (ys ++ [.ref q]) (vss ++ [vs]) := by
  refine ⟨by rw [List.length_append, List.length_append, h.1]; rfl, fun i y us h1 h2 => ?_⟩
  by_cases c : i < ys.length
  · rw [List.getElem?_append_left c] at h1
    rw [List.getElem?_append_left (h.1 ▸ c)] at h2
    exact h.2 i y us h1 h2
  · rw [List.getElem?_append_right (by omega)] at h1
    rw [List.getElem?_append_right (by rw [← h.1]; omega), ← h.1] at h2
    have : i - ys.length = 0 := by
      have := (List.getElem?_eq_some_iff.mp h1).1
      simp at this
      omega
    rw [this] at h1 h2
    cases h1
    cases h2
    exact ⟨q, rfl, hq⟩
end L2
set_option Elab.async false
set_option linter.all false
set_option maxRecDepth 100000
set_option maxHeartbeats 1000000
set_option Elab.async false
set_option linter.all false
set_option maxRecDepth 100000
set_option maxHeartbeats 1000000
set_option Elab.async false
set_option linter.all false
set_option maxRecDepth 100000
set_option maxHeartbeats 1000000
set_option Elab.async false
set_option linter.all false
set_option maxRecDepth 100000
set_option maxHeartbeats 1000000
set_option Elab.async false
set_option linter.all false
set_option maxRecDepth 100000
set_option maxHeartbeats 1000000
set_option Elab.async false
set_option linter.all false
set_option maxRecDepth 100000
set_option maxHeartbeats 1000000
set_option Elab.async false
set_option linter.all false
set_option maxRecDepth 100000
set_option maxHeartbeats 1000000
namespace L2
open PySem PySem.Spec PyProof.Rows
def fV : V → PyData
  | .int i => .int i
  | .bl b => .bool b
  | _ => .none
def FlatV (vs : List V) : Prop := ∀ v ∈ vs, (∃ i, v = .int i) ∨ ∃ b, v = .bl b
def dCp (vs : List V) : PyData := .tuple (vs.map fV)
theorem fV_di {K : PySem.W.Frag} {H : Hp} {v : V} (h : (∃ i, v = .int i) ∨ ∃ b, v = .bl b) : DI K H v (fV v) := by
  rcases h with ⟨i, rfl⟩ | ⟨b, rfl⟩
  · exact .int i
  · exact .bl b
theorem dCp_di {K : PySem.W.Frag} {H : Hp} {q : Addr} {vs : List V} (hq : H q = some (.tup vs)) (hf : FlatV vs) : DI K H (.ref q) (dCp vs) := by
  refine .tup (SqT.of hq) (by rw [List.length_map]) fun i x d h1 h2 => ?_
  rw [List.getElem?_map, h1] at h2
  cases h2
  exact fV_di (hf x (List.mem_of_getElem? h1))
theorem lay_fVs : ∀ vs : List V, PyData.canLayAll0 (vs.map fV) = true
  | [] => rfl
  | v :: r => by
    show ((fV v).canLay0 && PyData.canLayAll0 (r.map fV)) = true
    rw [lay_fVs r, Bool.and_true]
    cases v <;> rfl
theorem lay_dCp (vs : List V) : (dCp vs).canLay0 = true := lay_fVs vs
theorem dep_fVs : ∀ vs : List V, PyData.depthAll (vs.map fV) = 0
  | [] => rfl
  | v :: r => by
    show max (fV v).depth (PyData.depthAll (r.map fV)) = 0
    rw [dep_fVs r]
    cases v <;> rfl
theorem dep_dCp (vs : List V) : (dCp vs).depth = 1 := by show PyData.depthAll _ + 1 = 1; rw [dep_fVs]
theorem CpL.di {K : PySem.W.Frag} {H : Hp} {p : Addr} {ys : List V} {vss : List (List V)} (h : CpL H ys vss) (hp : SqL K H p ys) (hf : ∀ vs ∈ vss, FlatV vs) : DI K H (.ref p) (.list (vss.map dCp)) := by
  refine .lst hp (by rw [List.length_map]; exact h.1) fun i x d h1 h2 => ?_
  rw [List.getElem?_map] at h2
  cases e : vss[i]? with
  | none => rw [e] at h2; cases h2
  | some vs =>
    rw [e] at h2
    cases h2
    obtain ⟨q, rfl, hq⟩ := h.2 i x vs h1 e
    exact dCp_di hq (hf vs (List.mem_of_getElem? e))
theorem lay_dCps : ∀ vss : List (List V), PyData.canLayAll0 (vss.map dCp) = true
  | [] => rfl
  | v :: r => by
    show ((dCp v).canLay0 && PyData.canLayAll0 (r.map dCp)) = true
    rw [lay_dCps r, lay_dCp]
    rfl
theorem dep_dCps : ∀ vss : List (List V), PyData.depthAll (vss.map dCp) ≤ 1
  | [] => Nat.zero_le _
  | v :: r => by
    show max (dCp v).depth (PyData.depthAll (r.map dCp)) ≤ 1
    have := dep_dCps r
    rw [dep_dCp]
    omega
def dHall (n : Int) (vss : List (List V)) (L : List (Int × List Int)) : PyData := .tuple [.int n, .list (vss.map dCp), dL L]
theorem lay_dHall (n : Int) (vss : List (List V)) (L : List (Int × List Int)) : (dHall n vss L).canLay0 = true := by
  show (true && (PyData.canLayAll0 (vss.map dCp) && ((dL L).canLay0 && true))) = true
  rw [lay_dCps, lay_dL]
  rfl
theorem hall_di {K : PySem.W.Frag} {H : Hp} {p pa pb : Addr} {n : Int} {ya yb : List V} {vss : List (List V)} {L : List (Int × List Int)} (hp : H p = some (.tup [.int n, .ref pa, .ref pb])) (ha : H pa = some (.lst ya)) (ca : CpL H ya vss) (hf : ∀ vs ∈ vss, FlatV vs) (hb : H pb = some (.lst yb)) (wb : Wg H yb L) : DI K H (.ref p) (dHall n vss L) := by
  refine .tup (SqT.of hp) rfl fun i x d h1 h2 => ?_
  rcases i with _ | _ | _ | i
  · cases h1; cases h2; exact .int _
  · cases h1; cases h2; exact ca.di (SqL.of ha) hf
  · cases h1; cases h2; exact Wg.di wb (SqL.of hb)
  · cases h1
end L2
set_option Elab.async false
set_option linter.all false
set_option maxRecDepth 100000
set_option maxHeartbeats 1000000
namespace L2
open PySem PySem.Spec PyProof.Rows
section
variable {X : Cx}
theorem op_inK {K : PySem.W.Frag} (hK : X.K = K := by rfl) : OpR X (compareOp .In) (rIn K false) := by subst hK; exact op_in_seq
end
end L2
set_option Elab.async false
set_option linter.all false
set_option maxRecDepth 100000
set_option maxHeartbeats 1000000
set_option Elab.async false
set_option linter.all false
set_option maxRecDepth 100000
set_option maxHeartbeats 1000000
set_option Elab.async false
set_option linter.all false
set_option maxRecDepth 100000
set_option maxHeartbeats 1000000
namespace L2
open PySem PySem.Spec PyProof.Rows
abbrev PR := Int × Int × Int × Bool
def pV (p : PR) : List V := [.int p.1, .int p.2.1, .int p.2.2.1, .bl p.2.2.2]
theorem pV_flat (p : PR) : FlatV (pV p) := fun v hv => by
  simp only [pV, List.mem_cons, List.not_mem_nil, or_false] at hv
  rcases hv with rfl | rfl | rfl | rfl
  · exact .inl ⟨_, rfl⟩
  · exact .inl ⟨_, rfl⟩
  · exact .inl ⟨_, rfl⟩
  · exact .inr ⟨_, rfl⟩
theorem pVs_flat (ps : List PR) : ∀ vs ∈ ps.map pV, FlatV vs := fun vs h => by
  obtain ⟨p, _, rfl⟩ := List.mem_map.mp h
  exact pV_flat p
abbrev WL2 := List (Int × List Int)
structure HallAt (H : Hp) (a pa pb : Addr) (n : Int) (ps : List PR) (L : WL2) (ya yb : List V) : Prop where
  h : H a = some (.tup [.int n, .ref pa, .ref pb])
  ha : H pa = some (.lst ya)
  ca : CpL H ya (ps.map pV)
  hb : H pb = some (.lst yb)
  wb : Wg H yb L
theorem HallAt.up {H H' : Hp} {a pa pb : Addr} {n : Int} {ps : List PR} {L : WL2} {ya yb : List V} (x : HallAt H a pa pb n ps L ya yb) (s : Same H H') : HallAt H' a pa pb n ps L ya yb :=
  ⟨s _ _ x.h, s _ _ x.ha, x.ca.up s.tups, s _ _ x.hb, x.wb.up s.tups⟩
theorem HallAt.di {K : PySem.W.Frag} {H : Hp} {a pa pb : Addr} {n : Int} {ps : List PR} {L : WL2} {ya yb : List V} (x : HallAt H a pa pb n ps L ya yb) : DI K H (.ref a) (dHall n (ps.map pV) L) := hall_di x.h x.ha x.ca (pVs_flat ps) x.hb x.wb
theorem HallAt.len {H : Hp} {a pa pb : Addr} {n : Int} {ps : List PR} {L : WL2} {ya yb : List V} (x : HallAt H a pa pb n ps L ya yb) : ya.length = ps.length := by rw [x.ca.1, List.length_map]
abbrev Out := Int × List PR × WL2 × List (List Int × Int)
def SrL (H : Hp) (ys : List V) (S : List (List Int × Int)) : Prop := ys.length = S.length ∧ ∀ (i : Nat) (y : V) (e : List Int × Int), ys[i]? = some y → S[i]? = some e → ∃ q w : Addr, y = .ref q ∧ H q = some (.tup [.ref w, .int e.2]) ∧ H w = some (.tup (e.1.map V.int))
structure ToldAt (H : Hp) (c a pa pb pc : Addr) (o : Out) (ya yb yc : List V) : Prop where
  hc : H c = some (.tup [.ref a, .ref pc])
  hall : HallAt H a pa pb o.1 o.2.1 o.2.2.1 ya yb
  hpc : H pc = some (.lst yc)
  sc : SrL H yc o.2.2.2
def spDemand (cN : Addr) : Sp := fun vs H Q E => ∃ b : Bool, vs = [.bl b] ∧ (b = true → Q .non H) ∧ (b = false → E (.ref cN) none H)
def tDemand (E : XK) (cN : Addr) : TS := tIfS (tNot (tB (tVar 0))) (tRaise E cN) tNext
theorem demand_reads {H : Hp} {Q : VK} {E : XK} {cN : Addr} {b : Bool} (k1 : b = true → Q .non H) (k2 : b = false → E (.ref cN) none H) : tDemand E cN { nx := fun _ H' => Q .non H', rt := Q } [some (.bl b)] H := by
  refine ⟨_, rfl, b, rfl, ?_⟩
  cases b with
  | false => exact iteT (k2 rfl)
  | true => exact iteF (k1 rfl)
theorem cut_from (xs : List V) {k : Nat} (h : k ≤ xs.length) : cutV xs (some (k : Int)) none = xs.drop k := by
  unfold cutV
  rw [HT.sIx_nat, HT.sIx_none, Nat.min_eq_left h, List.take_of_length_le (by rw [List.length_drop]; exact Nat.le_refl _)]
theorem le1000 {n : Nat} (h : n ≤ 1000) : n ≤ sizeLine := Nat.le_of_lt (small1000 h)
end L2
set_option Elab.async false
set_option linter.all false
set_option maxRecDepth 100000
set_option maxHeartbeats 1000000
namespace L2
open PySem PySem.Spec PyProof.Rows
def fitB (n : Int) (ps : List PR) (kd : Str) (i : Int) : Bool := decide (0 ≤ i) && decide (i < if kd = "place" then n else (ps.length : Int))
theorem at_hd (x : V) (xs : List V) : atI (x :: xs) 0 = some x := atI_nat (xs := x :: xs) (j := 0) (v := x) rfl
abbrev Dk := Hp → Addr → Int → List PR → WL2 → Option Out → Prop
def spDo (D : Dk) (cN : Addr) : Sp := fun vs H Q E => ∃ (a pa pb q : Addr) (n : Int) (ps : List PR) (L : WL2) (ya yb : List V) (o : Option Out), vs = [.ref a, .ref q] ∧ HallAt H a pa pb n ps L ya yb ∧ ps.length ≤ 400 ∧ D H q n ps L o ∧
  (o = none → ∀ H', Same H H' → E (.ref cN) none H') ∧
  ∀ out : Out, o = some out → ∀ (c a' pa' pb' pc' : Addr) (ya' yb' yc' : List V) (H' : Hp), Same H H' → H c = none → H pa' = none → H pb' = none → H pc' = none → pa' ≠ pb' → pa' ≠ pc' → pb' ≠ pc' → ToldAt H' c a' pa' pb' pc' out ya' yb' yc' → Q (.ref c) H'
end L2
set_option Elab.async false
set_option linter.all false
set_option maxRecDepth 100000
set_option maxHeartbeats 1000000
namespace L2
open PySem PySem.Spec PyProof.Rows
theorem op_notInK {X : Cx} {K : PySem.W.Frag} (hK : X.K = K := by rfl) : OpR X (compareOp .NotIn) (rIn K true) := by subst hK; exact op_notIn_seq
def Bu (d : Addr) (H H' : Hp) : Prop := ∀ c o, H c = some o → c ≠ d → H' c = some o
theorem Bu.refl (d : Addr) (H : Hp) : Bu d H H := fun _ _ e _ => e
theorem Bu.upd {d : Addr} {H H' : Hp} {o : HO} (a : Bu d H H') : Bu d H (L2.upd H' d o) := fun c u e n => by rw [upd_ne n]; exact a c u e n
theorem Same.bu {d : Addr} {H0 H H' : Hp} (s : Same H0 H) (f : H0 d = none) (e : Bu d H H') : Same H0 H' := fun b o q => e b o (s b o q) (fun z => by rw [z, f] at q; cases q)
def Bg (H : Hp) (d : Addr) : Prop := ∃ n : Int, H d = some (.lst [.int n])
theorem Bg.same {d : Addr} {H H' : Hp} (a : Bg H d) (s : Same H H') : Bg H' d := let ⟨n, e⟩ := a; ⟨n, s _ _ e⟩
theorem Bg.ne {d p : Addr} {H : Hp} (a : Bg H d) (h : H p = none) : p ≠ d := by
  obtain ⟨n, e⟩ := a
  rintro rfl
  rw [h] at e; cases e
theorem log_okL {m : Int} (h0 : 0 < m) (h : m < 10 ^ 100) : m.natAbs.log2 < 9000 := by
  have h2 : m.natAbs < 2 ^ 400 := by
    have : (10 : Int) ^ 100 ≤ 2 ^ 400 := by decide +kernel
    omega
  have := (Nat.log2_lt (n := m.natAbs) (k := 400) (by omega)).mpr h2
  omega
def spCellV (K : PySem.W.Frag) : Sp := fun vs H Q _ => ∃ (a : Addr) (ns : List Int) (k : Nat), vs = [.ref a, .int (k : Int)] ∧ SqL K H a (ns.map V.int) ∧ Q (.int (ns.getD k 0)) H
def tCellV (K : PySem.W.Frag) : TS := tSeq (tIfS (tTest (tOp (rI0 fun i j => V.bl (decide (i < j))) (tVar 1) (tCB (fun xs H Q => ∃ p ys, xs = [V.ref p] ∧ (SqL K H p ys ∨ SqT K H p ys) ∧ Q (V.int ys.length) H) (tCons (tVar 0) tNil)))) (tRet (tOp (rIxL K) (tVar 0) (tVar 1))) tNext) (tRet (tC (V.int 0)))
theorem cellV_reads {K : PySem.W.Frag} {H : Hp} {Q : VK} {Z : L2.St → Hp → Prop} {a : Addr} {ns : List Int} {k : Nat} (hS : SqL K H a (ns.map V.int)) (kk : Q (.int (ns.getD k 0)) H) : tCellV K { nx := Z, rt := Q } [some (.ref a), some (.int (k : Int))] H := by
  refine ⟨_, rfl, _, rfl, a, _, rfl, .inl hS, _, _, rfl, rfl, _, rfl, ite2 (fun e => ?_) (fun e => ?_)⟩
  · have e := of_decide_eq_true e
    rw [List.length_map] at e
    have e' : k < ns.length := by omega
    refine ⟨_, rfl, _, rfl, a, _, _, _, rfl, rfl, hS, atI_nat (by rw [List.getElem?_map, List.getElem?_eq_getElem e']; rfl), ?_⟩
    rw [List.getD_eq_getElem?_getD, List.getElem?_eq_getElem e'] at kk
    exact kk
  · have e : ns.length ≤ k := by simpa using e
    rw [List.getD_eq_getElem?_getD, List.getElem?_eq_none (by omega)] at kk
    exact kk
def spBigD (K : PySem.W.Frag) : Sp := fun vs H Q _ => ∃ (a : Addr) (ns : List Int) (k : Nat), vs = [.ref a, .int (k : Int)] ∧ SqL K H a (ns.map V.int) ∧ ∀ n : Int, 0 ≤ n → Q (.int n) H
def tBigD (K : PySem.W.Frag) : TS := tSeq (tIfS (tTest (tOp (rI0 fun i j => V.bl (decide (j ≤ i))) (tCB (fun xs H Q => ∃ i, xs = [V.int i] ∧ Q (V.int (if i < 0 then -i else i)) H) (tCons (tCall (spCellV K) [] E0 (tCons (tVar 0) (tCons (tVar 1) tNil))) tNil)) (tOp (rI CPow fun i j => V.int (i ^ j.toNat)) (tC (V.int 10)) (tC (V.int 18))))) (tRet (tOp (rI0 fun i j => V.int (i - j)) (tCB (fun xs H Q => ∃ i, xs = [V.int i] ∧ Q (V.int (if i < 0 then -i else i)) H) (tCons (tCall (spCellV K) [] E0 (tCons (tVar 0) (tCons (tVar 1) tNil))) tNil)) (tOp (rI CPow fun i j => V.int (i ^ j.toNat)) (tC (V.int 10)) (tC (V.int 18))))) tNext) (tSeq (tAsg (tOp (rI0 fun i j => V.int (i + j)) (tOp (rI0 fun i j => V.int (i + j)) (tOp (rI0 fun i j => V.int (i + j)) (tOp (rI (fun x j => 0 < j) fun i j => V.int (i % j)) (tCall (spCellV K) [] E0 (tCons (tVar 0) (tCons (tC (V.int 0)) tNil))) (tC (V.int 1000003))) (tOp (rI CMul fun i j => V.int (i * j)) (tC (V.int 7919)) (tVar 1))) (tOp (rI CMul fun i j => V.int (i * j)) (tC (V.int 31)) (tCall (spCellV K) [] E0 (tCons (tVar 0) (tCons (tVar 1) tNil))))) (tC (V.int 17))) (gName 2)) (tSeq (tAsg (tOp (rI0 fun i j => V.int (i + j)) (tOp (rI (fun x j => 0 < j) fun i j => V.int (i % j)) (tVar 2) (tC (V.int 2147483629))) (tC (V.int 11))) (gName 2)) (tSeq (tAsg (tC (V.int 0)) (gName 3)) (tSeq (tFor (iRng1 (tCons (tC (V.int 10)) tNil)) (gName 4) (tSeq (tAsg (tOp (rI (fun x j => 0 < j) fun i j => V.int (i % j)) (tOp (rI0 fun i j => V.int (i + j)) (tOp (rI0 fun i j => V.int (i + j)) (tOp (rI0 fun i j => V.int (i + j)) (tOp (rI CMul fun i j => V.int (i * j)) (tVar 2) (tC (V.int 48271))) (tOp (rI CDivL fun i j => V.int (i / j)) (tVar 2) (tC (V.int 40692)))) (tOp (rI CMul fun i j => V.int (i * j)) (tOp (rI CMul fun i j => V.int (i * j)) (tC (V.int 19)) (tVar 4)) (tVar 4))) (tVar 1)) (tC (V.int 2147483647))) (gName 2)) (tAsg (tOp (rI0 fun i j => V.int (i + j)) (tOp (rI CMul fun i j => V.int (i * j)) (tVar 3) (tC (V.int 2147483647))) (tOp (rI (fun x j => 0 < j) fun i j => V.int (i % j)) (tOp (rI CMul fun i j => V.int (i * j)) (tVar 2) (tC (V.int 69621))) (tC (V.int 2147483629)))) (gName 3)))) (tRet (tVar 3))))))
theorem bigD_reads {K : PySem.W.Frag} {H : Hp} {Q : VK} {Z : L2.St → Hp → Prop} {a : Addr} {ns : List Int} {k : Nat} (hS : SqL K H a (ns.map V.int)) (kk : ∀ n : Int, 0 ≤ n → Q (.int n) H) : tBigD K { nx := Z, rt := Q } [some (.ref a), some (.int (k : Int)), none, none, none] H := by
  refine ⟨_, rfl, _, rfl, a, ns, k, rfl, hS, _, rfl, _, _, rfl, rfl, ⟨by decide, by decide, by decide⟩, _, _, rfl, rfl, _, rfl, ite2 (fun e => ?_) (fun e => ?_)⟩
  · have e := of_decide_eq_true e
    refine ⟨_, rfl, _, rfl, a, ns, k, rfl, hS, _, rfl, _, _, rfl, rfl, ⟨by decide, by decide, by decide⟩, _, _, rfl, rfl, kk _ (by omega)⟩
  · refine ⟨_, rfl, a, ns, 0, rfl, hS, _, _, rfl, rfl, (by decide : (0 : Int) < 1000003), _, rfl, _, _, rfl, rfl, .inl ⟨by decide, by decide⟩, _, _, rfl, rfl, _, rfl, _, rfl, a, ns, k, rfl, hS, _, _, rfl, rfl, .inl ⟨by decide, by decide⟩, _, _, rfl, rfl, _, _, rfl, rfl, ?_⟩
    refine ⟨_, rfl, _, _, rfl, rfl, (by decide : (0 : Int) < 2147483629), _, _, rfl, rfl, ?_⟩
    refine ⟨10, rfl, by decide, by decide, for_range (n := 10) (fun j σ H' => ∃ (x t : Int) (y : Option V), σ = [some (.ref a), some (.int (k : Int)), some (.int x), some (.int t), y] ∧ 0 ≤ t ∧ H' = H) ⟨_, 0, none, rfl, by decide, rfl⟩ ?_ ?_⟩
    · rintro j σ H' hj ⟨x, t, y, rfl, ht, rfl⟩
      refine ⟨_, rfl, _, _, rfl, rfl, .inr ⟨by decide, by decide⟩, _, rfl, _, _, rfl, rfl, ⟨by decide, Nat.lt_of_lt_of_le ((Nat.log2_lt (n := 40692) (k := 16) (by decide)).mpr (by decide)) (by decide)⟩, _, _, rfl, rfl, _, rfl, _, _, rfl, rfl, .inl ⟨by decide, by decide⟩, _, rfl, _, _, rfl, rfl, .inr ⟨by omega, by omega⟩, _, _, rfl, rfl, _, rfl, _, _, rfl, rfl, _, _, rfl, rfl, (by decide : (0 : Int) < 2147483647), ?_⟩
      refine ⟨_, rfl, _, _, rfl, rfl, .inr ⟨by decide, by decide⟩, _, rfl, _, _, rfl, rfl, .inr ⟨by decide, by decide⟩, _, _, rfl, rfl, (by decide : (0 : Int) < 2147483629), _, _, rfl, rfl, ?_⟩
      exact ⟨_, _, _, rfl, by have := Int.emod_nonneg (((x * 48271 + x / 40692 + 19 * (0 + (j : Int)) * (0 + (j : Int)) + k) % 2147483647) * 69621) (show (2147483629 : Int) ≠ 0 by decide); omega, rfl⟩
    · rintro σ H' ⟨x, t, y, rfl, ht, rfl⟩
      exact ⟨_, rfl, kk t ht⟩
def spTakeD : Sp := fun vs H Q _ => ∃ (d : Addr) (m : Int), vs = [.ref d, .int m] ∧ Bg H d ∧ 0 < m ∧ m < 10 ^ 100 ∧ ∀ (r : Int) (H' : Hp), 0 ≤ r → r < m → Bg H' d → Bu d H H' → (∀ c, c ≠ d → H c = none → H' c = none) → Q (.int r) H'
def tTakeD (K : PySem.W.Frag) : TS := tSeq (tAsg (tOp (rI (fun x j => 0 < j) fun i j => V.int (i % j)) (tOp (rIxL K) (tVar 0) (tC (V.int 0))) (tVar 1)) (gName 2)) (tSeq (tAsg (tOp (rI CDivL fun i j => V.int (i / j)) (tOp (rIxL K) (tVar 0) (tC (V.int 0))) (tVar 1)) (gSub (tVar 0) (tC (V.int 0)) rSetL)) (tRet (tVar 2)))
theorem takeD_reads {K : PySem.W.Frag} {H : Hp} {Q : VK} {Z : L2.St → Hp → Prop} {d : Addr} {m : Int} (hb : Bg H d) (h0 : 0 < m) (h1 : m < 10 ^ 100) (k : ∀ (r : Int) (H' : Hp), 0 ≤ r → r < m → Bg H' d → Bu d H H' → (∀ c, c ≠ d → H c = none → H' c = none) → Q (.int r) H') : tTakeD K { nx := Z, rt := Q } [some (.ref d), some (.int m), none] H := by
  obtain ⟨b, hd⟩ := hb
  refine ⟨_, rfl, d, _, _, _, rfl, rfl, SqL.of hd, rfl, _, rfl, _, _, rfl, rfl, h0, ?_⟩
  refine ⟨_, rfl, d, _, _, _, rfl, rfl, SqL.of hd, rfl, _, rfl, _, _, rfl, rfl, ⟨h0, log_okL h0 h1⟩, _, rfl, d, _, _, _, rfl, rfl, hd, rfl, ?_⟩
  exact ⟨_, rfl, k _ _ (Int.emod_nonneg _ (by omega)) (Int.emod_lt_of_pos _ h0) ⟨_, upd_same⟩ (Bu.upd (Bu.refl _ _)) fun c n e => by rw [upd_ne n]; exact e⟩
end L2
set_option Elab.async false
set_option linter.all false
set_option maxRecDepth 100000
set_option maxHeartbeats 1000000
namespace L2
open PySem PySem.Spec PyProof.Rows
theorem shStep_lenL (acc : List (Int × List Int)) (e : Int × List Int) : (shStep acc e).length ≤ acc.length + 1 := by
  unfold shStep
  split
  · split
    · split
      · rw [List.length_append, List.length_dropLast]; show acc.length - 1 + 1 ≤ _; omega
      · rw [List.length_append]; exact Nat.le_refl _
    · rw [List.length_append]; exact Nat.le_refl _
  · omega
theorem shape_lenL (L : List (Int × List Int)) : (shape L).length ≤ L.length := by
  have key : ∀ (L acc : List (Int × List Int)), (L.foldl shStep acc).length ≤ acc.length + L.length := by
    intro L
    induction L with
    | nil => intro acc; exact Nat.le_refl _
    | cons e L ih =>
      intro acc
      rw [List.foldl_cons, List.length_cons]
      have := ih (shStep acc e)
      have := shStep_lenL acc e
      omega
  have := key L []
  unfold shape
  rw [List.length_nil] at this
  omega
theorem shape_allL {p : List Int → Prop} {L : List (Int × List Int)} (h : ∀ e ∈ L, p e.2) : ∀ e ∈ shape L, p e.2 := by
  have key : ∀ (L acc : List (Int × List Int)), (∀ e ∈ L, p e.2) → (∀ e ∈ acc, p e.2) → ∀ e ∈ L.foldl shStep acc, p e.2 := by
    intro L
    induction L with
    | nil => intro acc _ h; exact h
    | cons x L ih =>
      intro acc hL ha
      rw [List.foldl_cons]
      refine ih _ (fun e he => hL e (List.mem_cons_of_mem _ he)) ?_
      have hx := hL x List.mem_cons_self
      have snoc : ∀ e ∈ acc ++ [x], p e.2 := fun e he => (List.mem_append.mp he).elim (ha e) fun z => by rw [List.mem_singleton] at z; subst z; exact hx
      unfold shStep
      split
      · split
        · split
          · intro e he
            rcases List.mem_append.mp he with z | z
            · exact ha e (List.dropLast_subset _ z)
            · rw [List.mem_singleton] at z; subst z; exact hx
          · exact snoc
        · exact snoc
      · exact ha
  exact key L [] h (fun e he => by simp at he)
def tFound (K : PySem.W.Frag) : TS := tSeq (tAsg (tLst tNil) (gName 12)) (tSeq (tFor (iList K (tVar 7)) (gTup K 2 (gCons (gName 11) (gCons (gName 10) gNil))) (tIfS (tAnd (tTest (tOp (rI0 fun i j => V.bl (decide (j < i))) (tVar 11) (tC (V.int 0)))) (tAnd (tTest (tOp (rEqD K fun b => !b) (tVar 12) (tLst tNil))) (tTest (tOp (rEqD K fun b => b) (tOp (rIxT K) (tOp (rIxL K) (tVar 12) (tUn (rU fun i => V.int (-i)) (tC (V.int 1)))) (tC (V.int 1))) (tVar 10))))) (tAsg (tTup (tCons (tOp (rI0 fun i j => V.int (i + j)) (tOp (rIxT K) (tOp (rIxL K) (tVar 12) (tUn (rU fun i => V.int (-i)) (tC (V.int 1)))) (tC (V.int 0))) (tVar 11)) (tCons (tVar 10) tNil))) (gSub (tVar 12) (tUn (rU fun i => V.int (-i)) (tC (V.int 1))) rSetL)) (tIfS (tTest (tOp (rI0 fun i j => V.bl (decide (j < i))) (tVar 11) (tC (V.int 0)))) (tDrop (tBM K "list" rAppend (tVar 12) (tCons (tTup (tCons (tVar 11) (tCons (tVar 10) tNil))) tNil))) tNext))) (tRet (tVar 12)))
set_option maxHeartbeats 4000000 in
theorem found_reads {K : PySem.W.Frag} {H : Hp} {Q : VK} {Z : L2.St → Hp → Prop} {x0 x1 x2 x3 x4 x5 x6 x8 x9 x10 x11 : Option V} {a : Addr} {xs : List V} {L : List (Int × List Int)} (hS : H a = some (.lst xs)) (g : Wg H xs L) (hL : L.length ≤ 100)
    (k : ∀ (b : Addr) (ys : List V) (H' : Hp), H b = none → H' b = some (.lst ys) → Wg H' ys (shape L) → Same H H' → Q (.ref b) H') :
    tFound K { nx := Z, rt := Q } [x0, x1, x2, x3, x4, x5, x6, some (.ref a), x8, x9, x10, x11, none] H := by
  refine ⟨(by show 0 ≤ sizeLine; decide), fun b fb => ?_⟩
  have s0 := Same.nw (o := .lst []) (Same.refl H) fb
  refine ⟨_, rfl, a, rfl, ⟨xs, SqL.of (s0 _ _ hS)⟩, for_list (K := K) (a := a) (xs := xs) (fun i σ H' => ∃ (m v : Option V) (ys : List V), σ = [x0, x1, x2, x3, x4, x5, x6, some (.ref a), x8, x9, m, v, some (.ref b)] ∧ H' b = some (.lst ys) ∧ Wg H' ys (shape (L.take i)) ∧ Same H H') ⟨_, _, [], rfl, upd_same, Wg.nil _, s0⟩ (fun i σ H' _ ⟨_, _, _, _, _, _, z⟩ => SqL.of (z _ _ hS)) ?_ ?_⟩
  · rintro i x σ H1 hx ⟨m, v, ys, rfl, h1b, g1, s1⟩
    obtain ⟨e, hei, q, wq, rfl, hq, hw⟩ := g.at' hx
    have hq1 := s1 _ _ hq
    have hw1 := s1 _ _ hw
    have hi : i < L.length := (List.getElem?_eq_some_iff.mp hei).1
    have lys : ys.length ≤ i := by have := shape_lenL (L.take i); have := g1.1; rw [List.length_take] at *; omega
    have app : 0 < e.1 → (∀ l0, (shape (L.take i)).getLast? = some l0 → l0.2 ≠ e.2) → ∀ Hx, Same H1 Hx → Hx b = some (.lst ys) → (tDrop (tBM K "list" rAppend (tVar 12) (tCons (tTup (tCons (tVar 11) (tCons (tVar 10) tNil))) tNil))) { nx := fun σ H' => ∃ (m v : Option V) (ys : List V), σ = [x0, x1, x2, x3, x4, x5, x6, some (.ref a), x8, x9, m, v, some (.ref b)] ∧ H' b = some (.lst ys) ∧ Wg H' ys (shape (L.take (i + 1))) ∧ Same H H', rt := Q } [x0, x1, x2, x3, x4, x5, x6, some (.ref a), x8, x9, some (.ref wq), some (.int e.1), some (.ref b)] Hx := fun hpos hlast Hx sx hxb => by
      refine ⟨_, rfl, .inl ⟨rfl, _, SqL.of hxb⟩, _, rfl, _, rfl, (by show 2 ≤ sizeLine; decide), fun p hp => ?_⟩
      have npb : p ≠ b := fun z => by rw [z, hxb] at hp; cases hp
      have h8b := (upd_ne (H := Hx) (a := p) (o := .tup [.int e.1, .ref wq]) (Ne.symm npb)).trans hxb
      refine ⟨b, _, _, rfl, rfl, h8b, small1000 (by omega : ys.length ≤ 1000), ?_⟩
      have T8 : Tups Hx (upd Hx p (.tup [.int e.1, .ref wq])) := (Tups.refl _).new hp
      have T9 : Tups (upd Hx p (.tup [.int e.1, .ref wq])) (upd (upd Hx p (.tup [.int e.1, .ref wq])) b (.lst (ys ++ [.ref p]))) := (Tups.refl _).lst h8b
      refine ⟨_, _, _, rfl, upd_same, ?_, Same.ow (Same.nw (s1.trans sx) hp) fb⟩
      rw [shape_succ hei]; unfold shStep; rw [if_pos hpos]
      have fin := Wg.snoc (g1.up (sx.tups.trans (T8.trans T9))) ⟨p, wq, rfl, T9 _ _ upd_same, T9 _ _ (T8 _ _ (sx _ _ hw1))⟩ (e := e)
      cases z : (shape (L.take i)).getLast? with
      | none => exact fin
      | some l0 => dsimp only; rw [if_neg (hlast l0 z)]; exact fin
    refine ⟨q, _, rfl, SqT.of hq1, rfl, _, _, rfl, _, _, rfl, rfl, ?_⟩
    refine ⟨_, rfl, _, _, rfl, rfl, _, rfl, ite2 (fun hc => ?_) (fun hc => ?_)⟩
    · have hpos := of_decide_eq_true hc
      refine ⟨_, rfl, (by show 0 ≤ sizeLine; decide), fun c0 hc0 => ?_⟩
      have sx := Same.nw (o := .lst []) (Same.refl H1) hc0
      have f0 : (upd H1 c0 (.lst [])) c0 = some (.lst []) := upd_same
      generalize upd H1 c0 (.lst []) = Hx at sx f0 ⊢
      refine ⟨_, _, (g1.up sx.tups).di (SqL.of (sx _ _ h1b)), di_nil (SqL.of f0), lay_dL _, lay_dL _, dep_dL _, _, rfl, ?_⟩
      rw [eqv_dL]
      cases hlast : (shape (L.take i)).getLast? with
      | none =>
        have hnil : shape (L.take i) = [] := by
          cases z : shape (L.take i) with
          | nil => rfl
          | cons y r => rw [z] at hlast; simp at hlast
        rw [decide_eq_true hnil]
        refine iteF (iteF ?_)
        refine ⟨_, rfl, _, _, rfl, rfl, _, rfl, ?_⟩
        rw [decide_eq_true hpos]
        exact iteT (app hpos (fun l0 z => by rw [hlast] at z; cases z) Hx sx (sx _ _ h1b))
      | some l0 =>
        have hne : shape (L.take i) ≠ [] := fun z => by rw [z] at hlast; cases hlast
        rw [decide_eq_false hne]
        refine iteT ?_
        have hyn : ys ≠ [] := fun z => by
          have := g1.1
          rw [z] at this
          exact hne (List.length_eq_zero_iff.mp this.symm)
        have hl0 : (shape (L.take i))[ys.length - 1]? = some l0 := by rw [g1.1, ← List.getLast?_eq_getElem?]; exact hlast
        obtain ⟨y0, hy0, q0, w0, rfl, hq0, hw0⟩ := g1.get hl0
        have hyl : ys.getLast? = some (V.ref q0) := by rw [List.getLast?_eq_getElem?]; exact hy0
        have hat : atI ys (-1) = some (V.ref q0) := by
          have : ys = ys.dropLast ++ [V.ref q0] := drop_get hyl
          rw [this]; exact atI_last _ _
        refine ⟨_, rfl, _, rfl, b, _, _, V.ref q0, rfl, rfl, SqL.of (sx _ _ h1b), hat, q0, _, _, _, rfl, rfl, SqT.of (sx _ _ hq0), rfl, _, rfl, _, _, di_ints (sx _ _ hw0), di_ints (sx _ _ hw1), lay_dT _, lay_dT _, (by rw [dep_dT]; decide), _, rfl, ?_⟩
        rw [eqv_dT]
        refine ite2 (fun hE => ?_) (fun hE => ?_)
        · have hE := of_decide_eq_true hE
          refine ⟨_, rfl, _, rfl, b, _, _, V.ref q0, rfl, rfl, SqL.of (sx _ _ h1b), hat, q0, _, _, _, rfl, rfl, SqT.of (sx _ _ hq0), rfl, _, rfl, _, _, rfl, rfl, _, rfl, (by show 2 ≤ sizeLine; decide), fun p hp => ?_⟩
          have npb : p ≠ b := fun z => by rw [z, sx _ _ h1b] at hp; cases hp
          have h8b := (upd_ne (H := Hx) (a := p) (o := .tup [.int (l0.1 + e.1), .ref wq]) (Ne.symm npb)).trans (sx _ _ h1b)
          have hix : ixN ys.length (-1) = some (ys.length - 1) := by
            have : 0 < ys.length := List.length_pos_iff.mpr hyn
            unfold ixN
            rw [if_neg (by decide), if_pos (by omega)]
            congr 1; omega
          refine ⟨_, rfl, _, rfl, b, ys, _, ys.length - 1, rfl, rfl, h8b, hix, ?_⟩
          have T8 : Tups H1 (upd Hx p (.tup [.int (l0.1 + e.1), .ref wq])) := sx.tups.trans ((Tups.refl _).new hp)
          have T9 : Tups (upd Hx p (.tup [.int (l0.1 + e.1), .ref wq])) (upd (upd Hx p (.tup [.int (l0.1 + e.1), .ref wq])) b (.lst (ys.set (ys.length - 1) (.ref p)))) := (Tups.refl _).lst h8b
          refine ⟨_, _, _, rfl, upd_same, ?_, Same.ow (Same.nw (s1.trans sx) hp) fb⟩
          rw [shape_succ hei]; unfold shStep; rw [if_pos hpos, hlast]; dsimp only; rw [if_pos hE, set_last hyl]
          rw [set_last hyl] at T9
          refine Wg.snoc ((g1.pop).up (T8.trans T9)) ⟨p, wq, rfl, ?_, T9 _ _ (T8 _ _ hw1)⟩
          show _ = some (HO.tup [V.int (e.1 + l0.1), V.ref wq])
          rw [Int.add_comm e.1 l0.1]; exact T9 _ _ upd_same
        · have hE := of_decide_eq_false (Bool.eq_false_iff.mpr hE)
          refine ⟨_, rfl, _, _, rfl, rfl, _, rfl, ?_⟩
          rw [decide_eq_true hpos]
          refine iteT (app hpos (fun l1 z => ?_) Hx sx (sx _ _ h1b))
          rw [hlast] at z
          cases z
          exact hE
    · refine iteF ?_
      refine ⟨_, rfl, _, _, rfl, rfl, _, rfl, ?_⟩
      have hc := of_decide_eq_false (Bool.eq_false_iff.mpr hc)
      rw [decide_eq_false hc]
      refine iteF ⟨_, _, ys, rfl, h1b, ?_, s1⟩
      rw [shape_succ hei]
      unfold shStep
      rw [if_neg hc]
      exact g1
  · rintro σ H1 ⟨m, v, ys, rfl, h1b, g1, s1⟩
    have hlx : L.take xs.length = L := by rw [g.1]; exact List.take_length
    rw [hlx] at g1
    exact ⟨_, rfl, k b ys H1 fb h1b g1 s1⟩
end L2
set_option Elab.async false
set_option linter.all false
set_option maxRecDepth 100000
set_option maxHeartbeats 1000000
namespace L2
open PySem PySem.Spec PyProof.Rows
theorem cut_last (xs : List V) : cutV xs none (some (-1)) = xs.dropLast := by
  unfold cutV
  show (xs.drop 0).take ((if (-1 : Int) < 0 then ((-1 : Int) + (xs.length : Int)).toNat else min (-1 : Int).toNat xs.length) - 0) = _
  rw [if_pos (by decide), List.drop_zero, Nat.sub_zero, List.dropLast_eq_take]
  congr 1
  omega
theorem at_wide {r : Int} (h0 : 0 ≤ r) (h1 : r < 8) : ∃ z : Nat, atI [V.int 1, V.int 2, V.int 3, V.int 1, V.int 2, V.int 3, V.int 5, V.int 24] r = some (.int (z : Int)) ∧ 1 ≤ z ∧ z ≤ 24 := by
  have hc : r = 0 ∨ r = 1 ∨ r = 2 ∨ r = 3 ∨ r = 4 ∨ r = 5 ∨ r = 6 ∨ r = 7 := by omega
  rcases hc with rfl | rfl | rfl | rfl | rfl | rfl | rfl | rfl
  · exact ⟨1, rfl, by decide, by decide⟩
  · exact ⟨2, rfl, by decide, by decide⟩
  · exact ⟨3, rfl, by decide, by decide⟩
  · exact ⟨1, rfl, by decide, by decide⟩
  · exact ⟨2, rfl, by decide, by decide⟩
  · exact ⟨3, rfl, by decide, by decide⟩
  · exact ⟨5, rfl, by decide, by decide⟩
  · exact ⟨24, rfl, by decide, by decide⟩
theorem at_high {r : Int} (h0 : 0 ≤ r) (h1 : r < 4) : ∃ z : Int, atI [V.int 7, V.int 7, V.int 4, V.int (10 ^ (30 : Int).toNat)] r = some (.int z) ∧ 0 < z ∧ z < 10 ^ 100 := by
  have hc : r = 0 ∨ r = 1 ∨ r = 2 ∨ r = 3 := by omega
  rcases hc with rfl | rfl | rfl | rfl
  · exact ⟨7, rfl, by decide, by decide⟩
  · exact ⟨7, rfl, by decide, by decide⟩
  · exact ⟨4, rfl, by decide, by decide⟩
  · exact ⟨_, rfl, by decide, by decide⟩
def WOk (n : Int) (L : WL2) : Prop := ∃ (wd : Nat) (P : WL2), L = shape P ∧ P.length ≤ 8 ∧ 1 ≤ wd ∧ wd ≤ 24 ∧ (∀ e ∈ P, 0 ≤ e.1 ∧ e.2.length = wd) ∧ tot P = n
def tPieces (K : PySem.W.Frag) : TS := (tSeq (tFor (iRng1 (tCons (tCall spTakeD [] E0 (tCons (tVar 4) (tCons (tC (V.int 7)) tNil))) tNil)) (gName 8) (tSeq (tAsg (tLst (tCons (tCall (spBigD K) [] E0 (tCons (tVar 2) (tCons (tOp (rI0 fun i j => V.int (i + j)) (tVar 3) (tVar 8)) tNil))) tNil)) (gName 9)) (tSeq (tAsg (tCB (fun xs H_1 Q => ∃ p ys, xs = [V.ref p] ∧ ((SqL K H_1 p ys ∧ ∀ (l : Addr), H_1 l = none → Q (V.ref l) (upd H_1 l (HO.tup ys))) ∨ SqT K H_1 p ys ∧ Q (V.ref p) H_1)) (tCons (tCompG 1 (iRng1 (tCons (tVar 5) tNil)) (gName 0) tYes (tOp (rI0 fun i j => V.int (i - j)) (tCall spTakeD [] E0 (tCons (tVar 10) (tCons (tVar 7) tNil))) (tOp (rI CDivL fun i j => V.int (i / j)) (tVar 7) (tC (V.int 3))))) tNil)) (gName 10)) (tSeq (tAsg (tCall spTakeD [] E0 (tCons (tVar 9) (tCons (tOp (rI0 fun i j => V.int (i + j)) (tOp (rIxT K) (tOp (rIxL K) (tVar 7) (tUn (rU fun i => V.int (-i)) (tC (V.int 1)))) (tC (V.int 0))) (tC (V.int 1))) tNil))) (gName 11)) (tAsg (tOp rCat (tSl (rSlL K) (tVar 7) tNoPart (tPart (tUn (rU fun i => V.int (-i)) (tC (V.int 1))))) (tLst (tCons (tTup (tCons (tVar 11) (tCons (tVar 10) tNil))) (tCons (tTup (tCons (tOp (rI0 fun i j => V.int (i - j)) (tOp (rIxT K) (tOp (rIxL K) (tVar 7) (tUn (rU fun i => V.int (-i)) (tC (V.int 1)))) (tC (V.int 0))) (tVar 11)) (tCons (tOp (rIxT K) (tOp (rIxL K) (tVar 7) (tUn (rU fun i => V.int (-i)) (tC (V.int 1)))) (tC (V.int 1))) tNil))) tNil)))) (gName 7)))))) (tFound K))
set_option maxHeartbeats 4000000 in
theorem pieces_reads {K : PySem.W.Frag} {H0 H : Hp} {Q : VK} {Z : L2.St → Hp → Prop} {n hi : Int} {x1 : Option V} {a bg pc : Addr} {ns : List Int} {at0 wd : Nat} {ys : List V} {P : WL2} (hS : SqL K H0 a (ns.map V.int)) (s0 : Same H0 H) (hf : H0 bg = none) (hb : Bg H bg) (hp : H pc = some (.lst ys)) (npb : pc ≠ bg) (g : Wg H ys P) (hl : P.length = 1) (ht : tot P = n) (hP : ∀ e ∈ P, 0 ≤ e.1 ∧ e.2.length = wd) (w1 : 1 ≤ wd) (w2 : wd ≤ 24) (hi0 : 0 < hi) (hi1 : hi < 10 ^ 100) (hn : n < 10 ^ 99)
    (k : ∀ (b : Addr) (ys : List V) (L : WL2) (H' : Hp), H0 b = none → H' b = some (.lst ys) → Wg H' ys L → WOk n L → Same H0 H' → Q (.ref b) H') :
    tPieces K { nx := Z, rt := Q } [some (.int n), x1, some (.ref a), some (.int (at0 : Int)), some (.ref bg), some (.int (wd : Int)), some (.int hi), some (.ref pc), none, none, none, none, none] H := by
  refine ⟨_, rfl, bg, 7, rfl, hb, by decide, by decide, fun r H1 r0 r1 hb1 u1 _ => ?_⟩
  have s1 : Same H0 H1 := s0.bu hf u1
  have gT : Tups H H1 := fun b zs e => u1 b _ e (fun z => by obtain ⟨m, hb⟩ := hb; rw [z, hb] at e; cases e)
  refine ⟨r, rfl, by omega, by omega, for_range (n := r.toNat) (fun j σ H' => ∃ (pc : Addr) (ys : List V) (P : WL2) (x8 x9 x10 x11 : Option V), σ = [some (.int n), x1, some (.ref a), some (.int (at0 : Int)), some (.ref bg), some (.int (wd : Int)), some (.int hi), some (.ref pc), x8, x9, x10, x11, none] ∧ H' pc = some (.lst ys) ∧ Wg H' ys P ∧ P.length = j + 1 ∧ tot P = n ∧ (∀ e ∈ P, 0 ≤ e.1 ∧ e.2.length = wd) ∧ Same H0 H') ⟨pc, ys, P, none, none, none, none, rfl, u1 _ _ hp npb, g.up gT, hl, ht, hP, s1⟩ ?_ ?_⟩
  · clear hp g hl ht hP npb
    rintro j σ H2 hj ⟨pc, ys, P, x8, x9, x10, x11, rfl, hp, g, hl, ht, hP, s2⟩
    refine ⟨_, rfl, _, rfl, _, rfl, _, _, rfl, rfl, a, ns, at0 + j, ?_, s2.seq hS, fun big hbig => ⟨(by show 1 ≤ sizeLine; decide), fun dr hdr => ?_⟩⟩
    · have e : (at0 : Int) + (0 + (j : Int)) = ((at0 + j : Nat) : Int) := by omega
      show [V.ref a, V.int ((at0 : Int) + (0 + (j : Int)))] = [V.ref a, V.int ((at0 + j : Nat) : Int)]
      rw [e]
    have fdr := s2.free hdr
    have s3 := Same.nw (o := .lst [.int big]) (Same.refl H2) hdr
    have b3 : Bg (upd H2 dr (.lst [.int big])) dr := ⟨big, upd_same⟩
    generalize upd H2 dr (.lst [.int big]) = H3 at s3 b3 ⊢
    refine ⟨_, rfl, (wd : Int), rfl, by omega, by omega, ?_⟩
    rw [Int.toNat_natCast]
    refine compR (n := wd) (fun i zs H' => (∃ ms : List Int, zs = ms.map V.int ∧ ms.length = i) ∧ Bg H' dr ∧ Same H2 H') ⟨⟨[], rfl, rfl⟩, b3, s3⟩ (by omega) (fun i zs H' h => by obtain ⟨⟨ms, rfl, e⟩, _⟩ := h; rw [List.length_map, e]; exact Nat.le_refl _) ?_ ?_
    · rintro i zs H' pre hpre hi' ⟨⟨ms, rfl, e⟩, bb, ss⟩
      rcases pre with _ | ⟨p0, _ | ⟨p1, pre⟩⟩
      · cases hpre
      · refine ⟨⟨[some _], rfl, rfl⟩, ?_⟩
        unfold tYes
        dsimp only
        rw [if_pos (rfl : true = true)]
        refine ⟨_, rfl, _, rfl, dr, hi, rfl, bb, hi0, hi1, fun r' H'' _ _ bb' uu' _ => ⟨_, rfl, _, _, rfl, rfl, ⟨by decide, log_okL (m := 3) (by decide) (by decide)⟩, _, _, rfl, rfl, ⟨ms ++ [r' - hi / 3], by rw [List.map_append]; rfl, by rw [List.length_append, e]; rfl⟩, bb', ss.bu hdr uu'⟩⟩
      · cases hpre
    · rintro zs H4 ⟨⟨ms, rfl, em⟩, b4, s4⟩ D hD
      refine ⟨D, _, rfl, .inl ⟨SqL.of upd_same, fun wq hwq => ?_⟩⟩
      have s5 := Same.nw (o := .lst (ms.map V.int)) (Same.refl H4) hD
      generalize upd H4 D (.lst (ms.map V.int)) = H5 at s5 hwq ⊢
      have s6 := Same.nw (o := .tup (ms.map V.int)) (Same.refl H5) hwq
      have f6 : (upd H5 wq (.tup (ms.map V.int))) wq = some (.tup (ms.map V.int)) := upd_same
      generalize upd H5 wq (.tup (ms.map V.int)) = H6 at s6 f6 ⊢
      have s26 := s4.trans (s5.trans s6)
      have b6 : Bg H6 dr := b4.same (s5.trans s6)
      have hyn : P ≠ [] := fun z => by rw [z] at hl; cases hl
      obtain ⟨l0, hlast⟩ : ∃ l0, P.getLast? = some l0 := ⟨_, List.getLast?_eq_some_getLast hyn⟩
      have hl0 : P[ys.length - 1]? = some l0 := by rw [g.1, ← List.getLast?_eq_getElem?]; exact hlast
      obtain ⟨y0, hy0, q0, w0, rfl, hq0, hw0⟩ := g.get hl0
      have hyl : ys.getLast? = some (V.ref q0) := by rw [List.getLast?_eq_getElem?]; exact hy0
      have eys : ys = ys.dropLast ++ [V.ref q0] := drop_get hyl
      have hat : atI ys (-1) = some (V.ref q0) := by rw [eys]; exact atI_last _ _
      have hm := hP l0 (List.mem_of_getLast? hlast)
      have tl : tot P = tot P.dropLast + l0.1 := by
        have e := congrArg tot (drop_get hlast)
        rw [tot_append, tot_cons, tot_nil] at e
        omega
      have tn : 0 ≤ tot P.dropLast := by
        have key : ∀ M : WL2, (∀ e ∈ M, 0 ≤ e.1) → 0 ≤ tot M := by
          intro M
          induction M with
          | nil => intro _; exact Int.le_refl _
          | cons e M ih => intro h; rw [tot_cons]; have := h e List.mem_cons_self; have := ih fun x hx => h x (List.mem_cons_of_mem _ hx); omega
        exact key _ fun e he => (hP e (List.dropLast_subset _ he)).1
      refine ⟨_, rfl, _, rfl, _, rfl, pc, _, _, V.ref q0, rfl, rfl, SqL.of (s26 _ _ hp), hat, q0, _, _, _, rfl, rfl, SqT.of (s26 _ _ hq0), rfl, _, _, rfl, rfl, dr, l0.1 + 1, rfl, b6, by omega, by omega, fun many H7 m0 m1 b7 u7 _ => ?_⟩
      have s27 : Same H2 H7 := s26.bu hdr u7
      have f7 : H7 wq = some (.tup (ms.map V.int)) := u7 _ _ f6 (fun z => by obtain ⟨m, b6⟩ := b6; rw [z, b6] at f6; cases f6)
      refine ⟨_, rfl, _, rfl, (-1), rfl, pc, ys, rfl, SqL.of (s27 _ _ hp), fun p1 h1 => ?_⟩
      rw [cut_last]
      have s8 := Same.nw (o := .lst ys.dropLast) (Same.refl H7) h1
      have f8 : (upd H7 p1 (.lst ys.dropLast)) p1 = some (.lst ys.dropLast) := upd_same
      generalize upd H7 p1 (.lst ys.dropLast) = H8 at s8 f8 ⊢
      have s28 := s27.trans s8
      refine ⟨_, rfl, _, rfl, (by show 2 ≤ sizeLine; decide), fun t1 ht1 => ?_⟩
      have s9 := Same.nw (o := .tup [.int many, .ref wq]) (Same.refl H8) ht1
      have f9 : (upd H8 t1 (.tup [.int many, .ref wq])) t1 = some (.tup [.int many, .ref wq]) := upd_same
      generalize upd H8 t1 (.tup [.int many, .ref wq]) = H9 at s9 f9 ⊢
      have s29 := s28.trans s9
      refine ⟨_, rfl, _, rfl, pc, _, _, V.ref q0, rfl, rfl, SqL.of (s29 _ _ hp), hat, q0, _, _, _, rfl, rfl, SqT.of (s29 _ _ hq0), rfl, _, rfl, _, _, rfl, rfl, _, rfl, _, rfl, pc, _, _, V.ref q0, rfl, rfl, SqL.of (s29 _ _ hp), hat, q0, _, _, _, rfl, rfl, SqT.of (s29 _ _ hq0), rfl, (by show 2 ≤ sizeLine; decide), fun t2 ht2 => ?_⟩
      have s10 := Same.nw (o := .tup [.int (l0.1 - many), .ref w0]) (Same.refl H9) ht2
      have f10 : (upd H9 t2 (.tup [.int (l0.1 - many), .ref w0])) t2 = some (.tup [.int (l0.1 - many), .ref w0]) := upd_same
      generalize upd H9 t2 (.tup [.int (l0.1 - many), .ref w0]) = H10 at s10 f10 ⊢
      refine ⟨(by show 2 ≤ sizeLine; decide), fun p2 h2 => ?_⟩
      have s11 := Same.nw (o := .lst [.ref t1, .ref t2]) (Same.refl H10) h2
      have f11 : (upd H10 p2 (.lst [.ref t1, .ref t2])) p2 = some (.lst [.ref t1, .ref t2]) := upd_same
      generalize upd H10 p2 (.lst [.ref t1, .ref t2]) = H11 at s11 f11 ⊢
      have s811 := s9.trans (s10.trans s11)
      refine ⟨p1, p2, _, _, rfl, rfl, s811 _ _ f8, f11, le1000 (by rw [List.length_dropLast, g.1, hl]; show j + 1 - 1 + 2 ≤ 1000; omega), fun pc' hpc' => ?_⟩
      have s12 := Same.nw (o := .lst (ys.dropLast ++ [.ref t1, .ref t2])) (Same.refl H11) hpc'
      have f12 : (upd H11 pc' (.lst (ys.dropLast ++ [.ref t1, .ref t2]))) pc' = some (.lst (ys.dropLast ++ [.ref t1, .ref t2])) := upd_same
      generalize upd H11 pc' (.lst (ys.dropLast ++ [.ref t1, .ref t2])) = H12 at s12 f12 ⊢
      have s812 := s811.trans s12
      have s212 := s28.trans s812
      refine ⟨pc', (ys.dropLast ++ [.ref t1]) ++ [.ref t2], (P.dropLast ++ [(many, ms)]) ++ [(l0.1 - many, l0.2)], _, _, _, _, rfl, by rw [List.append_assoc]; exact f12, ?_, ?_, ?_, ?_, s2.trans s212⟩
      · exact Wg.snoc (Wg.snoc (g.pop.up s212.tups) ⟨t1, wq, rfl, (s10.trans (s11.trans s12)) _ _ f9, (s8.trans s812) _ _ f7⟩) ⟨t2, w0, rfl, (s11.trans s12) _ _ f10, s212 _ _ hw0⟩
      · rw [List.length_append, List.length_append, List.length_dropLast, hl]; rfl
      · rw [tot_append, tot_append, tot_cons, tot_nil, tot_cons, tot_nil]
        show tot P.dropLast + (many + 0) + (l0.1 - many + 0) = n
        omega
      · intro e he
        rcases List.mem_append.mp he with he | he
        · rcases List.mem_append.mp he with he | he
          · exact hP e (List.dropLast_subset _ he)
          · rw [List.mem_singleton.mp he]; exact ⟨m0, em⟩
        · rw [List.mem_singleton.mp he]; exact ⟨by show 0 ≤ l0.1 - many; omega, hm.2⟩
  · clear hp g hl ht hP npb
    rintro σ H2 ⟨pc, ys, P, x8, x9, x10, x11, rfl, hp, g, hl, ht, hP, s2⟩
    exact found_reads hp g (by omega) fun b zs H' e1 e2 e3 s => k b zs _ H' (s2.free e1) e2 e3 ⟨wd, P, rfl, by omega, w1, w2, hP, ht⟩ (s2.trans s)
end L2
set_option Elab.async false
set_option linter.all false
set_option maxRecDepth 100000
set_option maxHeartbeats 1000000
namespace L2
open PySem PySem.Spec PyProof.Rows
def spWeighD (K : PySem.W.Frag) : Sp := fun vs H Q _ => ∃ (n hd : Int) (a : Addr) (ns : List Int) (at0 : Nat), vs = [.int n, .int hd, .ref a, .int (at0 : Int)] ∧ SqL K H a (ns.map V.int) ∧ 0 ≤ n ∧ n < 10 ^ 99 ∧ ∀ (b : Addr) (ys : List V) (L : WL2) (H' : Hp), H b = none → H' b = some (.lst ys) → Wg H' ys L → WOk n L → Same H H' → Q (.ref b) H'
def tWeigh (K : PySem.W.Frag) : TS := tSeq (tAsg (tLst (tCons (tVar 1) tNil)) (gName 4)) (tSeq (tAsg (tOp (rIxL K) (tLst (tCons (tC (V.int 1)) (tCons (tC (V.int 2)) (tCons (tC (V.int 3)) (tCons (tC (V.int 1)) (tCons (tC (V.int 2)) (tCons (tC (V.int 3)) (tCons (tC (V.int 5)) (tCons (tC (V.int 24)) tNil))))))))) (tCall spTakeD [] E0 (tCons (tVar 4) (tCons (tC (V.int 8)) tNil)))) (gName 5)) (tSeq (tAsg (tOp (rIxL K) (tLst (tCons (tC (V.int 7)) (tCons (tC (V.int 7)) (tCons (tC (V.int 4)) (tCons (tOp (rI CPow fun i j => V.int (i ^ j.toNat)) (tC (V.int 10)) (tC (V.int 30))) tNil))))) (tCall spTakeD [] E0 (tCons (tVar 4) (tCons (tC (V.int 4)) tNil)))) (gName 6)) (tSeq (tAsg (tLst (tCons (tTup (tCons (tVar 0) (tCons (tCB (fun xs H_1 Q => ∃ p ys, xs = [V.ref p] ∧ ((SqL K H_1 p ys ∧ ∀ (l : Addr), H_1 l = none → Q (V.ref l) (upd H_1 l (HO.tup ys))) ∨ SqT K H_1 p ys ∧ Q (V.ref p) H_1)) (tCons (tCompG 1 (iRng1 (tCons (tVar 5) tNil)) (gName 0) tYes (tC (V.int 1))) tNil)) tNil))) tNil)) (gName 7)) (tPieces K))))
set_option maxHeartbeats 4000000 in
theorem weigh_reads {K : PySem.W.Frag} {H : Hp} {Q : VK} {Z : L2.St → Hp → Prop} {n hd : Int} {a : Addr} {ns : List Int} {at0 : Nat} (hS : SqL K H a (ns.map V.int)) (hn0 : 0 ≤ n) (hn1 : n < 10 ^ 99)
    (k : ∀ (b : Addr) (ys : List V) (L : WL2) (H' : Hp), H b = none → H' b = some (.lst ys) → Wg H' ys L → WOk n L → Same H H' → Q (.ref b) H') :
    tWeigh K { nx := Z, rt := Q } [some (.int n), some (.int hd), some (.ref a), some (.int (at0 : Int)), none, none, none, none, none, none, none, none, none] H := by
  refine ⟨_, rfl, (by show 1 ≤ sizeLine; decide), fun bg hbg => ?_⟩
  have s1 := Same.nw (o := .lst [.int hd]) (Same.refl H) hbg
  have b1 : Bg (upd H bg (.lst [.int hd])) bg := ⟨hd, upd_same⟩
  generalize upd H bg (.lst [.int hd]) = H1 at s1 b1 ⊢
  refine ⟨(by show 8 ≤ sizeLine; decide), fun l1 hl1 => ?_⟩
  have n1 := b1.ne hl1
  have s2 := Same.nw (o := .lst [.int 1, .int 2, .int 3, .int 1, .int 2, .int 3, .int 5, .int 24]) (Same.refl H1) hl1
  have f2 : (upd H1 l1 (.lst [.int 1, .int 2, .int 3, .int 1, .int 2, .int 3, .int 5, .int 24])) l1 = some (.lst [.int 1, .int 2, .int 3, .int 1, .int 2, .int 3, .int 5, .int 24]) := upd_same
  generalize upd H1 l1 (.lst [.int 1, .int 2, .int 3, .int 1, .int 2, .int 3, .int 5, .int 24]) = H2 at s2 f2 ⊢
  refine ⟨_, rfl, bg, 8, rfl, b1.same s2, by decide, by decide, fun r H3 r0 r1 b3 u3 _ => ?_⟩
  obtain ⟨wd, e, w1, w2⟩ := at_wide r0 r1
  refine ⟨l1, _, _, _, rfl, rfl, SqL.of (u3 _ _ f2 n1), e, ?_⟩
  have s3 : Same H H3 := (s1.trans s2).bu hbg u3
  refine ⟨_, _, rfl, rfl, ⟨by decide, by decide, by decide⟩, (by show 4 ≤ sizeLine; decide), fun l2 hl2 => ?_⟩
  have n2 := b3.ne hl2
  have s4 := Same.nw (o := .lst [.int 7, .int 7, .int 4, .int (10 ^ (30 : Int).toNat)]) (Same.refl H3) hl2
  have f4 : (upd H3 l2 (.lst [.int 7, .int 7, .int 4, .int (10 ^ (30 : Int).toNat)])) l2 = some (.lst [.int 7, .int 7, .int 4, .int (10 ^ (30 : Int).toNat)]) := upd_same
  change tCall spTakeD [] E0 _ _ (upd H3 l2 (.lst [.int 7, .int 7, .int 4, .int (10 ^ (30 : Int).toNat)])) _
  generalize upd H3 l2 (.lst [.int 7, .int 7, .int 4, .int (10 ^ (30 : Int).toNat)]) = H4 at s4 f4 ⊢
  refine ⟨_, rfl, bg, 4, rfl, b3.same s4, by decide, by decide, fun r' H5 r0' r1' b5 u5 _ => ?_⟩
  obtain ⟨hi, e', hi0, hi1⟩ := at_high r0' r1'
  refine ⟨l2, _, _, _, rfl, rfl, SqL.of (u5 _ _ f4 n2), e', ?_⟩
  have s5 : Same H H5 := (s3.trans s4).bu hbg u5
  refine ⟨_, rfl, _, rfl, (wd : Int), rfl, by omega, by omega, ?_⟩
  rw [Int.toNat_natCast]
  refine compR (n := wd) (fun i zs H' => zs = (List.replicate i (1 : Int)).map V.int ∧ H' = H5) ⟨rfl, rfl⟩ (by omega) (fun i zs H' h => by rw [h.1, List.length_map, List.length_replicate]; exact Nat.le_refl _) ?_ ?_
  · rintro i zs H' pre hpre hi' ⟨rfl, rfl⟩
    rcases pre with _ | ⟨p0, _ | ⟨p1, pre⟩⟩
    · cases hpre
    · refine ⟨⟨[some _], rfl, rfl⟩, ?_⟩
      unfold tYes
      dsimp only
      rw [if_pos (rfl : true = true)]
      exact ⟨by rw [List.replicate_succ', List.map_append]; rfl, rfl⟩
    · cases hpre
  · rintro zs H' ⟨rfl, rfl⟩ D hD
    refine ⟨D, _, rfl, .inl ⟨SqL.of upd_same, fun wq hwq => ?_⟩⟩
    have s6 := Same.nw (o := .lst ((List.replicate wd (1 : Int)).map V.int)) (Same.refl H') hD
    generalize upd H' D (.lst ((List.replicate wd (1 : Int)).map V.int)) = H6 at s6 hwq ⊢
    have s7 := Same.nw (o := .tup ((List.replicate wd (1 : Int)).map V.int)) (Same.refl H6) hwq
    have f7 : (upd H6 wq (.tup ((List.replicate wd (1 : Int)).map V.int))) wq = some (.tup ((List.replicate wd (1 : Int)).map V.int)) := upd_same
    generalize upd H6 wq (.tup ((List.replicate wd (1 : Int)).map V.int)) = H7 at s7 f7 ⊢
    refine ⟨(by show 2 ≤ sizeLine; decide), fun t ht => ?_⟩
    have s8 := Same.nw (o := .tup [.int n, .ref wq]) (Same.refl H7) ht
    have f8 : (upd H7 t (.tup [.int n, .ref wq])) t = some (.tup [.int n, .ref wq]) := upd_same
    generalize upd H7 t (.tup [.int n, .ref wq]) = H8 at s8 f8 ⊢
    refine ⟨(by show 1 ≤ sizeLine; decide), fun pc hpc => ?_⟩
    have b8 := b5.same (s6.trans (s7.trans s8))
    have npb := b8.ne hpc
    have s9 := Same.nw (o := .lst [.ref t]) (Same.refl H8) hpc
    have f9 : (upd H8 pc (.lst [.ref t])) pc = some (.lst [.ref t]) := upd_same
    generalize upd H8 pc (.lst [.ref t]) = H9 at s9 f9 ⊢
    refine pieces_reads (P := [(n, List.replicate wd (1 : Int))]) hS (s5.trans (s6.trans (s7.trans (s8.trans s9)))) hbg (b8.same s9) f9 npb ((Wg.nil H9).snoc ⟨t, wq, rfl, s9 _ _ f8, (s8.trans s9) _ _ f7⟩) rfl (by rw [tot_cons, tot_nil]; exact Int.add_zero _) (fun e he => by rw [List.mem_singleton.mp he]; exact ⟨hn0, List.length_replicate⟩) w1 w2 hi0 hi1 hn1 k
def PrOk (n : Int) (p : PR) : Prop := 0 ≤ p.1 ∧ p.1 ≤ p.2.1 ∧ 1 ≤ p.2.2.1 ∧ p.2.1 + p.2.2.1 ≤ n
def spPairD (K : PySem.W.Frag) : Sp := fun vs H Q _ => ∃ (n hd : Int) (a : Addr) (ns : List Int) (at0 : Nat), vs = [.int n, .int hd, .ref a, .int (at0 : Int)] ∧ SqL K H a (ns.map V.int) ∧ 1 ≤ n ∧ ∀ (p : Addr) (pr : PR) (H' : Hp), H p = none → H' p = some (.tup (pV pr)) → PrOk n pr → Same H H' → Q (.ref p) H'
def tPairE (K : PySem.W.Frag) : TS := (tSeq (tIfS (tOr (tTest (tOp rEq (tVar 5) (tC (V.int 2)))) (tTest (tOp rEq (tVar 5) (tC (V.int 3))))) (tAsg (tOp (rI0 fun i j => V.int (i - j)) (tVar 0) (tVar 6)) (gName 8)) tNext) (tRet (tTup (tCons (tCB (fun xs H Q => ∃ i j, xs = [V.int i, V.int j] ∧ Q (V.int (if j < i then j else i)) H) (tCons (tVar 7) (tCons (tVar 8) tNil))) (tCons (tCB (fun xs H Q => ∃ i j, xs = [V.int i, V.int j] ∧ Q (V.int (if j > i then j else i)) H) (tCons (tVar 7) (tCons (tVar 8) tNil))) (tCons (tVar 6) (tCons (tOp rEq (tCall spTakeD [] E0 (tCons (tVar 4) (tCons (tC (V.int 2)) tNil))) (tC (V.int 1))) tNil)))))))
def tPairF (K : PySem.W.Frag) : TS := (tSeq (tAsg (tOp (rI (fun x j => 0 < j) fun i j => V.int (i % j)) (tCall (spBigD K) [] E0 (tCons (tVar 2) (tCons (tOp (rI0 fun i j => V.int (i + j)) (tVar 3) (tC (V.int 1))) tNil))) (tOp (rI0 fun i j => V.int (i + j)) (tOp (rI0 fun i j => V.int (i - j)) (tVar 0) (tVar 6)) (tC (V.int 1)))) (gName 7)) (tSeq (tAsg (tOp (rI (fun x j => 0 < j) fun i j => V.int (i % j)) (tCall (spBigD K) [] E0 (tCons (tVar 2) (tCons (tOp (rI0 fun i j => V.int (i + j)) (tVar 3) (tC (V.int 2))) tNil))) (tOp (rI0 fun i j => V.int (i + j)) (tOp (rI0 fun i j => V.int (i - j)) (tVar 0) (tVar 6)) (tC (V.int 1)))) (gName 8)) (tSeq (tIfS (tOr (tTest (tOp rEq (tVar 5) (tC (V.int 1)))) (tTest (tOp rEq (tVar 5) (tC (V.int 4))))) (tAsg (tCB (fun xs H Q => ∃ i j, xs = [V.int i, V.int j] ∧ Q (V.int (if j < i then j else i)) H) (tCons (tOp (rI0 fun i j => V.int (i - j)) (tVar 0) (tVar 6)) (tCons (tOp (rI0 fun i j => V.int (i + j)) (tOp (rI0 fun i j => V.int (i + j)) (tVar 7) (tC (V.int 1))) (tOp (rI (fun x j => 0 < j) fun i j => V.int (i % j)) (tVar 8) (tVar 6))) tNil))) (gName 8)) tNext) (tPairE K))))
def tPairD (K : PySem.W.Frag) : TS := tSeq (tAsg (tLst (tCons (tVar 1) tNil)) (gName 4)) (tSeq (tAsg (tCall spTakeD [] E0 (tCons (tVar 4) (tCons (tC (V.int 8)) tNil))) (gName 5)) (tSeq (tAsg (tOp (rI0 fun i j => V.int (i + j)) (tC (V.int 1)) (tOp (rI (fun x j => 0 < j) fun i j => V.int (i % j)) (tCall (spBigD K) [] E0 (tCons (tVar 2) (tCons (tVar 3) tNil))) (tOp (rIxL K) (tLst (tCons (tVar 0) (tCons (tVar 0) (tCons (tVar 0) (tCons (tCB (fun xs H Q => ∃ i j, xs = [V.int i, V.int j] ∧ Q (V.int (if j > i then j else i)) H) (tCons (tC (V.int 1)) (tCons (tOp (rI CDivL fun i j => V.int (i / j)) (tVar 0) (tC (V.int 2))) tNil))) (tCons (tCB (fun xs H Q => ∃ i j, xs = [V.int i, V.int j] ∧ Q (V.int (if j > i then j else i)) H) (tCons (tC (V.int 1)) (tCons (tOp (rI CDivL fun i j => V.int (i / j)) (tVar 0) (tC (V.int 3))) tNil))) (tCons (tCB (fun xs H Q => ∃ i j, xs = [V.int i, V.int j] ∧ Q (V.int (if j < i then j else i)) H) (tCons (tVar 0) (tCons (tC (V.int 4)) tNil))) (tCons (tVar 0) (tCons (tCB (fun xs H Q => ∃ i j, xs = [V.int i, V.int j] ∧ Q (V.int (if j < i then j else i)) H) (tCons (tVar 0) (tCons (tC (V.int 2)) tNil))) tNil))))))))) (tVar 5)))) (gName 6)) (tPairF K)))
theorem at_longs {n r : Int} (hn : 1 ≤ n) (h0 : 0 ≤ r) (h1 : r < 8) : ∃ z : Int, atI [V.int n, V.int n, V.int n, V.int (if n / 2 > 1 then n / 2 else 1), V.int (if n / 3 > 1 then n / 3 else 1), V.int (if (4 : Int) < n then 4 else n), V.int n, V.int (if (2 : Int) < n then 2 else n)] r = some (.int z) ∧ 1 ≤ z ∧ z ≤ n := by
  have hc : r = 0 ∨ r = 1 ∨ r = 2 ∨ r = 3 ∨ r = 4 ∨ r = 5 ∨ r = 6 ∨ r = 7 := by omega
  rcases hc with rfl | rfl | rfl | rfl | rfl | rfl | rfl | rfl
  · exact ⟨_, rfl, hn, Int.le_refl _⟩
  · exact ⟨_, rfl, hn, Int.le_refl _⟩
  · exact ⟨_, rfl, hn, Int.le_refl _⟩
  · exact ⟨_, rfl, by split <;> omega, by split <;> omega⟩
  · exact ⟨_, rfl, by split <;> omega, by split <;> omega⟩
  · exact ⟨_, rfl, by split <;> omega, by split <;> omega⟩
  · exact ⟨_, rfl, hn, Int.le_refl _⟩
  · exact ⟨_, rfl, by split <;> omega, by split <;> omega⟩
theorem cdiv3 {i : Int} : CDivL i 3 := ⟨by decide, log_okL (m := 3) (by decide) (by decide)⟩
theorem cdiv2 {i : Int} : CDivL i 2 := ⟨by decide, log_okL (m := 2) (by decide) (by decide)⟩
set_option maxHeartbeats 4000000 in
theorem pairE_reads {K : PySem.W.Frag} {H0 H : Hp} {Q : VK} {Z : L2.St → Hp → Prop} {n lg one oth wy : Int} {x1 x2 x3 : Option V} {bg : Addr} (s0 : Same H0 H) (hf : H0 bg = none) (hb : Bg H bg) (l1 : 1 ≤ lg) (l2 : lg ≤ n) (o1 : 0 ≤ one) (o2 : one ≤ n - lg) (p1 : 0 ≤ oth) (p2 : oth ≤ n - lg)
    (k : ∀ (p : Addr) (pr : PR) (H' : Hp), H0 p = none → H' p = some (.tup (pV pr)) → PrOk n pr → Same H0 H' → Q (.ref p) H') :
    tPairE K { nx := Z, rt := Q } [some (.int n), x1, x2, x3, some (.ref bg), some (.int wy), some (.int lg), some (.int one), some (.int oth)] H := by
  have fin : ∀ oth : Int, 0 ≤ oth → oth ≤ n - lg → (tRet (tTup (tCons (tCB (fun xs H Q => ∃ i j, xs = [V.int i, V.int j] ∧ Q (V.int (if j < i then j else i)) H) (tCons (tVar 7) (tCons (tVar 8) tNil))) (tCons (tCB (fun xs H Q => ∃ i j, xs = [V.int i, V.int j] ∧ Q (V.int (if j > i then j else i)) H) (tCons (tVar 7) (tCons (tVar 8) tNil))) (tCons (tVar 6) (tCons (tOp rEq (tCall spTakeD [] E0 (tCons (tVar 4) (tCons (tC (V.int 2)) tNil))) (tC (V.int 1))) tNil)))))) { nx := Z, rt := Q } [some (.int n), x1, x2, x3, some (.ref bg), some (.int wy), some (.int lg), some (.int one), some (.int oth)] H := fun oth p1 p2 => by
    refine ⟨_, rfl, _, rfl, _, _, rfl, _, rfl, _, rfl, _, _, rfl, _, rfl, _, rfl, bg, 2, rfl, hb, by decide, by decide, fun r H1 _ _ b1 u1 _ => ⟨rfl, (by show 4 ≤ sizeLine; decide), fun p hp => ?_⟩⟩
    have s1 : Same H0 H1 := s0.bu hf u1
    refine k p (if oth < one then oth else one, if oth > one then oth else one, lg, decide (V.int r = V.int 1)) _ (s1.free hp) upd_same ⟨?_, ?_, l1, ?_⟩ (Same.nw s1 hp)
    · show 0 ≤ if oth < one then oth else one
      split <;> omega
    · show (if oth < one then oth else one) ≤ if oth > one then oth else one
      split <;> split <;> omega
    · show (if oth > one then oth else one) + lg ≤ n
      split <;> omega
  refine ⟨_, rfl, rfl, _, rfl, ite2 (fun _ => iteT ⟨_, rfl, _, rfl, _, _, rfl, rfl, fin _ (by omega) (by omega)⟩) (fun _ => ⟨_, rfl, rfl, _, rfl, ite2 (fun _ => ⟨_, rfl, _, rfl, _, _, rfl, rfl, fin _ (by omega) (by omega)⟩) (fun _ => fin _ p1 p2)⟩)⟩
set_option maxHeartbeats 4000000 in
theorem pairF_reads {K : PySem.W.Frag} {H H3 : Hp} {Q : VK} {Z : L2.St → Hp → Prop} {n hd wy lg : Int} {a bg : Addr} {ns : List Int} {at0 : Nat} (hS : SqL K H a (ns.map V.int)) (s3 : Same H H3) (hbg : H bg = none) (b3 : Bg H3 bg) (l1 : 1 ≤ lg) (l2 : lg ≤ n)
    (k : ∀ (p : Addr) (pr : PR) (H' : Hp), H p = none → H' p = some (.tup (pV pr)) → PrOk n pr → Same H H' → Q (.ref p) H') :
    tPairF K { nx := Z, rt := Q } [some (.int n), some (.int hd), some (.ref a), some (.int (at0 : Int)), some (.ref bg), some (.int wy), some (.int lg), none, none] H3 := by
  refine ⟨_, rfl, _, rfl, _, _, rfl, rfl, a, ns, at0 + 1, rfl, s3.seq hS, fun g1 hg1 => ⟨_, rfl, _, rfl, _, _, rfl, rfl, _, _, rfl, rfl, _, _, rfl, rfl, (by show 0 < n - lg + 1; omega), ?_⟩⟩
  refine ⟨_, rfl, _, rfl, _, _, rfl, rfl, a, ns, at0 + 2, rfl, s3.seq hS, fun g2 hg2 => ⟨_, rfl, _, rfl, _, _, rfl, rfl, _, _, rfl, rfl, _, _, rfl, rfl, (by show 0 < n - lg + 1; omega), ?_⟩⟩
  have i0 := Int.emod_nonneg g1 (show n - lg + 1 ≠ 0 by omega)
  have i1 := Int.emod_lt_of_pos g1 (show 0 < n - lg + 1 by omega)
  have j0 := Int.emod_nonneg g2 (show n - lg + 1 ≠ 0 by omega)
  have j1 := Int.emod_lt_of_pos g2 (show 0 < n - lg + 1 by omega)
  have q0 := Int.emod_nonneg (g2 % (n - lg + 1)) (show lg ≠ 0 by omega)
  have fin : ∀ oth : Int, 0 ≤ oth → oth ≤ n - lg → tPairE K { nx := Z, rt := Q } [some (.int n), some (.int hd), some (.ref a), some (.int (at0 : Int)), some (.ref bg), some (.int wy), some (.int lg), some (.int (g1 % (n - lg + 1))), some (.int oth)] H3 := fun oth p1 p2 => pairE_reads s3 hbg b3 l1 l2 i0 (by omega) p1 p2 k
  have asg : ∀ D : Ends, D = { nx := tPairE K { nx := Z, rt := Q }, rt := Q } → (tAsg (tCB (fun xs H Q => ∃ i j, xs = [V.int i, V.int j] ∧ Q (V.int (if j < i then j else i)) H) (tCons (tOp (rI0 fun i j => V.int (i - j)) (tVar 0) (tVar 6)) (tCons (tOp (rI0 fun i j => V.int (i + j)) (tOp (rI0 fun i j => V.int (i + j)) (tVar 7) (tC (V.int 1))) (tOp (rI (fun x j => 0 < j) fun i j => V.int (i % j)) (tVar 8) (tVar 6))) tNil))) (gName 8)) D [some (.int n), some (.int hd), some (.ref a), some (.int (at0 : Int)), some (.ref bg), some (.int wy), some (.int lg), some (.int (g1 % (n - lg + 1))), some (.int (g2 % (n - lg + 1)))] H3 := fun D eD => by
    subst eD
    refine ⟨_, rfl, _, rfl, _, _, rfl, rfl, _, rfl, _, _, rfl, rfl, _, rfl, _, rfl, _, _, rfl, rfl, (by show 0 < lg; omega), _, _, rfl, rfl, _, _, rfl, fin _ ?_ ?_⟩
    · split <;> omega
    · split <;> omega
  refine ⟨_, rfl, rfl, _, rfl, ite2 (fun _ => iteT (asg _ rfl)) (fun _ => ⟨_, rfl, rfl, _, rfl, ite2 (fun _ => asg _ rfl) (fun _ => fin _ j0 (by omega))⟩)⟩
set_option maxHeartbeats 4000000 in
theorem pairD_reads {K : PySem.W.Frag} {H : Hp} {Q : VK} {Z : L2.St → Hp → Prop} {n hd : Int} {a : Addr} {ns : List Int} {at0 : Nat} (hS : SqL K H a (ns.map V.int)) (hn : 1 ≤ n)
    (k : ∀ (p : Addr) (pr : PR) (H' : Hp), H p = none → H' p = some (.tup (pV pr)) → PrOk n pr → Same H H' → Q (.ref p) H') :
    tPairD K { nx := Z, rt := Q } [some (.int n), some (.int hd), some (.ref a), some (.int (at0 : Int)), none, none, none, none, none] H := by
  refine ⟨_, rfl, (by show 1 ≤ sizeLine; decide), fun bg hbg => ?_⟩
  have s1 := Same.nw (o := .lst [.int hd]) (Same.refl H) hbg
  have b1 : Bg (upd H bg (.lst [.int hd])) bg := ⟨hd, upd_same⟩
  generalize upd H bg (.lst [.int hd]) = H1 at s1 b1 ⊢
  refine ⟨_, rfl, bg, 8, rfl, b1, by decide, by decide, fun wy H2 r0 r1 b2 u2 _ => ?_⟩
  have s2 : Same H H2 := s1.bu hbg u2
  refine ⟨_, rfl, _, rfl, a, ns, at0, rfl, s2.seq hS, fun g0 hg0 => ?_⟩
  obtain ⟨z, ez, z1, z2⟩ := at_longs hn r0 r1
  refine ⟨_, rfl, _, rfl, _, rfl, _, rfl, _, _, rfl, rfl, cdiv2, _, _, rfl, _, rfl, _, _, rfl, rfl, cdiv3, _, _, rfl, _, rfl, _, _, rfl, _, rfl, _, rfl, _, _, rfl, (by show 8 ≤ sizeLine; decide), fun l hl => ⟨_, rfl, l, _, _, _, rfl, rfl, SqL.of upd_same, ez, _, _, rfl, rfl, (by show 0 < z; omega), _, _, rfl, rfl, pairF_reads (lg := 1 + g0 % z) hS (Same.nw s2 hl) hbg (b2.same (Same.nw (Same.refl H2) hl)) (by have := Int.emod_nonneg g0 (show z ≠ 0 by omega); omega) (by have := Int.emod_lt_of_pos g0 (show 0 < z by omega); omega) k⟩⟩
end L2
set_option Elab.async false
set_option linter.all false
set_option maxRecDepth 100000
set_option maxHeartbeats 1000000
namespace L2
open PySem PySem.Spec PyProof.Rows
structure HlOk (n : Int) (ps : List PR) (L : WL2) : Prop where
  n0 : 0 ≤ n
  n1 : n < 10 ^ 60
  len : ps.length ≤ 62
  pr : ∀ p ∈ ps, PrOk n p
  w : WOk n L
def spHallD (K : PySem.W.Frag) : Sp := fun vs H Q _ => ∃ (a : Addr) (ns : List Int) (at0 : Nat), vs = [.ref a, .int (at0 : Int)] ∧ SqL K H a (ns.map V.int) ∧ ∀ (c pa pb : Addr) (n : Int) (ps : List PR) (L : WL2) (ya yb : List V) (H' : Hp), Same H H' → H c = none → H pa = none → H pb = none → pa ≠ pb → HallAt H' c pa pb n ps L ya yb → HlOk n ps L → Q (.ref c) H'
def tHallE (K : PySem.W.Frag) : TS := (tSeq (tAsg (tCall (spWeighD K) [] E0 (tCons (tVar 4) (tCons (tCall spTakeD [] E0 (tCons (tVar 2) (tCons (tC (V.int 1000)) tNil))) (tCons (tVar 0) (tCons (tOp (rI0 fun i j => V.int (i + j)) (tVar 1) (tC (V.int 2))) tNil))))) (gName 6)) (tSeq (tAsg (tLst tNil) (gName 7)) (tSeq (tFor (iRng1 (tCons (tOp (rI CMul fun i j => V.int (i * j)) (tVar 5) (tCB (fun xs H Q => (∃ i, xs = [V.int i] ∧ Q (V.int i) H) ∨ ∃ k, xs = [V.bl k] ∧ Q (V.int (if k = true then 1 else 0)) H) (tCons (tOp (rI0 fun i j => V.bl (decide (j < i))) (tVar 4) (tC (V.int 0))) tNil))) tNil)) (gName 8) (tDrop (tBM K "list" rAppend (tVar 7) (tCons (tCall (spPairD K) [] E0 (tCons (tVar 4) (tCons (tCall spTakeD [] E0 (tCons (tVar 2) (tCons (tC (V.int 16)) tNil))) (tCons (tVar 0) (tCons (tOp (rI0 fun i j => V.int (i + j)) (tOp (rI0 fun i j => V.int (i + j)) (tVar 1) (tC (V.int 8))) (tOp (rI (fun x j => 0 < j) fun i j => V.int (i % j)) (tOp (rI CMul fun i j => V.int (i * j)) (tVar 8) (tC (V.int 3))) (tC (V.int 29)))) tNil))))) tNil)))) (tRet (tTup (tCons (tVar 4) (tCons (tVar 7) (tCons (tVar 6) tNil))))))))
set_option maxHeartbeats 4000000 in
theorem hallE_reads {K : PySem.W.Frag} {H H1 : Hp} {Q : VK} {Z : L2.St → Hp → Prop} {x3 : Option V} {n many : Int} {a bg : Addr} {ns : List Int} {at0 : Nat} (hS : SqL K H a (ns.map V.int)) (s1 : Same H H1) (hbg : H bg = none) (b1 : Bg H1 bg) (n0 : 0 ≤ n) (n1 : n < 10 ^ 60) (m0 : 0 ≤ many) (m1 : many ≤ 62)
    (k : ∀ (c pa pb : Addr) (n : Int) (ps : List PR) (L : WL2) (ya yb : List V) (H' : Hp), Same H H' → H c = none → H pa = none → H pb = none → pa ≠ pb → HallAt H' c pa pb n ps L ya yb → HlOk n ps L → Q (.ref c) H') :
    tHallE K { nx := Z, rt := Q } [some (.ref a), some (.int (at0 : Int)), some (.ref bg), x3, some (.int n), some (.int many), none, none, none] H1 := by
  refine ⟨_, rfl, _, rfl, bg, 1000, rfl, b1, by decide, by decide, fun hd H2 _ _ b2 u2 _ => ?_⟩
  have s2 : Same H H2 := s1.bu hbg u2
  refine ⟨_, rfl, _, rfl, _, _, rfl, rfl, n, hd, a, ns, at0 + 2, rfl, s2.seq hS, n0, by omega, fun wb yb L H3 e1 e2 e3 e4 s3 => ?_⟩
  have fwb := s2.free e1
  have b3 := b2.same s3
  have nwb : wb ≠ bg := b2.ne e1
  have s03 := s2.trans s3
  refine ⟨(by show 0 ≤ sizeLine; decide), fun la hla => ?_⟩
  have fla := s03.free hla
  have nlb : la ≠ bg := b3.ne hla
  have nlw : wb ≠ la := ne_of_none e2 hla
  have s4 := Same.nw (o := .lst []) (Same.refl H3) hla
  have f4 : (upd H3 la (.lst [])) la = some (.lst []) := upd_same
  generalize upd H3 la (.lst []) = H4 at s4 f4 ⊢
  refine ⟨_, rfl, _, rfl, _, _, rfl, rfl, .inr ⟨_, rfl, _, _, rfl, rfl, .inl ⟨by omega, by omega⟩, ?_⟩⟩
  have rb : 0 ≤ many * (if decide (0 < n) = true then 1 else 0) ∧ many * (if decide (0 < n) = true then 1 else 0) ≤ 62 ∧ (0 < many * (if decide (0 < n) = true then 1 else 0) → 0 < n) := by
    by_cases hn : 0 < n
    · rw [decide_eq_true hn, if_pos rfl, Int.mul_one]; exact ⟨m0, m1, fun _ => hn⟩
    · rw [decide_eq_false hn, if_neg (by decide), Int.mul_zero]; exact ⟨by decide, by decide, fun z => absurd z (by decide)⟩
  refine ⟨_, rfl, by have := rb.1; omega, by have := rb.2.1; omega, ?_⟩
  generalize many * (if decide (0 < n) = true then 1 else 0) = M at rb ⊢
  obtain ⟨M0, M1, M2⟩ := rb
  refine for_range (n := M.toNat) (fun j σ H' => ∃ (x8 : Option V) (zs : List V) (ps : List PR), σ = [some (.ref a), some (.int (at0 : Int)), some (.ref bg), x3, some (.int n), some (.int many), some (.ref wb), some (.ref la), x8] ∧ H' la = some (.lst zs) ∧ CpL H' zs (ps.map pV) ∧ ps.length = j ∧ (∀ p ∈ ps, PrOk n p) ∧ H' wb = some (.lst yb) ∧ Wg H' yb L ∧ Bg H' bg ∧ Same H H') ⟨none, [], [], rfl, f4, ⟨rfl, fun i y vs h1 h2 => by rw [List.getElem?_nil] at h1; cases h1⟩, rfl, (fun p hp => by cases hp), s4 _ _ e2, e3.up s4.tups, b3.same s4, s03.trans s4⟩ ?_ ?_
  · rintro j σ H5 hj ⟨x8, zs, ps, rfl, g1, g2, g3, g4, g5, g6, g7, s5⟩
    have hn : 1 ≤ n := by have := M2 (by omega); omega
    refine ⟨_, rfl, .inl ⟨rfl, _, SqL.of g1⟩, _, rfl, _, rfl, bg, 16, rfl, g7, by decide, by decide, fun hd H6 _ _ b6 u6 _ => ?_⟩
    have s6 : Same H H6 := s5.bu hbg u6
    have t6 : Tups H5 H6 := fun b zs e => u6 b _ e (fun z => by obtain ⟨m, g7⟩ := g7; rw [z, g7] at e; cases e)
    have ec : (at0 : Int) + 8 + ((0 + (j : Int)) * 3) % 29 = ((at0 + 8 + (((0 + (j : Int)) * 3) % 29).toNat : Nat) : Int) := by
      have := Int.emod_nonneg ((0 + (j : Int)) * 3) (show (29 : Int) ≠ 0 by decide)
      omega
    refine ⟨_, rfl, _, rfl, _, _, rfl, rfl, _, rfl, _, _, rfl, rfl, .inr ⟨by decide, by decide⟩, _, _, rfl, rfl, (by show (0 : Int) < 29; decide), _, _, rfl, rfl, n, hd, a, ns, at0 + 8 + (((0 + (j : Int)) * 3) % 29).toNat, ?_, s6.seq hS, hn, fun p pr H7 i1 i2 i3 s7 => ?_⟩
    · show [V.int n, V.int hd, V.ref a, V.int ((at0 : Int) + 8 + ((0 + (j : Int)) * 3) % 29)] = _
      rw [ec]
    have t7 := t6.trans s7.tups
    have g1' := s7 _ _ (u6 _ _ g1 nlb)
    have T8 : Tups H7 (upd H7 la (.lst (zs ++ [.ref p]))) := (Tups.refl _).lst g1'
    refine ⟨la, zs, _, rfl, rfl, g1', small1000 (by rw [g2.1, List.length_map, g3]; omega), ?_⟩
    refine ⟨_, zs ++ [.ref p], ps ++ [pr], rfl, upd_same, ?_, by rw [List.length_append, g3]; rfl, ?_, ?_, g6.up (t7.trans T8), ?_, Same.ow (s6.trans s7) fla⟩
    · rw [List.map_append]
      exact CpL.snoc ((g2.up t7).up T8) (T8 _ _ i2)
    · intro q hq
      rcases List.mem_append.mp hq with hq | hq
      · exact g4 q hq
      · rw [List.mem_singleton.mp hq]; exact i3
    · rw [upd_ne nlw]; exact s7 _ _ (u6 _ _ g5 nwb)
    · obtain ⟨m, hm⟩ := b6
      exact ⟨m, by rw [upd_ne (Ne.symm nlb)]; exact s7 _ _ hm⟩
  · rintro σ H5 ⟨x8, zs, ps, rfl, g1, g2, g3, g4, g5, g6, g7, s5⟩
    refine ⟨_, rfl, _, rfl, _, rfl, (by show 3 ≤ sizeLine; decide), fun c hc => ?_⟩
    have s6 := Same.nw (o := .tup [.int n, .ref la, .ref wb]) (Same.refl H5) hc
    exact k c la wb n ps L zs yb _ (s5.trans s6) (s5.free hc) fla fwb (Ne.symm nlw) ⟨upd_same, s6 _ _ g1, g2.up s6.tups, s6 _ _ g5, g6.up s6.tups⟩ ⟨n0, n1, by omega, g4, e4⟩
def tHallF (K : PySem.W.Frag) : TS := (tSeq (tIfS (tTest (tOp rEq (tCall spTakeD [] E0 (tCons (tVar 2) (tCons (tC (V.int 8)) tNil))) (tC (V.int 5)))) (tAsg (tOp (rI0 fun i j => V.int (i + j)) (tC (V.int 20)) (tCall spTakeD [] E0 (tCons (tVar 2) (tCons (tC (V.int 43)) tNil)))) (gName 5)) tNext) (tSeq (tIfS (tTest (tOp (rI0 fun i j => V.bl (decide (j < i))) (tVar 3) (tC (V.int 5)))) (tAsg (tOp (rI (fun x j => 0 < j) fun i j => V.int (i % j)) (tVar 5) (tC (V.int 6))) (gName 5)) tNext) (tHallE K)))
set_option maxHeartbeats 4000000 in
theorem hallF_reads {K : PySem.W.Frag} {H H1 : Hp} {Q : VK} {Z : L2.St → Hp → Prop} {wy n many : Int} {a bg : Addr} {ns : List Int} {at0 : Nat} (hS : SqL K H a (ns.map V.int)) (s1 : Same H H1) (hbg : H bg = none) (b1 : Bg H1 bg) (n0 : 0 ≤ n) (n1 : n < 10 ^ 60) (m0 : 0 ≤ many) (m1 : many ≤ 62)
    (k : ∀ (c pa pb : Addr) (n : Int) (ps : List PR) (L : WL2) (ya yb : List V) (H' : Hp), Same H H' → H c = none → H pa = none → H pb = none → pa ≠ pb → HallAt H' c pa pb n ps L ya yb → HlOk n ps L → Q (.ref c) H') :
    tHallF K { nx := Z, rt := Q } [some (.ref a), some (.int (at0 : Int)), some (.ref bg), some (.int wy), some (.int n), some (.int many), none, none, none] H1 := by
  have snd : ∀ (many : Int) (H1 : Hp), Same H H1 → Bg H1 bg → 0 ≤ many → many ≤ 62 → (tSeq (tIfS (tTest (tOp (rI0 fun i j => V.bl (decide (j < i))) (tVar 3) (tC (V.int 5)))) (tAsg (tOp (rI (fun x j => 0 < j) fun i j => V.int (i % j)) (tVar 5) (tC (V.int 6))) (gName 5)) tNext) (tHallE K)) { nx := Z, rt := Q } [some (.ref a), some (.int (at0 : Int)), some (.ref bg), some (.int wy), some (.int n), some (.int many), none, none, none] H1 := fun many H1 s1 b1 m0 m1 => by
    refine ⟨_, rfl, _, _, rfl, rfl, _, rfl, ite2 (fun _ => ⟨_, rfl, _, _, rfl, rfl, (by show (0 : Int) < 6; decide), hallE_reads hS s1 hbg b1 n0 n1 (Int.emod_nonneg _ (by decide)) ?_ k⟩) (fun _ => hallE_reads hS s1 hbg b1 n0 n1 m0 m1 k)⟩
    have := Int.emod_lt_of_pos many (show (0 : Int) < 6 by decide)
    omega
  refine ⟨_, rfl, bg, 8, rfl, b1, by decide, by decide, fun r H2 _ _ b2 u2 _ => ⟨rfl, _, rfl, ite2 (fun _ => ?_) (fun _ => snd _ _ (s1.bu hbg u2) b2 m0 m1)⟩⟩
  refine ⟨_, rfl, bg, 43, rfl, b2, by decide, by decide, fun r' H3 r0 r1 b3 u3 _ => ⟨_, _, rfl, rfl, snd _ _ ((s1.bu hbg u2).bu hbg u3) b3 ?_ ?_⟩⟩
  · omega
  · omega
def tHallD (K : PySem.W.Frag) : TS := tSeq (tAsg (tLst (tCons (tCall (spBigD K) [] E0 (tCons (tVar 0) (tCons (tVar 1) tNil))) tNil)) (gName 2)) (tSeq (tAsg (tCall spTakeD [] E0 (tCons (tVar 2) (tCons (tC (V.int 8)) tNil))) (gName 3)) (tSeq (tAsg (tOp (rI (fun x j => 0 < j) fun i j => V.int (i % j)) (tCall (spBigD K) [] E0 (tCons (tVar 0) (tCons (tOp (rI0 fun i j => V.int (i + j)) (tVar 1) (tC (V.int 1))) tNil))) (tOp (rIxL K) (tLst (tCons (tC (V.int 13)) (tCons (tC (V.int 25)) (tCons (tC (V.int 25)) (tCons (tC (V.int 25)) (tCons (tC (V.int 151)) (tCons (tC (V.int 151)) (tCons (tOp (rI CPow fun i j => V.int (i ^ j.toNat)) (tC (V.int 10)) (tC (V.int 20))) (tCons (tOp (rI CPow fun i j => V.int (i ^ j.toNat)) (tC (V.int 10)) (tC (V.int 60))) tNil))))))))) (tVar 3))) (gName 4)) (tSeq (tAsg (tOp (rIxL K) (tLst (tCons (tCall spTakeD [] E0 (tCons (tVar 2) (tCons (tC (V.int 5)) tNil))) (tCons (tCall spTakeD [] E0 (tCons (tVar 2) (tCons (tC (V.int 9)) tNil))) (tCons (tC (V.int 3)) (tCons (tCall spTakeD [] E0 (tCons (tVar 2) (tCons (tC (V.int 17)) tNil))) tNil))))) (tCall spTakeD [] E0 (tCons (tVar 2) (tCons (tC (V.int 4)) tNil)))) (gName 5)) (tHallF K))))
theorem at_bounds {r : Int} (h0 : 0 ≤ r) (h1 : r < 8) : ∃ z : Int, atI [V.int 13, V.int 25, V.int 25, V.int 25, V.int 151, V.int 151, V.int (10 ^ (20 : Int).toNat), V.int (10 ^ (60 : Int).toNat)] r = some (.int z) ∧ 0 < z ∧ z ≤ 10 ^ 60 := by
  have hc : r = 0 ∨ r = 1 ∨ r = 2 ∨ r = 3 ∨ r = 4 ∨ r = 5 ∨ r = 6 ∨ r = 7 := by omega
  rcases hc with rfl | rfl | rfl | rfl | rfl | rfl | rfl | rfl
  all_goals exact ⟨_, rfl, by decide, by decide⟩
theorem at_manys {r a b c : Int} (h0 : 0 ≤ r) (h1 : r < 4) (a0 : 0 ≤ a) (a1 : a < 5) (b0 : 0 ≤ b) (b1 : b < 9) (c0 : 0 ≤ c) (c1 : c < 17) : ∃ z : Int, atI [V.int a, V.int b, V.int 3, V.int c] r = some (.int z) ∧ 0 ≤ z ∧ z ≤ 62 := by
  have hc : r = 0 ∨ r = 1 ∨ r = 2 ∨ r = 3 := by omega
  rcases hc with rfl | rfl | rfl | rfl
  all_goals exact ⟨_, rfl, by omega, by omega⟩
set_option maxHeartbeats 4000000 in
theorem hallD_reads {K : PySem.W.Frag} {H : Hp} {Q : VK} {Z : L2.St → Hp → Prop} {a : Addr} {ns : List Int} {at0 : Nat} (hS : SqL K H a (ns.map V.int))
    (k : ∀ (c pa pb : Addr) (n : Int) (ps : List PR) (L : WL2) (ya yb : List V) (H' : Hp), Same H H' → H c = none → H pa = none → H pb = none → pa ≠ pb → HallAt H' c pa pb n ps L ya yb → HlOk n ps L → Q (.ref c) H') :
    tHallD K { nx := Z, rt := Q } [some (.ref a), some (.int (at0 : Int)), none, none, none, none, none, none, none] H := by
  refine ⟨_, rfl, _, rfl, a, ns, at0, rfl, hS, fun big _ => ⟨(by show 1 ≤ sizeLine; decide), fun bg hbg => ?_⟩⟩
  have s1 := Same.nw (o := .lst [.int big]) (Same.refl H) hbg
  have b1 : Bg (upd H bg (.lst [.int big])) bg := ⟨big, upd_same⟩
  generalize upd H bg (.lst [.int big]) = H1 at s1 b1 ⊢
  refine ⟨_, rfl, bg, 8, rfl, b1, by decide, by decide, fun wy H2 w0 w1 b2 u2 _ => ?_⟩
  have s2 : Same H H2 := s1.bu hbg u2
  obtain ⟨z, ez, z0, z1⟩ := at_bounds w0 w1
  refine ⟨_, rfl, _, rfl, _, _, rfl, rfl, a, ns, at0 + 1, rfl, s2.seq hS, fun g0 _ => ⟨_, _, rfl, rfl, ⟨by decide, by decide, by decide⟩, _, _, rfl, rfl, ⟨by decide, by decide, by decide⟩, (by show 8 ≤ sizeLine; decide), fun l hl => ⟨_, rfl, l, _, _, _, rfl, rfl, SqL.of upd_same, ez, _, _, rfl, rfl, z0, ?_⟩⟩⟩
  have key : ∀ H3, Same H2 H3 → (tSeq (tAsg (tOp (rIxL K) (tLst (tCons (tCall spTakeD [] E0 (tCons (tVar 2) (tCons (tC (V.int 5)) tNil))) (tCons (tCall spTakeD [] E0 (tCons (tVar 2) (tCons (tC (V.int 9)) tNil))) (tCons (tC (V.int 3)) (tCons (tCall spTakeD [] E0 (tCons (tVar 2) (tCons (tC (V.int 17)) tNil))) tNil))))) (tCall spTakeD [] E0 (tCons (tVar 2) (tCons (tC (V.int 4)) tNil)))) (gName 5)) (tHallF K)) { nx := Z, rt := Q } [some (.ref a), some (.int (at0 : Int)), some (.ref bg), some (.int wy), some (.int (g0 % z)), none, none, none, none] H3 := fun H3 s3 => by
    have b3 := b2.same s3
    have s03 := s2.trans s3
    refine ⟨_, rfl, bg, 5, rfl, b3, by decide, by decide, fun r5 H4 p0 p1 b4 u4 _ => ?_⟩
    refine ⟨_, rfl, bg, 9, rfl, b4, by decide, by decide, fun r9 H5 q0 q1 b5 u5 _ => ?_⟩
    refine ⟨_, rfl, bg, 17, rfl, b5, by decide, by decide, fun r17 H6 t0 t1 b6 u6 _ => ⟨(by show 4 ≤ sizeLine; decide), fun l hl => ?_⟩⟩
    have s6 : Same H H6 := ((s03.bu hbg u4).bu hbg u5).bu hbg u6
    have nl := b6.ne hl
    have s7 := Same.nw (o := .lst [.int r5, .int r9, .int 3, .int r17]) (Same.refl H6) hl
    have f7 : (upd H6 l (.lst [.int r5, .int r9, .int 3, .int r17])) l = some (.lst [.int r5, .int r9, .int 3, .int r17]) := upd_same
    generalize upd H6 l (.lst [.int r5, .int r9, .int 3, .int r17]) = H7 at s7 f7 ⊢
    refine ⟨_, rfl, bg, 4, rfl, b6.same s7, by decide, by decide, fun r4 H8 v0 v1 b8 u8 _ => ?_⟩
    obtain ⟨m, em, m0, m1⟩ := at_manys v0 v1 p0 p1 q0 q1 t0 t1
    refine ⟨l, _, _, _, rfl, rfl, SqL.of (u8 _ _ f7 nl), em, ?_⟩
    have h0 := Int.emod_nonneg g0 (show z ≠ 0 by omega)
    have h1 := Int.emod_lt_of_pos g0 z0
    exact hallF_reads hS ((s6.trans s7).bu hbg u8) hbg b8 h0 (by omega) m0 m1 k
  exact key _ (Same.nw (Same.refl H2) hl)
end L2
set_option Elab.async false
set_option linter.all false
set_option maxRecDepth 100000
set_option maxHeartbeats 1000000
namespace L2
open PySem PySem.Spec PyProof.Rows
def tWhI (K : PySem.W.Frag) : TS := tRet (tAndV (tCB (fun xs H Q => ∃ x t b, xs = [x, V.ty "int"] ∧ TyOf K H x t ∧ W.kitOne K t (Value.type "int") = some b ∧ Q (V.bl b) H) (tCons (tVar 0) (tCons (tC (V.ty "int")) tNil))) (tNotV (tCB (fun xs H Q => ∃ x t b, xs = [x, V.ty "bool"] ∧ TyOf K H x t ∧ W.kitOne K t (Value.type "bool") = some b ∧ Q (V.bl b) H) (tCons (tVar 0) (tCons (tC (V.ty "bool")) tNil)))))
end L2
set_option Elab.async false
set_option linter.all false
set_option maxRecDepth 100000
set_option maxHeartbeats 1000000
set_option Elab.async false
set_option linter.all false
set_option maxRecDepth 100000
set_option maxHeartbeats 1000000
namespace L2
open PySem PySem.Spec PyProof.Rows
theorem meta_veD : PySem.W.kitMeta "ValueError" = true := by decide +kernel
structure NoD (K : PySem.W.Frag) (cC cT cN cR cO cU cX cS cM : Addr) : Prop where
  xN : XCls K cN
  xT : XCls K cT
  xR : XCls K cR
  xO : XCls K cO
  xU : XCls K cU
  xX : XCls K cX
  xS : XCls K cS
  xM : XCls K cM
  v : PySem.W.subIn K (.ref cN) (.type "ValueError") = some true
  sC : PySem.W.subIn K (.ref cN) (.ref cC) = some true
  sN : PySem.W.subIn K (.ref cN) (.ref cN) = some true
  sT : PySem.W.subIn K (.ref cN) (.ref cT) = some false
  sR : PySem.W.subIn K (.ref cN) (.ref cR) = some false
  sO : PySem.W.subIn K (.ref cN) (.ref cO) = some false
  sU : PySem.W.subIn K (.ref cN) (.ref cU) = some false
  sX : PySem.W.subIn K (.ref cN) (.ref cX) = some false
  sS : PySem.W.subIn K (.ref cN) (.ref cS) = some false
  sM : PySem.W.subIn K (.ref cN) (.ref cM) = some false
abbrev rListOf (K : PySem.W.Frag) : List V → Hp → VK → Prop := (fun xs H_1 Q => ∃ p ys, xs = [V.ref p] ∧ (SqL K H_1 p ys ∨ SqT K H_1 p ys) ∧ ∀ (l : Addr), H_1 l = none → Q (V.ref l) (upd H_1 l (HO.lst ys)))
def tHanded (K : PySem.W.Frag) : TE := (tTup (tCons (tOp (rIxT K) (tVar 0) (tC (V.int 0))) (tCons (tCB (rListOf K) (tCons (tOp (rIxT K) (tVar 0) (tC (V.int 1))) tNil)) (tCons (tCB (rListOf K) (tCons (tOp (rIxT K) (tVar 0) (tC (V.int 2))) tNil)) tNil))))
theorem handed_reads {K : PySem.W.Frag} {H : Hp} {Q : VK} {σ : L2.St} {a pa pb : Addr} {n : Int} {ps : List PR} {L : WL2} {ya yb : List V} (h0 : σ[0]? = some (some (.ref a))) (h : HallAt H a pa pb n ps L ya yb) (k : ∀ (hd l1 l2 : Addr) (H' : Hp), Same H H' → HallAt H' hd l1 l2 n ps L ya yb → Q (.ref hd) H') : tHanded K σ H Q := by
  refine ⟨_, h0, a, _, _, _, rfl, rfl, SqT.of h.h, rfl, _, h0, a, _, _, _, rfl, rfl, SqT.of h.h, rfl, pa, ya, rfl, .inl (SqL.of h.ha), fun l1 g1 => ?_⟩
  have s1 := Same.nw (o := .lst ya) (Same.refl H) g1
  have f1 : (upd H l1 (.lst ya)) l1 = some (.lst ya) := upd_same
  generalize upd H l1 (.lst ya) = H1 at s1 f1 ⊢
  refine ⟨_, h0, a, _, _, _, rfl, rfl, SqT.of (s1 _ _ h.h), rfl, pb, yb, rfl, .inl (SqL.of (s1 _ _ h.hb)), fun l2 g2 => ?_⟩
  have s2 := Same.nw (o := .lst yb) (Same.refl H1) g2
  have f2 : (upd H1 l2 (.lst yb)) l2 = some (.lst yb) := upd_same
  generalize upd H1 l2 (.lst yb) = H2 at s2 f2 ⊢
  refine ⟨(by show 3 ≤ sizeLine; decide), fun hd g3 => ?_⟩
  have s3 := Same.nw (o := .tup [.int n, .ref l1, .ref l2]) (Same.refl H2) g3
  have s03 := s1.trans (s2.trans s3)
  exact k hd l1 l2 _ s03 ⟨upd_same, (s2.trans s3) _ _ f1, h.ca.up s03.tups, s3 _ _ f2, h.wb.up s03.tups⟩
theorem eqv_hall (n : Int) (ps : List PR) (L : WL2) : PyData.eqv (dHall n (ps.map pV) L) (dHall n (ps.map pV) L) = true := SeqAt.eqv_refl _ (lay_dHall _ _ _)
theorem dep_hall (n : Int) (ps : List PR) (L : WL2) : (dHall n (ps.map pV) L).depth ≤ 60 := by
  show max 0 (max (PyData.depthAll ((ps.map pV).map dCp) + 1) (max (PyData.depthAll (L.map dE) + 1) 0)) + 1 ≤ 60
  have := dep_dCps (ps.map pV)
  have := dep_dEs L
  omega
end L2
set_option Elab.async false
set_option linter.all false
set_option maxRecDepth 100000
set_option maxHeartbeats 1000000
namespace L2
open PySem PySem.Spec PyProof.Rows
abbrev DR := Hp → V → Int → List PR → WL2 → Option Out → Prop
def UpR (R : DR) : Prop := ∀ {H H' : Hp} {u : V} {n : Int} {ps : List PR} {L : WL2} {o : Option Out}, Same H H' → R H u n ps L o → R H' u n ps L o
def spDeedR (cN : Addr) (R : DR) : Sp := fun vs H Q E => ∃ (a pa pb : Addr) (u : V) (n : Int) (ps : List PR) (L : WL2) (ya yb : List V) (o : Option Out), vs = [.ref a, u] ∧ HallAt H a pa pb n ps L ya yb ∧ ps.length ≤ 400 ∧ R H u n ps L o ∧
  (o = none → ∀ H', Same H H' → E (.ref cN) none H') ∧
  ∀ out : Out, o = some out → ∀ (c a' pa' pb' pc' : Addr) (ya' yb' yc' : List V) (H' : Hp), Same H H' → H c = none → H pa' = none → H pb' = none → H pc' = none → pa' ≠ pb' → pa' ≠ pc' → pb' ≠ pc' → ToldAt H' c a' pa' pb' pc' out ya' yb' yc' → Q (.ref c) H'
def spRefusedG (K : PySem.W.Frag) (R : DR) : Sp := fun vs H Q _ => ∃ (a pa pb : Addr) (u : V) (n : Int) (ps : List PR) (L : WL2) (ya yb : List V), vs = [.ref a, u] ∧ HallAt H a pa pb n ps L ya yb ∧ ps.length ≤ 400 ∧ R H u n ps L none ∧ ∀ H', Same H H' → Q (.bl true) H'
def tRefusedG (K : PySem.W.Frag) (R : DR) (cC cT cN cR cO cU cX cS cM : Addr) : TS := tSeq (tAsg (tHanded K) (gName 2)) (tSeq (tTry K 5 3 cC (fun Ex => tDrop (tCallX (spDeedR cN R) Ex (tCons (tVar 2) (tCons (tVar 1) tNil)))) fun C ea => tSeq (tAsg (tLst (tCons (tCB (rIsi K C ea) (tCons (tVar 3) (tCons (tC (V.ref cT)) tNil))) (tCons (tCB (rIsi K C ea) (tCons (tVar 3) (tCons (tC (V.ref cR)) tNil))) (tCons (tCB (rIsi K C ea) (tCons (tVar 3) (tCons (tC (V.ref cO)) tNil))) (tCons (tCB (rIsi K C ea) (tCons (tVar 3) (tCons (tC (V.ref cU)) tNil))) tNil))))) (gName 4)) (tSeq (tAsg (tOp rCat (tVar 4) (tLst (tCons (tCB (rIsi K C ea) (tCons (tVar 3) (tCons (tC (V.ref cX)) tNil))) (tCons (tCB (rIsi K C ea) (tCons (tVar 3) (tCons (tC (V.ref cS)) tNil))) (tCons (tCB (rIsi K C ea) (tCons (tVar 3) (tCons (tC (V.ref cM)) tNil))) tNil))))) (gName 4)) (tRet (tAndV (tCB (rIsi K C ea) (tCons (tVar 3) (tCons (tC (V.ref cN)) tNil))) (tAndV (tCB (rIsi K C ea) (tCons (tVar 3) (tCons (tC (V.ty "ValueError")) tNil))) (tAndV (tOp (rIn K true) (tC (V.bl true)) (tVar 4)) (tOp (rEqD K fun b => b) (tVar 2) (tVar 0)))))))) (tRet (tC (V.bl false))))
set_option maxHeartbeats 4000000 in
theorem refusedG_reads {K : PySem.W.Frag} {H : Hp} {Q : VK} {Z : L2.St → Hp → Prop} {R : DR} {cC cT cN cR cO cU cX cS cM : Addr} (X : NoD K cC cT cN cR cO cU cX cS cM) {a pa pb : Addr} {u : V} {n : Int} {ps : List PR} {L : WL2} {ya yb : List V} (h : HallAt H a pa pb n ps L ya yb) (hl : ps.length ≤ 400) (up : UpR R) (hf : R H u n ps L none) (k : ∀ H', Same H H' → Q (.bl true) H') :
    tRefusedG K R cC cT cN cR cO cU cX cS cM { nx := Z, rt := Q } [some (.ref a), some u, none, none, none] H := by
  unfold tRefusedG tSeq tAsg
  dsimp only
  refine handed_reads (σ := [some (.ref a), some u, none, none, none]) rfl h fun hd0 l1 l2 H1 s1 h1 => ?_
  refine ⟨_, rfl, _, rfl, hd0, l1, l2, u, n, ps, L, ya, yb, none, rfl, h1, hl, up s1 hf, fun _ H2 s2 => ?_, fun out e => by cases e⟩
  refine ⟨cN, rfl, X.sC, fun ea hea => ?_⟩
  refine ⟨_, rfl, X.xN, false, .inl ⟨cT, rfl, X.xT, X.sT⟩, _, rfl, X.xN, false, .inl ⟨cR, rfl, X.xR, X.sR⟩, _, rfl, X.xN, false, .inl ⟨cO, rfl, X.xO, X.sO⟩, _, rfl, X.xN, false, .inl ⟨cU, rfl, X.xU, X.sU⟩, (by show 4 ≤ sizeLine; decide), fun k1 e1 => ?_⟩
  have t1 := Same.nw (o := .lst [.bl false, .bl false, .bl false, .bl false]) (Same.refl H2) e1
  have f1 : (upd H2 k1 (.lst [.bl false, .bl false, .bl false, .bl false])) k1 = some (.lst [.bl false, .bl false, .bl false, .bl false]) := upd_same
  generalize upd H2 k1 (.lst [.bl false, .bl false, .bl false, .bl false]) = H3 at t1 f1 ⊢
  refine ⟨_, rfl, _, rfl, X.xN, false, .inl ⟨cX, rfl, X.xX, X.sX⟩, _, rfl, X.xN, false, .inl ⟨cS, rfl, X.xS, X.sS⟩, _, rfl, X.xN, false, .inl ⟨cM, rfl, X.xM, X.sM⟩, (by show 3 ≤ sizeLine; decide), fun k2 e2 => ?_⟩
  have t2 := Same.nw (o := .lst [.bl false, .bl false, .bl false]) (Same.refl H3) e2
  have f2 : (upd H3 k2 (.lst [.bl false, .bl false, .bl false])) k2 = some (.lst [.bl false, .bl false, .bl false]) := upd_same
  generalize upd H3 k2 (.lst [.bl false, .bl false, .bl false]) = H4 at t2 f2 ⊢
  refine ⟨k1, k2, _, _, rfl, rfl, t2 _ _ f1, f2, (by show 7 ≤ sizeLine; decide), fun k3 e3 => ?_⟩
  have t3 := Same.nw (o := .lst ([.bl false, .bl false, .bl false, .bl false] ++ [.bl false, .bl false, .bl false])) (Same.refl H4) e3
  have f3 : (upd H4 k3 (.lst ([.bl false, .bl false, .bl false, .bl false] ++ [.bl false, .bl false, .bl false]))) k3 = some (.lst ([.bl false, .bl false, .bl false, .bl false] ++ [.bl false, .bl false, .bl false])) := upd_same
  generalize upd H4 k3 (.lst ([.bl false, .bl false, .bl false, .bl false] ++ [.bl false, .bl false, .bl false])) = H5 at t3 f3 ⊢
  have s25 := t1.trans (t2.trans t3)
  have s05 := (s1.trans s2).trans s25
  refine ⟨_, rfl, X.xN, true, .inl ⟨cN, rfl, X.xN, X.sN⟩, _, rfl, iteT ⟨_, rfl, X.xN, true, .inr (.inl ⟨"ValueError", rfl, meta_veD, X.v⟩), _, rfl, iteT ⟨_, rfl, k3, _, rfl, .inl (SqL.of f3), rfl, rfl, _, rfl, ?_⟩⟩⟩
  refine iteT ⟨_, rfl, _, rfl, _, _, (h1.up (s2.trans s25)).di, (h.up s05).di, lay_dHall _ _ _, lay_dHall _ _ _, dep_hall _ _ _, ?_⟩
  rw [eqv_hall]
  exact k _ s05
end L2
set_option Elab.async false
set_option linter.all false
set_option maxRecDepth 100000
set_option maxHeartbeats 1000000
namespace L2
open PySem PySem.Spec PyProof.Rows
theorem WOk.ook {n : Int} {L : WL2} (w : WOk n L) : L.length ≤ 8 ∧ ∀ e ∈ L, e.2.length ≤ 24 := by
  obtain ⟨wd, P, rfl, l, w1, w2, h, _⟩ := w
  refine ⟨Nat.le_trans (shape_lenL P) l, shape_allL (p := fun ws => ws.length ≤ 24) fun e he => ?_⟩
  have := (h e he).2
  omega
end L2
set_option Elab.async false
set_option linter.all false
set_option maxRecDepth 100000
set_option maxHeartbeats 1000000
set_option Elab.async false
set_option linter.all false
set_option maxRecDepth 100000
set_option maxHeartbeats 1000000
namespace L2
open PySem PySem.Spec PyProof.Rows
def spEndOf : Sp := fun vs H Q _ => ∃ (q : Addr) (p : PR), vs = [.ref q] ∧ H q = some (.tup (pV p)) ∧ Q (.int (p.2.1 + p.2.2.1)) H
def tEndOf (K : PySem.W.Frag) : TS := tRet (tOp (rI0 fun i j => V.int (i + j)) (tOp (rIxT K) (tVar 0) (tC (V.int 1))) (tOp (rIxT K) (tVar 0) (tC (V.int 2))))
theorem endof_reads {K : PySem.W.Frag} {H : Hp} {Q : VK} {Z : L2.St → Hp → Prop} {q : Addr} {p : PR} (hq : H q = some (.tup (pV p))) (k : Q (.int (p.2.1 + p.2.2.1)) H) : tEndOf K { nx := Z, rt := Q } [some (.ref q)] H :=
  ⟨_, rfl, q, _, _, _, rfl, rfl, SqT.of hq, rfl, _, rfl, q, _, _, _, rfl, rfl, SqT.of hq, rfl, _, _, rfl, rfl, k⟩
end L2
set_option Elab.async false
set_option linter.all false
set_option maxRecDepth 100000
set_option maxHeartbeats 1000000
namespace L2
open PySem PySem.Spec PyProof.Rows
theorem cdivI {i m : Int} (h0 : 0 < m) (h1 : m < 10 ^ 100) : CDivL i m := ⟨h0, log_okL h0 h1⟩
end L2
set_option Elab.async false
set_option linter.all false
set_option maxRecDepth 100000
set_option maxHeartbeats 1000000
set_option Elab.async false
set_option linter.all false
set_option maxRecDepth 100000
set_option maxHeartbeats 1000000
namespace L2
open PySem PySem.Spec PyProof.Rows
theorem shStep_len (acc : List (Int × List Int)) (e : Int × List Int) : (shStep acc e).length ≤ acc.length + 1 := by
  unfold shStep
  split
  · split
    · split
      · rw [List.length_append, List.length_dropLast, List.length_singleton]; omega
      · rw [List.length_append, List.length_singleton]; exact Nat.le_refl _
    · rw [List.length_append, List.length_singleton]; exact Nat.le_refl _
  · omega
theorem shape_len (L : List (Int × List Int)) : (shape L).length ≤ L.length := by
  have key : ∀ (L acc : List (Int × List Int)), (L.foldl shStep acc).length ≤ acc.length + L.length := by
    intro L
    induction L with
    | nil => intro acc; exact Nat.le_refl _
    | cons e L ih =>
      intro acc
      rw [List.foldl_cons, List.length_cons]
      have := ih (shStep acc e)
      have := shStep_len acc e
      omega
  have := key L []
  unfold shape
  simpa using this
def Ly (H : Hp) (zs : List V) (L : WL) (bg : Int) : Prop := zs.length = L.length ∧ ∀ i e, L[i]? = some e → ∃ p wq, zs[i]? = some (V.ref p) ∧ H p = some (.tup [.int (bg + tot (L.take i)), .int (bg + tot (L.take (i + 1))), .ref wq]) ∧ H wq = some (.tup (e.2.map V.int))
def spShaped (K : PySem.W.Frag) : Sp := fun vs H Q _ => ∃ (a : Addr) (xs : List V) (L : List (Int × List Int)), vs = [.ref a] ∧ SqL K H a xs ∧ Wg H xs L ∧ L.length ≤ 1000 ∧ (∀ e ∈ L, 0 ≤ e.1) ∧ ∀ (b : Addr) (ys : List V) (H' : Hp), H b = none → H' b = some (.lst ys) → Wg H' ys (shape L) → Same H H' → Q (.ref b) H'
def tShaped (K : PySem.W.Frag) : TS := tSeq (tAsg (tLst tNil) (gName 1)) (tSeq (tFor (iList K (tVar 0)) (gTup K 2 (gCons (gName 2) (gCons (gName 3) gNil))) (tSeq (tIfS (tTest (tOp rEq (tVar 2) (tC (V.int 0)))) tCont tNext) (tIfS (tAnd (fun σ H_1 Q => tVar 1 σ H_1 fun x H' => ∃ k, TruV K x H' k ∧ Q k H') (tTest (tOp (rEqD K fun b => b) (tOp (rIxT K) (tOp (rIxL K) (tVar 1) (tUn (rU fun i => V.int (-i)) (tC (V.int 1)))) (tC (V.int 1))) (tVar 3)))) (tAsg (tTup (tCons (tOp (rI0 fun i j => V.int (i + j)) (tOp (rIxT K) (tOp (rIxL K) (tVar 1) (tUn (rU fun i => V.int (-i)) (tC (V.int 1)))) (tC (V.int 0))) (tVar 2)) (tCons (tVar 3) tNil))) (gSub (tVar 1) (tUn (rU fun i => V.int (-i)) (tC (V.int 1))) rSetL)) (tDrop (tBM K "list" rAppend (tVar 1) (tCons (tTup (tCons (tVar 2) (tCons (tVar 3) tNil))) tNil)))))) (tRet (tVar 1)))
set_option maxHeartbeats 4000000 in
theorem shaped_reads {K : PySem.W.Frag} {H : Hp} {Q : VK} {Z : L2.St → Hp → Prop} {a : Addr} {xs : List V} {L : List (Int × List Int)} (hS : SqL K H a xs) (g : Wg H xs L) (hL : L.length ≤ 1000) (hnn : ∀ e ∈ L, 0 ≤ e.1) (k : ∀ (b : Addr) (ys : List V) (H' : Hp), H b = none → H' b = some (.lst ys) → Wg H' ys (shape L) → Same H H' → Q (.ref b) H') : tShaped K { nx := Z, rt := Q } [some (.ref a), none, none, none] H := by
  refine ⟨(by show 0 ≤ sizeLine; decide), fun b fb => ?_⟩
  refine ⟨_, rfl, a, rfl, ⟨xs, (Same.nw (Same.refl H) fb).seq hS⟩, for_list (K := K) (a := a) (xs := xs) (fun i σ H' => ∃ (m v : Option V) (ys : List V), σ = [some (.ref a), some (.ref b), m, v] ∧ H' b = some (.lst ys) ∧ Wg H' ys (shape (L.take i)) ∧ Same H H') ⟨_, _, [], rfl, upd_same, Wg.nil _, Same.nw (Same.refl H) fb⟩ (fun i σ H' _ ⟨_, _, _, _, _, _, z⟩ => z.seq hS) ?_ ?_⟩
  · rintro i x σ H1 hx ⟨m, v, ys, rfl, h1b, g1, s1⟩
    obtain ⟨e, hei, q, wq, rfl, hq, hw⟩ := g.at' hx
    have hq1 := s1 _ _ hq
    have hw1 := s1 _ _ hw
    have hi : i < L.length := (List.getElem?_eq_some_iff.mp hei).1
    have hge := hnn e (List.mem_of_getElem? hei)
    have lys : ys.length ≤ i := by have := shape_len (L.take i); have := g1.1; rw [List.length_take] at *; omega
    refine ⟨q, _, rfl, SqT.of hq1, rfl, _, _, rfl, _, _, rfl, rfl, ?_⟩
    refine ⟨_, rfl, rfl, _, rfl, ite2 (fun hc => ?_) (fun hc => ?_)⟩
    · have hc := of_decide_eq_true hc
      have hz : e.1 = 0 := V.int.inj hc
      refine ⟨_, _, ys, rfl, h1b, ?_, s1⟩
      rw [shape_succ hei]
      unfold shStep
      rw [if_neg (by omega)]
      exact g1
    · have hc := of_decide_eq_false (Bool.eq_false_iff.mpr hc)
      have hpos : 0 < e.1 := by
        have : e.1 ≠ 0 := fun z => hc (by rw [z])
        omega
      refine ⟨_, rfl, _, .inl ⟨_, SqL.of h1b, rfl⟩, ?_⟩
      cases hlast : (shape (L.take i)).getLast? with
      | none =>
        have hnil : shape (L.take i) = [] := by
          cases z : shape (L.take i) with
          | nil => rfl
          | cons y r => rw [z] at hlast; simp at hlast
        have hy0 : ys = [] := List.length_eq_zero_iff.mp (by rw [g1.1, hnil]; rfl)
        have hyE : (!ys.isEmpty) = false := by rw [hy0]; rfl
        rw [hyE]
        refine iteF (iteF ?_)
        refine ⟨_, rfl, .inl ⟨rfl, _, SqL.of h1b⟩, _, rfl, _, rfl, (by show 2 ≤ sizeLine; decide), fun p hp => ?_⟩
        have npb : p ≠ b := fun z => by rw [z, h1b] at hp; cases hp
        have h8b := (upd_ne (H := H1) (a := p) (o := .tup [.int e.1, .ref wq]) (Ne.symm npb)).trans h1b
        refine ⟨b, _, _, rfl, rfl, h8b, Nat.lt_of_le_of_lt (by have := lys; omega : ys.length ≤ 1000) (by decide), ?_⟩
        have T8 : Tups H1 (upd H1 p (.tup [.int e.1, .ref wq])) := (Tups.refl _).new hp
        have T9 : Tups (upd H1 p (.tup [.int e.1, .ref wq])) (upd (upd H1 p (.tup [.int e.1, .ref wq])) b (.lst (ys ++ [.ref p]))) := (Tups.refl _).lst h8b
        refine ⟨_, _, _, rfl, upd_same, ?_, Same.ow (Same.nw s1 hp) fb⟩
        rw [shape_succ hei]; unfold shStep; rw [if_pos hpos]; rw [hlast]; dsimp only
        exact Wg.snoc (g1.up (T8.trans T9)) ⟨p, wq, rfl, T9 _ _ upd_same, T9 _ _ (T8 _ _ hw1)⟩
      | some l0 =>
        have hne : shape (L.take i) ≠ [] := fun z => by rw [z] at hlast; cases hlast
        have hyn : ys ≠ [] := fun z => by
          have := g1.1
          rw [z] at this
          exact hne (List.length_eq_zero_iff.mp this.symm)
        have hyE : (!ys.isEmpty) = true := by cases ys with | nil => exact absurd rfl hyn | cons y r => rfl
        rw [hyE]
        refine iteT ?_
        have hl0 : (shape (L.take i))[ys.length - 1]? = some l0 := by rw [g1.1, ← List.getLast?_eq_getElem?]; exact hlast
        obtain ⟨y0, hy0, q0, w0, rfl, hq0, hw0⟩ := g1.get hl0
        have hyl : ys.getLast? = some (V.ref q0) := by rw [List.getLast?_eq_getElem?]; exact hy0
        have hat : atI ys (-1) = some (V.ref q0) := by
          have : ys = ys.dropLast ++ [V.ref q0] := drop_get hyl
          rw [this]; exact atI_last _ _
        refine ⟨_, rfl, _, rfl, b, _, _, V.ref q0, rfl, rfl, SqL.of h1b, hat, q0, _, _, _, rfl, rfl, SqT.of hq0, rfl, _, rfl, _, _, di_ints hw0, di_ints hw1, lay_dT _, lay_dT _, (by rw [dep_dT]; decide), _, rfl, ?_⟩
        rw [eqv_dT]
        refine ite2 (fun hE => ?_) (fun hE => ?_)
        · have hE := of_decide_eq_true hE
          refine ⟨_, rfl, _, rfl, b, _, _, V.ref q0, rfl, rfl, SqL.of h1b, hat, q0, _, _, _, rfl, rfl, SqT.of hq0, rfl, _, rfl, _, _, rfl, rfl, _, rfl, (by show 2 ≤ sizeLine; decide), fun p hp => ?_⟩
          have npb : p ≠ b := fun z => by rw [z, h1b] at hp; cases hp
          have h8b := (upd_ne (H := H1) (a := p) (o := .tup [.int (l0.1 + e.1), .ref wq]) (Ne.symm npb)).trans h1b
          have hix : ixN ys.length (-1) = some (ys.length - 1) := by
            have : 0 < ys.length := List.length_pos_iff.mpr hyn
            unfold ixN
            rw [if_neg (by decide), if_pos (by omega)]
            congr 1; omega
          refine ⟨_, rfl, _, rfl, b, ys, _, ys.length - 1, rfl, rfl, h8b, hix, ?_⟩
          have T8 : Tups H1 (upd H1 p (.tup [.int (l0.1 + e.1), .ref wq])) := (Tups.refl _).new hp
          have T9 : Tups (upd H1 p (.tup [.int (l0.1 + e.1), .ref wq])) (upd (upd H1 p (.tup [.int (l0.1 + e.1), .ref wq])) b (.lst (ys.set (ys.length - 1) (.ref p)))) := (Tups.refl _).lst h8b
          refine ⟨_, _, _, rfl, upd_same, ?_, Same.ow (Same.nw s1 hp) fb⟩
          rw [shape_succ hei]; unfold shStep; rw [if_pos hpos, hlast]; dsimp only; rw [if_pos hE, set_last hyl]
          refine Wg.snoc ((g1.pop).up (T8.trans ?_)) ⟨p, wq, rfl, ?_, ?_⟩
          · rw [set_last hyl] at T9; exact T9
          · rw [set_last hyl] at T9
            show _ = some (HO.tup [V.int (e.1 + l0.1), V.ref wq])
            rw [Int.add_comm e.1 l0.1]; exact T9 _ _ upd_same
          · rw [set_last hyl] at T9; exact T9 _ _ (T8 _ _ hw1)
        · have hE := of_decide_eq_false (Bool.eq_false_iff.mpr hE)
          refine ⟨_, rfl, .inl ⟨rfl, _, SqL.of h1b⟩, _, rfl, _, rfl, (by show 2 ≤ sizeLine; decide), fun p hp => ?_⟩
          have npb : p ≠ b := fun z => by rw [z, h1b] at hp; cases hp
          have h8b := (upd_ne (H := H1) (a := p) (o := .tup [.int e.1, .ref wq]) (Ne.symm npb)).trans h1b
          refine ⟨b, _, _, rfl, rfl, h8b, Nat.lt_of_le_of_lt (by have := lys; omega : ys.length ≤ 1000) (by decide), ?_⟩
          have T8 : Tups H1 (upd H1 p (.tup [.int e.1, .ref wq])) := (Tups.refl _).new hp
          have T9 : Tups (upd H1 p (.tup [.int e.1, .ref wq])) (upd (upd H1 p (.tup [.int e.1, .ref wq])) b (.lst (ys ++ [.ref p]))) := (Tups.refl _).lst h8b
          refine ⟨_, _, _, rfl, upd_same, ?_, Same.ow (Same.nw s1 hp) fb⟩
          rw [shape_succ hei]; unfold shStep; rw [if_pos hpos]; rw [hlast]; dsimp only; rw [if_neg hE]
          exact Wg.snoc (g1.up (T8.trans T9)) ⟨p, wq, rfl, T9 _ _ upd_same, T9 _ _ (T8 _ _ hw1)⟩
  · rintro σ H1 ⟨m, v, ys, rfl, h1b, g1, s1⟩
    have hlx : L.take xs.length = L := by rw [g.1]; exact List.take_length
    rw [hlx] at g1
    exact ⟨_, rfl, k b ys H1 fb h1b g1 s1⟩
def spLaid (K : PySem.W.Frag) : Sp := fun vs H Q _ => ∃ (a : Addr) (xs : List V) (L : WL) (bg : Int), vs = [.ref a, .int bg] ∧ SqL K H a xs ∧ Wg H xs L ∧ L.length ≤ 1000 ∧ ∀ (b : Addr) (zs : List V) (H' : Hp), H b = none → H' b = some (.lst zs) → Ly H' zs L bg → Same H H' → Q (.ref b) H'
def tLaid (K : PySem.W.Frag) : TS := tSeq (tAsg (tLst tNil) (gName 2)) (tSeq (tFor (iList K (tVar 0)) (gTup K 2 (gCons (gName 3) (gCons (gName 4) gNil))) (tSeq (tDrop (tBM K "list" rAppend (tVar 2) (tCons (tTup (tCons (tVar 1) (tCons (tOp (rI0 fun i j => V.int (i + j)) (tVar 1) (tVar 3)) (tCons (tVar 4) tNil)))) tNil))) (tAug 1 (tVar 3) (ipI fun i j => i + j)))) (tRet (tVar 2)))
set_option maxHeartbeats 4000000 in
theorem laid_reads {K : PySem.W.Frag} {H : Hp} {Q : VK} {Z : L2.St → Hp → Prop} {a : Addr} {xs : List V} {L : WL} {bg : Int} (hS : SqL K H a xs) (g : Wg H xs L) (hL : L.length ≤ 1000) (k : ∀ (b : Addr) (zs : List V) (H' : Hp), H b = none → H' b = some (.lst zs) → Ly H' zs L bg → Same H H' → Q (.ref b) H') : tLaid K { nx := Z, rt := Q } [some (.ref a), some (.int bg), none, none, none] H := by
  refine ⟨(by show 0 ≤ sizeLine; decide), fun b fb => ?_⟩
  refine ⟨_, rfl, a, rfl, ⟨xs, (Same.nw (Same.refl H) fb).seq hS⟩, for_list (K := K) (a := a) (xs := xs) (fun i σ H' => ∃ (m v : Option V) (zs : List V), σ = [some (.ref a), some (.int (bg + tot (L.take i))), some (.ref b), m, v] ∧ H' b = some (.lst zs) ∧ zs.length = i ∧ (∀ j e, j < i → L[j]? = some e → ∃ p wq, zs[j]? = some (V.ref p) ∧ H' p = some (.tup [.int (bg + tot (L.take j)), .int (bg + tot (L.take (j + 1))), .ref wq]) ∧ H' wq = some (.tup (e.2.map V.int))) ∧ Same H H') ⟨_, _, [], by rw [List.take_zero, tot_nil, Int.add_zero]; rfl, upd_same, rfl, fun j e hj => absurd hj (Nat.not_lt_zero _), Same.nw (Same.refl H) fb⟩ (fun i σ H' _ ⟨_, _, _, _, _, _, _, z⟩ => z.seq hS) ?_ ?_⟩
  · rintro i x σ H1 hx ⟨m, v, zs, rfl, h1b, lz, ly, s1⟩
    obtain ⟨e, hei, q, wq, rfl, hq, hw⟩ := g.at' hx
    have hi : i < L.length := (List.getElem?_eq_some_iff.mp hei).1
    have hw1 := s1 _ _ hw
    refine ⟨q, _, rfl, SqT.of (s1 _ _ hq), rfl, _, _, rfl, _, _, rfl, rfl, ?_⟩
    refine ⟨_, rfl, .inl ⟨rfl, _, SqL.of h1b⟩, _, rfl, _, rfl, _, rfl, _, _, rfl, rfl, _, rfl, (by show 3 ≤ sizeLine; decide), fun p hp => ?_⟩
    have npb : p ≠ b := fun z => by rw [z, h1b] at hp; cases hp
    have h8b := (upd_ne (H := H1) (a := p) (o := .tup [.int (bg + tot (L.take i)), .int (bg + tot (L.take i) + e.1), .ref wq]) (Ne.symm npb)).trans h1b
    refine ⟨b, _, _, rfl, rfl, h8b, Nat.lt_of_le_of_lt (by omega : zs.length ≤ 1000) (by decide), ?_⟩
    have T8 : Tups H1 (upd H1 p (.tup [.int (bg + tot (L.take i)), .int (bg + tot (L.take i) + e.1), .ref wq])) := (Tups.refl _).new hp
    have T9 : Tups (upd H1 p (.tup [.int (bg + tot (L.take i)), .int (bg + tot (L.take i) + e.1), .ref wq])) (upd (upd H1 p (.tup [.int (bg + tot (L.take i)), .int (bg + tot (L.take i) + e.1), .ref wq])) b (.lst (zs ++ [.ref p]))) := (Tups.refl _).lst h8b
    have T := T8.trans T9
    have ets : bg + tot (L.take (i + 1)) = bg + tot (L.take i) + e.1 := by rw [tot_succ hei]; omega
    refine ⟨_, rfl, _, rfl, _, _, rfl, rfl, some (.int e.1), some (.ref wq), _, ?_, upd_same, by rw [List.length_append, lz]; rfl, fun j d hj hd => ?_, Same.ow (Same.nw s1 hp) fb⟩
    · rw [ets]; rfl
    · by_cases hji : j < i
      · obtain ⟨p', w', a1, a2, a3⟩ := ly j d hji hd
        exact ⟨p', w', by rw [List.getElem?_append_left (by omega)]; exact a1, T _ _ a2, T _ _ a3⟩
      · have e0 : j = i := by omega
        subst e0
        rw [hei] at hd
        cases hd
        refine ⟨p, wq, by rw [List.getElem?_append_right (by omega), lz, Nat.sub_self]; rfl, ?_, T _ _ hw1⟩
        rw [ets]
        exact T9 _ _ upd_same
  · rintro σ H1 ⟨m, v, zs, rfl, h1b, lz, ly, s1⟩
    have hxl := g.1
    exact ⟨_, rfl, k b zs H1 fb h1b ⟨by omega, fun i e he => ly i e (by have := (List.getElem?_eq_some_iff.mp he).1; omega) he⟩ s1⟩
def spPart (K : PySem.W.Frag) : Sp := fun vs H Q _ => ∃ (a : Addr) (xs : List V) (L : WL) (bg en : Int), vs = [.ref a, .int bg, .int en] ∧ SqL K H a xs ∧ Wg H xs L ∧ L.length ≤ 1000 ∧ L2.Pos L ∧ bg ≤ en ∧ ∀ (b : Addr) (ys : List V) (H' : Hp), H b = none → H' b = some (.lst ys) → Wg H' ys (shape (cutP bg en 0 L)) → Same H H' → Q (.ref b) H'
def tPart_ (K : PySem.W.Frag) : TS := tSeq (tAsg (tLst tNil) (gName 3)) (tSeq (tFor (iList K (tCall (spLaid K) [] E0 (tCons (tVar 0) (tCons (tC (V.int 0)) tNil)))) (gTup K 3 (gCons (gName 4) (gCons (gName 5) (gCons (gName 6) gNil)))) (tIfS (tAnd (tTest (tOp (rI0 fun i j => V.bl (decide (i < j))) (tVar 4) (tVar 2))) (tTest (tOp (rI0 fun i j => V.bl (decide (i < j))) (tVar 1) (tVar 5)))) (tDrop (tBM K "list" rAppend (tVar 3) (tCons (tTup (tCons (tOp (rI0 fun i j => V.int (i - j)) (tCB (fun xs H Q => ∃ i j, xs = [V.int i, V.int j] ∧ Q (V.int (if j < i then j else i)) H) (tCons (tVar 5) (tCons (tVar 2) tNil))) (tCB (fun xs H Q => ∃ i j, xs = [V.int i, V.int j] ∧ Q (V.int (if j > i then j else i)) H) (tCons (tVar 4) (tCons (tVar 1) tNil)))) (tCons (tVar 6) tNil))) tNil))) tNext)) (tRet (tCall (spShaped K) [] E0 (tCons (tVar 3) tNil))))
set_option maxHeartbeats 4000000 in
theorem part_reads {K : PySem.W.Frag} {H : Hp} {Q : VK} {Z : L2.St → Hp → Prop} {a : Addr} {xs : List V} {L : WL} {bg en : Int} (hS : SqL K H a xs) (g : Wg H xs L) (hL : L.length ≤ 1000) (hpos : L2.Pos L) (hbe : bg ≤ en) (k : ∀ (b : Addr) (ys : List V) (H' : Hp), H b = none → H' b = some (.lst ys) → Wg H' ys (shape (cutP bg en 0 L)) → Same H H' → Q (.ref b) H') : tPart_ K { nx := Z, rt := Q } [some (.ref a), some (.int bg), some (.int en), none, none, none, none] H := by
  refine ⟨(by show 0 ≤ sizeLine; decide), fun c fc => ?_⟩
  have s1 : Same H (upd H c (.lst [])) := Same.nw (Same.refl H) fc
  have hc1 : (upd H c (.lst [])) c = some (.lst []) := upd_same
  generalize upd H c (.lst []) = H1 at s1 hc1 ⊢
  refine ⟨_, rfl, a, xs, L, 0, rfl, s1.seq hS, g.up s1.tups, hL, fun b zs H2 fb hb ly s2 => ?_⟩
  have s02 := s1.trans s2
  refine ⟨b, rfl, ⟨zs, SqL.of hb⟩, for_list (K := K) (a := b) (xs := zs) (fun i σ H' => ∃ (x4 x5 x6 : Option V) (ys : List V), σ = [some (.ref a), some (.int bg), some (.int en), some (.ref c), x4, x5, x6] ∧ H' c = some (.lst ys) ∧ H' b = some (.lst zs) ∧ Wg H' ys (cutP bg en 0 (L.take i)) ∧ Tups H2 H' ∧ Same H H') ⟨_, _, _, [], rfl, s2 _ _ hc1, hb, Wg.nil _, Tups.refl _, s02⟩ (fun i σ H' _ ⟨_, _, _, _, _, _, z, _⟩ => SqL.of z) ?_ ?_⟩
  · rintro i x σ H3 hx ⟨x4, x5, x6, ys, rfl, h3c, h3b, g3, T3, s3⟩
    have hi : i < L.length := by rw [← ly.1]; exact (List.getElem?_eq_some_iff.mp hx).1
    have hei := List.getElem?_eq_getElem hi
    obtain ⟨p, wq, a1, a2, a3⟩ := ly.2 i _ hei
    rw [hx] at a1
    cases a1
    have lys : ys.length ≤ 1000 := by
      rw [g3.1]
      have := cutP_len bg en (L.take i) 0
      rw [List.length_take] at this
      omega
    have ets : (0 : Int) + tot (L.take (i + 1)) = 0 + tot (L.take i) + (L[i]).1 := by rw [tot_succ hei]; omega
    have esn : cutP bg en 0 (L.take (i + 1)) = cutP bg en 0 (L.take i) ++ piece bg en (0 + tot (L.take i)) (L[i]).1 (L[i]).2 := by rw [take_succ' hei, cutP_snoc]
    rw [ets] at a2
    refine ⟨p, _, rfl, SqT.of (T3 _ _ a2), rfl, _, _, rfl, _, _, rfl, _, _, rfl, rfl, ?_⟩
    refine ⟨_, rfl, _, rfl, _, _, rfl, rfl, _, rfl, ite2 (fun c1 => ?_) (fun c1 => ?_)⟩
    · have c1 := of_decide_eq_true c1
      refine ⟨_, rfl, _, rfl, _, _, rfl, rfl, _, rfl, ite2 (fun c2 => ?_) (fun c2 => ?_)⟩
      · have c2 := of_decide_eq_true c2
        refine ⟨_, rfl, .inl ⟨rfl, _, SqL.of h3c⟩, _, rfl, _, rfl, _, _, rfl, _, rfl, _, rfl, _, _, rfl, _, _, rfl, rfl, _, rfl, (by show 2 ≤ sizeLine; decide), fun p' hp' => ?_⟩
        have npc : p' ≠ c := fun z => by rw [z, h3c] at hp'; cases hp'
        have npb : p' ≠ b := fun z => by rw [z, h3b] at hp'; cases hp'
        have nbc : b ≠ c := fun z => by rw [z, hc1] at fb; cases fb
        have h8c := (upd_ne (H := H3) (a := p') (o := .tup [.int (mn (0 + tot (L.take i) + (L[i]).1) en - mx (0 + tot (L.take i)) bg), .ref wq]) (Ne.symm npc)).trans h3c
        refine ⟨c, ys, _, rfl, rfl, h8c, Nat.lt_of_le_of_lt lys (by decide), ?_⟩
        have T8 : Tups H3 (upd H3 p' (.tup [.int (mn (0 + tot (L.take i) + (L[i]).1) en - mx (0 + tot (L.take i)) bg), .ref wq])) := (Tups.refl _).new hp'
        have T9 : Tups (upd H3 p' (.tup [.int (mn (0 + tot (L.take i) + (L[i]).1) en - mx (0 + tot (L.take i)) bg), .ref wq])) (upd (upd H3 p' (.tup [.int (mn (0 + tot (L.take i) + (L[i]).1) en - mx (0 + tot (L.take i)) bg), .ref wq])) c (.lst (ys ++ [.ref p']))) := (Tups.refl _).lst h8c
        refine ⟨_, _, _, _, rfl, upd_same, ?_, ?_, (T3.trans T8).trans T9, Same.ow (Same.nw s3 hp') fc⟩
        · rw [upd_ne nbc, upd_ne (Ne.symm npb)]; exact h3b
        · rw [esn]
          unfold piece
          rw [if_pos (show 0 + tot (L.take i) < en ∧ bg < 0 + tot (L.take i) + (L[i]).1 from ⟨c1, c2⟩)]
          exact Wg.snoc (g3.up (T8.trans T9)) ⟨p', wq, rfl, T9 _ _ upd_same, T9 _ _ (T8 _ _ (T3 _ _ a3))⟩
      · have c2 := of_decide_eq_false (Bool.eq_false_iff.mpr c2)
        refine ⟨_, _, _, ys, rfl, h3c, h3b, ?_, T3, s3⟩
        rw [esn]
        unfold piece
        rw [if_neg fun z => c2 z.2, List.append_nil]
        exact g3
    · have c1 := of_decide_eq_false (Bool.eq_false_iff.mpr c1)
      refine iteF ⟨_, _, _, ys, rfl, h3c, h3b, ?_, T3, s3⟩
      rw [esn]
      unfold piece
      rw [if_neg fun z => c1 z.1, List.append_nil]
      exact g3
  · rintro σ H3 ⟨x4, x5, x6, ys, rfl, h3c, h3b, g3, T3, s3⟩
    have hlx : L.take zs.length = L := by rw [ly.1]; exact List.take_length
    rw [hlx] at g3
    refine ⟨_, rfl, c, ys, _, rfl, SqL.of h3c, g3, Nat.le_trans (cutP_len bg en L 0) hL, cutP_nn hbe hpos, fun b' ys' H4 fb' hb' g4 s4 => ?_⟩
    exact k b' ys' H4 (s3.free fb') hb' g4 (s3.trans s4)
def spSorts (K : PySem.W.Frag) : Sp := fun vs H Q _ => ∃ (a : Addr) (xs : List V) (W : List (Int × List Int)), vs = [.ref a] ∧ SqL K H a xs ∧ Wg H xs W ∧ W.length ≤ 60 ∧ ∀ (l : Addr) (ps : List V) (ws : List (List Int × Int)) (H' : Hp), H l = none → H' l = some (.lst ps) → PrL H' ps ws → SortsOf W ws → Same H H' → Q (.ref l) H'
def tSorts (K : PySem.W.Frag) : TS := tSeq (tAsg tDNewT (gName 1)) (tSeq (tFor (iList K (tVar 0)) (gTup K 2 (gCons (gName 2) (gCons (gName 3) gNil))) (sDPut (tVar 1) (tVar 3) (tOp (rI0 fun i j => V.int (i + j)) (tDGet2 (tVar 1) (tVar 3) (tC (V.int 0))) (tVar 2)))) (tRet (tCB (fun xs H Q => ∃ v d ks, xs = [V.ref v] ∧ H v = some (HO.ext (IView v d)) ∧ H d = some (HO.dT (List.map (fun k => (List.map Sum.inl k.fst, V.int k.snd)) ks)) ∧ ks.length < 64 ∧ ∀ (l : Addr) (ps : List V) (ws : List (List Int × Int)) (H' : Hp), H l = none → (∀ (b : Addr) (o : HO), H b = some o → H' b = some o) → H' l = some (HO.lst ps) → PrL H' ps ws → ws.Perm ks → List.Pairwise (fun x y => lexB y.fst x.fst = false) ws → Q (V.ref l) H') (tCons (tDItems (tVar 1)) tNil))))
set_option maxHeartbeats 4000000 in
theorem sorts_reads {K : PySem.W.Frag} {H : Hp} {Q : VK} {Z : L2.St → Hp → Prop} {a : Addr} {xs : List V} {W : List (Int × List Int)} (ha : SqL K H a xs) (g : Wg H xs W) (hl : W.length ≤ 60) (k : ∀ (l : Addr) (ps : List V) (ws : List (List Int × Int)) (H' : Hp), H l = none → H' l = some (.lst ps) → PrL H' ps ws → SortsOf W ws → Same H H' → Q (.ref l) H') : tSorts K { nx := Z, rt := Q } [some (.ref a), none, none, none] H := by
  refine fun d fd0 => ?_
  have s1 := Same.nw (o := .dT []) (Same.refl H) fd0
  have hd1 : (upd H d (.dT [])) d = some (.dT (([] : List (List Int × Int)).map emb)) := upd_same
  generalize upd H d (.dT []) = H1 at s1 hd1 ⊢
  refine ⟨_, rfl, a, rfl, ⟨_, s1.seq ha⟩, for_list (K := K) (a := a) (xs := xs) (fun i σ H' => ∃ (x2 x3 : Option V) (ks : List (List Int × Int)), σ = [some (.ref a), some (.ref d), x2, x3] ∧ H' d = some (.dT (ks.map emb)) ∧ DIs (W.take i) ks ∧ Same H H') ⟨_, _, [], rfl, hd1, DIs.nil, s1⟩ (fun i σ H' _ h => by obtain ⟨_, _, _, _, _, _, z⟩ := h; exact z.seq ha) ?_ ?_⟩
  · rintro i x σ H2 hx ⟨x2, x3, ks, rfl, hd2, D2, s2⟩
    obtain ⟨e, he, q, wq, rfl, hq, hw⟩ := (g.up s2.tups).at' hx
    have hw' : H2 wq = some (.tup ((e.2.map Sum.inl).map kV)) := by rw [List.map_map]; exact hw
    have kl : ks.length ≤ 1000 := by have := D2.len; rw [List.length_take] at this; omega
    refine ⟨q, _, rfl, SqT.of hq, rfl, _, _, rfl, _, _, rfl, rfl, ?_⟩
    refine ⟨_, rfl, d, rfl, .inr ⟨_, .inl hd2⟩, _, rfl, _, DGet.t (k := e.2.map Sum.inl) hd2 hw', _, rfl, getI ks e.2, e.1, val_emb ks e.2, rfl, _, rfl, _, rfl, d, _, rfl, DPut.t (k := e.2.map Sum.inl) hd2 hw' (Nat.lt_of_le_of_lt (by rw [List.length_map]; exact kl : (ks.map emb).length ≤ 1000) (by decide)), ?_⟩
    refine ⟨_, _, putI ks e.2 (getI ks e.2 + e.1), rfl, ?_, ?_, Same.ow s2 fd0⟩
    · rw [upd_same]
      exact congrArg (fun z => some (HO.dT z)) (put_emb ks e.2 (getI ks e.2 + e.1))
    · rw [take_succ' he]
      exact D2.put e
  · rintro σ H2 ⟨x2, x3, ks, rfl, hd2, D2, s2⟩
    rw [List.take_of_length_le (by rw [g.1]; exact Nat.le_refl _)] at D2
    have kl := D2.len
    refine ⟨_, rfl, d, _, rfl, hd2, fun v hv => ⟨v, d, ks, rfl, upd_same, ?_, by omega, fun l ps ws H' f1 old h2 pr pm sr => ?_⟩⟩
    · rw [upd_ne (ne_of_none hd2 hv)]
      exact hd2
    · have s3 := Same.nw (o := .ext (IView v d)) s2 hv
      have s4 : Same H H' := s3.trans fun b o q => old b o q
      exact k l ps ws H' (s3.free f1) h2 pr (sorts_of D2 pm sr) s4
end L2
set_option Elab.async false
set_option linter.all false
set_option maxRecDepth 100000
set_option maxHeartbeats 1000000
namespace L2
open PySem PySem.Spec PyProof.Rows
def paF (b e : Int) (L : WL2) : WL2 := takeF (e - b) (dropF b L)
theorem paF_eq {L : WL2} {b e : Int} (h : Norm L) (h0 : 0 ≤ b) (hbe : b ≤ e) : shape (cutP b e 0 L) = paF b e L := part_eq h h0 hbe
theorem paF_len {L : WL2} {b e : Int} (h : Norm L) (h0 : 0 ≤ b) (hbe : b ≤ e) : (paF b e L).length ≤ L.length := by
  rw [← paF_eq h h0 hbe]
  exact Nat.le_trans (shape_len _) (cutP_len b e L 0)
def endsB (ps : List PR) (e : Int) : Bool := ps.all fun p => decide (p.2.1 + p.2.2.1 ≤ e)
theorem CpL.at' {H : Hp} {ys : List V} {ps : List PR} {i : Nat} {x : V} (h : CpL H ys (ps.map pV)) (hx : ys[i]? = some x) : ∃ (q : Addr) (p : PR), ps[i]? = some p ∧ x = .ref q ∧ H q = some (.tup (pV p)) := by
  have il : i < ps.length := by have := (List.getElem?_eq_some_iff.mp hx).1; rw [h.1, List.length_map] at this; exact this
  obtain ⟨q, rfl, hq⟩ := h.2 i x (pV ps[i]) hx (by rw [List.getElem?_map, List.getElem?_eq_getElem il]; rfl)
  exact ⟨q, ps[i], List.getElem?_eq_getElem il, rfl, hq⟩
theorem ends_comp {K : PySem.W.Frag} {H : Hp} {Q : VK} {σ : L2.St} {i j : Nat} {a : Addr} {ya : List V} {ps : List PR} {e : Int} (hi : σ[i]? = some (some (.ref a))) (hj : σ[j]? = some (some (.int e))) (ha : H a = some (.lst ya)) (ca : CpL H ya (ps.map pV)) (hl : ps.length ≤ 400) (k : ∀ H', Same H H' → Q (.bl (endsB ps e)) H') :
    (tCB (fun xs H_1 Q => ∃ p bs, xs = [V.ref p] ∧ SqL K H_1 p (List.map V.bl bs) ∧ Q (V.bl (bs.all id)) H_1) (tCons (tCompG 1 (iList K (tVar i)) (gName 0) tYes (tOp (rI0 fun i j => V.bl (decide (i ≤ j))) (tCall spEndOf [] E0 (tCons (tVar 0) tNil)) (tVar (j + 1)))) tNil)) σ H Q := by
  have yl : ya.length = ps.length := by rw [ca.1, List.length_map]
  refine ⟨_, hi, a, rfl, ⟨_, SqL.of ha⟩, compL (K := K) (a := a) (xs := ya) (fun m ys H' => ys = ((ps.take m).map fun p => decide (p.2.1 + p.2.2.1 ≤ e)).map V.bl ∧ H = H') ⟨rfl, rfl⟩ (by omega) (fun n ys H' h => by rw [h.1, List.length_map, List.length_map, List.length_take]; exact Nat.min_le_left _ _) (fun n ys H' _ h => by rw [← h.2]; exact SqL.of ha) ?_ ?_⟩
  · rintro m x ys H' pre hpl hx ⟨rfl, rfl⟩
    obtain ⟨q, p, ep, rfl, hq⟩ := ca.at' hx
    rcases pre with _ | ⟨q0, _ | ⟨q1, pre⟩⟩
    · cases hpl
    · refine ⟨⟨[some _], rfl, rfl⟩, ?_⟩
      unfold tYes
      dsimp only
      rw [if_pos (rfl : true = true)]
      refine ⟨_, rfl, q, p, rfl, hq, _, (by show σ[j]? = some _; exact hj), _, _, rfl, rfl, ?_, rfl⟩
      rw [take_succ' ep, List.map_append, List.map_append]
      rfl
    · cases hpl
  · rintro ys H' ⟨rfl, rfl⟩ D hD
    refine ⟨D, _, rfl, SqL.of upd_same, ?_⟩
    have e1 : (((ps.take ya.length).map fun p => decide (p.2.1 + p.2.2.1 ≤ e)).all id) = endsB ps e := by
      rw [yl, List.take_length, List.all_map]
      rfl
    rw [e1]
    exact k _ (Same.nw (Same.refl H) hD)
def spAllEnd : Sp := fun vs H Q _ => ∃ (a : Addr) (ya : List V) (ps : List PR) (e : Int), vs = [.ref a, .int e] ∧ H a = some (.lst ya) ∧ CpL H ya (ps.map pV) ∧ ps.length ≤ 400 ∧ ∀ H', Same H H' → Q (.bl (endsB ps e)) H'
def tAllEnd (K : PySem.W.Frag) : TS := tRet (tCB (fun xs H_1 Q => ∃ p bs, xs = [V.ref p] ∧ SqL K H_1 p (List.map V.bl bs) ∧ Q (V.bl (bs.all id)) H_1) (tCons (tCompG 1 (iList K (tVar 0)) (gName 0) tYes (tOp (rI0 fun i j => V.bl (decide (i ≤ j))) (tCall spEndOf [] E0 (tCons (tVar 0) tNil)) (tVar 2))) tNil))
theorem allend_reads {K : PySem.W.Frag} {H : Hp} {Q : VK} {Z : L2.St → Hp → Prop} {a : Addr} {ya : List V} {ps : List PR} {e : Int} (ha : H a = some (.lst ya)) (ca : CpL H ya (ps.map pV)) (hl : ps.length ≤ 400) (k : ∀ H', Same H H' → Q (.bl (endsB ps e)) H') : tAllEnd K { nx := Z, rt := Q } [some (.ref a), some (.int e)] H :=
  ends_comp (K := K) (i := 0) (j := 1) rfl rfl ha ca hl k
def dkFree : Dk := fun H q n ps L o => ∃ (e : Int), H q = some (.tup [.str "free", .int e]) ∧ 0 ≤ e ∧ e < n ∧ Norm L ∧ L.length ≤ 17 ∧ (endsB ps e = false → o = none) ∧ (endsB ps e = true → ∀ S, SortsOf (paF e n L) S → o = some (e, ps, paF 0 e L, S))
def tDoFree (K : PySem.W.Frag) (E : XK) (cN : Addr) : TS := tSeq (tAsg (tVar 0) (gTup K 3 (gCons (gName 2) (gCons (gName 3) (gCons (gName 4) gNil))))) (tSeq (tAsg (tOp (rIxT K) (tVar 1) (tC (V.int 1))) (gName 5)) (tSeq (tDrop (tCallX (spDemand cN) (fun c x H' => E c none H') (tCons (tCall spAllEnd [] E0 (tCons (tVar 3) (tCons (tVar 5) tNil))) tNil))) (tRet (tTup (tCons (tTup (tCons (tVar 5) (tCons (tCB (fun xs H_1 Q => ∃ p ys, xs = [V.ref p] ∧ (SqL K H_1 p ys ∨ SqT K H_1 p ys) ∧ ∀ (l : Addr), H_1 l = none → Q (V.ref l) (upd H_1 l (HO.lst ys))) (tCons (tVar 3) tNil)) (tCons (tCall (spPart K) [] E0 (tCons (tVar 4) (tCons (tC (V.int 0)) (tCons (tVar 5) tNil)))) tNil)))) (tCons (tCall (spSorts K) [] E0 (tCons (tCall (spPart K) [] E0 (tCons (tVar 4) (tCons (tVar 5) (tCons (tVar 2) tNil)))) tNil)) tNil))))))
set_option maxHeartbeats 4000000 in
theorem dofree_reads {K : PySem.W.Frag} {H : Hp} {Q : VK} {Z : L2.St → Hp → Prop} {E : XK} {cN a pa pb q : Addr} {n : Int} {ps : List PR} {L : WL2} {ya yb : List V} {o : Option Out} (h : HallAt H a pa pb n ps L ya yb) (hl : ps.length ≤ 400) (hd : dkFree H q n ps L o)
    (k1 : o = none → ∀ H', Same H H' → E (.ref cN) none H')
    (k2 : ∀ out : Out, o = some out → ∀ (c a' pa' pb' pc' : Addr) (ya' yb' yc' : List V) (H' : Hp), Same H H' → H c = none → H pa' = none → H pb' = none → H pc' = none → pa' ≠ pb' → pa' ≠ pc' → pb' ≠ pc' → ToldAt H' c a' pa' pb' pc' out ya' yb' yc' → Q (.ref c) H') :
    tDoFree K E cN { nx := Z, rt := Q } [some (.ref a), some (.ref q), none, none, none, none] H := by
  obtain ⟨e, hq, e0, e1, nL, lL, o1, o2⟩ := hd
  refine ⟨_, rfl, a, _, rfl, SqT.of h.h, rfl, _, _, rfl, _, _, rfl, _, _, rfl, rfl, ?_⟩
  refine ⟨_, rfl, q, _, _, _, rfl, rfl, SqT.of hq, rfl, ?_⟩
  refine ⟨_, rfl, _, rfl, pa, ya, ps, e, rfl, h.ha, h.ca, hl, fun H1 s1 => ⟨endsB ps e, rfl, fun hg => ?_, fun hg => k1 (o1 hg) H1 s1⟩⟩
  have h1 := h.up s1
  refine ⟨_, rfl, _, rfl, pa, ya, rfl, .inl (SqL.of h1.ha), fun l hl2 => ?_⟩
  have s2 := Same.nw (o := .lst ya) (Same.refl H1) hl2
  have g2 : (upd H1 l (.lst ya)) l = some (.lst ya) := upd_same
  generalize upd H1 l (.lst ya) = H2 at s2 g2 ⊢
  have s02 := s1.trans s2
  have h2 := h.up s02
  refine ⟨_, rfl, _, rfl, pb, yb, L, 0, e, rfl, SqL.of h2.hb, h2.wb, by omega, nL.pos, e0, fun b1 z1 H3 f3 hb3 w3 s3 => ?_⟩
  rw [paF_eq nL (Int.le_refl _) e0] at w3
  have nlb : l ≠ b1 := ne_of_none g2 f3
  refine ⟨(by show 3 ≤ sizeLine; decide), fun a' ha' => ?_⟩
  have s4 := Same.nw (o := .tup [.int e, .ref l, .ref b1]) (Same.refl H3) ha'
  have g4 : (upd H3 a' (.tup [.int e, .ref l, .ref b1])) a' = some (.tup [.int e, .ref l, .ref b1]) := upd_same
  show (tCons _ tNil) _ (upd H3 a' (.tup [.int e, .ref l, .ref b1])) _
  generalize upd H3 a' (.tup [.int e, .ref l, .ref b1]) = H4 at s4 g4 ⊢
  have s24 := s3.trans s4
  have s04 := s02.trans s24
  have h4 := h.up s04
  refine ⟨_, rfl, _, rfl, _, rfl, pb, yb, L, e, n, rfl, SqL.of h4.hb, h4.wb, by omega, nL.pos, by omega, fun b2 z2 H5 f5 hb5 w5 s5 => ?_⟩
  rw [paF_eq nL e0 (by omega)] at w5
  have l5 := paF_len nL e0 (show e ≤ n by omega)
  refine ⟨b2, z2, _, rfl, SqL.of hb5, w5, by omega, fun pc ps2 ws H6 f6 h6 pr6 so6 s6 => ?_⟩
  refine ⟨(by show 2 ≤ sizeLine; decide), fun c hc => ?_⟩
  have s7 := Same.nw (o := .tup [.ref a', .ref pc]) (Same.refl H6) hc
  have g7 : (upd H6 c (.tup [.ref a', .ref pc])) c = some (.tup [.ref a', .ref pc]) := upd_same
  generalize upd H6 c (.tup [.ref a', .ref pc]) = H7 at s7 g7 ⊢
  have s46 := s5.trans s6
  have s06 := s04.trans s46
  have s47 := s46.trans s7
  have s27 := s24.trans s47
  have s07 := s02.trans s27
  have nlp : l ≠ pc := ne_of_none ((s24.trans s5) _ _ g2) f6
  have nbp : b1 ≠ pc := ne_of_none ((s4.trans s5) _ _ hb3) f6
  exact k2 _ (o2 hg ws so6) c a' l b1 pc ya z1 ps2 H7 s07 (s06.free hc) (s1.free hl2) (s02.free f3) ((s04.trans s5).free f6) nlb nlp nbp ⟨g7, ⟨s47 _ _ g4, s27 _ _ g2, h.ca.up s07.tups, (s4.trans s47) _ _ hb3, w3.up (s4.trans s47).tups⟩, s7 _ _ h6, pr6.up s7.tups⟩
end L2
set_option Elab.async false
set_option linter.all false
set_option maxRecDepth 100000
set_option maxHeartbeats 1000000
namespace L2
open PySem PySem.Spec PyProof.Rows
theorem wok_norm {n : Int} {L : WL2} (w : WOk n L) : Norm L := by
  obtain ⟨wd, P, rfl, _⟩ := w
  exact shape_norm P
end L2
set_option Elab.async false
set_option linter.all false
set_option maxRecDepth 100000
set_option maxHeartbeats 1000000
namespace L2
open PySem PySem.Spec PyProof.Rows
section
variable {X : Cx}
def rNotInD (K : PySem.W.Frag) : R2 := fun x y H Q => ∃ (dx : PyData) (ds : List PyData), DI K H y (.list ds) ∧ DI K H x dx ∧ PyData.canLayAll0 ds = true ∧ dx.canLay0 = true ∧ PyData.depthAll ds ≤ 40 ∧ Q (.bl (!(ds.any fun d => PyData.eqv d dx))) H
theorem op_notInD {K : PySem.W.Frag} {k : Nat} (hr : Room k X.A) (hK : X.K = K := by rfl) : OpR X (compareOp .NotIn) (rNotInD K) := by
  subst hK
  intro pins s σ H x y v v' Q I rx ry h
  obtain ⟨dx, ds, hy, hx, cy, cx, hd, q⟩ := h
  obtain ⟨as, ra⟩ := hx.reads I rx
  obtain ⟨bs, rb⟩ := hy.reads I ry
  have hu := hr.units
  exact SeqAt.notIn_list_reads rb ra cy cx (by have := Nat.min_le_left (PyData.depthAll ds) dx.depth; omega) ⟨.bl _, H, I, rfl, q⟩
end
end L2
set_option Elab.async false
set_option linter.all false
set_option maxRecDepth 100000
set_option maxHeartbeats 1000000
namespace L2
open PySem PySem.Spec PyProof.Rows
def isStrD : PyData → Bool
  | .str _ => true
  | _ => false
theorem kit_str {K : PySem.W.Frag} (d : PyData) : PySem.W.kitOne K (.type (tyName d)) (.type "str") = some (isStrD d) := by
  cases d <;> with_unfolding_all rfl
def whD : PyData → Bool
  | .int _ => true
  | _ => false
theorem whD_eq (d : PyData) : whD d = (isInt d && !isBool d) := by cases d <;> rfl
def spWhD : Sp := fun vs H Q _ => ∃ (u : V) (d : PyData), vs = [u] ∧ Th H u d ∧ Q (.bl (whD d)) H
theorem whD_reads {K : PySem.W.Frag} {H : Hp} {Q : VK} {Z : L2.St → Hp → Prop} {u : V} {d : PyData} (h : Th H u d) (k : Q (.bl (whD d)) H) : tWhI K { nx := Z, rt := Q } [some u] H := by
  rw [whD_eq] at k
  refine ⟨_, rfl, u, _, _, rfl, h.ty, kit_int d, _, rfl, ?_⟩
  cases hI : isInt d with
  | false => rw [hI] at k; exact iteF k
  | true => rw [hI] at k; exact iteT ⟨_, rfl, u, _, _, rfl, h.ty, kit_bool d, _, rfl, k⟩
def fromD : PyData → Bool
  | .int i => decide (0 ≤ i)
  | _ => false
def spFromD : Sp := fun vs H Q _ => ∃ (u : V) (d : PyData), vs = [u, .int 0] ∧ Th H u d ∧ Q (.bl (fromD d)) H
def tFromD : TS := tRet (tAndV (tCall spWhD [] E0 (tCons (tVar 0) tNil)) (tOp (rI0 fun i j => V.bl (decide (j ≤ i))) (tVar 0) (tVar 1)))
theorem fromD_reads {H : Hp} {Q : VK} {Z : L2.St → Hp → Prop} {u : V} {d : PyData} (h : Th H u d) (k : Q (.bl (fromD d)) H) : tFromD { nx := Z, rt := Q } [some u, some (.int 0)] H := by
  refine ⟨_, rfl, u, d, rfl, h, _, rfl, ?_⟩
  cases h with
  | int i => exact iteT ⟨_, rfl, _, rfl, _, _, rfl, rfl, k⟩
  | _ => exact iteF k
def fitS : PyData → Bool
  | .str s => decide (s = "low") || decide (s = "high")
  | _ => false
def fitN (n : Int) (ps : List PR) (kd : Str) : PyData → Bool
  | .int i => fitB n ps kd i
  | _ => false
def fitD (n : Int) (ps : List PR) (kd : Str) (d : PyData) : Bool := if kd = "side" then fitS d else fitN n ps kd d
def KdS (kd : Str) : Prop := kd = "pairing" ∨ kd = "place" ∨ kd = "side"
theorem beq_dec (a s : Str) : (a == s) = decide (s = a) := by
  by_cases h : a = s
  · subst h; simp
  · rw [show (a == s) = false by simpa using h, decide_eq_false (fun z => h z.symm)]
def spFitsD : Sp := fun vs H Q _ => ∃ (u : V) (d : PyData) (kd : Str) (a pa pb : Addr) (n : Int) (ps : List PR) (L : WL2) (ya yb : List V), vs = [u, .str kd, .ref a] ∧ HallAt H a pa pb n ps L ya yb ∧ Th H u d ∧ KdS kd ∧ Q (.bl (fitD n ps kd d)) H
def tFitsD (K : PySem.W.Frag) (aS : Addr) : TS := tSeq (tIfS (tTest (tOp rEq (tVar 1) (tC (V.str "side")))) (tRet (tAndV (tCB (fun xs H Q => ∃ x t b, xs = [x, V.ty "str"] ∧ TyOf K H x t ∧ W.kitOne K t (Value.type "str") = some b ∧ Q (V.bl b) H) (tCons (tVar 0) (tCons (tC (V.ty "str")) tNil))) (tOp (rIn K false) (tVar 0) (tC (V.ref aS))))) tNext) (tSeq (tAsg (tIf (tTest (tOp rEq (tVar 1) (tC (V.str "place")))) (tOp (rIxT K) (tVar 2) (tC (V.int 0))) (tCB (fun xs H Q => ∃ p ys, xs = [V.ref p] ∧ (SqL K H p ys ∨ SqT K H p ys) ∧ Q (V.int ys.length) H) (tCons (tOp (rIxT K) (tVar 2) (tC (V.int 1))) tNil))) (gName 3)) (tRet (tAndV (tCall spFromD [] E0 (tCons (tVar 0) (tCons (tC (V.int 0)) tNil))) (tOp (rI0 fun i j => V.bl (decide (i < j))) (tVar 0) (tVar 3)))))
theorem fitsD_reads {K : PySem.W.Frag} {H : Hp} {Q : VK} {Z : L2.St → Hp → Prop} {aS a pa pb : Addr} {u : V} {d : PyData} {kd : Str} {n : Int} {ps : List PR} {L : WL2} {ya yb : List V} (hS : ∀ H', SqT K H' aS [.str "low", .str "high"]) (h : HallAt H a pa pb n ps L ya yb) (hu : Th H u d) (hk : KdS kd) (k : Q (.bl (fitD n ps kd d)) H) :
    tFitsD K aS { nx := Z, rt := Q } [some u, some (.str kd), some (.ref a), none] H := by
  by_cases ks : kd = "side"
  · subst ks
    unfold fitD at k
    rw [if_pos rfl] at k
    refine ⟨_, rfl, rfl, _, rfl, ?_⟩
    rw [decide_eq_true rfl]
    refine iteT ⟨_, rfl, u, _, _, rfl, hu.ty, kit_str d, _, rfl, ?_⟩
    cases hu with
    | str s =>
      refine iteT ⟨_, rfl, aS, _, rfl, .inr (hS _), rfl, rfl, ?_⟩
      have e : (if false = true then !inV (V.str s) [.str "low", .str "high"] else inV (V.str s) [.str "low", .str "high"]) = (decide (s = "low") || decide (s = "high")) := by
        rw [if_neg (by decide)]
        show ((("low" : Str) == s) || ((("high" : Str) == s) || false)) = _
        rw [Bool.or_false, beq_dec, beq_dec]
      rw [e]
      exact k
    | _ => exact iteF k
  · have fe : fitD n ps kd d = fitN n ps kd d := by unfold fitD; rw [if_neg ks]
    rw [fe] at k
    have hk' : kd = "pairing" ∨ kd = "place" := by
      rcases hk with z | z | z
      · exact .inl z
      · exact .inr z
      · exact absurd z ks
    have fin : ∀ b : Int, (∀ i, fitB n ps kd i = (decide (0 ≤ i) && decide (i < b))) → (tRet (tAndV (tCall spFromD [] E0 (tCons (tVar 0) (tCons (tC (V.int 0)) tNil))) (tOp (rI0 fun i j => V.bl (decide (i < j))) (tVar 0) (tVar 3)))) { nx := Z, rt := Q } [some u, some (.str kd), some (.ref a), some (.int b)] H := fun b e => by
      refine ⟨_, rfl, u, d, rfl, hu, _, rfl, ?_⟩
      cases hu with
      | int i =>
        have k : Q (.bl (fitB n ps kd i)) H := k
        rw [e] at k
        show if decide (0 ≤ i) = true then _ else _
        cases hd : decide (0 ≤ i) with
        | false => rw [hd] at k; exact iteF k
        | true =>
          rw [hd] at k
          exact iteT ⟨_, rfl, _, rfl, _, _, rfl, rfl, k⟩
      | _ => exact iteF k
    refine ⟨_, rfl, rfl, _, rfl, ?_⟩
    rw [decide_eq_false (fun z => ks (V.str.inj z))]
    refine iteF ?_
    refine ⟨_, rfl, rfl, _, rfl, ?_⟩
    rcases hk' with rfl | rfl
    · rw [decide_eq_false (show ¬ (V.str "pairing" = V.str "place") from fun z => absurd (V.str.inj z) (by decide))]
      refine iteF ⟨_, rfl, a, _, _, _, rfl, rfl, SqT.of h.h, rfl, pa, ya, rfl, .inl (SqL.of h.ha), ?_⟩
      rw [h.len]
      exact fin _ (fun i => by unfold fitB; rw [if_neg (by decide)])
    · rw [decide_eq_true rfl]
      refine iteT ⟨_, rfl, a, _, _, _, rfl, rfl, SqT.of h.h, rfl, ?_⟩
      exact fin _ (fun i => by unfold fitB; rw [if_pos rfl])
def kdsOf (w : Str) : Option (List Str) := if w = "gone" then some ["pairing"] else if w = "folded" then some ["pairing"] else if w = "joined" then some ["pairing", "pairing"] else if w = "carried" then some ["pairing", "pairing", "side"] else if w = "cut" then some ["pairing", "place"] else if w = "free" then some ["place"] else none
def formedD (n : Int) (ps : List PR) (d : PyData) : Bool := match d with
  | .tuple (.str w :: ds) => (match kdsOf w with
    | some kds => decide (ds.length = kds.length) && ((kds.zip ds).all fun x => fitD n ps x.1 x.2)
    | none => false)
  | _ => false
def FsOk (K : PySem.W.Frag) (fs : List (Str × Addr)) : Prop := ∀ w : Str, (valK fs w = none ∧ kdsOf w = none) ∨ ∃ (g : Addr) (kds : List Str), valK fs w = some g ∧ kdsOf w = some kds ∧ (∀ H', SqT K H' g (kds.map V.str)) ∧ (∀ kd ∈ kds, KdS kd) ∧ kds.length ≤ 3
theorem fs_ok {K : PySem.W.Frag} {g1 g2 g3 g4 g5 g6 : Addr} (t1 : ∀ H, SqT K H g1 [.str "pairing"]) (t2 : ∀ H, SqT K H g2 [.str "pairing"]) (t3 : ∀ H, SqT K H g3 [.str "pairing", .str "pairing"]) (t4 : ∀ H, SqT K H g4 [.str "pairing", .str "pairing", .str "side"]) (t5 : ∀ H, SqT K H g5 [.str "pairing", .str "place"]) (t6 : ∀ H, SqT K H g6 [.str "place"]) :
    FsOk K [("gone", g1), ("folded", g2), ("joined", g3), ("carried", g4), ("cut", g5), ("free", g6)] := fun w => by
  have k1 : KdS "pairing" := .inl rfl
  have k2 : KdS "place" := .inr (.inl rfl)
  have k3 : KdS "side" := .inr (.inr rfl)
  unfold valK kdsOf
  by_cases c1 : w = "gone"
  · subst c1; exact .inr ⟨g1, _, rfl, if_pos rfl, t1, (by intro kd h; simp only [List.mem_cons, List.not_mem_nil, or_false] at h; rw [h]; exact k1), (by show 1 ≤ 3; decide)⟩
  rw [List.find?_cons_of_neg (by simpa using fun z => c1 z.symm), if_neg c1]
  by_cases c2 : w = "folded"
  · subst c2; exact .inr ⟨g2, _, rfl, if_pos rfl, t2, (by intro kd h; simp only [List.mem_cons, List.not_mem_nil, or_false] at h; rw [h]; exact k1), (by show 1 ≤ 3; decide)⟩
  rw [List.find?_cons_of_neg (by simpa using fun z => c2 z.symm), if_neg c2]
  by_cases c3 : w = "joined"
  · subst c3; exact .inr ⟨g3, _, rfl, if_pos rfl, t3, (by intro kd h; simp only [List.mem_cons, List.not_mem_nil, or_false, or_self] at h; rw [h]; exact k1), (by show 2 ≤ 3; decide)⟩
  rw [List.find?_cons_of_neg (by simpa using fun z => c3 z.symm), if_neg c3]
  by_cases c4 : w = "carried"
  · subst c4; exact .inr ⟨g4, _, rfl, if_pos rfl, t4, (by intro kd h; simp only [List.mem_cons, List.not_mem_nil, or_false] at h; rcases h with h | h | h <;> rw [h] <;> first | exact k1 | exact k3), (by show 3 ≤ 3; decide)⟩
  rw [List.find?_cons_of_neg (by simpa using fun z => c4 z.symm), if_neg c4]
  by_cases c5 : w = "cut"
  · subst c5; exact .inr ⟨g5, _, rfl, if_pos rfl, t5, (by intro kd h; simp only [List.mem_cons, List.not_mem_nil, or_false] at h; rcases h with h | h <;> rw [h] <;> first | exact k1 | exact k2), (by show 2 ≤ 3; decide)⟩
  rw [List.find?_cons_of_neg (by simpa using fun z => c5 z.symm), if_neg c5]
  by_cases c6 : w = "free"
  · subst c6; exact .inr ⟨g6, _, rfl, if_pos rfl, t6, (by intro kd h; simp only [List.mem_cons, List.not_mem_nil, or_false] at h; rw [h]; exact k2), (by show 1 ≤ 3; decide)⟩
  rw [List.find?_cons_of_neg (by simpa using fun z => c6 z.symm), if_neg c6]
  exact .inl ⟨rfl, rfl⟩
def spFormedD (K : PySem.W.Frag) (fs : List (Str × Addr)) : Sp := fun vs H Q _ => ∃ (a pa pb : Addr) (u : V) (d : PyData) (n : Int) (ps : List PR) (L : WL2) (ya yb : List V), vs = [.ref a, u] ∧ HallAt H a pa pb n ps L ya yb ∧ Th H u d ∧ ∀ H', Same H H' → Q (.bl (formedD n ps d)) H'
def tFormedD (K : PySem.W.Frag) (fs : List (Str × Addr)) : TS := tSeq (tIfS (tOr (tNot (tB (tCB (fun xs H Q => ∃ x t b, xs = [x, V.ty "tuple"] ∧ TyOf K H x t ∧ W.kitOne K t (Value.type "tuple") = some b ∧ Q (V.bl b) H) (tCons (tVar 1) (tCons (tC (V.ty "tuple")) tNil))))) (tOr (tNot fun σ H_1 Q => tVar 1 σ H_1 fun x H' => ∃ k, TruV K x H' k ∧ Q k H') (tOr (tNot (tB (tCB (fun xs H Q => ∃ x t b, xs = [x, V.ty "str"] ∧ TyOf K H x t ∧ W.kitOne K t (Value.type "str") = some b ∧ Q (V.bl b) H) (tCons (tOp (rIxT K) (tVar 1) (tC (V.int 0))) (tCons (tC (V.ty "str")) tNil))))) (tB (tKNotIn fs (tOp (rIxT K) (tVar 1) (tC (V.int 0)))))))) (tRet (tC (V.bl false))) tNext) (tSeq (tAsg (tKGet fs (tOp (rIxT K) (tVar 1) (tC (V.int 0)))) (gName 2)) (tSeq (tIfS (tTest (tOp rNe (tCB (fun xs H Q => ∃ p ys, xs = [V.ref p] ∧ (SqL K H p ys ∨ SqT K H p ys) ∧ Q (V.int ys.length) H) (tCons (tVar 1) tNil)) (tOp (rI0 fun i j => V.int (i + j)) (tC (V.int 1)) (tCB (fun xs H Q => ∃ p ys, xs = [V.ref p] ∧ (SqL K H p ys ∨ SqT K H p ys) ∧ Q (V.int ys.length) H) (tCons (tVar 2) tNil))))) (tRet (tC (V.bl false))) tNext) (tRet (tCB (fun xs H_1 Q => ∃ p bs, xs = [V.ref p] ∧ SqL K H_1 p (List.map V.bl bs) ∧ Q (V.bl (bs.all id)) H_1) (tCons (tCompG 2 (iZipT K (tCons (tSl (rSlT K) (tVar 1) (tPart (tC (V.int 1))) tNoPart) (tCons (tVar 2) tNil))) (gTup K 2 (gCons (gName 0) (gCons (gName 1) gNil))) tYes (tCall spFitsD [] E0 (tCons (tVar 0) (tCons (tVar 1) (tCons (tVar 2) tNil))))) tNil)))))
set_option maxHeartbeats 4000000 in
theorem formedD_reads {K : PySem.W.Frag} {H : Hp} {Q : VK} {Z : L2.St → Hp → Prop} {fs : List (Str × Addr)} {a pa pb : Addr} {u : V} {d : PyData} {n : Int} {ps : List PR} {L : WL2} {ya yb : List V} (hF : FsOk K fs) (h : HallAt H a pa pb n ps L ya yb) (hu : Th H u d)
    (k : ∀ H', Same H H' → Q (.bl (formedD n ps d)) H') : tFormedD K fs { nx := Z, rt := Q } [some (.ref a), some u, none] H := by
  refine ⟨_, rfl, u, _, _, rfl, hu.ty, kit_tup d, _, rfl, ?_⟩
  cases hT : isTup d with
  | false =>
    have e : formedD n ps d = false := by cases d <;> first | rfl | cases hT
    rw [e] at k
    exact iteT (iteT (k H (Same.refl H)))
  | true =>
    obtain ⟨ds, rfl⟩ : ∃ ds, d = .tuple ds := by
      cases d <;> first | exact ⟨_, rfl⟩ | cases hT
    refine iteF ?_
    obtain ⟨q, rfl⟩ : ∃ q, u = .ref q := by cases hu; exact ⟨_, rfl⟩
    obtain ⟨xs, hq, lx, hx⟩ := hu.parts
    cases ds with
    | nil =>
      have ex : xs = [] := List.length_eq_zero_iff.mp lx
      subst ex
      exact ⟨_, rfl, false, .inr (.inl ⟨_, SqT.of hq, rfl⟩), iteT (iteT (k H (Same.refl H)))⟩
    | cons d0 ds =>
      obtain ⟨x0, us, rfl⟩ : ∃ x0 us, xs = x0 :: us := by
        cases xs with
        | nil => cases lx
        | cons x0 us => exact ⟨_, _, rfl⟩
      have h0 : Th H x0 d0 := hx 0 x0 d0 rfl rfl
      have lu : us.length = ds.length := by simpa using lx
      have hus : ∀ (i : Nat) (x : V) (d : PyData), us[i]? = some x → ds[i]? = some d → Th H x d := fun i x d h1 h2 => hx (i + 1) x d (by simpa using h1) (by simpa using h2)
      refine ⟨_, rfl, true, .inr (.inl ⟨_, SqT.of hq, rfl⟩), iteF ?_⟩
      refine ⟨_, rfl, q, _, _, _, rfl, rfl, SqT.of hq, at_hd _ _, x0, _, _, rfl, h0.ty, kit_str d0, _, rfl, ?_⟩
      cases hs : isStrD d0 with
      | false =>
        have e : formedD n ps (.tuple (d0 :: ds)) = false := by cases d0 <;> first | rfl | cases hs
        rw [e] at k
        exact iteT (iteT (k H (Same.refl H)))
      | true =>
        obtain ⟨w, rfl⟩ : ∃ w, d0 = .str w := by cases d0 <;> first | exact ⟨_, rfl⟩ | cases hs
        obtain rfl : x0 = .str w := by cases h0; rfl
        refine iteF ⟨_, rfl, q, _, _, _, rfl, rfl, SqT.of hq, at_hd _ _, w, rfl, _, rfl, ?_⟩
        rcases hF w with ⟨v1, v2⟩ | ⟨g, kds, v1, v2, hg, hkd, l3⟩
        · rw [v1]
          have e : formedD n ps (.tuple (.str w :: ds)) = false := by unfold formedD; dsimp only; rw [v2]
          rw [e] at k
          exact iteT (k H (Same.refl H))
        · rw [v1]
          have e : formedD n ps (.tuple (.str w :: ds)) = (decide (ds.length = kds.length) && ((kds.zip ds).all fun x => fitD n ps x.1 x.2)) := by
            have e1 : formedD n ps (.tuple (.str w :: ds)) = (match kdsOf w with | some kds => decide (ds.length = kds.length) && ((kds.zip ds).all fun x => fitD n ps x.1 x.2) | none => false) := rfl
            rw [e1, v2]
          rw [e] at k
          refine iteF ?_
          refine ⟨_, rfl, q, _, _, _, rfl, rfl, SqT.of hq, at_hd _ _, w, g, rfl, v1, ?_⟩
          refine ⟨_, rfl, q, _, rfl, .inr (SqT.of hq), _, rfl, g, _, rfl, .inr (hg _), _, _, rfl, rfl, rfl, _, rfl, ?_⟩
          by_cases hl : ds.length = kds.length
          rotate_left
          · rw [decide_eq_false (fun z => hl (by have := V.int.inj z; rw [List.length_cons, List.length_map] at this; omega))]
            rw [decide_eq_false hl] at k
            exact iteT (k H (Same.refl H))
          rw [decide_eq_true (by rw [List.length_cons, List.length_map]; congr 1; omega)]
          rw [decide_eq_true hl, Bool.true_and] at k
          refine iteF ?_
          refine ⟨_, rfl, 1, rfl, q, _, rfl, SqT.of hq, ?_, fun c hc => ?_⟩
          · rintro ⟨z, _⟩
            rw [show (some (1 : Int)) = some ((1 : Nat) : Int) from rfl, HT.sIx_nat, List.length_cons] at z
            omega
          have ec : cutV (V.str w :: us) (some 1) none = us := cut_from (k := 1) _ (by rw [List.length_cons]; omega)
          rw [ec]
          have s1 := Same.nw (o := .tup us) (Same.refl H) hc
          have f1 : (upd H c (.tup us)) c = some (.tup us) := upd_same
          generalize upd H c (.tup us) = H1 at s1 f1 ⊢
          refine ⟨_, rfl, c, g, rfl, ⟨_, SqT.of f1⟩, ⟨_, hg _⟩, compZT (K := K) (a := c) (b := g) (xs := us) (ys := kds.map V.str) (n := us.length) (fun m zs H' => zs = (((kds.zip ds).take m).map fun x => fitD n ps x.1 x.2).map V.bl ∧ Same H1 H') ⟨rfl, Same.refl _⟩ (by rw [List.length_map, lu, hl, Nat.min_self]) (by omega) (fun m zs H' h => by rw [h.1, List.length_map, List.length_map, List.length_take]; exact Nat.min_le_left _ _) (fun m zs H' _ z => ⟨SqT.of (z.2 _ _ f1), hg _⟩) ?_ ?_⟩
          · rintro m x y zs H2 pre pp hpre hx2 hy ⟨rfl, s2⟩ hpp
            rw [List.getElem?_map] at hy
            cases ek : kds[m]? with
            | none => rw [ek] at hy; cases hy
            | some kd =>
              rw [ek] at hy
              cases hy
              have ml : m < ds.length := by have := (List.getElem?_eq_some_iff.mp hx2).1; omega
              have ed : ds[m]? = some ds[m] := List.getElem?_eq_getElem ml
              have thx := hus m x ds[m] hx2 ed
              have s3 := Same.nw (o := .tup [x, .str kd]) s2 hpp
              have f3 : (upd H2 pp (.tup [x, .str kd])) pp = some (.tup [x, .str kd]) := upd_same
              change gTup K 2 _ _ _ (upd H2 pp (.tup [x, .str kd])) _
              generalize upd H2 pp (.tup [x, .str kd]) = H3 at s3 f3 ⊢
              rcases pre with _ | ⟨q0, _ | ⟨q1, _ | ⟨q2, pre⟩⟩⟩
              · cases hpre
              · cases hpre
              · refine ⟨pp, _, rfl, SqT.of f3, rfl, _, _, rfl, _, _, rfl, rfl, ⟨[some _, some _], rfl, rfl⟩, ?_⟩
                unfold tYes
                dsimp only
                rw [if_pos (rfl : true = true)]
                refine ⟨_, rfl, _, rfl, _, rfl, x, ds[m], kd, a, pa, pb, n, ps, L, ya, yb, rfl, h.up (s1.trans s3), thx.up (s1.trans s3), hkd kd (List.mem_of_getElem? ek), ?_, s3⟩
                rw [take_succ' (show (kds.zip ds)[m]? = some (kd, ds[m]) by rw [List.getElem?_zip_eq_some]; exact ⟨ek, ed⟩), List.map_append, List.map_append]
                rfl
              · cases hpre
          · rintro zs H2 ⟨rfl, s2⟩ D hD
            refine ⟨D, _, rfl, SqL.of upd_same, ?_⟩
            have e : (((kds.zip ds).take us.length).map fun x => fitD n ps x.1 x.2).all id = (kds.zip ds).all fun x => fitD n ps x.1 x.2 := by
              rw [List.take_of_length_le (by rw [List.length_zip, hl, Nat.min_self]; omega), List.all_map]
              rfl
            rw [e]
            exact k _ (s1.trans (Same.nw s2 hD))
def r31 : DR := fun H u n ps L o => ∃ d, Th H u d ∧ ((formedD n ps d = false ∧ o = none) ∨ (formedD n ps d = true ∧ ∃ (q : Addr) (e : Int), u = .ref q ∧ H q = some (.tup [.str "free", .int e]) ∧ 0 ≤ e ∧ e < n ∧ Norm L ∧ L.length ≤ 17 ∧ (endsB ps e = false → o = none) ∧ (endsB ps e = true → ∀ S, SortsOf (paF e n L) S → o = some (e, ps, paF 0 e L, S))))
theorem r31_up : UpR r31 := by
  rintro H H' u n ps L o s ⟨d, hu, r⟩
  refine ⟨d, hu.up s, ?_⟩
  rcases r with r | ⟨r1, q, e, rfl, hq, r2⟩
  · exact .inl r
  · exact .inr ⟨r1, q, e, rfl, s _ _ hq, r2⟩
def tDeedD (K : PySem.W.Frag) (E : XK) (fs ds : List (Str × Addr)) (d cN : Addr) : TS := tSeq (tDrop (tCallX (spDemand cN) (fun c x H' => E c none H') (tCons (tCall (spFormedD K fs) [] E0 (tCons (tVar 0) (tCons (tVar 1) tNil))) tNil))) (tSeq (tAsg (tKGet ds (tOp (rIxT K) (tVar 1) (tC (V.int 0)))) (gName 2)) (tRet (tCallL 2 d (spDo dkFree cN) (fun c x H' => E c none H') (tCons (tVar 0) (tCons (tVar 1) tNil)))))
theorem deedD_reads {K : PySem.W.Frag} {H : Hp} {Q : VK} {E : XK} {Z : L2.St → Hp → Prop} {fs ds : List (Str × Addr)} {d cN : Addr} {a pa pb : Addr} {u : V} {n : Int} {ps : List PR} {L : WL2} {ya yb : List V} {o : Option Out} (hvd : valK ds "free" = some d) (h : HallAt H a pa pb n ps L ya yb) (hl : ps.length ≤ 400) (hr : r31 H u n ps L o)
    (k1 : o = none → ∀ H', Same H H' → E (.ref cN) none H')
    (k2 : ∀ out : Out, o = some out → ∀ (c a' pa' pb' pc' : Addr) (ya' yb' yc' : List V) (H' : Hp), Same H H' → H c = none → H pa' = none → H pb' = none → H pc' = none → pa' ≠ pb' → pa' ≠ pc' → pb' ≠ pc' → ToldAt H' c a' pa' pb' pc' out ya' yb' yc' → Q (.ref c) H') :
    tDeedD K E fs ds d cN { nx := Z, rt := Q } [some (.ref a), some u, none] H := by
  obtain ⟨dd, hu, r⟩ := hr
  refine ⟨_, rfl, _, rfl, a, pa, pb, u, dd, n, ps, L, ya, yb, rfl, h, hu, fun H1 s1 => ?_⟩
  rcases r with ⟨r1, r2⟩ | ⟨r1, q, e, rfl, hq, e0, e1, nL, lL, r5, r6⟩
  · exact ⟨_, rfl, (fun hf => by rw [r1] at hf; cases hf), fun _ => k1 r2 H1 s1⟩
  · refine ⟨_, rfl, fun hf => ?_, fun z => by rw [r1] at z; cases z⟩
    refine ⟨_, rfl, q, _, _, _, rfl, rfl, SqT.of (s1 _ _ hq), at_hd _ _, "free", d, rfl, hvd, ?_⟩
    refine ⟨_, rfl, rfl, _, rfl, _, rfl, a, pa, pb, q, n, ps, L, ya, yb, o, rfl, h.up s1, hl, ⟨e, s1 _ _ hq, e0, e1, nL, lL, r5, r6⟩, fun e H' s => k1 e H' (s1.trans s), fun out e c a' pa' pb' pc' ya' yb' yc' H' s e1 e2 e3 e4 n1 n2 n3 t => k2 out e c a' pa' pb' pc' ya' yb' yc' H' (s1.trans s) (s1.free e1) (s1.free e2) (s1.free e3) (s1.free e4) n1 n2 n3 t⟩
end L2
set_option Elab.async false
set_option linter.all false
set_option maxRecDepth 100000
set_option maxHeartbeats 1000000
namespace L2
open PySem PySem.Spec PyProof.Rows
def Ev (σ : L2.St) (H0 : Hp) (te : TE) (d : PyData) : Prop := ∀ (H : Hp) (Q : VK), Same H0 H → (∀ (x : V) (H' : Hp), Same H H' → Th H' x d → Q x H') → te σ H Q
def EvL (σ : L2.St) (H0 : Hp) (ta : TA) (ds : List PyData) : Prop := ∀ (H : Hp) (Q : List V → Hp → Prop), Same H0 H → (∀ (xs : List V) (H' : Hp), Same H H' → ThL H' xs ds → Q xs H') → ta σ H Q
section
variable {σ : L2.St} {H0 : Hp}
theorem evl_nil : EvL σ H0 tNil [] := fun H Q s k => k [] H (Same.refl H) ThL.nil
theorem evl_cons {te : TE} {ta : TA} {d : PyData} {ds : List PyData} (h : Ev σ H0 te d) (k : EvL σ H0 ta ds) : EvL σ H0 (tCons te ta) (d :: ds) := fun H Q s q =>
  h H _ s fun x H1 s1 th => k H1 _ (s.trans s1) fun xs H2 s2 ths => q (x :: xs) H2 (s1.trans s2) (ThL.cons (th.up s2) ths)
theorem ev_tup {ta : TA} {ds : List PyData} (h : EvL σ H0 ta ds) (l : ds.length ≤ 100) : Ev σ H0 (tTup ta) (.tuple ds) := fun H Q s q =>
  h H _ s fun xs H1 s1 ths => ⟨le1000 (by rw [ths.1]; omega), fun p hp => q (.ref p) _ (Same.nw s1 hp) ((ths.up (Same.nw (Same.refl H1) hp)).tup upd_same)⟩
theorem ev_lst {ta : TA} {ds : List PyData} (h : EvL σ H0 ta ds) (l : ds.length ≤ 100) : Ev σ H0 (tLst ta) (.list ds) := fun H Q s q =>
  h H _ s fun xs H1 s1 ths => ⟨le1000 (by rw [ths.1]; omega), fun p hp => q (.ref p) _ (Same.nw s1 hp) ((ths.up (Same.nw (Same.refl H1) hp)).lst upd_same)⟩
theorem ev_var {i : Nat} {x : V} {d : PyData} (hi : σ[i]? = some (some x)) (th : Th H0 x d) : Ev σ H0 (tVar i) d := fun H Q s q => ⟨x, hi, q x H (Same.refl H) (th.up s)⟩
theorem ev_non : Ev σ H0 (tC .non) .none := fun H Q s q => q _ H (Same.refl H) .non
theorem ev_bl (b : Bool) : Ev σ H0 (tC (.bl b)) (.bool b) := fun H Q s q => q _ H (Same.refl H) (.bl b)
theorem ev_int (i : Int) : Ev σ H0 (tC (.int i)) (.int i) := fun H Q s q => q _ H (Same.refl H) (.int i)
theorem ev_str (s : Str) : Ev σ H0 (tC (.str s)) (.str s) := fun H Q _ q => q _ H (Same.refl H) (.str s)
theorem lst_reads {ta : TA} {ds : List PyData} {Q : VK} (h : EvL σ H0 ta ds) (l : ds.length ≤ 100) (k : ∀ (q : Addr) (zs : List V) (H' : Hp), Same H0 H' → H' q = some (.lst zs) → ThL H' zs ds → Q (.ref q) H') : (tLst ta) σ H0 Q :=
  h H0 _ (Same.refl _) fun xs H1 s1 ths => ⟨le1000 (by rw [ths.1]; omega), fun p hp => k p xs _ (Same.nw s1 hp) upd_same (ths.up (Same.nw (Same.refl H1) hp))⟩
theorem cat_reads {i : Nat} {p : Addr} {ys : List V} {ds es : List PyData} {ta : TA} {Q : VK} (hi : σ[i]? = some (some (.ref p))) (hp : H0 p = some (.lst ys)) (th : ThL H0 ys ds) (ev : EvL σ H0 ta es) (l1 : ds.length ≤ 100) (l2 : es.length ≤ 100)
    (k : ∀ (q : Addr) (zs : List V) (H' : Hp), Same H0 H' → H' q = some (.lst zs) → ThL H' zs (ds ++ es) → Q (.ref q) H') : (tOp rCat (tVar i) (tLst ta)) σ H0 Q := by
  refine ⟨_, hi, lst_reads ev l2 fun b xs H1 s1 hb ths => ?_⟩
  refine ⟨p, b, ys, xs, rfl, rfl, s1 _ _ hp, hb, le1000 (by rw [th.1, ths.1]; omega), fun q hq => ?_⟩
  have s2 := Same.nw (o := .lst (ys ++ xs)) (Same.refl H1) hq
  exact k q _ _ (s1.trans s2) upd_same (((th.up s1).append ths).up s2)
theorem asg_lst {ta : TA} {ds : List PyData} {i : Nat} {rest : TS} {D : Ends} (h : EvL σ H0 ta ds) (l : ds.length ≤ 100) (k : ∀ (q : Addr) (zs : List V) (H' : Hp), Same H0 H' → H' q = some (.lst zs) → ThL H' zs ds → rest D (σ.set i (some (.ref q))) H') : tSeq (tAsg (tLst ta) (gName i)) rest D σ H0 := by
  unfold tSeq tAsg gName
  exact lst_reads h l k
theorem asg_cat {i j : Nat} {p : Addr} {ys : List V} {ds es : List PyData} {ta : TA} {rest : TS} {D : Ends} (hi : σ[j]? = some (some (.ref p))) (hp : H0 p = some (.lst ys)) (th : ThL H0 ys ds) (ev : EvL σ H0 ta es) (l1 : ds.length ≤ 100) (l2 : es.length ≤ 100)
    (k : ∀ (q : Addr) (zs : List V) (H' : Hp), Same H0 H' → H' q = some (.lst zs) → ThL H' zs (ds ++ es) → rest D (σ.set i (some (.ref q))) H') : tSeq (tAsg (tOp rCat (tVar j) (tLst ta)) (gName i)) rest D σ H0 := by
  unfold tSeq tAsg gName
  exact cat_reads hi hp th ev l1 l2 k
end
theorem pow_any (σ : L2.St) (e : Int) (hc : CPow 10 e) : ∃ P : Int, 0 < P ∧ ∀ (H : Hp) (Q : VK), Q (.int P) H → (tOp (rI CPow fun i j => V.int (i ^ j.toNat)) (tC (V.int 10)) (tC (V.int e))) σ H Q := ⟨10 ^ e.toNat, Int.pow_pos (by decide), fun H Q q => ⟨_, _, rfl, rfl, hc, q⟩⟩
def OddD (m : Int) (d : PyData) : Prop := ∀ i, d = .int i → i < 0 ∨ m ≤ i
def spOdd : Sp := fun vs H Q _ => ∃ (m b : Int), vs = [.int m, .int b] ∧ 0 ≤ m ∧ ∀ (x : V) (d : PyData) (H' : Hp), Same H H' → Th H' x d → OddD m d → Q x H'
def tOdd (K : PySem.W.Frag) : TS := tSeq (tAsg (tLst (tCons (tVar 0) (tCons (tUn (rU fun i => V.int (-i)) (tC (V.int 1))) (tCons (tOp (rI0 fun i j => V.int (i + j)) (tVar 0) (tOp (rI (fun x j => 0 < j) fun i j => V.int (i % j)) (tOp (rI CDivL fun i j => V.int (i / j)) (tVar 1) (tC (V.int 7))) (tOp (rI CPow fun i j => V.int (i ^ j.toNat)) (tC (V.int 10)) (tC (V.int 30))))) (tCons (tOp (rI0 fun i j => V.int (i - j)) (tUn (rU fun i => V.int (-i)) (tC (V.int 1))) (tOp (rI (fun x j => 0 < j) fun i j => V.int (i % j)) (tOp (rI CDivL fun i j => V.int (i / j)) (tVar 1) (tC (V.int 7))) (tOp (rI CPow fun i j => V.int (i ^ j.toNat)) (tC (V.int 10)) (tC (V.int 30))))) (tCons (tC V.non) (tCons (tC (V.bl true)) (tCons (tC (V.bl false)) (tCons (tC (V.str "0")) (tCons (tLst (tCons (tC (V.int 0)) tNil)) (tCons (tTup (tCons (tC (V.int 0)) tNil)) (tCons (tTup tNil) tNil)))))))))))) (gName 2)) (tRet (tOp (rIxL K) (tVar 2) (tOp (rI (fun x j => 0 < j) fun i j => V.int (i % j)) (tVar 1) (tCB (fun xs H Q => ∃ p ys, xs = [V.ref p] ∧ (SqL K H p ys ∨ SqT K H p ys) ∧ Q (V.int ys.length) H) (tCons (tVar 2) tNil)))))
set_option maxHeartbeats 4000000 in
theorem odd_reads {K : PySem.W.Frag} {H : Hp} {Q : VK} {Z : L2.St → Hp → Prop} {m b : Int} (h0 : 0 ≤ m) (k : ∀ (x : V) (d : PyData) (H' : Hp), Same H H' → Th H' x d → OddD m d → Q x H') : tOdd K { nx := Z, rt := Q } [some (.int m), some (.int b), none] H := by
  obtain ⟨P, hP, evP⟩ := pow_any [some (V.int m), some (V.int b), none] 30 ⟨by decide, by decide, by decide⟩
  have r0 := Int.emod_nonneg (b / 7) (show P ≠ 0 by omega)
  have ev : EvL [some (V.int m), some (V.int b), none] H _ [.int m, .int (-1), .int (m + b / 7 % P), .int (-1 - b / 7 % P), .none, .bool true, .bool false, .str "0", .list [.int 0], .tuple [.int 0], .tuple []] :=
    evl_cons (te := tVar 0) (ev_var rfl (.int m)) (evl_cons (te := tUn (rU fun i => V.int (-i)) (tC (V.int 1))) (fun H' Q' _ q => ⟨1, rfl, q _ H' (Same.refl H') (.int _)⟩)
      (evl_cons (te := tOp (rI0 fun i j => V.int (i + j)) (tVar 0) (tOp (rI (fun x j => 0 < j) fun i j => V.int (i % j)) (tOp (rI CDivL fun i j => V.int (i / j)) (tVar 1) (tC (V.int 7))) (tOp (rI CPow fun i j => V.int (i ^ j.toNat)) (tC (V.int 10)) (tC (V.int 30))))) (fun H' Q' _ q => ⟨_, rfl, _, rfl, _, _, rfl, rfl, cdivI (by decide) (by decide), evP _ _ ⟨_, _, rfl, rfl, hP, _, _, rfl, rfl, q _ H' (Same.refl H') (.int _)⟩⟩)
      (evl_cons (te := tOp (rI0 fun i j => V.int (i - j)) (tUn (rU fun i => V.int (-i)) (tC (V.int 1))) (tOp (rI (fun x j => 0 < j) fun i j => V.int (i % j)) (tOp (rI CDivL fun i j => V.int (i / j)) (tVar 1) (tC (V.int 7))) (tOp (rI CPow fun i j => V.int (i ^ j.toNat)) (tC (V.int 10)) (tC (V.int 30))))) (fun H' Q' _ q => ⟨1, rfl, _, rfl, _, _, rfl, rfl, cdivI (by decide) (by decide), evP _ _ ⟨_, _, rfl, rfl, hP, _, _, rfl, rfl, q _ H' (Same.refl H') (.int _)⟩⟩)
      (evl_cons ev_non (evl_cons (ev_bl true) (evl_cons (ev_bl false) (evl_cons (ev_str "0") (evl_cons (ev_lst (evl_cons (ev_int 0) evl_nil) (by show 1 ≤ 100; decide)) (evl_cons (ev_tup (evl_cons (ev_int 0) evl_nil) (by show 1 ≤ 100; decide)) (evl_cons (ev_tup evl_nil (by show 0 ≤ 100; decide)) evl_nil))))))))))
  unfold tOdd
  refine asg_lst ev (by show 11 ≤ 100; decide) fun q zs H1 s1 hq ths => ?_
  have lz : zs.length = 11 := ths.1
  have a0 := Int.emod_nonneg b (show ((11 : Nat) : Int) ≠ 0 by decide)
  have a1 := Int.emod_lt_of_pos b (show (0 : Int) < ((11 : Nat) : Int) by decide)
  obtain ⟨j, ej⟩ := Int.eq_ofNat_of_zero_le a0
  have jl : j < zs.length := by omega
  have ex := List.getElem?_eq_getElem jl
  refine ⟨_, rfl, _, rfl, _, rfl, q, zs, rfl, .inl (SqL.of hq), _, _, rfl, rfl, (by show (0 : Int) < (zs.length : Int); omega), ?_⟩
  show rIxL K (.ref q) (.int (b % (zs.length : Int))) H1 _
  rw [lz, ej]
  have jd : j < ([.int m, .int (-1), .int (m + b / 7 % P), .int (-1 - b / 7 % P), .none, .bool true, .bool false, .str "0", .list [.int 0], .tuple [.int 0], .tuple []] : List PyData).length := by rw [← ths.1]; exact jl
  refine ⟨q, _, _, _, rfl, rfl, SqL.of hq, atI_nat ex, k _ _ H1 s1 (ths.2 j _ _ ex (List.getElem?_eq_getElem jd)) ?_⟩
  have mem := List.getElem_mem jd
  generalize ([.int m, .int (-1), .int (m + b / 7 % P), .int (-1 - b / 7 % P), .none, .bool true, .bool false, .str "0", .list [.int 0], .tuple [.int 0], .tuple []] : List PyData)[j] = dd at mem ⊢
  simp only [List.mem_cons, List.not_mem_nil, or_false] at mem
  rcases mem with rfl | rfl | rfl | rfl | rfl | rfl | rfl | rfl | rfl | rfl | rfl
  · exact fun i e => by cases e; exact .inr (Int.le_refl _)
  · exact fun i e => by cases e; exact .inl (by decide)
  · exact fun i e => by cases e; exact .inr (by omega)
  · exact fun i e => by cases e; exact .inl (by omega)
  all_goals exact (fun i e => by cases e)
def sD1 (w : Str) (z : Int) (o o' : PyData) : List PyData := [.none, .bool true, .int z, .str w, .str "", .list [], .tuple [], .list [.str w, .int 0], .list [.str w, .int 0, .int 1], .tuple [.int 0], .tuple [.none, .int 0], .tuple [.list [.str w], .int 0]]
def sD2 (w : Str) (z : Int) (o o' : PyData) : List PyData := [.tuple [.tuple [.str w], .int 0], .tuple [.str w], .tuple [.str "Gone", .int 0], .tuple [.str "going", .int 0], .tuple [.str "", .int 0], .tuple [.str "cut off", .int 0, .int 0], .tuple [.str "free", o]]
def sD3 (w : Str) (z : Int) (o o' : PyData) : List PyData := [.tuple [.str "gone", o], .tuple [.str "folded", o], .tuple [.str "joined", o, o'], .tuple [.str "carried", o, o', .str "high"]]
def sD4 (w : Str) (z : Int) (o o' : PyData) : List PyData := [.tuple [.str "carried", o, o', .str "low"], .tuple [.str "cut", o, o'], .tuple [.str "joined", .int 0, o], .tuple [.str "cut", .int 0, o']]
def sD5 (w : Str) (z : Int) (o o' : PyData) : List PyData := [.tuple [.str "carried", .int 0, o, .str "high"], .tuple [.str "carried", o, .int 0, .str "low"], .tuple [.str "gone", .int 0, .int 0], .tuple [.str "folded", .int 0, .int 0]]
def sD6 (w : Str) (z : Int) (o o' : PyData) : List PyData := [.tuple [.str "joined", .int 0, .int 1, .int 2], .tuple [.str "carried", .int 0, .int 1], .tuple [.str "carried", .int 0, .int 1, .str "high", .int 0], .tuple [.str "cut", .int 0, .int 0, .int 0], .tuple [.str "cut", .int 0]]
def sD7 (w : Str) (z : Int) (o o' : PyData) : List PyData := [.tuple [.str "free", .int 0, .int 0], .tuple [.str "joined", .int 0], .tuple [.str "carried", .int 0, .int 1, .str "High"], .tuple [.str "carried", .int 0, .int 1, .str ""], .tuple [.str w, .int 0, .int 1, .none]]
def sD8 (w : Str) (z : Int) (o o' : PyData) : List PyData := [.tuple [.str "carried", .int 0, .int 1, .list [.str "high"]], .tuple [.str "carried", .int 0, .int 1, .int 1], .tuple [.str "carried", .int 0, .int 1, .bool true]]
def sD9 (w : Str) (z : Int) (o o' : PyData) : List PyData := [.tuple [.str "carried", .int 0, .int 1, .tuple [.str "low"]]]
def thingsD (w : Str) (z : Int) (o o' : PyData) : List PyData := ((((((((sD1 w z o o' ++ sD2 w z o o') ++ sD3 w z o o') ++ sD4 w z o o') ++ sD5 w z o o') ++ sD6 w z o o') ++ sD7 w z o o') ++ sD8 w z o o') ++ sD9 w z o o')
def WdS (w : Str) : Prop := w = "gone" ∨ w = "folded" ∨ w = "joined" ∨ w = "carried" ∨ w = "cut" ∨ w = "free"
theorem at_word {r : Int} (h0 : 0 ≤ r) (h1 : r < 6) : ∃ w : Str, atI [V.str "gone", V.str "folded", V.str "joined", V.str "carried", V.str "cut", V.str "free"] r = some (.str w) ∧ WdS w := by
  have hc : r = 0 ∨ r = 1 ∨ r = 2 ∨ r = 3 ∨ r = 4 ∨ r = 5 := by omega
  rcases hc with rfl | rfl | rfl | rfl | rfl | rfl
  · exact ⟨_, rfl, .inl rfl⟩
  · exact ⟨_, rfl, .inr (.inl rfl)⟩
  · exact ⟨_, rfl, .inr (.inr (.inl rfl))⟩
  · exact ⟨_, rfl, .inr (.inr (.inr (.inl rfl)))⟩
  · exact ⟨_, rfl, .inr (.inr (.inr (.inr (.inl rfl))))⟩
  · exact ⟨_, rfl, .inr (.inr (.inr (.inr (.inr rfl))))⟩
def spThings : Sp := fun vs H Q _ => ∃ (m b : Int), vs = [.int m, .int b] ∧ 0 ≤ m ∧ ∀ (q : Addr) (ys : List V) (w : Str) (z : Int) (o o' : PyData) (H' : Hp), Same H H' → H' q = some (.lst ys) → ThL H' ys (thingsD w z o o') → WdS w → OddD m o → OddD m o' → Q (.ref q) H'
def tThR : TS := (tSeq (tAsg (tLst (tCons (tC V.non) (tCons (tC (V.bl true)) (tCons (tOp (rI (fun x j => 0 < j) fun i j => V.int (i % j)) (tVar 1) (tOp (rI CPow fun i j => V.int (i ^ j.toNat)) (tC (V.int 10)) (tC (V.int 20)))) (tCons (tVar 4) (tCons (tC (V.str "")) (tCons (tLst tNil) (tCons (tTup tNil) (tCons (tLst (tCons (tVar 4) (tCons (tC (V.int 0)) tNil))) (tCons (tLst (tCons (tVar 4) (tCons (tC (V.int 0)) (tCons (tC (V.int 1)) tNil)))) (tCons (tTup (tCons (tC (V.int 0)) tNil)) (tCons (tTup (tCons (tC V.non) (tCons (tC (V.int 0)) tNil))) (tCons (tTup (tCons (tLst (tCons (tVar 4) tNil)) (tCons (tC (V.int 0)) tNil))) tNil))))))))))))) (gName 5)) (tSeq (tAsg (tOp rCat (tVar 5) (tLst (tCons (tTup (tCons (tTup (tCons (tVar 4) tNil)) (tCons (tC (V.int 0)) tNil))) (tCons (tTup (tCons (tVar 4) tNil)) (tCons (tTup (tCons (tC (V.str "Gone")) (tCons (tC (V.int 0)) tNil))) (tCons (tTup (tCons (tC (V.str "going")) (tCons (tC (V.int 0)) tNil))) (tCons (tTup (tCons (tC (V.str "")) (tCons (tC (V.int 0)) tNil))) (tCons (tTup (tCons (tC (V.str "cut off")) (tCons (tC (V.int 0)) (tCons (tC (V.int 0)) tNil)))) (tCons (tTup (tCons (tC (V.str "free")) (tCons (tVar 2) tNil))) tNil))))))))) (gName 5)) (tSeq (tAsg (tOp rCat (tVar 5) (tLst (tCons (tTup (tCons (tC (V.str "gone")) (tCons (tVar 2) tNil))) (tCons (tTup (tCons (tC (V.str "folded")) (tCons (tVar 2) tNil))) (tCons (tTup (tCons (tC (V.str "joined")) (tCons (tVar 2) (tCons (tVar 3) tNil)))) (tCons (tTup (tCons (tC (V.str "carried")) (tCons (tVar 2) (tCons (tVar 3) (tCons (tC (V.str "high")) tNil))))) tNil)))))) (gName 5)) (tSeq (tAsg (tOp rCat (tVar 5) (tLst (tCons (tTup (tCons (tC (V.str "carried")) (tCons (tVar 2) (tCons (tVar 3) (tCons (tC (V.str "low")) tNil))))) (tCons (tTup (tCons (tC (V.str "cut")) (tCons (tVar 2) (tCons (tVar 3) tNil)))) (tCons (tTup (tCons (tC (V.str "joined")) (tCons (tC (V.int 0)) (tCons (tVar 2) tNil)))) (tCons (tTup (tCons (tC (V.str "cut")) (tCons (tC (V.int 0)) (tCons (tVar 3) tNil)))) tNil)))))) (gName 5)) (tSeq (tAsg (tOp rCat (tVar 5) (tLst (tCons (tTup (tCons (tC (V.str "carried")) (tCons (tC (V.int 0)) (tCons (tVar 2) (tCons (tC (V.str "high")) tNil))))) (tCons (tTup (tCons (tC (V.str "carried")) (tCons (tVar 2) (tCons (tC (V.int 0)) (tCons (tC (V.str "low")) tNil))))) (tCons (tTup (tCons (tC (V.str "gone")) (tCons (tC (V.int 0)) (tCons (tC (V.int 0)) tNil)))) (tCons (tTup (tCons (tC (V.str "folded")) (tCons (tC (V.int 0)) (tCons (tC (V.int 0)) tNil)))) tNil)))))) (gName 5)) (tSeq (tAsg (tOp rCat (tVar 5) (tLst (tCons (tTup (tCons (tC (V.str "joined")) (tCons (tC (V.int 0)) (tCons (tC (V.int 1)) (tCons (tC (V.int 2)) tNil))))) (tCons (tTup (tCons (tC (V.str "carried")) (tCons (tC (V.int 0)) (tCons (tC (V.int 1)) tNil)))) (tCons (tTup (tCons (tC (V.str "carried")) (tCons (tC (V.int 0)) (tCons (tC (V.int 1)) (tCons (tC (V.str "high")) (tCons (tC (V.int 0)) tNil)))))) (tCons (tTup (tCons (tC (V.str "cut")) (tCons (tC (V.int 0)) (tCons (tC (V.int 0)) (tCons (tC (V.int 0)) tNil))))) (tCons (tTup (tCons (tC (V.str "cut")) (tCons (tC (V.int 0)) tNil))) tNil))))))) (gName 5)) (tSeq (tAsg (tOp rCat (tVar 5) (tLst (tCons (tTup (tCons (tC (V.str "free")) (tCons (tC (V.int 0)) (tCons (tC (V.int 0)) tNil)))) (tCons (tTup (tCons (tC (V.str "joined")) (tCons (tC (V.int 0)) tNil))) (tCons (tTup (tCons (tC (V.str "carried")) (tCons (tC (V.int 0)) (tCons (tC (V.int 1)) (tCons (tC (V.str "High")) tNil))))) (tCons (tTup (tCons (tC (V.str "carried")) (tCons (tC (V.int 0)) (tCons (tC (V.int 1)) (tCons (tC (V.str "")) tNil))))) (tCons (tTup (tCons (tVar 4) (tCons (tC (V.int 0)) (tCons (tC (V.int 1)) (tCons (tC V.non) tNil))))) tNil))))))) (gName 5)) (tSeq (tAsg (tOp rCat (tVar 5) (tLst (tCons (tTup (tCons (tC (V.str "carried")) (tCons (tC (V.int 0)) (tCons (tC (V.int 1)) (tCons (tLst (tCons (tC (V.str "high")) tNil)) tNil))))) (tCons (tTup (tCons (tC (V.str "carried")) (tCons (tC (V.int 0)) (tCons (tC (V.int 1)) (tCons (tC (V.int 1)) tNil))))) (tCons (tTup (tCons (tC (V.str "carried")) (tCons (tC (V.int 0)) (tCons (tC (V.int 1)) (tCons (tC (V.bl true)) tNil))))) tNil))))) (gName 5)) (tSeq (tAsg (tOp rCat (tVar 5) (tLst (tCons (tTup (tCons (tC (V.str "carried")) (tCons (tC (V.int 0)) (tCons (tC (V.int 1)) (tCons (tTup (tCons (tC (V.str "low")) tNil)) tNil))))) tNil))) (gName 5)) (tRet (tVar 5)))))))))))
def tThings (K : PySem.W.Frag) : TS := tSeq (tAsg (tCall spOdd [] E0 (tCons (tVar 0) (tCons (tOp (rI CDivL fun i j => V.int (i / j)) (tVar 1) (tC (V.int 3))) tNil))) (gName 2)) (tSeq (tAsg (tCall spOdd [] E0 (tCons (tVar 0) (tCons (tOp (rI CDivL fun i j => V.int (i / j)) (tVar 1) (tC (V.int 1009))) tNil))) (gName 3)) (tSeq (tAsg (tOp (rIxL K) (tLst (tCons (tC (V.str "gone")) (tCons (tC (V.str "folded")) (tCons (tC (V.str "joined")) (tCons (tC (V.str "carried")) (tCons (tC (V.str "cut")) (tCons (tC (V.str "free")) tNil))))))) (tOp (rI (fun x j => 0 < j) fun i j => V.int (i % j)) (tVar 1) (tC (V.int 6)))) (gName 4)) tThR))
set_option maxHeartbeats 8000000 in
theorem things_reads {K : PySem.W.Frag} {H : Hp} {Q : VK} {Z : L2.St → Hp → Prop} {m b : Int} (h0 : 0 ≤ m) (k : ∀ (q : Addr) (ys : List V) (w : Str) (z : Int) (o o' : PyData) (H' : Hp), Same H H' → H' q = some (.lst ys) → ThL H' ys (thingsD w z o o') → WdS w → OddD m o → OddD m o' → Q (.ref q) H') : tThings K { nx := Z, rt := Q } [some (.int m), some (.int b), none, none, none, none] H := by
  refine ⟨_, rfl, _, rfl, _, _, rfl, rfl, cdivI (by decide) (by decide), m, _, rfl, h0, fun x o H1 s1 ho oo => ?_⟩
  refine ⟨_, rfl, _, rfl, _, _, rfl, rfl, cdivI (by decide) (by decide), m, _, rfl, h0, fun x' o' H2 s2 ho' oo' => ?_⟩
  have ho := ho.up s2
  have r0 := Int.emod_nonneg b (show (6 : Int) ≠ 0 by decide)
  have r1 := Int.emod_lt_of_pos b (show (0 : Int) < 6 by decide)
  obtain ⟨w, ew, hw⟩ := at_word r0 r1
  refine ⟨(by show 6 ≤ sizeLine; decide), fun c hc => ⟨_, rfl, _, _, rfl, rfl, (by decide : (0 : Int) < 6), c, _, _, _, rfl, rfl, SqL.of upd_same, ew, ?_⟩⟩
  have s3 := Same.nw (o := .lst [V.str "gone", V.str "folded", V.str "joined", V.str "carried", V.str "cut", V.str "free"]) (Same.refl H2) hc
  show tThR { nx := Z, rt := Q } [some (.int m), some (.int b), some x, some x', some (.str w), none] (upd H2 c (.lst [V.str "gone", V.str "folded", V.str "joined", V.str "carried", V.str "cut", V.str "free"]))
  generalize upd H2 c (.lst [V.str "gone", V.str "folded", V.str "joined", V.str "carried", V.str "cut", V.str "free"]) = HA at s3 ⊢
  have ho := ho.up s3
  have ho' := ho'.up s3
  have s0 := s1.trans (s2.trans s3)
  obtain ⟨P, hP, evP⟩ := pow_any [some (.int m), some (.int b), some x, some x', some (.str w), none] 20 ⟨by decide, by decide, by decide⟩
  have hz : Ev [some (.int m), some (.int b), some x, some x', some (.str w), none] HA (tOp (rI (fun x j => 0 < j) fun i j => V.int (i % j)) (tVar 1) (tOp (rI CPow fun i j => V.int (i ^ j.toNat)) (tC (V.int 10)) (tC (V.int 20)))) (.int (b % P)) := fun H' Q' _ q => ⟨_, rfl, evP _ _ ⟨_, _, rfl, rfl, hP, q _ H' (Same.refl H') (.int _)⟩⟩
  generalize b % P = z at hz
  unfold tThR
  refine asg_lst (σ := [some (.int m), some (.int b), some x, some x', some (.str w), none]) (ds := sD1 w z o o') (evl_cons ev_non (evl_cons (ev_bl true) (evl_cons hz (evl_cons (ev_var (i := 4) rfl (.str w)) (evl_cons (ev_str "") (evl_cons (ev_lst evl_nil (by show 0 ≤ 100; decide)) (evl_cons (ev_tup evl_nil (by show 0 ≤ 100; decide)) (evl_cons (ev_lst (evl_cons (ev_var (i := 4) rfl (.str w)) (evl_cons (ev_int 0) evl_nil)) (by show 2 ≤ 100; decide)) (evl_cons (ev_lst (evl_cons (ev_var (i := 4) rfl (.str w)) (evl_cons (ev_int 0) (evl_cons (ev_int 1) evl_nil))) (by show 3 ≤ 100; decide)) (evl_cons (ev_tup (evl_cons (ev_int 0) evl_nil) (by show 1 ≤ 100; decide)) (evl_cons (ev_tup (evl_cons ev_non (evl_cons (ev_int 0) evl_nil)) (by show 2 ≤ 100; decide)) (evl_cons (ev_tup (evl_cons (ev_lst (evl_cons (ev_var (i := 4) rfl (.str w)) evl_nil) (by show 1 ≤ 100; decide)) (evl_cons (ev_int 0) evl_nil)) (by show 2 ≤ 100; decide)) evl_nil)))))))))))) (by show 12 ≤ 100; decide) fun q1 y1 G1 t1 g1 th1 => ?_
  have s0 := s0.trans t1
  have ho := ho.up t1
  have ho' := ho'.up t1
  refine asg_cat (σ := [some (.int m), some (.int b), some x, some x', some (.str w), some (.ref q1)]) (j := 5) (ds := sD1 w z o o') (es := sD2 w z o o') rfl g1 th1 (evl_cons (ev_tup (evl_cons (ev_tup (evl_cons (ev_var (i := 4) rfl (.str w)) evl_nil) (by show 1 ≤ 100; decide)) (evl_cons (ev_int 0) evl_nil)) (by show 2 ≤ 100; decide)) (evl_cons (ev_tup (evl_cons (ev_var (i := 4) rfl (.str w)) evl_nil) (by show 1 ≤ 100; decide)) (evl_cons (ev_tup (evl_cons (ev_str "Gone") (evl_cons (ev_int 0) evl_nil)) (by show 2 ≤ 100; decide)) (evl_cons (ev_tup (evl_cons (ev_str "going") (evl_cons (ev_int 0) evl_nil)) (by show 2 ≤ 100; decide)) (evl_cons (ev_tup (evl_cons (ev_str "") (evl_cons (ev_int 0) evl_nil)) (by show 2 ≤ 100; decide)) (evl_cons (ev_tup (evl_cons (ev_str "cut off") (evl_cons (ev_int 0) (evl_cons (ev_int 0) evl_nil))) (by show 3 ≤ 100; decide)) (evl_cons (ev_tup (evl_cons (ev_str "free") (evl_cons (ev_var (i := 2) rfl ho) evl_nil)) (by show 2 ≤ 100; decide)) evl_nil))))))) (by show 12 ≤ 100; decide) (by show 7 ≤ 100; decide) fun q2 y2 G2 t2 g2 th2 => ?_
  have s0 := s0.trans t2
  have ho := ho.up t2
  have ho' := ho'.up t2
  refine asg_cat (σ := [some (.int m), some (.int b), some x, some x', some (.str w), some (.ref q2)]) (j := 5) (ds := (sD1 w z o o' ++ sD2 w z o o')) (es := sD3 w z o o') rfl g2 th2 (evl_cons (ev_tup (evl_cons (ev_str "gone") (evl_cons (ev_var (i := 2) rfl ho) evl_nil)) (by show 2 ≤ 100; decide)) (evl_cons (ev_tup (evl_cons (ev_str "folded") (evl_cons (ev_var (i := 2) rfl ho) evl_nil)) (by show 2 ≤ 100; decide)) (evl_cons (ev_tup (evl_cons (ev_str "joined") (evl_cons (ev_var (i := 2) rfl ho) (evl_cons (ev_var (i := 3) rfl ho') evl_nil))) (by show 3 ≤ 100; decide)) (evl_cons (ev_tup (evl_cons (ev_str "carried") (evl_cons (ev_var (i := 2) rfl ho) (evl_cons (ev_var (i := 3) rfl ho') (evl_cons (ev_str "high") evl_nil)))) (by show 4 ≤ 100; decide)) evl_nil)))) (by show 19 ≤ 100; decide) (by show 4 ≤ 100; decide) fun q3 y3 G3 t3 g3 th3 => ?_
  have s0 := s0.trans t3
  have ho := ho.up t3
  have ho' := ho'.up t3
  refine asg_cat (σ := [some (.int m), some (.int b), some x, some x', some (.str w), some (.ref q3)]) (j := 5) (ds := ((sD1 w z o o' ++ sD2 w z o o') ++ sD3 w z o o')) (es := sD4 w z o o') rfl g3 th3 (evl_cons (ev_tup (evl_cons (ev_str "carried") (evl_cons (ev_var (i := 2) rfl ho) (evl_cons (ev_var (i := 3) rfl ho') (evl_cons (ev_str "low") evl_nil)))) (by show 4 ≤ 100; decide)) (evl_cons (ev_tup (evl_cons (ev_str "cut") (evl_cons (ev_var (i := 2) rfl ho) (evl_cons (ev_var (i := 3) rfl ho') evl_nil))) (by show 3 ≤ 100; decide)) (evl_cons (ev_tup (evl_cons (ev_str "joined") (evl_cons (ev_int 0) (evl_cons (ev_var (i := 2) rfl ho) evl_nil))) (by show 3 ≤ 100; decide)) (evl_cons (ev_tup (evl_cons (ev_str "cut") (evl_cons (ev_int 0) (evl_cons (ev_var (i := 3) rfl ho') evl_nil))) (by show 3 ≤ 100; decide)) evl_nil)))) (by show 23 ≤ 100; decide) (by show 4 ≤ 100; decide) fun q4 y4 G4 t4 g4 th4 => ?_
  have s0 := s0.trans t4
  have ho := ho.up t4
  have ho' := ho'.up t4
  refine asg_cat (σ := [some (.int m), some (.int b), some x, some x', some (.str w), some (.ref q4)]) (j := 5) (ds := (((sD1 w z o o' ++ sD2 w z o o') ++ sD3 w z o o') ++ sD4 w z o o')) (es := sD5 w z o o') rfl g4 th4 (evl_cons (ev_tup (evl_cons (ev_str "carried") (evl_cons (ev_int 0) (evl_cons (ev_var (i := 2) rfl ho) (evl_cons (ev_str "high") evl_nil)))) (by show 4 ≤ 100; decide)) (evl_cons (ev_tup (evl_cons (ev_str "carried") (evl_cons (ev_var (i := 2) rfl ho) (evl_cons (ev_int 0) (evl_cons (ev_str "low") evl_nil)))) (by show 4 ≤ 100; decide)) (evl_cons (ev_tup (evl_cons (ev_str "gone") (evl_cons (ev_int 0) (evl_cons (ev_int 0) evl_nil))) (by show 3 ≤ 100; decide)) (evl_cons (ev_tup (evl_cons (ev_str "folded") (evl_cons (ev_int 0) (evl_cons (ev_int 0) evl_nil))) (by show 3 ≤ 100; decide)) evl_nil)))) (by show 27 ≤ 100; decide) (by show 4 ≤ 100; decide) fun q5 y5 G5 t5 g5 th5 => ?_
  have s0 := s0.trans t5
  have ho := ho.up t5
  have ho' := ho'.up t5
  refine asg_cat (σ := [some (.int m), some (.int b), some x, some x', some (.str w), some (.ref q5)]) (j := 5) (ds := ((((sD1 w z o o' ++ sD2 w z o o') ++ sD3 w z o o') ++ sD4 w z o o') ++ sD5 w z o o')) (es := sD6 w z o o') rfl g5 th5 (evl_cons (ev_tup (evl_cons (ev_str "joined") (evl_cons (ev_int 0) (evl_cons (ev_int 1) (evl_cons (ev_int 2) evl_nil)))) (by show 4 ≤ 100; decide)) (evl_cons (ev_tup (evl_cons (ev_str "carried") (evl_cons (ev_int 0) (evl_cons (ev_int 1) evl_nil))) (by show 3 ≤ 100; decide)) (evl_cons (ev_tup (evl_cons (ev_str "carried") (evl_cons (ev_int 0) (evl_cons (ev_int 1) (evl_cons (ev_str "high") (evl_cons (ev_int 0) evl_nil))))) (by show 5 ≤ 100; decide)) (evl_cons (ev_tup (evl_cons (ev_str "cut") (evl_cons (ev_int 0) (evl_cons (ev_int 0) (evl_cons (ev_int 0) evl_nil)))) (by show 4 ≤ 100; decide)) (evl_cons (ev_tup (evl_cons (ev_str "cut") (evl_cons (ev_int 0) evl_nil)) (by show 2 ≤ 100; decide)) evl_nil))))) (by show 31 ≤ 100; decide) (by show 5 ≤ 100; decide) fun q6 y6 G6 t6 g6 th6 => ?_
  have s0 := s0.trans t6
  have ho := ho.up t6
  have ho' := ho'.up t6
  refine asg_cat (σ := [some (.int m), some (.int b), some x, some x', some (.str w), some (.ref q6)]) (j := 5) (ds := (((((sD1 w z o o' ++ sD2 w z o o') ++ sD3 w z o o') ++ sD4 w z o o') ++ sD5 w z o o') ++ sD6 w z o o')) (es := sD7 w z o o') rfl g6 th6 (evl_cons (ev_tup (evl_cons (ev_str "free") (evl_cons (ev_int 0) (evl_cons (ev_int 0) evl_nil))) (by show 3 ≤ 100; decide)) (evl_cons (ev_tup (evl_cons (ev_str "joined") (evl_cons (ev_int 0) evl_nil)) (by show 2 ≤ 100; decide)) (evl_cons (ev_tup (evl_cons (ev_str "carried") (evl_cons (ev_int 0) (evl_cons (ev_int 1) (evl_cons (ev_str "High") evl_nil)))) (by show 4 ≤ 100; decide)) (evl_cons (ev_tup (evl_cons (ev_str "carried") (evl_cons (ev_int 0) (evl_cons (ev_int 1) (evl_cons (ev_str "") evl_nil)))) (by show 4 ≤ 100; decide)) (evl_cons (ev_tup (evl_cons (ev_var (i := 4) rfl (.str w)) (evl_cons (ev_int 0) (evl_cons (ev_int 1) (evl_cons ev_non evl_nil)))) (by show 4 ≤ 100; decide)) evl_nil))))) (by show 36 ≤ 100; decide) (by show 5 ≤ 100; decide) fun q7 y7 G7 t7 g7 th7 => ?_
  have s0 := s0.trans t7
  have ho := ho.up t7
  have ho' := ho'.up t7
  refine asg_cat (σ := [some (.int m), some (.int b), some x, some x', some (.str w), some (.ref q7)]) (j := 5) (ds := ((((((sD1 w z o o' ++ sD2 w z o o') ++ sD3 w z o o') ++ sD4 w z o o') ++ sD5 w z o o') ++ sD6 w z o o') ++ sD7 w z o o')) (es := sD8 w z o o') rfl g7 th7 (evl_cons (ev_tup (evl_cons (ev_str "carried") (evl_cons (ev_int 0) (evl_cons (ev_int 1) (evl_cons (ev_lst (evl_cons (ev_str "high") evl_nil) (by show 1 ≤ 100; decide)) evl_nil)))) (by show 4 ≤ 100; decide)) (evl_cons (ev_tup (evl_cons (ev_str "carried") (evl_cons (ev_int 0) (evl_cons (ev_int 1) (evl_cons (ev_int 1) evl_nil)))) (by show 4 ≤ 100; decide)) (evl_cons (ev_tup (evl_cons (ev_str "carried") (evl_cons (ev_int 0) (evl_cons (ev_int 1) (evl_cons (ev_bl true) evl_nil)))) (by show 4 ≤ 100; decide)) evl_nil))) (by show 41 ≤ 100; decide) (by show 3 ≤ 100; decide) fun q8 y8 G8 t8 g8 th8 => ?_
  have s0 := s0.trans t8
  have ho := ho.up t8
  have ho' := ho'.up t8
  refine asg_cat (σ := [some (.int m), some (.int b), some x, some x', some (.str w), some (.ref q8)]) (j := 5) (ds := (((((((sD1 w z o o' ++ sD2 w z o o') ++ sD3 w z o o') ++ sD4 w z o o') ++ sD5 w z o o') ++ sD6 w z o o') ++ sD7 w z o o') ++ sD8 w z o o')) (es := sD9 w z o o') rfl g8 th8 (evl_cons (ev_tup (evl_cons (ev_str "carried") (evl_cons (ev_int 0) (evl_cons (ev_int 1) (evl_cons (ev_tup (evl_cons (ev_str "low") evl_nil) (by show 1 ≤ 100; decide)) evl_nil)))) (by show 4 ≤ 100; decide)) evl_nil) (by show 44 ≤ 100; decide) (by show 1 ≤ 100; decide) fun q9 y9 G9 t9 g9 th9 => ?_
  have s0 := s0.trans t9
  have ho := ho.up t9
  have ho' := ho'.up t9
  exact ⟨_, rfl, k q9 y9 w z o o' G9 s0 g9 th9 hw oo oo'⟩
end L2
set_option Elab.async false
set_option linter.all false
set_option maxRecDepth 100000
set_option maxHeartbeats 1000000
namespace L2
open PySem PySem.Spec PyProof.Rows
def lastD (n : Int) : PyData → Bool
  | .int i => decide (0 ≤ i) && decide (i < n)
  | _ => false
def lastO (n : Int) : Option PyData → Bool
  | some d => lastD n d
  | none => false
def isdD (n : Int) (d : PyData) : Bool := match d with
  | .tuple (.str w :: ds) => (decide (w = "free") || decide (w = "cut")) && (decide (ds.length = 1 + (if w = "cut" then 1 else 0)) && lastO n ds.getLast?)
  | _ => false
def LayF (d : PyData) : Prop := ∀ d0 ds, d = .tuple (d0 :: ds) → d0.canLay0 = true
theorem lay_word {w : Str} (h : WdS w) : PyData.canLay0 (.str w) = true := by
  rcases h with rfl | rfl | rfl | rfl | rfl | rfl <;> decide +kernel
theorem layF_no {d : PyData} (h : ∀ ds, d ≠ .tuple ds) : LayF d := fun d0 ds e => absurd e (h _)
theorem layF_tup {d0 : PyData} {ds : List PyData} (h : d0.canLay0 = true) : LayF (.tuple (d0 :: ds)) := fun e es z => by cases z; exact h
theorem layF_nil : LayF (.tuple []) := fun e es z => by cases z
theorem lay_l {w : Str} (lw : PyData.canLay0 (.str w) = true) : PyData.canLay0 (.list [.str w]) = true := by show (PyData.canLay0 (.str w) && true) = true; rw [lw]; rfl
set_option maxHeartbeats 4000000 in
theorem things_lay {w : Str} {z : Int} {o o' : PyData} (hw : WdS w) : ∀ d ∈ thingsD w z o o', LayF d := by
  intro d hd
  have lw := lay_word hw
  unfold thingsD sD1 sD2 sD3 sD4 sD5 sD6 sD7 sD8 sD9 at hd
  simp only [List.mem_append, List.mem_cons, List.not_mem_nil, or_false] at hd
  rcases hd with ((((((((h | h | h | h | h | h | h | h | h | h | h | h) | h | h | h | h | h | h | h) | h | h | h | h) | h | h | h | h) | h | h | h | h) | h | h | h | h | h) | h | h | h | h | h) | h | h | h) | h <;> subst h <;> first
    | exact layF_nil
    | exact layF_tup lw
    | exact layF_tup rfl
    | exact layF_tup (lay_l lw)
    | exact layF_tup (lay_t lw)
    | exact layF_tup (d0 := .str "Gone") (by decide +kernel)
    | exact layF_tup (d0 := .str "going") (by decide +kernel)
    | exact layF_tup (d0 := .str "") (by decide +kernel)
    | exact layF_tup (d0 := .str "cut off") (by decide +kernel)
    | exact layF_tup (d0 := .str "free") (by decide +kernel)
    | exact layF_tup (d0 := .str "gone") (by decide +kernel)
    | exact layF_tup (d0 := .str "folded") (by decide +kernel)
    | exact layF_tup (d0 := .str "joined") (by decide +kernel)
    | exact layF_tup (d0 := .str "carried") (by decide +kernel)
    | exact layF_tup (d0 := .str "cut") (by decide +kernel)
    | exact layF_no (fun ds e => by cases e)
theorem odd_no {n m : Int} {ps : List PR} {o : PyData} (hm : m = (ps.length : Int)) (h : OddD m o) : fitD n ps "pairing" o = false := by
  unfold fitD
  rw [if_neg (by decide)]
  cases o with
  | int i =>
    show fitB n ps "pairing" i = false
    unfold fitB
    rw [if_neg (by decide)]
    rcases h i rfl with z | z
    · rw [decide_eq_false (show ¬ 0 ≤ i by omega)]; rfl
    · rw [decide_eq_false (show ¬ i < (ps.length : Int) by omega), Bool.and_false]
  | _ => rfl
theorem fm_k {n : Int} {ps : List PR} {w : Str} {ks : List Str} {ds : List PyData} (hk : kdsOf w = some ks) : formedD n ps (.tuple (.str w :: ds)) = (decide (ds.length = ks.length) && ((ks.zip ds).all fun x => fitD n ps x.1 x.2)) := by
  show (match kdsOf w with | some kds => decide (ds.length = kds.length) && ((kds.zip ds).all fun x => fitD n ps x.1 x.2) | none => false) = _
  rw [hk]
theorem fm_no {n : Int} {ps : List PR} {w : Str} {ds : List PyData} (hk : kdsOf w = none) : formedD n ps (.tuple (.str w :: ds)) = false := by
  show (match kdsOf w with | some kds => decide (ds.length = kds.length) && ((kds.zip ds).all fun x => fitD n ps x.1 x.2) | none => false) = _
  rw [hk]
theorem kd_gone : kdsOf "gone" = some (["pairing"] : List Str) := if_pos rfl
theorem kd_folded : kdsOf "folded" = some (["pairing"] : List Str) := by decide +kernel
theorem kd_joined : kdsOf "joined" = some (["pairing", "pairing"] : List Str) := by decide +kernel
theorem kd_carried : kdsOf "carried" = some (["pairing", "pairing", "side"] : List Str) := by decide +kernel
theorem kd_cut : kdsOf "cut" = some (["pairing", "place"] : List Str) := by decide +kernel
theorem kd_free : kdsOf "free" = some (["place"] : List Str) := by decide +kernel
theorem fm_len {n : Int} {ps : List PR} {w : Str} {ks : List Str} {ds : List PyData} (hk : kdsOf w = some ks) (hl : ds.length ≠ ks.length) : formedD n ps (.tuple (.str w :: ds)) = false := by
  rw [fm_k hk, decide_eq_false hl]; rfl
theorem fm_bad {n : Int} {ps : List PR} {w : Str} {ks : List Str} {ds : List PyData} (hk : kdsOf w = some ks) (hb : ((ks.zip ds).all fun x => fitD n ps x.1 x.2) = false) : formedD n ps (.tuple (.str w :: ds)) = false := by
  rw [fm_k hk, hb, Bool.and_false]
theorem side_no {n : Int} {ps : List PR} {d : PyData} (h : fitS d = false) : fitD n ps "side" d = false := by
  unfold fitD
  rw [if_pos rfl]
  exact h
theorem place_is {n : Int} {ps : List PR} {d : PyData} (h : fitD n ps "place" d = true) : lastD n d = true := by
  unfold fitD at h
  rw [if_neg (by decide)] at h
  cases d with
  | int i =>
    have h : fitB n ps "place" i = true := h
    unfold fitB at h
    rw [if_pos rfl] at h
    exact h
  | _ => cases h
set_option maxHeartbeats 8000000 in
theorem things_ok {n m : Int} {ps : List PR} {w : Str} {z : Int} {o o' : PyData} (hm : m = (ps.length : Int)) (hw : WdS w) (ho : OddD m o) (ho' : OddD m o') : ∀ d ∈ thingsD w z o o', formedD n ps d = true → isdD n d = true := by
  have a1 := odd_no (n := n) hm ho
  have a2 := odd_no (n := n) hm ho'
  have kw : ∃ ks, kdsOf w = some ks ∧ (ks = (["pairing"] : List Str) ∨ ks = (["pairing", "pairing"] : List Str) ∨ ks = (["pairing", "pairing", "side"] : List Str) ∨ ks = (["pairing", "place"] : List Str) ∨ ks = (["place"] : List Str)) := by
    rcases hw with rfl | rfl | rfl | rfl | rfl | rfl
    · exact ⟨_, kd_gone, .inl rfl⟩
    · exact ⟨_, kd_folded, .inl rfl⟩
    · exact ⟨_, kd_joined, .inr (.inl rfl)⟩
    · exact ⟨_, kd_carried, .inr (.inr (.inl rfl))⟩
    · exact ⟨_, kd_cut, .inr (.inr (.inr (.inl rfl)))⟩
    · exact ⟨_, kd_free, .inr (.inr (.inr (.inr rfl)))⟩
  obtain ⟨ks, hk, kc⟩ := kw
  have no : ∀ {d : PyData}, formedD n ps d = false → formedD n ps d = true → isdD n d = true := fun e e' => by rw [e] at e'; cases e'
  intro d hd
  unfold thingsD sD1 sD2 sD3 sD4 sD5 sD6 sD7 sD8 sD9 at hd
  simp only [List.mem_append, List.mem_cons, List.not_mem_nil, or_false] at hd
  have free1 : ∀ d, formedD n ps (.tuple [.str "free", d]) = true → isdD n (.tuple [.str "free", d]) = true := fun d e => by
    rw [fm_k kd_free] at e
    simp only [List.zip_cons_cons, List.zip_nil_right, List.all_cons, List.all_nil, Bool.and_true, Bool.and_eq_true] at e
    have := place_is e.2
    show ((decide (("free" : Str) = "free") || decide (("free" : Str) = "cut")) && (decide (1 = 1 + (if ("free" : Str) = "cut" then 1 else 0)) && lastD n d)) = true
    rw [this, if_neg (by decide), decide_eq_true rfl]
    rfl
  have cut2 : ∀ c d, formedD n ps (.tuple [.str "cut", c, d]) = true → isdD n (.tuple [.str "cut", c, d]) = true := fun c d e => by
    rw [fm_k kd_cut] at e
    simp only [List.zip_cons_cons, List.zip_nil_right, List.all_cons, List.all_nil, Bool.and_true, Bool.and_eq_true] at e
    have := place_is e.2.2
    show ((decide (("cut" : Str) = "free") || decide (("cut" : Str) = "cut")) && (decide (2 = 1 + (if ("cut" : Str) = "cut" then 1 else 0)) && lastD n d)) = true
    rw [this, if_pos rfl, decide_eq_true (show ("cut" : Str) = "cut" from rfl), Bool.or_true]
    rfl
  rcases hd with ((((((((h | h | h | h | h | h | h | h | h | h | h | h) | h | h | h | h | h | h | h) | h | h | h | h) | h | h | h | h) | h | h | h | h) | h | h | h | h | h) | h | h | h | h | h) | h | h | h) | h <;> subst h
  · exact no rfl
  · exact no rfl
  · exact no rfl
  · exact no rfl
  · exact no rfl
  · exact no rfl
  · exact no rfl
  · exact no rfl
  · exact no rfl
  · exact no rfl
  · exact no rfl
  · exact no rfl
  · exact no rfl
  · refine no (fm_len hk ?_)
    rcases kc with rfl | rfl | rfl | rfl | rfl <;> (show (0 : Nat) ≠ _; simp)
  · exact no (fm_no (by decide +kernel))
  · exact no (fm_no (by decide +kernel))
  · exact no (fm_no (by decide +kernel))
  · exact no (fm_no (by decide +kernel))
  · exact free1 o
  · exact no (fm_bad kd_gone (by simp only [List.zip_cons_cons, List.all_cons, a1, Bool.false_and]))
  · exact no (fm_bad kd_folded (by simp only [List.zip_cons_cons, List.all_cons, a1, Bool.false_and]))
  · exact no (fm_bad kd_joined (by simp only [List.zip_cons_cons, List.all_cons, a1, Bool.false_and]))
  · exact no (fm_bad kd_carried (by simp only [List.zip_cons_cons, List.all_cons, a1, Bool.false_and]))
  · exact no (fm_bad kd_carried (by simp only [List.zip_cons_cons, List.all_cons, a1, Bool.false_and]))
  · exact no (fm_bad kd_cut (by simp only [List.zip_cons_cons, List.all_cons, a1, Bool.false_and]))
  · exact no (fm_bad kd_joined (by simp only [List.zip_cons_cons, List.all_cons, a1, Bool.false_and, Bool.and_false]))
  · exact cut2 _ _
  · exact no (fm_bad kd_carried (by simp only [List.zip_cons_cons, List.all_cons, a1, Bool.false_and, Bool.and_false]))
  · exact no (fm_bad kd_carried (by simp only [List.zip_cons_cons, List.all_cons, a1, Bool.false_and]))
  · exact no (fm_len kd_gone (by show (2 : Nat) ≠ 1; decide))
  · exact no (fm_len kd_folded (by show (2 : Nat) ≠ 1; decide))
  · exact no (fm_len kd_joined (by show (3 : Nat) ≠ 2; decide))
  · exact no (fm_len kd_carried (by show (2 : Nat) ≠ 3; decide))
  · exact no (fm_len kd_carried (by show (4 : Nat) ≠ 3; decide))
  · exact no (fm_len kd_cut (by show (3 : Nat) ≠ 2; decide))
  · exact no (fm_len kd_cut (by show (1 : Nat) ≠ 2; decide))
  · exact no (fm_len kd_free (by show (2 : Nat) ≠ 1; decide))
  · exact no (fm_len kd_joined (by show (1 : Nat) ≠ 2; decide))
  · exact no (fm_bad kd_carried (by simp only [List.zip_cons_cons, List.all_cons, side_no (n := n) (ps := ps) (d := .str "High") (by decide +kernel), Bool.false_and, Bool.and_false]))
  · exact no (fm_bad kd_carried (by simp only [List.zip_cons_cons, List.all_cons, side_no (n := n) (ps := ps) (d := .str "") (by decide +kernel), Bool.false_and, Bool.and_false]))
  · rcases kc with rfl | rfl | rfl | rfl | rfl
    · exact no (fm_len hk (by show (3 : Nat) ≠ 1; decide))
    · exact no (fm_len hk (by show (3 : Nat) ≠ 2; decide))
    · exact no (fm_bad hk (by simp only [List.zip_cons_cons, List.all_cons, side_no (n := n) (ps := ps) (d := .none) rfl, Bool.false_and, Bool.and_false]))
    · exact no (fm_len hk (by show (3 : Nat) ≠ 2; decide))
    · exact no (fm_len hk (by show (3 : Nat) ≠ 1; decide))
  · exact no (fm_bad kd_carried (by simp only [List.zip_cons_cons, List.all_cons, side_no (n := n) (ps := ps) (d := .list [.str "high"]) rfl, Bool.false_and, Bool.and_false]))
  · exact no (fm_bad kd_carried (by simp only [List.zip_cons_cons, List.all_cons, side_no (n := n) (ps := ps) (d := .int 1) rfl, Bool.false_and, Bool.and_false]))
  · exact no (fm_bad kd_carried (by simp only [List.zip_cons_cons, List.all_cons, side_no (n := n) (ps := ps) (d := .bool true) rfl, Bool.false_and, Bool.and_false]))
  · exact no (fm_bad kd_carried (by simp only [List.zip_cons_cons, List.all_cons, side_no (n := n) (ps := ps) (d := .tuple [.str "low"]) rfl, Bool.false_and, Bool.and_false]))
end L2
set_option Elab.async false
set_option linter.all false
set_option maxRecDepth 100000
set_option maxHeartbeats 1000000
namespace L2
open PySem PySem.Spec PyProof.Rows
theorem any_fc (d : PyData) : (([.str "free", .str "cut"] : List PyData).any fun x => PyData.eqv x d) = (match d with | .str w => decide (w = "free") || decide (w = "cut") | _ => false) := by
  cases d with
  | str w =>
    show ((("free" : Str) == w) || ((("cut" : Str) == w) || false)) = _
    rw [Bool.or_false, beq_dec, beq_dec]
  | _ => rfl
theorem lay_fc : PyData.canLayAll0 [.str "free", .str "cut"] = true := by decide +kernel
def spIsDeed : Sp := fun vs H Q _ => ∃ (a pa pb : Addr) (u : V) (d : PyData) (n : Int) (ps : List PR) (L : WL2) (ya yb : List V), vs = [.ref a, u] ∧ HallAt H a pa pb n ps L ya yb ∧ Th H u d ∧ LayF d ∧ ∀ H', Same H H' → Q (.bl (isdD n d)) H'
def tIsDeed (K : PySem.W.Frag) : TS := tSeq (tIfS (tOr (tNot (tB (tCB (fun xs H Q => ∃ x t b, xs = [x, V.ty "tuple"] ∧ TyOf K H x t ∧ W.kitOne K t (Value.type "tuple") = some b ∧ Q (V.bl b) H) (tCons (tVar 1) (tCons (tC (V.ty "tuple")) tNil))))) (tOr (tTest (tOp (rI0 fun i j => V.bl (decide (i < j))) (tCB (fun xs H Q => ∃ p ys, xs = [V.ref p] ∧ (SqL K H p ys ∨ SqT K H p ys) ∧ Q (V.int ys.length) H) (tCons (tVar 1) tNil)) (tC (V.int 2)))) (tTest (tOp (rNotInD K) (tOp (rIxT K) (tVar 1) (tC (V.int 0))) (tLst (tCons (tC (V.str "free")) (tCons (tC (V.str "cut")) tNil))))))) (tRet (tC (V.bl false))) tNext) (tSeq (tIfS (tTest (tOp rNe (tCB (fun xs H Q => ∃ p ys, xs = [V.ref p] ∧ (SqL K H p ys ∨ SqT K H p ys) ∧ Q (V.int ys.length) H) (tCons (tVar 1) tNil)) (tOp (rI0 fun i j => V.int (i + j)) (tC (V.int 2)) (tCB (fun xs H Q => (∃ i, xs = [V.int i] ∧ Q (V.int i) H) ∨ ∃ k, xs = [V.bl k] ∧ Q (V.int (if k = true then 1 else 0)) H) (tCons (tOp rEq (tOp (rIxT K) (tVar 1) (tC (V.int 0))) (tC (V.str "cut"))) tNil))))) (tRet (tC (V.bl false))) tNext) (tRet (tAndV (tCall spWhD [] E0 (tCons (tOp (rIxT K) (tVar 1) (tUn (rU fun i => V.int (-i)) (tC (V.int 1)))) tNil)) (tChain (rI0 fun i j => V.bl (decide (i ≤ j))) (rI0 fun i j => V.bl (decide (i < j))) (tC (V.int 0)) (tOp (rIxT K) (tVar 1) (tUn (rU fun i => V.int (-i)) (tC (V.int 1)))) (tOp (rIxT K) (tVar 0) (tC (V.int 0)))))))
theorem at_last (x : V) (xs : List V) (h : xs ≠ []) : atI (x :: xs) (-1) = some (xs.getLast h) := by
  have e : x :: xs = (x :: xs.dropLast) ++ [xs.getLast h] := by rw [List.cons_append, List.dropLast_concat_getLast]
  rw [e]
  exact atI_last _ _
set_option maxHeartbeats 4000000 in
theorem isdeed_reads {K : PySem.W.Frag} {H : Hp} {Q : VK} {Z : L2.St → Hp → Prop} {a pa pb : Addr} {u : V} {d : PyData} {n : Int} {ps : List PR} {L : WL2} {ya yb : List V} (h : HallAt H a pa pb n ps L ya yb) (hu : Th H u d) (lf : LayF d) (k : ∀ H', Same H H' → Q (.bl (isdD n d)) H') : tIsDeed K { nx := Z, rt := Q } [some (.ref a), some u] H := by
  refine ⟨_, rfl, u, _, _, rfl, hu.ty, kit_tup d, _, rfl, ?_⟩
  cases hT : isTup d with
  | false =>
    have e : isdD n d = false := by cases d <;> first | rfl | cases hT
    rw [e] at k
    exact iteT (iteT (k H (Same.refl H)))
  | true =>
    obtain ⟨ds, rfl⟩ : ∃ ds, d = .tuple ds := by
      cases d <;> first | exact ⟨_, rfl⟩ | cases hT
    refine iteF ?_
    obtain ⟨q, rfl⟩ : ∃ q, u = .ref q := by cases hu; exact ⟨_, rfl⟩
    obtain ⟨xs, hq, lx, hx⟩ := hu.parts
    refine ⟨_, rfl, q, _, rfl, .inr (SqT.of hq), _, _, rfl, rfl, _, rfl, ?_⟩
    by_cases l2 : (xs.length : Int) < 2
    · rw [decide_eq_true l2]
      have e : isdD n (.tuple ds) = false := by
        rcases ds with _ | ⟨d0, _ | ⟨d1, ds⟩⟩
        · rfl
        · cases d0 with
          | str w =>
            show ((decide (w = "free") || decide (w = "cut")) && (decide (0 = 1 + (if w = "cut" then 1 else 0)) && false)) = false
            rw [Bool.and_false, Bool.and_false]
          | _ => rfl
        · exfalso; simp only [List.length_cons] at lx; omega
      rw [e] at k
      exact iteT (iteT (k H (Same.refl H)))
    rw [decide_eq_false l2]
    obtain ⟨x0, us, rfl⟩ : ∃ x0 us, xs = x0 :: us := by
      cases xs with
      | nil => exact absurd (show ((0 : Nat) : Int) < 2 by decide) l2
      | cons x0 us => exact ⟨_, _, rfl⟩
    obtain ⟨d0, es, rfl⟩ : ∃ d0 es, ds = d0 :: es := by
      cases ds with
      | nil => cases lx
      | cons d0 es => exact ⟨_, _, rfl⟩
    have h0 : Th H x0 d0 := hx 0 x0 d0 rfl rfl
    have lu : us.length = es.length := by simpa using lx
    have hun : us ≠ [] := fun z => by subst z; exact l2 (by show ((1 : Nat) : Int) < 2; decide)
    have l0 := lf d0 es rfl
    refine iteF ⟨_, rfl, q, _, _, _, rfl, rfl, SqT.of hq, at_hd _ _, (by show 2 ≤ sizeLine; decide), fun p hp => ?_⟩
    have s1 := Same.nw (o := .lst [V.str "free", V.str "cut"]) (Same.refl H) hp
    have f1 : (upd H p (.lst [V.str "free", V.str "cut"])) p = some (.lst [V.str "free", V.str "cut"]) := upd_same
    generalize upd H p (.lst [V.str "free", V.str "cut"]) = H1 at s1 f1 ⊢
    have q1 := s1 _ _ hq
    refine ⟨d0, [.str "free", .str "cut"], ((ThL.cons (.str _) (ThL.cons (.str _) ThL.nil)).lst f1).di, (h0.up s1).di, lay_fc, l0, (by decide +kernel), _, rfl, ?_⟩
    rw [any_fc]
    cases d0 with
    | str w =>
      obtain rfl : x0 = .str w := by cases h0; rfl
      show if (!(decide (w = "free") || decide (w = "cut"))) = true then _ else _
      cases hfc : (decide (w = "free") || decide (w = "cut")) with
      | false =>
        have e : isdD n (.tuple (.str w :: es)) = false := by
          show ((decide (w = "free") || decide (w = "cut")) && _) = false
          rw [hfc, Bool.false_and]
        rw [e] at k
        exact iteT (k H1 s1)
      | true =>
        refine iteF ?_
        refine ⟨_, rfl, q, _, rfl, .inr (SqT.of q1), _, rfl, q, _, _, _, rfl, rfl, SqT.of q1, at_hd _ _, rfl, .inr ⟨_, rfl, _, _, rfl, rfl, rfl, _, rfl, ?_⟩⟩
        have ew : decide (V.str w = V.str "cut") = decide (w = "cut") := by
          by_cases c : w = "cut"
          · rw [decide_eq_true c, decide_eq_true (by rw [c])]
          · rw [decide_eq_false c, decide_eq_false (fun z => c (V.str.inj z))]
        rw [ew]
        have el : (if decide (w = "cut") = true then (1 : Int) else 0) = ((if w = "cut" then 1 else 0 : Nat) : Int) := by
          by_cases c : w = "cut"
          · rw [decide_eq_true c, if_pos rfl, if_pos c]; rfl
          · rw [decide_eq_false c, if_neg (by decide), if_neg c]; rfl
        rw [el]
        have ei : isdD n (.tuple (.str w :: es)) = (decide (es.length = 1 + (if w = "cut" then 1 else 0)) && lastO n es.getLast?) := by
          show ((decide (w = "free") || decide (w = "cut")) && _) = _
          rw [hfc, Bool.true_and]
        rw [ei] at k
        generalize (if w = "cut" then 1 else 0 : Nat) = cc at k ⊢
        by_cases hl : es.length = 1 + cc
        rotate_left
        · rw [decide_eq_false (fun z => hl (by have := V.int.inj z; rw [List.length_cons] at this; omega))]
          rw [decide_eq_false hl] at k
          exact iteT (k H1 s1)
        rw [decide_eq_true (by rw [List.length_cons]; congr 1; omega)]
        rw [decide_eq_true hl, Bool.true_and] at k
        refine iteF ?_
        have hen : es ≠ [] := fun z => by subst z; simp at hl; omega
        have elast : es.getLast? = some (es.getLast hen) := List.getLast?_eq_some_getLast hen
        rw [elast] at k
        have k : ∀ H', Same H H' → Q (.bl (lastD n (es.getLast hen))) H' := k
        have thl : Th H1 (us.getLast hun) (es.getLast hen) := by
          have i1 : us[us.length - 1]? = some (us.getLast hun) := by rw [← List.getLast?_eq_getElem?]; exact List.getLast?_eq_some_getLast hun
          have i2 : es[us.length - 1]? = some (es.getLast hen) := by rw [lu, ← List.getLast?_eq_getElem?]; exact elast
          exact (hx (us.length - 1 + 1) _ _ (by simpa using i1) (by simpa using i2)).up s1
        generalize es.getLast hen = dl at thl k
        refine ⟨_, rfl, 1, rfl, q, _, _, _, rfl, rfl, SqT.of q1, at_last _ _ hun, _, dl, rfl, thl, _, rfl, ?_⟩
        generalize hxl : us.getLast hun = xl at thl ⊢
        have at1 : atI (V.str w :: us) (-1) = some xl := by rw [at_last _ _ hun, hxl]
        cases thl with
        | int i =>
          have h1 := h.up s1
          have k : ∀ H', Same H H' → Q (.bl (decide (0 ≤ i) && decide (i < n))) H' := k
          refine iteT ⟨_, rfl, 1, rfl, q, _, _, _, rfl, rfl, SqT.of q1, at1, _, _, rfl, rfl, _, rfl, ?_⟩
          cases c0 : decide (0 ≤ i) with
          | false => rw [c0] at k; exact iteF (k H1 s1)
          | true =>
            rw [c0] at k
            exact iteT ⟨_, rfl, a, _, _, _, rfl, rfl, SqT.of h1.h, rfl, _, _, rfl, rfl, k H1 s1⟩
        | _ => exact iteF (k H1 s1)
    | _ => exact iteT (k H1 s1)
theorem one_sort (W : WL2) : ∃ S0, ∀ S, SortsOf W S → S = S0 := by
  by_cases h : ∃ S, SortsOf W S
  · obtain ⟨S0, h0⟩ := h
    exact ⟨S0, fun S hS => sorts_uni hS h0⟩
  · exact ⟨[], fun S hS => absurd ⟨S, hS⟩ h⟩
theorem paF_zero {L : WL2} (nL : Norm L) : paF 0 0 L = [] := by
  unfold paF
  exact takeF_neg (dropF_norm nL).pos (by decide)
def tFin31 (K : PySem.W.Frag) (cN : Addr) : TS := (tSeq (tIfS (tAnd (tTest (tOp (rEqD K fun b => b) (tVar 3) (tLst tNil))) (tTest (tOp (rI0 fun i j => V.bl (decide (j < i))) (tVar 2) (tC (V.int 0))))) (tRet (tOp (rEqD K fun b => b) (tOp (rIxT K) (tCallX (spDeedR cN r31) (fun x x_1 x_2 => False) (tCons (tVar 1) (tCons (tTup (tCons (tC (V.str "free")) (tCons (tC (V.int 0)) tNil))) tNil))) (tC (V.int 0))) (tTup (tCons (tC (V.int 0)) (tCons (tLst tNil) (tCons (tLst tNil) tNil)))))) tNext) (tRet (tC (V.bl true))))
def tLaw31 (K : PySem.W.Frag) (cN : Addr) : TS := tSeq (tAsg (tCall (spHallD K) [] E0 (tCons (tVar 0) (tCons (tC (V.int 1)) tNil))) (gName 1)) (tSeq (tAsg (tVar 1) (gTup K 3 (gCons (gName 2) (gCons (gName 3) (gCons (gName 4) gNil))))) (tSeq (tFor (iRng1 (tCons (tC (V.int 3)) tNil)) (gName 5) (tFor (iList K (tCall spThings [] E0 (tCons (tCB (fun xs H Q => ∃ p ys, xs = [V.ref p] ∧ (SqL K H p ys ∨ SqT K H p ys) ∧ Q (V.int ys.length) H) (tCons (tVar 3) tNil)) (tCons (tCall (spBigD K) [] E0 (tCons (tVar 0) (tCons (tOp (rI0 fun i j => V.int (i + j)) (tC (V.int 41)) (tVar 5)) tNil))) tNil)))) (gName 6) (tIfS (tAnd (tNot (tB (tCall spIsDeed [] E0 (tCons (tVar 1) (tCons (tVar 6) tNil))))) (tNot (tB (tCall (spRefusedG K r31) [] E0 (tCons (tVar 1) (tCons (tVar 6) tNil)))))) (tRet (tC (V.bl false))) tNext))) (tFin31 K cN)))
theorem eqv_nilL (xs : List PyData) : PyData.eqv (.list xs) (.list []) = xs.isEmpty := by
  cases xs with
  | nil => rfl
  | cons x r => rfl
set_option maxHeartbeats 4000000 in
theorem fin31_reads {K : PySem.W.Frag} {H : Hp} {Q : VK} {Z : L2.St → Hp → Prop} {cN c pa pb : Addr} {n : Int} {ps : List PR} {L : WL2} {ya yb : List V} {x0 x5 x6 : Option V} (h : HallAt H c pa pb n ps L ya yb) (ok : HlOk n ps L) (k : ∀ H', Q (.bl true) H') : tFin31 K cN { nx := Z, rt := Q } [x0, some (.ref c), some (.int n), some (.ref pa), some (.ref pb), x5, x6] H := by
  have nL := wok_norm ok.w
  have lL := ok.w.ook.1
  have l62 := ok.len
  refine ⟨_, rfl, (by show 0 ≤ sizeLine; decide), fun e he => ?_⟩
  have s1 := Same.nw (o := .lst []) (Same.refl H) he
  have f1 : (upd H e (.lst [])) e = some (.lst []) := upd_same
  generalize upd H e (.lst []) = H1 at s1 f1 ⊢
  have h1 := h.up s1
  refine ⟨_, _, h1.ca.di (SqL.of h1.ha) (pVs_flat ps), (ThL.nil.lst f1).di, ?_, rfl, ?_, _, rfl, ?_⟩
  · exact lay_dCps _
  · show PyData.depthAll _ + 1 ≤ 60
    have := dep_dCps (ps.map pV)
    omega
  rw [eqv_nilL]
  cases hps : ps with
  | cons p r => exact iteF (k H1)
  | nil =>
    refine iteT ⟨_, rfl, _, _, rfl, rfl, _, rfl, ?_⟩
    by_cases n0 : 0 < n
    rotate_left
    · rw [decide_eq_false n0]
      exact iteF (k H1)
    rw [decide_eq_true n0]
    refine iteT ?_
    subst hps
    refine ⟨_, rfl, (by show 2 ≤ sizeLine; decide), fun q hq => ?_⟩
    have s2 := Same.nw (o := .tup [.str "free", .int 0]) (Same.refl H1) hq
    have f2 : (upd H1 q (.tup [.str "free", .int 0])) q = some (.tup [.str "free", .int 0]) := upd_same
    generalize upd H1 q (.tup [.str "free", .int 0]) = H2 at s2 f2 ⊢
    have h2 := h1.up s2
    obtain ⟨S0, hS0⟩ := one_sort (paF 0 n L)
    have fd : formedD n [] (.tuple [.str "free", .int 0]) = true := by
      rw [fm_k kd_free]
      show (decide (1 = 1) && (fitD n [] "place" (.int 0) && true)) = true
      unfold fitD
      rw [if_neg (by decide)]
      show (true && (fitB n [] "place" 0 && true)) = true
      unfold fitB
      rw [if_pos rfl, decide_eq_true n0]
      rfl
    refine ⟨c, pa, pb, .ref q, n, [], L, ya, yb, some (0, [], paF 0 0 L, S0), rfl, h2, Nat.zero_le _, ⟨_, (ThL.cons (.str _) (ThL.cons (.int _) ThL.nil)).tup f2, .inr ⟨fd, q, 0, rfl, f2, Int.le_refl _, n0, nL, by omega, (fun z => by cases z), fun _ S so => by rw [hS0 S so]⟩⟩, (fun z => by cases z), fun out eo cc a' pa' pb' pc' ya' yb' yc' H3 s3 _ _ _ _ _ _ _ t => ?_⟩
    cases eo
    refine ⟨cc, _, _, _, rfl, rfl, SqT.of t.hc, rfl, (by show 0 ≤ sizeLine; decide), fun e1 he1 => ⟨(by show 0 ≤ sizeLine; decide), fun e2 he2 => ⟨(by show 3 ≤ sizeLine; decide), fun e3 he3 => ?_⟩⟩⟩
    have t1 := Same.nw (o := .lst []) (Same.refl H3) he1
    have g1 : (upd H3 e1 (.lst [])) e1 = some (.lst []) := upd_same
    generalize upd H3 e1 (.lst []) = H4 at t1 g1 he2 he3 ⊢
    have t2 := Same.nw (o := .lst []) (Same.refl H4) he2
    have g2 : (upd H4 e2 (.lst [])) e2 = some (.lst []) := upd_same
    generalize upd H4 e2 (.lst []) = H5 at t2 g2 he3 ⊢
    have t3 := Same.nw (o := .tup [.int 0, .ref e1, .ref e2]) (Same.refl H5) he3
    have g3 : (upd H5 e3 (.tup [.int 0, .ref e1, .ref e2])) e3 = some (.tup [.int 0, .ref e1, .ref e2]) := upd_same
    generalize upd H5 e3 (.tup [.int 0, .ref e1, .ref e2]) = H6 at t3 g3 ⊢
    have hz := (t.hall.up (t1.trans (t2.trans t3))).di (K := K)
    have ez : dHall 0 (([] : List PR).map pV) (paF 0 0 L) = .tuple [.int 0, .list [], .list []] := by rw [paF_zero nL]; rfl
    have hz : DI K H6 (.ref a') (.tuple [.int 0, .list [], .list []]) := by rw [← ez]; exact hz
    refine ⟨_, _, hz, ((ThL.cons (.int 0) (ThL.cons (ThL.nil.lst ((t2.trans t3) _ _ g1)) (ThL.cons (ThL.nil.lst (t3 _ _ g2)) ThL.nil))).tup g3).di, rfl, rfl, (by decide +kernel), ?_⟩
    exact k H6
set_option maxHeartbeats 4000000 in
theorem law31_reads {K : PySem.W.Frag} {H : Hp} {Q : VK} {Z : L2.St → Hp → Prop} {cN sc : Addr} {ns : List Int} (hS : SqL K H sc (ns.map V.int)) (k : ∀ H', Q (.bl true) H') :
    tLaw31 K cN { nx := Z, rt := Q } [some (.ref sc), none, none, none, none, none, none] H := by
  refine ⟨_, rfl, sc, ns, 1, rfl, hS, fun c pa pb n ps L ya yb H1 s1 e1 e2 e3 ne h ok => ?_⟩
  refine ⟨_, rfl, c, _, rfl, SqT.of h.h, rfl, _, _, rfl, _, _, rfl, _, _, rfl, rfl, ?_⟩
  have yl := h.len
  have l62 := ok.len
  refine ⟨3, rfl, by decide, by decide, for_range (n := 3) (fun j σ H' => ∃ (x5 x6 : Option V), σ = [some (.ref sc), some (.ref c), some (.int n), some (.ref pa), some (.ref pb), x5, x6] ∧ Same H1 H') ⟨_, _, rfl, Same.refl _⟩ ?_ ?_⟩
  · rintro j σ H2 hj ⟨x5, x6, rfl, s2⟩
    have ec : (41 : Int) + (0 + (j : Int)) = ((41 + j : Nat) : Int) := by omega
    have h2 := h.up s2
    refine ⟨_, rfl, pa, ya, rfl, .inl (SqL.of h2.ha), _, rfl, _, rfl, _, _, rfl, rfl, sc, ns, 41 + j, ?_, (s1.trans s2).seq hS, fun b hb => ?_⟩
    · show [V.ref sc, V.int ((41 : Int) + (0 + (j : Int)))] = _
      rw [ec]
    refine ⟨(ya.length : Int), b, rfl, by omega, fun q ys w z o o' H3 s3 hq ths hw oo oo' => ?_⟩
    have h3 := h2.up s3
    have hok := things_ok (n := n) (z := z) (ps := ps) (show (ya.length : Int) = (ps.length : Int) by rw [yl]) hw oo oo'
    have hly := things_lay (z := z) (o := o) (o' := o') hw
    refine ⟨q, rfl, ⟨_, SqL.of hq⟩, for_list (K := K) (a := q) (xs := ys) (fun i σ H' => ∃ (x6 : Option V), σ = [some (.ref sc), some (.ref c), some (.int n), some (.ref pa), some (.ref pb), some (.int (0 + (j : Int))), x6] ∧ Same H3 H') ⟨_, rfl, Same.refl _⟩ (fun i σ H' _ z => by obtain ⟨_, _, z⟩ := z; exact SqL.of (z _ _ hq)) ?_ ?_⟩
    · rintro i u σ H4 hu ⟨x6, rfl, s4⟩
      have il : i < (thingsD w z o o').length := by rw [← ths.1]; exact (List.getElem?_eq_some_iff.mp hu).1
      have ed := List.getElem?_eq_getElem il
      have tu := (ths.2 i u _ hu ed).up s4
      have dm := List.getElem_mem il
      generalize (thingsD w z o o')[i] = d at ed tu dm
      have h4 := h3.up s4
      refine ⟨_, rfl, _, rfl, c, pa, pb, u, d, n, ps, L, ya, yb, rfl, h4, tu, hly d dm, fun H5 s5 => ⟨_, rfl, ?_⟩⟩
      cases hi : isdD n d with
      | true => exact iteF (iteF ⟨_, rfl, s4.trans s5⟩)
      | false =>
        have fn : formedD n ps d = false := by
          cases hf : formedD n ps d with
          | false => rfl
          | true => rw [hok d dm hf] at hi; cases hi
        refine iteT ⟨_, rfl, _, rfl, c, pa, pb, u, n, ps, L, ya, yb, rfl, h4.up s5, by omega, ⟨d, tu.up s5, .inl ⟨fn, rfl⟩⟩, fun H6 s6 => ⟨_, rfl, iteF ⟨_, rfl, s4.trans (s5.trans s6)⟩⟩⟩
    · rintro σ H4 ⟨x6, rfl, s4⟩
      exact ⟨_, _, rfl, s2.trans (s3.trans s4)⟩
  · rintro σ H2 ⟨x5, x6, rfl, s2⟩
    exact fin31_reads (h.up s2) ok k
end L2
set_option Elab.async false
set_option linter.all false
set_option maxRecDepth 100000
set_option maxHeartbeats 1000000
namespace Toy
open PySem L2 PyProof.Rows
def top (i : Nat) : Stmt := PySem.Challenge.pw_farcords_k31_no_deeds.main.body.getD i (.Pass ⟨0, 0, 0, 0⟩)
structure Kn (P : Program) (w : World) (K : PySem.W.Frag) (mg : Str → Option Value) (base : Heap) (x : Str) (k : Nat) (ps : List Str) (sp : Sp) : Prop where
  ex : ∃ (f : Addr) (fd : FuncData), FnOk P w K mg base CX0 k f fd ps sp ∧ mg x = some (.ref f) ∧ PySem.W.keepIn K (.ref f) = true ∧ Binds K fd ps []
theorem pe_callD {X : Cx} {x : Str} {k j : Nat} {ps : List Str} {sp : Sp} {e : Expr} {es : List Expr} {t : TA} {p pos : PySem.Pos} (G : Kn X.prog X.w X.K X.mg X.base x k ps sp) (hr : Room j X.A) (hg : Gl X x) (ha : PA X (e :: es) t) (hle : k ≤ j := by decide)
    (hdb : (x == ("__debug__" : Str)) = false := by decide)
    (he : starEach (e :: es) X.env = (false, eval e X.env) :: starEach es X.env := by rfl) (hpl : (backTo pos (starEach es X.env)).any (·.1) = false := by rfl) : PE X (.Call (.Name x p) (e :: es) [] pos) (tCall sp [] E0 t) := by
  obtain ⟨f, fd, F, hm, hk, hb⟩ := G.ex
  exact pe_call F (hr.mono hle) hg hm hk hb .nil pass0 ha hdb he hpl
structure Txt (mg : Str → Option Value) : Prop where
  len : mg "len" = none
  range : mg "range" = none
  min : mg "min" = none
  max : mg "max" = none
  isinstance : mg "isinstance" = none
  bool : mg "bool" = none
  int : mg "int" = none
  tuple : mg "tuple" = none
  list : mg "list" = none
  str : mg "str" = none
  all : mg "all" = none
  sum : mg "sum" = none
  sorted : mg "sorted" = none
end Toy
namespace Toy
open PySem L2 PyProof.Rows
structure Gb (mg : Str → Option Value) : Prop where
  ab : mg "abs" = none
  zp : mg "zip" = none
  dm : mg "divmod" = none
  ve : mg "ValueError" = none
structure Exs (K : PySem.W.Frag) (mg : Str → Option Value) (c_CordError c_TooMany c_NoDeed c_NoRow c_NoCord c_NoTurn c_NoText c_NoSheet c_NoName : Addr) : Prop where
  m_CordError : mg "CordError" = some (.ref c_CordError)
  m_TooMany : mg "TooMany" = some (.ref c_TooMany)
  m_NoDeed : mg "NoDeed" = some (.ref c_NoDeed)
  m_NoRow : mg "NoRow" = some (.ref c_NoRow)
  m_NoCord : mg "NoCord" = some (.ref c_NoCord)
  m_NoTurn : mg "NoTurn" = some (.ref c_NoTurn)
  m_NoText : mg "NoText" = some (.ref c_NoText)
  m_NoSheet : mg "NoSheet" = some (.ref c_NoSheet)
  m_NoName : mg "NoName" = some (.ref c_NoName)
  x_CordError : XCls K c_CordError
  x_TooMany : XCls K c_TooMany
  x_NoDeed : XCls K c_NoDeed
  x_NoRow : XCls K c_NoRow
  x_NoCord : XCls K c_NoCord
  x_NoTurn : XCls K c_NoTurn
  x_NoText : XCls K c_NoText
  x_NoSheet : XCls K c_NoSheet
  x_NoName : XCls K c_NoName
  e_NoDeed : PySem.W.excIn K c_NoDeed bmV "ValueError.__new__" = true
  v_NoDeed : PySem.W.subIn K (.ref c_NoDeed) (.type "ValueError") = some true
  s_NoDeed_CordError : PySem.W.subIn K (.ref c_NoDeed) (.ref c_CordError) = some true
  s_NoDeed_TooMany : PySem.W.subIn K (.ref c_NoDeed) (.ref c_TooMany) = some false
  s_NoDeed_NoDeed : PySem.W.subIn K (.ref c_NoDeed) (.ref c_NoDeed) = some true
  s_NoDeed_NoRow : PySem.W.subIn K (.ref c_NoDeed) (.ref c_NoRow) = some false
  s_NoDeed_NoCord : PySem.W.subIn K (.ref c_NoDeed) (.ref c_NoCord) = some false
  s_NoDeed_NoTurn : PySem.W.subIn K (.ref c_NoDeed) (.ref c_NoTurn) = some false
  s_NoDeed_NoText : PySem.W.subIn K (.ref c_NoDeed) (.ref c_NoText) = some false
  s_NoDeed_NoSheet : PySem.W.subIn K (.ref c_NoDeed) (.ref c_NoSheet) = some false
  s_NoDeed_NoName : PySem.W.subIn K (.ref c_NoDeed) (.ref c_NoName) = some false
structure Nms (w : World) (K : PySem.W.Frag) (mg : Str → Option Value) (aF aD aS g1 g2 g3 g4 g5 g6 d1 d2 d3 d4 d5 d6 : Addr) : Prop where
  mF : mg "FORMS" = some (.ref aF)
  mD : mg "DEEDS" = some (.ref aD)
  mS : mg "SIDES" = some (.ref aS)
  kF : KDict w K aF [("gone", g1), ("folded", g2), ("joined", g3), ("carried", g4), ("cut", g5), ("free", g6)]
  kD : KDict w K aD [("gone", d1), ("folded", d2), ("joined", d3), ("carried", d4), ("cut", d5), ("free", d6)]
  tS : ∀ H, SqT K H aS [.str "low", .str "high"]
  t1 : ∀ H, SqT K H g1 [.str "pairing"]
  t2 : ∀ H, SqT K H g2 [.str "pairing"]
  t3 : ∀ H, SqT K H g3 [.str "pairing", .str "pairing"]
  t4 : ∀ H, SqT K H g4 [.str "pairing", .str "pairing", .str "side"]
  t5 : ∀ H, SqT K H g5 [.str "pairing", .str "place"]
  t6 : ∀ H, SqT K H g6 [.str "place"]
structure KnF (P : Program) (w : World) (K : PySem.W.Frag) (mg : Str → Option Value) (base : Heap) (f : Addr) (k : Nat) (ps : List Str) (sp : Sp) : Prop where
  ex : ∃ (fd : FuncData), FnOk P w K mg base (CXE P w) k f fd ps sp ∧ PySem.W.keepIn K (.ref f) = true ∧ Binds K fd ps []
end Toy
namespace Toy
open PySem L2 PyProof.Rows
section
variable {P : Program} {w : World} {K : PySem.W.Frag} {mg : Str → Option Value} {base : Heap} {c_CordError c_TooMany c_NoDeed c_NoRow c_NoCord c_NoTurn c_NoText c_NoSheet c_NoName aF aD aS g1 g2 g3 g4 g5 g6 d1 d2 d3 d4 d5 d6 : Addr}
abbrev s_is_whole : Stmt := top 11
theorem sc_is_whole : FnScope ["thing"] ["thing"] (defScope s_is_whole) := ⟨rfl, rfl, rfl, by decide +kernel, rfl, by decide +kernel, by decide +kernel⟩
theorem ok_whole {f : Addr} {fd : FuncData} (F : Fun K "is_whole" "is_whole" s_is_whole f fd) (M : Txt mg) : FnOk P w K mg base CX0 1 f fd ["thing"] spWhD := by
  have sc := sc_is_whole
  refine F.ok sc (fun vs H Q E h => ?_) (fun cdv A outer s H vs Q E hr h => ?_)
  · obtain ⟨u, d, rfl, _⟩ := h
    rfl
  · obtain ⟨u, d, rfl, h, k⟩ := h
    refine ⟨_, (pss_one (ps_ret (pe_and (pe_callB (call_isinstK (T := "int") (K := K)) (by rfl) M.isinstance boot_isinstance (pa_Name (pv 0) (pa_Name (pe_bltn (v := .ty "int") rfl M.int boot_int rfl) pa_nil))) (pe_one (pe_not (pe_callB (call_isinstK (T := "bool") (K := K)) (by rfl) M.isinstance boot_isinstance (pa_Name (pv 0) (pa_Name (pe_bltn (v := .ty "bool") rfl M.bool boot_bool rfl) pa_nil)))))))), ?_⟩
    exact whD_reads (K := K) h k
abbrev s_is_whole_from : Stmt := top 12
theorem sc_is_whole_from : FnScope ["thing", "least"] ["thing", "least"] (defScope s_is_whole_from) := ⟨rfl, rfl, rfl, by decide +kernel, rfl, by decide +kernel, by decide +kernel⟩
theorem ok_from {f : Addr} {fd : FuncData} (F : Fun K "is_whole_from" "is_whole_from" s_is_whole_from f fd) (M : Txt mg) (Gis_whole : Kn P w K mg base "is_whole" 1 ["thing"] spWhD) : FnOk P w K mg base CX0 2 f fd ["thing", "least"] spFromD := by
  have sc := sc_is_whole_from
  refine F.ok sc (fun vs H Q E h => ?_) (fun cdv A outer s H vs Q E hr h => ?_)
  · obtain ⟨u, d, rfl, _⟩ := h
    rfl
  · obtain ⟨u, d, rfl, h, k⟩ := h
    refine ⟨_, (pss_one (ps_ret (pe_and (pe_callD Gis_whole hr rfl (pa_Name (pv 0) pa_nil)) (pe_one (pe_cmpR op_ge (pv 0) (pv 1) (nomark _)))))), ?_⟩
    exact fromD_reads h k
abbrev s_demand : Stmt := top 50
theorem sc_demand : FnScope ["is_deed"] ["is_deed"] (defScope s_demand) := ⟨rfl, rfl, rfl, by decide +kernel, rfl, by decide +kernel, by decide +kernel⟩
theorem ok_demand {f : Addr} {fd : FuncData} (F : Fun K "demand" "demand" s_demand f fd) (M : Txt mg) (Z : Exs K mg c_CordError c_TooMany c_NoDeed c_NoRow c_NoCord c_NoTurn c_NoText c_NoSheet c_NoName) : FnOk P w K mg base (CXE P w) 1 f fd ["is_deed"] (spDemand c_NoDeed) := by
  have sc := sc_demand
  refine F.okX sc (fun vs H Q E h => ?_) (fun cdv A outer s H vs Q E hd0 hr h => ?_)
  · obtain ⟨b, rfl, _⟩ := h
    rfl
  · obtain ⟨b, rfl, k1, k2⟩ := h
    refine ⟨_, (pss_one (ps_if (PT.nox (pt_not (pt_val (pv 0)))) (pss_one (ps_raise Z.e_NoDeed hd0 Z.m_NoDeed pe_str rfl)) pss_nil)), ?_⟩
    exact demand_reads k1 k2
abbrev s_fits : Stmt := top 60
theorem sc_fits : FnScope ["thing", "kind", "hall", "bound"] ["thing", "kind", "hall"] (defScope s_fits) := ⟨rfl, rfl, rfl, by decide +kernel, rfl, by decide +kernel, by decide +kernel⟩
theorem ok_fits {f : Addr} {fd : FuncData} (F : Fun K "fits" "fits" s_fits f fd) (M : Txt mg) (Gis_whole_from : Kn P w K mg base "is_whole_from" 2 ["thing", "least"] spFromD) (N : Nms w K mg aF aD aS g1 g2 g3 g4 g5 g6 d1 d2 d3 d4 d5 d6) : FnOk P w K mg base CX0 3 f fd ["thing", "kind", "hall"] spFitsD := by
  have sc := sc_fits
  refine F.ok sc (fun vs H Q E h => ?_) (fun cdv A outer s H vs Q E hr h => ?_)
  · obtain ⟨u, d, kd, a, pa, pb, n, ps, L, ya, yb, rfl, _⟩ := h
    rfl
  · obtain ⟨u, d, kd, a, pa, pb, n, ps, L, ya, yb, rfl, h, hu, hk, k⟩ := h
    refine ⟨_, (pss_cons (ps_if (pt_cmpR op_eq (pv 1) pe_str (nomark _)) (pss_one (ps_ret (pe_and (pe_callB (call_isinstK (T := "str") (K := K)) (by rfl) M.isinstance boot_isinstance (pa_Name (pv 0) (pa_Name (pe_bltn (v := .ty "str") rfl M.str boot_str rfl) pa_nil))) (pe_one (pe_cmpR (op_inK (K := K)) (pv 0) (pe_glob (v := .ref _) rfl N.mS rfl) rfl))))) pss_nil)
      (pss_cons (ps_set (i := 3) sc.nd rfl (Or.inl rfl) (pe_ifExp (pt_cmpR op_eq (pv 1) pe_str (nomark _)) (pe_ix (ix_tupK (K := K)) (pv 2) pe_int (fun _ _ => rfl)) (pe_callB (call_lenK (K := K)) (by rfl) M.len PySem.boot_len (pa_Subscript (pe_ix (ix_tupK (K := K)) (pv 2) pe_int (fun _ _ => rfl)) pa_nil))))
      (pss_one (ps_ret (pe_and (pe_callD Gis_whole_from hr rfl (pa_Name (pv 0) (pa_Constant pe_int pa_nil))) (pe_one (pe_cmpR op_lt (pv 0) (pv 3) (nomark _)))))))), ?_⟩
    exact fitsD_reads (K := K) (aS := aS) N.tS h hu hk k
abbrev s_is_formed : Stmt := top 61
theorem sc_is_formed : FnScope ["hall", "deed", "form"] ["hall", "deed"] (defScope s_is_formed) := ⟨rfl, rfl, rfl, by decide +kernel, rfl, by decide +kernel, by decide +kernel⟩
set_option maxHeartbeats 4000000 in
theorem ok_formed {f : Addr} {fd : FuncData} (F : Fun K "is_formed" "is_formed" s_is_formed f fd) (M : Txt mg) (Gfits : Kn P w K mg base "fits" 3 ["thing", "kind", "hall"] spFitsD) (N : Nms w K mg aF aD aS g1 g2 g3 g4 g5 g6 d1 d2 d3 d4 d5 d6) (B : Gb mg) : FnOk P w K mg base CX0 4 f fd ["hall", "deed"] (spFormedD K [("gone", g1), ("folded", g2), ("joined", g3), ("carried", g4), ("cut", g5), ("free", g6)]) := by
  have sc := sc_is_formed
  refine F.ok sc (fun vs H Q E h => ?_) (fun cdv A outer s H vs Q E hr h => ?_)
  · obtain ⟨a, pa, pb, u, d, n, ps, L, ya, yb, rfl, _⟩ := h
    rfl
  · obtain ⟨a, pa, pb, u, d, n, ps, L, ya, yb, rfl, h, hu, k⟩ := h
    refine ⟨_, (pss_cons (ps_if (PW.pt (pw_or (pt_not (pt_val (pe_callB (call_isinstK (T := "tuple") (K := K)) (by rfl) M.isinstance boot_isinstance (pa_Name (pv 1) (pa_Name (pe_bltn (v := .ty "tuple") rfl M.tuple boot_tuple rfl) pa_nil))))) (pw_or (pt_not (pt_truth (pv 1) (fun _ => rfl))) (pw_or (pt_not (pt_val (pe_callB (call_isinstK (T := "str") (K := K)) (by rfl) M.isinstance boot_isinstance (pa_Subscript (pe_ix (ix_tupK (K := K)) (pv 1) pe_int (fun _ _ => rfl)) (pa_Name (pe_bltn (v := .ty "str") rfl M.str boot_str rfl) pa_nil))))) (pw_or1 (pt_cmp (pc_knotin N.kF rfl N.mF (pe_ix (ix_tupK (K := K)) (pv 1) pe_int (fun _ _ => rfl))))))))) (pss_one (ps_ret pe_bl)) pss_nil)
      (pss_cons (ps_set (i := 2) sc.nd rfl (Or.inl rfl) (pe_kget N.kF rfl N.mF (pe_ix (ix_tupK (K := K)) (pv 1) pe_int (fun _ _ => rfl)) (fun _ _ => rfl)) sw_sub)
      (pss_cons (ps_if (pt_cmpR op_ne (pe_callB (call_lenK (K := K)) (by rfl) M.len PySem.boot_len (pa_Name (pv 1) pa_nil)) (pe_op op_add pe_int (pe_callB (call_lenK (K := K)) (by rfl) M.len PySem.boot_len (pa_Name (pv 2) pa_nil))) (nomark _)) (pss_one (ps_ret pe_bl)) pss_nil)
      (pss_one (ps_ret (pe_callB (call_all rfl) (by rfl) M.all boot_all (pa_cons (pe_compG (xs := ["thing", "kind"]) (Nb := ["hall", "deed", "form"]) rfl (pi_zipT rfl B.zp (pa_Subscript (pe_slice (sl_tupKz (K := K)) (pv 1) (po_some pe_int) po_none) (pa_Name (pv 2) pa_nil))) rfl (by show ∀ p ∈ (List.zip ["hall", "deed", "form"] ["hall", "deed", "form"] : List (Str × Str)), _; decide +kernel) (by decide +kernel) (fun cl C s₂ H₂ fp => (pg_tupK (K := K) (n := 2) rfl (pgs_cons (pg_name (i := 0) (by show List.Nodup (["thing", "kind", "hall", "deed", "form"] : List Str); decide +kernel) rfl (Or.inl (lookup_relabel_local rfl)) (Or.inr (lookup_relabel_local rfl))) (pgs_cons (pg_name (i := 1) (by show List.Nodup (["thing", "kind", "hall", "deed", "form"] : List Str); decide +kernel) rfl (Or.inl (lookup_relabel_local rfl)) (Or.inr (lookup_relabel_local rfl))) pgs_nil)))) (fun cl C s₂ H₂ fp => pif_nil) (fun cl C s₂ H₂ fp => (pe_callD Gfits hr rfl (pa_Name (pv 0) (pa_Name (pv 1) (pa_Name (pv 2) pa_nil))))) (by decide +kernel) rfl (by decide +kernel) (by show ∀ y ∈ (_ : List (Str × NameKind)), y.2 = NameKind.free → (defScope s_is_formed).names.lookup y.1 = some .cell; decide +kernel)) pa_nil))))))), ?_⟩
    exact formedD_reads (K := K) (fs_ok N.t1 N.t2 N.t3 N.t4 N.t5 N.t6) h hu k
abbrev s_end_of : Stmt := top 15
theorem sc_end_of : FnScope ["pairing"] ["pairing"] (defScope s_end_of) := ⟨rfl, rfl, rfl, by decide +kernel, rfl, by decide +kernel, by decide +kernel⟩
theorem ok_endof {f : Addr} {fd : FuncData} (F : Fun K "end_of" "end_of" s_end_of f fd) (M : Txt mg) : FnOk P w K mg base CX0 1 f fd ["pairing"] spEndOf := by
  have sc := sc_end_of
  refine F.ok sc (fun vs H Q E h => ?_) (fun cdv A outer s H vs Q E hr h => ?_)
  · obtain ⟨q, p, rfl, _⟩ := h
    rfl
  · obtain ⟨q, p, rfl, h1, k⟩ := h
    refine ⟨_, (pss_one (ps_ret (pe_op op_add (pe_ix (ix_tupK (K := K)) (pv 0) pe_int (fun _ _ => rfl)) (pe_ix (ix_tupK (K := K)) (pv 0) pe_int (fun _ _ => rfl))))), ?_⟩
    exact endof_reads (K := K) h1 k
abbrev s_shaped : Stmt := top 22
theorem sc_shaped : FnScope ["pieces", "runs", "many", "weights"] ["pieces"] (defScope s_shaped) := ⟨rfl, rfl, rfl, by decide +kernel, rfl, by decide +kernel, by decide +kernel⟩
set_option maxHeartbeats 4000000 in
theorem ok_shaped {f : Addr} {fd : FuncData} (F : Fun K "shaped" "shaped" s_shaped f fd) (M : Txt mg) : FnOk P w K mg base CX0 1 f fd ["pieces"] (spShaped K) := by
  have sc := sc_shaped
  refine F.ok sc (fun vs H Q E h => ?_) (fun cdv A outer s H vs Q E hr h => ?_)
  · obtain ⟨a, xs, L, rfl, _⟩ := h
    rfl
  · obtain ⟨a, xs, L, rfl, h1, h2, h3, h4, k⟩ := h
    refine ⟨_, (pss_cons (ps_set (i := 1) sc.nd rfl (Or.inl rfl) (pe_lst pa_nil))
      (pss_cons (ps_for PassesOwn.never rfl (pi_list (pv 0)) (pg_tup rfl (pgs_cons (pg_name (i := 2) sc.nd rfl (Or.inl rfl)) (pgs_cons (pg_name (i := 3) sc.nd rfl (Or.inl rfl)) pgs_nil)))
      (pss_cons (ps_if (pt_cmpR op_eq (pv 2) pe_int (nomark _)) (pss_one ps_continue) pss_nil)
      (pss_one (ps_if (PW.pt (pw_and (pt_truth (pv 1) (fun _ => rfl)) (pw_and1 (pt_cmpR (op_eqD hr) (pe_ix (ix_tupK (K := K)) (pe_ix (ix_listK (K := K)) (pv 1) (pe_un un_neg pe_int) (fun _ _ => rfl)) pe_int (fun _ _ => rfl)) (pv 3) (nomark _))))) (pss_one (ps_asg (pe_tup (pa_o2 (pe_op op_add (pe_ix (ix_tupK (K := K)) (pe_ix (ix_listK (K := K)) (pv 1) (pe_un un_neg pe_int) (fun _ _ => rfl)) pe_int (fun _ _ => rfl)) (pv 2)) (pv 3) pa_nil)) (pg_sub (pv 1) (pe_un un_neg pe_int) set_list))) (pss_one (ps_expr (pe_bm PySem.F.plainAttrs_list PySem.F.slot_list_append PySem.F.type_list_append mt_append (pv 1) (pa_Tuple (pe_tup (pa_o2 (pv 2) (pv 3) pa_nil)) pa_nil))))))))
      (pss_one (ps_ret (pv 1))))), ?_⟩
    exact shaped_reads h1 h2 h3 h4 k
abbrev s_laid_from : Stmt := top 24
theorem sc_laid_from : FnScope ["weighing", "begin", "stretches", "many", "weights"] ["weighing", "begin"] (defScope s_laid_from) := ⟨rfl, rfl, rfl, by decide +kernel, rfl, by decide +kernel, by decide +kernel⟩
set_option maxHeartbeats 4000000 in
theorem ok_laid {f : Addr} {fd : FuncData} (F : Fun K "laid_from" "laid_from" s_laid_from f fd) (M : Txt mg) : FnOk P w K mg base CX0 1 f fd ["weighing", "begin"] (spLaid K) := by
  have sc := sc_laid_from
  refine F.ok sc (fun vs H Q E h => ?_) (fun cdv A outer s H vs Q E hr h => ?_)
  · obtain ⟨a, xs, L, bg, rfl, _⟩ := h
    rfl
  · obtain ⟨a, xs, L, bg, rfl, h1, h2, h3, k⟩ := h
    refine ⟨_, (pss_cons (ps_set (i := 2) sc.nd rfl (Or.inl rfl) (pe_lst pa_nil))
      (pss_cons (ps_for PassesOwn.never rfl (pi_list (pv 0)) (pg_tup rfl (pgs_cons (pg_name (i := 3) sc.nd rfl (Or.inl rfl)) (pgs_cons (pg_name (i := 4) sc.nd rfl (Or.inl rfl)) pgs_nil)))
      (pss_cons (ps_expr (pe_bm PySem.F.plainAttrs_list PySem.F.slot_list_append PySem.F.type_list_append mt_append (pv 2) (pa_Tuple (pe_tup (pa_o3 (pv 1) (pe_op op_add (pv 1) (pv 3)) (pv 4) pa_nil)) pa_nil)))
      (pss_one (ps_aug (i := 1) sc.nd rfl (Or.inl rfl) (pv 3) ip_add))))
      (pss_one (ps_ret (pv 2))))), ?_⟩
    exact laid_reads h1 h2 h3 k
abbrev s_part : Stmt := top 25
theorem sc_part : FnScope ["weighing", "begin", "end", "pieces", "low", "high", "weights"] ["weighing", "begin", "end"] (defScope s_part) := ⟨rfl, rfl, rfl, by decide +kernel, rfl, by decide +kernel, by decide +kernel⟩
set_option maxHeartbeats 4000000 in
theorem ok_part {f : Addr} {fd : FuncData} (F : Fun K "part" "part" s_part f fd) (M : Txt mg) (Glaid_from : Kn P w K mg base "laid_from" 1 ["weighing", "begin"] (spLaid K)) (Gshaped : Kn P w K mg base "shaped" 1 ["pieces"] (spShaped K)) : FnOk P w K mg base CX0 2 f fd ["weighing", "begin", "end"] (spPart K) := by
  have sc := sc_part
  refine F.ok sc (fun vs H Q E h => ?_) (fun cdv A outer s H vs Q E hr h => ?_)
  · obtain ⟨a, xs, L, bg, en, rfl, _⟩ := h
    rfl
  · obtain ⟨a, xs, L, bg, en, rfl, h1, h2, h3, h4, h5, k⟩ := h
    refine ⟨_, (pss_cons (ps_set (i := 3) sc.nd rfl (Or.inl rfl) (pe_lst pa_nil))
      (pss_cons (ps_for PassesOwn.never rfl (pi_list (pe_callD Glaid_from hr rfl (pa_Name (pv 0) (pa_Constant pe_int pa_nil)))) (pg_tup rfl (pgs_cons (pg_name (i := 4) sc.nd rfl (Or.inl rfl)) (pgs_cons (pg_name (i := 5) sc.nd rfl (Or.inl rfl)) (pgs_cons (pg_name (i := 6) sc.nd rfl (Or.inl rfl)) pgs_nil))))
      (pss_one (ps_if (PW.pt (pw_and (pt_cmpR op_lt (pv 4) (pv 2) (nomark _)) (pw_and1 (pt_cmpR op_lt (pv 1) (pv 5) (nomark _))))) (pss_one (ps_expr (pe_bm PySem.F.plainAttrs_list PySem.F.slot_list_append PySem.F.type_list_append mt_append (pv 3) (pa_Tuple (pe_tup (pa_o2 (pe_op op_sub (pe_callB (call_min2 rfl) (by rfl) M.min boot_min (pa_Name (pv 5) (pa_Name (pv 2) pa_nil))) (pe_callB (call_max2 rfl) (by rfl) M.max boot_max (pa_Name (pv 4) (pa_Name (pv 1) pa_nil)))) (pv 6) pa_nil)) pa_nil)))) pss_nil)))
      (pss_one (ps_ret (pe_callD Gshaped hr rfl (pa_Name (pv 3) pa_nil)))))), ?_⟩
    exact part_reads h1 h2 h3 h4 h5 k
abbrev s_sorts : Stmt := top 34
theorem sc_sorts : FnScope ["weighing", "manys", "many", "weights"] ["weighing"] (defScope s_sorts) := ⟨rfl, rfl, rfl, by decide +kernel, rfl, by decide +kernel, by decide +kernel⟩
set_option maxHeartbeats 4000000 in
theorem ok_sorts {f : Addr} {fd : FuncData} (F : Fun K "sorts" "sorts" s_sorts f fd) (M : Txt mg) : FnOk P w K mg base CX0 1 f fd ["weighing"] (spSorts K) := by
  have sc := sc_sorts
  refine F.ok sc (fun vs H Q E h => ?_) (fun cdv A outer s H vs Q E hr h => ?_)
  · obtain ⟨a, xs, W, rfl, _⟩ := h
    rfl
  · obtain ⟨a, xs, W, rfl, h1, h2, h3, k⟩ := h
    refine ⟨_, (pss_cons (ps_set (i := 1) sc.nd rfl (Or.inl rfl) pe_dnewT)
      (pss_cons (ps_for PassesOwn.never rfl (pi_list (pv 0)) (pg_tup rfl (pgs_cons (pg_name (i := 2) sc.nd rfl (Or.inl rfl)) (pgs_cons (pg_name (i := 3) sc.nd rfl (Or.inl rfl)) pgs_nil)))
      (pss_one (ps_dput (hu_of hr) (pv 1) (pv 3) (pe_op op_add (pe_dget2 (hu_of hr) (pv 1) (pv 3) pe_int ⟨rfl, rfl, rfl, rfl⟩) (pv 2)) rfl)))
      (pss_one (ps_ret (pe_callB (call_sortedI hr) (by rfl) M.sorted boot_sorted (pa_Call (pe_ditems (pv 1)) pa_nil)))))), ?_⟩
    exact sorts_reads h1 h2 h3 k
abbrev s_all_end_by : Stmt := top 52
theorem sc_all_end_by : FnScope ["pairings", "end"] ["pairings", "end"] (defScope s_all_end_by) := ⟨rfl, rfl, rfl, by decide +kernel, rfl, by decide +kernel, by decide +kernel⟩
theorem ok_allend {f : Addr} {fd : FuncData} (F : Fun K "all_end_by" "all_end_by" s_all_end_by f fd) (M : Txt mg) (Gend_of : Kn P w K mg base "end_of" 1 ["pairing"] spEndOf) : FnOk P w K mg base CX0 2 f fd ["pairings", "end"] spAllEnd := by
  have sc := sc_all_end_by
  refine F.ok sc (fun vs H Q E h => ?_) (fun cdv A outer s H vs Q E hr h => ?_)
  · obtain ⟨a, ya, ps, e, rfl, _⟩ := h
    rfl
  · obtain ⟨a, ya, ps, e, rfl, h1, h2, h3, k⟩ := h
    refine ⟨_, (pss_one (ps_ret (pe_callB (call_all rfl) (by rfl) M.all boot_all (pa_cons (pe_compG (xs := ["pairing"]) (Nb := ["pairings", "end"]) rfl (pi_list (pv 0)) rfl (by show ∀ p ∈ (List.zip ["pairings", "end"] ["pairings", "end"] : List (Str × Str)), _; decide +kernel) (by decide +kernel) (fun cl C s₂ H₂ fp => (pg_name (i := 0) (by show List.Nodup (["pairing", "pairings", "end"] : List Str); decide +kernel) rfl (Or.inl (lookup_relabel_local rfl)) (Or.inr (lookup_relabel_local rfl)))) (fun cl C s₂ H₂ fp => pif_nil) (fun cl C s₂ H₂ fp => (pe_cmpR op_le (pe_callD Gend_of hr rfl (pa_Name (pv 0) pa_nil)) (pv 2) (nomark _))) (by decide +kernel) rfl (by decide +kernel) (by show ∀ y ∈ (_ : List (Str × NameKind)), y.2 = NameKind.free → (defScope s_all_end_by).names.lookup y.1 = some .cell; decide +kernel)) pa_nil)))), ?_⟩
    exact allend_reads (K := K) h1 h2 h3 k
abbrev s_do_free : Stmt := top 58
theorem sc_do_free : FnScope ["hall", "deed", "n", "pairings", "weighing", "end"] ["hall", "deed"] (defScope s_do_free) := ⟨rfl, rfl, rfl, by decide +kernel, rfl, by decide +kernel, by decide +kernel⟩
set_option maxHeartbeats 4000000 in
theorem ok_dofree {f : Addr} {fd : FuncData} (F : Fun K "do_free" "do_free" s_do_free f fd) (M : Txt mg) (Gdemand : KnX P w K mg base "demand" 1 ["is_deed"] (spDemand c_NoDeed)) (Gall_end_by : Kn P w K mg base "all_end_by" 2 ["pairings", "end"] spAllEnd) (Gpart : Kn P w K mg base "part" 2 ["weighing", "begin", "end"] (spPart K)) (Gsorts : Kn P w K mg base "sorts" 1 ["weighing"] (spSorts K)) : FnOk P w K mg base (CXE P w) 3 f fd ["hall", "deed"] (spDo dkFree c_NoDeed) := by
  have sc := sc_do_free
  refine F.okX sc (fun vs H Q E h => ?_) (fun cdv A outer s H vs Q E hd0 hr h => ?_)
  · obtain ⟨a, pa, pb, q, n, ps, L, ya, yb, o, rfl, _⟩ := h
    rfl
  · obtain ⟨a, pa, pb, q, n, ps, L, ya, yb, o, rfl, h, hl, hd, k1, k2⟩ := h
    refine ⟨_, (pss_cons (PS.nox (ps_asg (pv 0) (pg_tup rfl (pgs_cons (pg_name (i := 2) sc.nd rfl (Or.inl rfl)) (pgs_cons (pg_name (i := 3) sc.nd rfl (Or.inl rfl)) (pgs_cons (pg_name (i := 4) sc.nd rfl (Or.inl rfl)) pgs_nil))))))
      (pss_cons (PS.nox (ps_set (i := 5) sc.nd rfl (Or.inl rfl) (pe_ix (ix_tupK (K := K)) (pv 1) pe_int (fun _ _ => rfl)) sw_sub))
      (pss_cons (ps_expr (pe_callX Gdemand passE hr rfl (pa_Call (PE.nox (pe_callD Gall_end_by hr rfl (pa_Name (pv 3) (pa_Name (pv 5) pa_nil)))) pa_nil)))
      (pss_one (PS.nox (ps_ret (pe_tup (pa_o2 (pe_tup (pa_o3 (pv 5) (pe_callTy call_list_of (by rfl) M.list boot_list (pa_Name (pv 3) pa_nil)) (pe_callD Gpart hr rfl (pa_Name (pv 4) (pa_Constant pe_int (pa_Name (pv 5) pa_nil)))) pa_nil)) (pe_callD Gsorts hr rfl (pa_Call (pe_callD Gpart hr rfl (pa_Name (pv 4) (pa_Name (pv 5) (pa_Name (pv 2) pa_nil)))) pa_nil)) pa_nil)))))))), ?_⟩
    exact dofree_reads (K := K) h hl hd k1 k2
abbrev s_deed_done : Stmt := top 62
theorem sc_deed_done : FnScope ["hall", "deed", "doing"] ["hall", "deed"] (defScope s_deed_done) := ⟨rfl, rfl, rfl, by decide +kernel, rfl, by decide +kernel, by decide +kernel⟩
theorem ok_deed {f : Addr} {fd : FuncData} (F : Fun K "deed_done" "deed_done" s_deed_done f fd) (M : Txt mg) (Gdemand : KnX P w K mg base "demand" 1 ["is_deed"] (spDemand c_NoDeed)) (Gis_formed : Kn P w K mg base "is_formed" 4 ["hall", "deed"] (spFormedD K [("gone", g1), ("folded", g2), ("joined", g3), ("carried", g4), ("cut", g5), ("free", g6)])) (N : Nms w K mg aF aD aS g1 g2 g3 g4 g5 g6 d1 d2 d3 d4 d5 d6) (GF : KnF P w K mg base d6 3 ["hall", "deed"] (spDo dkFree c_NoDeed)) : FnOk P w K mg base (CXE P w) 5 f fd ["hall", "deed"] (spDeedR c_NoDeed r31) := by
  have sc := sc_deed_done
  refine F.okX sc (fun vs H Q E h => ?_) (fun cdv A outer s H vs Q E hd0 hr h => ?_)
  · obtain ⟨a, pa, pb, u, n, ps, L, ya, yb, o, rfl, _⟩ := h
    rfl
  · obtain ⟨a, pa, pb, u, n, ps, L, ya, yb, o, rfl, h, hl, hf, k1, k2⟩ := h
    obtain ⟨fdL, FL, kL, bL⟩ := GF.ex
    refine ⟨_, (pss_cons (ps_expr (pe_callX Gdemand passE hr rfl (pa_Call (PE.nox (pe_callD Gis_formed hr rfl (pa_Name (pv 0) (pa_Name (pv 1) pa_nil)))) pa_nil)))
      (pss_cons (PS.nox (ps_set (i := 2) sc.nd rfl (Or.inl rfl) (pe_kget N.kD rfl N.mD (pe_ix (ix_tupK (K := K)) (pv 1) pe_int (fun _ _ => rfl)) (fun _ _ => rfl)) sw_sub))
      (pss_one (ps_ret (pe_callL FL kL bL passE hr (pv 2) (pa_Name (PE.nox (pv 0)) (pa_Name (PE.nox (pv 1)) pa_nil))))))), ?_⟩
    exact deedD_reads (K := K) rfl h hl hf k1 k2
abbrev s__law_cell_at : Stmt := top 64
theorem sc__law_cell_at : FnScope ["_law_script", "_law_k"] ["_law_script", "_law_k"] (defScope s__law_cell_at) := ⟨rfl, rfl, rfl, by decide +kernel, rfl, by decide +kernel, by decide +kernel⟩
theorem ok_cell {f : Addr} {fd : FuncData} (F : Fun K "_law_cell_at" "_law_cell_at" s__law_cell_at f fd) (M : Txt mg) : FnOk P w K mg base CX0 1 f fd ["_law_script", "_law_k"] (spCellV K) := by
  have sc := sc__law_cell_at
  refine F.ok sc (fun vs H Q E h => ?_) (fun cdv A outer s H vs Q E hr h => ?_)
  · obtain ⟨a, ns, k, rfl, _⟩ := h
    rfl
  · obtain ⟨a, ns, k, rfl, hS, kk⟩ := h
    refine ⟨_, (pss_cons (ps_if (pt_cmpR op_lt (pv 1) (pe_callB (call_lenK (K := K)) (by rfl) M.len PySem.boot_len (pa_Name (pv 0) pa_nil)) (nomark _)) (pss_one (ps_ret (pe_ix (ix_listK (K := K)) (pv 0) (pv 1) (fun _ _ => rfl)))) pss_nil)
      (pss_one (ps_ret pe_int))), ?_⟩
    exact cellV_reads hS kk
abbrev s__law_big : Stmt := top 65
theorem sc__law_big : FnScope ["_law_script", "_law_k", "_law_x", "_law_total", "_law_j"] ["_law_script", "_law_k"] (defScope s__law_big) := ⟨rfl, rfl, rfl, by decide +kernel, rfl, by decide +kernel, by decide +kernel⟩
theorem ok_big {f : Addr} {fd : FuncData} (F : Fun K "_law_big" "_law_big" s__law_big f fd) (M : Txt mg) (G_law_cell_at : Kn P w K mg base "_law_cell_at" 1 ["_law_script", "_law_k"] (spCellV K)) (B : Gb mg) : FnOk P w K mg base CX0 2 f fd ["_law_script", "_law_k"] (spBigD K) := by
  have sc := sc__law_big
  refine F.ok sc (fun vs H Q E h => ?_) (fun cdv A outer s H vs Q E hr h => ?_)
  · obtain ⟨a, ns, k, rfl, _⟩ := h
    rfl
  · obtain ⟨a, ns, k, rfl, hS, kk⟩ := h
    refine ⟨_, (pss_cons (ps_if (pt_cmpR op_ge (pe_callB call_abs (by rfl) B.ab boot_abs (pa_Call (pe_callD G_law_cell_at hr rfl (pa_Name (pv 0) (pa_Name (pv 1) pa_nil))) pa_nil)) (pe_op op_pow pe_int pe_int) (nomark _)) (pss_one (ps_ret (pe_op op_sub (pe_callB call_abs (by rfl) B.ab boot_abs (pa_Call (pe_callD G_law_cell_at hr rfl (pa_Name (pv 0) (pa_Name (pv 1) pa_nil))) pa_nil)) (pe_op op_pow pe_int pe_int)))) pss_nil)
      (pss_cons (ps_set (i := 2) sc.nd rfl (Or.inl rfl) (pe_op op_add (pe_op op_add (pe_op op_add (pe_op op_mod (pe_callD G_law_cell_at hr rfl (pa_Name (pv 0) (pa_Constant pe_int pa_nil))) pe_int) (pe_op op_mul pe_int (pv 1))) (pe_op op_mul pe_int (pe_callD G_law_cell_at hr rfl (pa_Name (pv 0) (pa_Name (pv 1) pa_nil))))) pe_int))
      (pss_cons (ps_set (i := 2) sc.nd rfl (Or.inl rfl) (pe_op op_add (pe_op op_mod (pv 2) pe_int) pe_int))
      (pss_cons (ps_set (i := 3) sc.nd rfl (Or.inl rfl) pe_int)
      (pss_cons (ps_for PassesOwn.never rfl (pi_range1 rfl M.range (pa_Constant pe_int pa_nil)) (pg_name (i := 4) sc.nd rfl (Or.inl rfl))
      (pss_cons (ps_set (i := 2) sc.nd rfl (Or.inl rfl) (pe_op op_mod (pe_op op_add (pe_op op_add (pe_op op_add (pe_op op_mul (pv 2) pe_int) (pe_op op_fdivL (pv 2) pe_int)) (pe_op op_mul (pe_op op_mul pe_int (pv 4)) (pv 4))) (pv 1)) pe_int))
      (pss_one (ps_set (i := 3) sc.nd rfl (Or.inl rfl) (pe_op op_add (pe_op op_mul (pv 3) pe_int) (pe_op op_mod (pe_op op_mul (pv 2) pe_int) pe_int))))))
      (pss_one (ps_ret (pv 3)))))))), ?_⟩
    exact bigD_reads hS kk
abbrev s__law_take : Stmt := top 66
theorem sc__law_take : FnScope ["_law_bag", "_law_many", "_law_found"] ["_law_bag", "_law_many"] (defScope s__law_take) := ⟨rfl, rfl, rfl, by decide +kernel, rfl, by decide +kernel, by decide +kernel⟩
theorem ok_take {f : Addr} {fd : FuncData} (F : Fun K "_law_take" "_law_take" s__law_take f fd) (M : Txt mg) : FnOk P w K mg base CX0 1 f fd ["_law_bag", "_law_many"] spTakeD := by
  have sc := sc__law_take
  refine F.ok sc (fun vs H Q E h => ?_) (fun cdv A outer s H vs Q E hr h => ?_)
  · obtain ⟨d, m, rfl, _⟩ := h
    rfl
  · obtain ⟨d, m, rfl, h1, h2, h3, k⟩ := h
    refine ⟨_, (pss_cons (ps_set (i := 2) sc.nd rfl (Or.inl rfl) (pe_op op_mod (pe_ix (ix_listK (K := K)) (pv 0) pe_int (fun _ _ => rfl)) (pv 1)))
      (pss_cons (ps_asg (pe_op op_fdivL (pe_ix (ix_listK (K := K)) (pv 0) pe_int (fun _ _ => rfl)) (pv 1)) (pg_sub (pv 0) pe_int set_list))
      (pss_one (ps_ret (pv 2))))), ?_⟩
    exact takeD_reads (K := K) h1 h2 h3 k
abbrev s__law_weighing : Stmt := top 67
theorem sc__law_weighing : FnScope ["_law_n", "_law_head", "_law_script", "_law_at", "_law_bag", "_law_wide", "_law_high", "_law_pieces", "_law_k", "_law_drawn", "_law_weights", "_law_many", "_law_found"] ["_law_n", "_law_head", "_law_script", "_law_at"] (defScope s__law_weighing) := ⟨rfl, rfl, rfl, by decide +kernel, rfl, by decide +kernel, by decide +kernel⟩
set_option maxHeartbeats 16000000 in
theorem ok_lweigh {f : Addr} {fd : FuncData} (F : Fun K "_law_weighing" "_law_weighing" s__law_weighing f fd) (M : Txt mg) (G_law_take : Kn P w K mg base "_law_take" 1 ["_law_bag", "_law_many"] spTakeD) (G_law_big : Kn P w K mg base "_law_big" 2 ["_law_script", "_law_k"] (spBigD K)) : FnOk P w K mg base CX0 3 f fd ["_law_n", "_law_head", "_law_script", "_law_at"] (spWeighD K) := by
  have sc := sc__law_weighing
  refine F.ok sc (fun vs H Q E h => ?_) (fun cdv A outer s H vs Q E hr h => ?_)
  · obtain ⟨n, hd, a, ns, at0, rfl, _⟩ := h
    rfl
  · obtain ⟨n, hd, a, ns, at0, rfl, hS, h0, h1, k⟩ := h
    refine ⟨_, (pss_cons (ps_set (i := 4) sc.nd rfl (Or.inl rfl) (pe_lst (pa_Name (pv 1) pa_nil)))
      (pss_cons (ps_set (i := 5) sc.nd rfl (Or.inl rfl) (pe_ix (ix_listK (K := K)) (pe_lst (pa_o4 pe_int pe_int pe_int pe_int (pa_o4 pe_int pe_int pe_int pe_int pa_nil))) (pe_callD G_law_take hr rfl (pa_Name (pv 4) (pa_Constant pe_int pa_nil))) (fun _ _ => rfl)) sw_sub)
      (pss_cons (ps_set (i := 6) sc.nd rfl (Or.inr rfl) (pe_ix (ix_listK (K := K)) (pe_lst (pa_o4 pe_int pe_int pe_int (pe_op op_pow pe_int pe_int) pa_nil)) (pe_callD G_law_take hr rfl (pa_Name (pv 4) (pa_Constant pe_int pa_nil))) (fun _ _ => rfl)) sw_sub)
      (pss_cons (ps_set (i := 7) sc.nd rfl (Or.inl rfl) (pe_lst (pa_Tuple (pe_tup (pa_o2 (pv 0) (pe_callTy call_tuple_of (by rfl) M.tuple boot_tuple (pa_cons (pe_compG (xs := ["_law_j"]) (Nb := ["_law_n", "_law_head", "_law_script", "_law_at", "_law_bag", "_law_wide", "_law_high", "_law_pieces", "_law_k", "_law_drawn", "_law_weights", "_law_many", "_law_found"]) rfl (pi_range1 rfl M.range (pa_Name (pv 5) pa_nil)) rfl (by show ∀ p ∈ (List.zip ["_law_n", "_law_head", "_law_script", "_law_at", "_law_bag", "_law_wide", "_law_high", "_law_pieces", "_law_k", "_law_drawn", "_law_weights", "_law_many", "_law_found"] ["_law_n", "_law_head", "_law_script", "_law_at", "_law_bag", "_law_wide", "_law_high", "_law_pieces", "_law_k", "_law_drawn", "_law_weights", "_law_many", "_law_found"] : List (Str × Str)), _; decide +kernel) (by decide +kernel) (fun cl C s₂ H₂ fp => (pg_name (i := 0) (by show List.Nodup (["_law_j", "_law_n", "_law_head", "_law_script", "_law_at", "_law_bag", "_law_wide", "_law_high", "_law_pieces", "_law_k", "_law_drawn", "_law_weights", "_law_many", "_law_found"] : List Str); decide +kernel) rfl (Or.inl (lookup_relabel_local rfl)) (Or.inr (lookup_relabel_local rfl)))) (fun cl C s₂ H₂ fp => pif_nil) (fun cl C s₂ H₂ fp => pe_int) (by decide +kernel) rfl (by decide +kernel) (by show ∀ y ∈ (_ : List (Str × NameKind)), y.2 = NameKind.free → (defScope s__law_weighing).names.lookup y.1 = some .cell; decide +kernel)) pa_nil)) pa_nil)) pa_nil)))
      (pss_cons (ps_for PassesOwn.never rfl (pi_range1 rfl M.range (pa_Call (pe_callD G_law_take hr rfl (pa_Name (pv 4) (pa_Constant pe_int pa_nil))) pa_nil)) (pg_name (i := 8) sc.nd rfl (Or.inl rfl))
      (pss_cons (ps_set (i := 9) sc.nd rfl (Or.inr rfl) (pe_lst (pa_Call (pe_callD G_law_big hr rfl (pa_Name (pv 2) (pa_BinOp (pe_op op_add (pv 3) (pv 8)) pa_nil))) pa_nil)))
      (pss_cons (ps_set (i := 10) sc.nd rfl (Or.inl rfl) (pe_callTy call_tuple_of (by rfl) M.tuple boot_tuple (pa_cons (pe_compG (xs := ["_law_j"]) (Nb := ["_law_n", "_law_head", "_law_script", "_law_at", "_law_bag", "_law_wide", "_law_high", "_law_pieces", "_law_k", "_law_drawn", "_law_weights", "_law_many", "_law_found"]) rfl (pi_range1 rfl M.range (pa_Name (pv 5) pa_nil)) rfl (by show ∀ p ∈ (List.zip ["_law_n", "_law_head", "_law_script", "_law_at", "_law_bag", "_law_wide", "_law_high", "_law_pieces", "_law_k", "_law_drawn", "_law_weights", "_law_many", "_law_found"] ["_law_n", "_law_head", "_law_script", "_law_at", "_law_bag", "_law_wide", "_law_high", "_law_pieces", "_law_k", "_law_drawn", "_law_weights", "_law_many", "_law_found"] : List (Str × Str)), _; decide +kernel) (by decide +kernel) (fun cl C s₂ H₂ fp => (pg_name (i := 0) (by show List.Nodup (["_law_j", "_law_n", "_law_head", "_law_script", "_law_at", "_law_bag", "_law_wide", "_law_high", "_law_pieces", "_law_k", "_law_drawn", "_law_weights", "_law_many", "_law_found"] : List Str); decide +kernel) rfl (Or.inl (lookup_relabel_local rfl)) (Or.inr (lookup_relabel_local rfl)))) (fun cl C s₂ H₂ fp => pif_nil) (fun cl C s₂ H₂ fp => (pe_op op_sub (pe_callD G_law_take hr rfl (pa_Name (pv 10) (pa_Name (pv 7) pa_nil))) (pe_op op_fdivL (pv 7) pe_int))) (by decide +kernel) rfl (by decide +kernel) (by show ∀ y ∈ (_ : List (Str × NameKind)), y.2 = NameKind.free → (defScope s__law_weighing).names.lookup y.1 = some .cell; decide +kernel)) pa_nil)))
      (pss_cons (ps_set (i := 11) sc.nd rfl (Or.inl rfl) (pe_callD G_law_take hr rfl (pa_Name (pv 9) (pa_BinOp (pe_op op_add (pe_ix (ix_tupK (K := K)) (pe_ix (ix_listK (K := K)) (pv 7) (pe_un un_neg pe_int) (fun _ _ => rfl)) pe_int (fun _ _ => rfl)) pe_int) pa_nil))))
      (pss_one (ps_set (i := 7) sc.nd rfl (Or.inl rfl) (pe_op op_cat (pe_slice sl_list (pv 7) po_none (po_some (pe_un un_neg pe_int))) (pe_lst (pa_o2 (pe_tup (pa_o2 (pv 11) (pv 10) pa_nil)) (pe_tup (pa_o2 (pe_op op_sub (pe_ix (ix_tupK (K := K)) (pe_ix (ix_listK (K := K)) (pv 7) (pe_un un_neg pe_int) (fun _ _ => rfl)) pe_int (fun _ _ => rfl)) (pv 11)) (pe_ix (ix_tupK (K := K)) (pe_ix (ix_listK (K := K)) (pv 7) (pe_un un_neg pe_int) (fun _ _ => rfl)) pe_int (fun _ _ => rfl)) pa_nil)) pa_nil)))))))))
      (pss_cons (ps_set (i := 12) sc.nd rfl (Or.inl rfl) (pe_lst pa_nil))
      (pss_cons (ps_for PassesOwn.never rfl (pi_list (pv 7)) (pg_tup rfl (pgs_cons (pg_name (i := 11) sc.nd rfl (Or.inl rfl)) (pgs_cons (pg_name (i := 10) sc.nd rfl (Or.inl rfl)) pgs_nil)))
      (pss_one (ps_if (PW.pt (pw_and (pt_cmpR op_gt (pv 11) pe_int (nomark _)) (pw_and (pt_cmpR (op_neD hr) (pv 12) (pe_lst pa_nil) (nomark _)) (pw_and1 (pt_cmpR (op_eqD hr) (pe_ix (ix_tupK (K := K)) (pe_ix (ix_listK (K := K)) (pv 12) (pe_un un_neg pe_int) (fun _ _ => rfl)) pe_int (fun _ _ => rfl)) (pv 10) (nomark _)))))) (pss_one (ps_asg (pe_tup (pa_o2 (pe_op op_add (pe_ix (ix_tupK (K := K)) (pe_ix (ix_listK (K := K)) (pv 12) (pe_un un_neg pe_int) (fun _ _ => rfl)) pe_int (fun _ _ => rfl)) (pv 11)) (pv 10) pa_nil)) (pg_sub (pv 12) (pe_un un_neg pe_int) set_list))) (pss_one (ps_if (pt_cmpR op_gt (pv 11) pe_int (nomark _)) (pss_one (ps_expr (pe_bm PySem.F.plainAttrs_list PySem.F.slot_list_append PySem.F.type_list_append mt_append (pv 12) (pa_Tuple (pe_tup (pa_o2 (pv 11) (pv 10) pa_nil)) pa_nil)))) pss_nil)))))
      (pss_one (ps_ret (pv 12)))))))))), ?_⟩
    exact weigh_reads hS h0 h1 k
abbrev s__law_pairing : Stmt := top 68
theorem sc__law_pairing : FnScope ["_law_n", "_law_head", "_law_script", "_law_at", "_law_bag", "_law_way", "_law_long", "_law_one", "_law_other"] ["_law_n", "_law_head", "_law_script", "_law_at"] (defScope s__law_pairing) := ⟨rfl, rfl, rfl, by decide +kernel, rfl, by decide +kernel, by decide +kernel⟩
set_option maxHeartbeats 4000000 in
theorem ok_lpairing {f : Addr} {fd : FuncData} (F : Fun K "_law_pairing" "_law_pairing" s__law_pairing f fd) (M : Txt mg) (G_law_take : Kn P w K mg base "_law_take" 1 ["_law_bag", "_law_many"] spTakeD) (G_law_big : Kn P w K mg base "_law_big" 2 ["_law_script", "_law_k"] (spBigD K)) : FnOk P w K mg base CX0 3 f fd ["_law_n", "_law_head", "_law_script", "_law_at"] (spPairD K) := by
  have sc := sc__law_pairing
  refine F.ok sc (fun vs H Q E h => ?_) (fun cdv A outer s H vs Q E hr h => ?_)
  · obtain ⟨n, hd, a, ns, at0, rfl, _⟩ := h
    rfl
  · obtain ⟨n, hd, a, ns, at0, rfl, hS, h1, k⟩ := h
    refine ⟨_, (pss_cons (ps_set (i := 4) sc.nd rfl (Or.inl rfl) (pe_lst (pa_Name (pv 1) pa_nil)))
      (pss_cons (ps_set (i := 5) sc.nd rfl (Or.inl rfl) (pe_callD G_law_take hr rfl (pa_Name (pv 4) (pa_Constant pe_int pa_nil))))
      (pss_cons (ps_set (i := 6) sc.nd rfl (Or.inl rfl) (pe_op op_add pe_int (pe_op op_mod (pe_callD G_law_big hr rfl (pa_Name (pv 2) (pa_Name (pv 3) pa_nil))) (pe_ix (ix_listK (K := K)) (pe_lst (pa_o4 (pv 0) (pv 0) (pv 0) (pe_callB (call_max2 rfl) (by rfl) M.max boot_max (pa_Constant pe_int (pa_BinOp (pe_op op_fdivL (pv 0) pe_int) pa_nil))) (pa_o4 (pe_callB (call_max2 rfl) (by rfl) M.max boot_max (pa_Constant pe_int (pa_BinOp (pe_op op_fdivL (pv 0) pe_int) pa_nil))) (pe_callB (call_min2 rfl) (by rfl) M.min boot_min (pa_Name (pv 0) (pa_Constant pe_int pa_nil))) (pv 0) (pe_callB (call_min2 rfl) (by rfl) M.min boot_min (pa_Name (pv 0) (pa_Constant pe_int pa_nil))) pa_nil))) (pv 5) (fun _ _ => rfl)))))
      (pss_cons (ps_set (i := 7) sc.nd rfl (Or.inl rfl) (pe_op op_mod (pe_callD G_law_big hr rfl (pa_Name (pv 2) (pa_BinOp (pe_op op_add (pv 3) pe_int) pa_nil))) (pe_op op_add (pe_op op_sub (pv 0) (pv 6)) pe_int)))
      (pss_cons (ps_set (i := 8) sc.nd rfl (Or.inl rfl) (pe_op op_mod (pe_callD G_law_big hr rfl (pa_Name (pv 2) (pa_BinOp (pe_op op_add (pv 3) pe_int) pa_nil))) (pe_op op_add (pe_op op_sub (pv 0) (pv 6)) pe_int)))
      (pss_cons (ps_if (PW.pt (pw_or (pt_cmpR op_eq (pv 5) pe_int (nomark _)) (pw_or1 (pt_cmpR op_eq (pv 5) pe_int (nomark _))))) (pss_one (ps_set (i := 8) sc.nd rfl (Or.inl rfl) (pe_callB (call_min2 rfl) (by rfl) M.min boot_min (pa_BinOp (pe_op op_sub (pv 0) (pv 6)) (pa_BinOp (pe_op op_add (pe_op op_add (pv 7) pe_int) (pe_op op_mod (pv 8) (pv 6))) pa_nil))))) pss_nil)
      (pss_cons (ps_if (PW.pt (pw_or (pt_cmpR op_eq (pv 5) pe_int (nomark _)) (pw_or1 (pt_cmpR op_eq (pv 5) pe_int (nomark _))))) (pss_one (ps_set (i := 8) sc.nd rfl (Or.inl rfl) (pe_op op_sub (pv 0) (pv 6)))) pss_nil)
      (pss_one (ps_ret (pe_tup (pa_o4 (pe_callB (call_min2 rfl) (by rfl) M.min boot_min (pa_Name (pv 7) (pa_Name (pv 8) pa_nil))) (pe_callB (call_max2 rfl) (by rfl) M.max boot_max (pa_Name (pv 7) (pa_Name (pv 8) pa_nil))) (pv 6) (pe_cmpR op_eq (pe_callD G_law_take hr rfl (pa_Name (pv 4) (pa_Constant pe_int pa_nil))) pe_int (nomark _)) pa_nil))))))))))), ?_⟩
    exact pairD_reads hS h1 k
abbrev s__law_hall : Stmt := top 69
theorem sc__law_hall : FnScope ["_law_script", "_law_at", "_law_bag", "_law_way", "_law_n", "_law_many", "_law_weighing_here", "_law_pairings", "_law_k"] ["_law_script", "_law_at"] (defScope s__law_hall) := ⟨rfl, rfl, rfl, by decide +kernel, rfl, by decide +kernel, by decide +kernel⟩
set_option maxHeartbeats 8000000 in
theorem ok_lhall {f : Addr} {fd : FuncData} (F : Fun K "_law_hall" "_law_hall" s__law_hall f fd) (M : Txt mg) (G_law_big : Kn P w K mg base "_law_big" 2 ["_law_script", "_law_k"] (spBigD K)) (G_law_take : Kn P w K mg base "_law_take" 1 ["_law_bag", "_law_many"] spTakeD) (G_law_weighing : Kn P w K mg base "_law_weighing" 3 ["_law_n", "_law_head", "_law_script", "_law_at"] (spWeighD K)) (G_law_pairing : Kn P w K mg base "_law_pairing" 3 ["_law_n", "_law_head", "_law_script", "_law_at"] (spPairD K)) : FnOk P w K mg base CX0 4 f fd ["_law_script", "_law_at"] (spHallD K) := by
  have sc := sc__law_hall
  refine F.ok sc (fun vs H Q E h => ?_) (fun cdv A outer s H vs Q E hr h => ?_)
  · obtain ⟨a, ns, at0, rfl, _⟩ := h
    rfl
  · obtain ⟨a, ns, at0, rfl, hS, k⟩ := h
    refine ⟨_, (pss_cons (ps_set (i := 2) sc.nd rfl (Or.inl rfl) (pe_lst (pa_Call (pe_callD G_law_big hr rfl (pa_Name (pv 0) (pa_Name (pv 1) pa_nil))) pa_nil)))
      (pss_cons (ps_set (i := 3) sc.nd rfl (Or.inl rfl) (pe_callD G_law_take hr rfl (pa_Name (pv 2) (pa_Constant pe_int pa_nil))))
      (pss_cons (ps_set (i := 4) sc.nd rfl (Or.inl rfl) (pe_op op_mod (pe_callD G_law_big hr rfl (pa_Name (pv 0) (pa_BinOp (pe_op op_add (pv 1) pe_int) pa_nil))) (pe_ix (ix_listK (K := K)) (pe_lst (pa_o4 pe_int pe_int pe_int pe_int (pa_o4 pe_int pe_int (pe_op op_pow pe_int pe_int) (pe_op op_pow pe_int pe_int) pa_nil))) (pv 3) (fun _ _ => rfl))))
      (pss_cons (ps_set (i := 5) sc.nd rfl (Or.inl rfl) (pe_ix (ix_listK (K := K)) (pe_lst (pa_o4 (pe_callD G_law_take hr rfl (pa_Name (pv 2) (pa_Constant pe_int pa_nil))) (pe_callD G_law_take hr rfl (pa_Name (pv 2) (pa_Constant pe_int pa_nil))) pe_int (pe_callD G_law_take hr rfl (pa_Name (pv 2) (pa_Constant pe_int pa_nil))) pa_nil)) (pe_callD G_law_take hr rfl (pa_Name (pv 2) (pa_Constant pe_int pa_nil))) (fun _ _ => rfl)) sw_sub)
      (pss_cons (ps_if (pt_cmpR op_eq (pe_callD G_law_take hr rfl (pa_Name (pv 2) (pa_Constant pe_int pa_nil))) pe_int (nomark _)) (pss_one (ps_set (i := 5) sc.nd rfl (Or.inl rfl) (pe_op op_add pe_int (pe_callD G_law_take hr rfl (pa_Name (pv 2) (pa_Constant pe_int pa_nil)))))) pss_nil)
      (pss_cons (ps_if (pt_cmpR op_gt (pv 3) pe_int (nomark _)) (pss_one (ps_set (i := 5) sc.nd rfl (Or.inl rfl) (pe_op op_mod (pv 5) pe_int))) pss_nil)
      (pss_cons (ps_set (i := 6) sc.nd rfl (Or.inl rfl) (pe_callD G_law_weighing hr rfl (pa_Name (pv 4) (pa_Call (pe_callD G_law_take hr rfl (pa_Name (pv 2) (pa_Constant pe_int pa_nil))) (pa_Name (pv 0) (pa_BinOp (pe_op op_add (pv 1) pe_int) pa_nil))))))
      (pss_cons (ps_set (i := 7) sc.nd rfl (Or.inl rfl) (pe_lst pa_nil))
      (pss_cons (ps_for PassesOwn.never rfl (pi_range1 rfl M.range (pa_BinOp (pe_op op_mul (pv 5) (pe_callTy call_int1 (by rfl) M.int boot_int (pa_cons (pe_cmpR op_gt (pv 4) pe_int (nomark _)) pa_nil))) pa_nil)) (pg_name (i := 8) sc.nd rfl (Or.inl rfl))
      (pss_one (ps_expr (pe_bm PySem.F.plainAttrs_list PySem.F.slot_list_append PySem.F.type_list_append mt_append (pv 7) (pa_Call (pe_callD G_law_pairing hr rfl (pa_Name (pv 4) (pa_Call (pe_callD G_law_take hr rfl (pa_Name (pv 2) (pa_Constant pe_int pa_nil))) (pa_Name (pv 0) (pa_BinOp (pe_op op_add (pe_op op_add (pv 1) pe_int) (pe_op op_mod (pe_op op_mul (pv 8) pe_int) pe_int)) pa_nil))))) pa_nil)))))
      (pss_one (ps_ret (pe_tup (pa_o3 (pv 4) (pv 7) (pv 6) pa_nil))))))))))))), ?_⟩
    exact hallD_reads hS k
abbrev s__law_is_whole : Stmt := top 70
theorem sc__law_is_whole : FnScope ["_law_thing"] ["_law_thing"] (defScope s__law_is_whole) := ⟨rfl, rfl, rfl, by decide +kernel, rfl, by decide +kernel, by decide +kernel⟩
theorem ok_liswhole {f : Addr} {fd : FuncData} (F : Fun K "_law_is_whole" "_law_is_whole" s__law_is_whole f fd) (M : Txt mg) : FnOk P w K mg base CX0 1 f fd ["_law_thing"] spWhD := by
  have sc := sc__law_is_whole
  refine F.ok sc (fun vs H Q E h => ?_) (fun cdv A outer s H vs Q E hr h => ?_)
  · obtain ⟨u, d, rfl, _⟩ := h
    rfl
  · obtain ⟨u, d, rfl, h, k⟩ := h
    refine ⟨_, (pss_one (ps_ret (pe_and (pe_callB (call_isinstK (T := "int") (K := K)) (by rfl) M.isinstance boot_isinstance (pa_Name (pv 0) (pa_Name (pe_bltn (v := .ty "int") rfl M.int boot_int rfl) pa_nil))) (pe_one (pe_not (pe_callB (call_isinstK (T := "bool") (K := K)) (by rfl) M.isinstance boot_isinstance (pa_Name (pv 0) (pa_Name (pe_bltn (v := .ty "bool") rfl M.bool boot_bool rfl) pa_nil)))))))), ?_⟩
    exact whD_reads (K := K) h k
end
end Toy
set_option Elab.async false
set_option linter.all false
set_option maxRecDepth 100000
set_option maxHeartbeats 1000000
namespace Toy
open PySem L2 PyProof.Rows
section
variable {P : Program} {w : World} {K : PySem.W.Frag} {mg : Str → Option Value} {base : Heap} {c_CordError c_TooMany c_NoDeed c_NoRow c_NoCord c_NoTurn c_NoText c_NoSheet c_NoName aF aD aS g1 g2 g3 g4 g5 g6 d1 d2 d3 d4 d5 d6 : Addr}
theorem noD {K : PySem.W.Frag} {mg : Str → Option Value} {c_CordError c_TooMany c_NoDeed c_NoRow c_NoCord c_NoTurn c_NoText c_NoSheet c_NoName : Addr} (Z : Exs K mg c_CordError c_TooMany c_NoDeed c_NoRow c_NoCord c_NoTurn c_NoText c_NoSheet c_NoName) : NoD K c_CordError c_TooMany c_NoDeed c_NoRow c_NoCord c_NoTurn c_NoText c_NoSheet c_NoName := ⟨Z.x_NoDeed, Z.x_TooMany, Z.x_NoRow, Z.x_NoCord, Z.x_NoTurn, Z.x_NoText, Z.x_NoSheet, Z.x_NoName, Z.v_NoDeed, Z.s_NoDeed_CordError, Z.s_NoDeed_NoDeed, Z.s_NoDeed_TooMany, Z.s_NoDeed_NoRow, Z.s_NoDeed_NoCord, Z.s_NoDeed_NoTurn, Z.s_NoDeed_NoText, Z.s_NoDeed_NoSheet, Z.s_NoDeed_NoName⟩
abbrev s__law_refused : Stmt := top 72
theorem sc__law_refused : FnScope ["_law_hall_here", "_law_deed", "_law_handed", "e", "_law_kinds"] ["_law_hall_here", "_law_deed"] (defScope s__law_refused) := ⟨rfl, rfl, rfl, by decide +kernel, rfl, by decide +kernel, by decide +kernel⟩
set_option maxHeartbeats 8000000 in
theorem ok_refused {f : Addr} {fd : FuncData} (F : Fun K "_law_refused" "_law_refused" s__law_refused f fd) (M : Txt mg) (Gdeed_done : KnX P w K mg base "deed_done" 5 ["hall", "deed"] (spDeedR c_NoDeed r31)) (Z : Exs K mg c_CordError c_TooMany c_NoDeed c_NoRow c_NoCord c_NoTurn c_NoText c_NoSheet c_NoName) (B : Gb mg) : FnOk P w K mg base CX0 6 f fd ["_law_hall_here", "_law_deed"] (spRefusedG K r31) := by
  have sc := sc__law_refused
  refine F.ok sc (fun vs H Q E h => ?_) (fun cdv A outer s H vs Q E hr h => ?_)
  · obtain ⟨a, pa, pb, u, n, ps, L, ya, yb, rfl, _⟩ := h
    rfl
  · obtain ⟨a, pa, pb, u, n, ps, L, ya, yb, rfl, h, hl, hf, k⟩ := h
    refine ⟨_, (pss_cons (ps_set (i := 2) sc.nd rfl (Or.inl rfl) (pe_tup (pa_o3 (pe_ix (ix_tupK (K := K)) (pv 0) pe_int (fun _ _ => rfl)) (pe_callTy call_list_of (by rfl) M.list boot_list (pa_Subscript (pe_ix (ix_tupK (K := K)) (pv 0) pe_int (fun _ _ => rfl)) pa_nil)) (pe_callTy call_list_of (by rfl) M.list boot_list (pa_Subscript (pe_ix (ix_tupK (K := K)) (pv 0) pe_int (fun _ _ => rfl)) pa_nil)) pa_nil)))
      (pss_cons (ps_try (i := 3) sc.nd rfl rfl rfl rfl Z.m_CordError rfl Z.x_CordError (fun pins xe Ex px => (pss_one (ps_expr (pe_callX Gdeed_done px hr rfl (pa_Name (PE.nox (pv 2)) (pa_Name (PE.nox (pv 1)) pa_nil)))))) (fun C ea oe ho => (pss_cons (ps_set (i := 4) sc.nd rfl (Or.inl rfl) (pe_lst (pa_o4 (pe_callB (call_isiX (K := K) ho) (by rfl) M.isinstance boot_isinstance (pa_Name (pv 3) (pa_Name (pe_glob (v := .ref _) rfl Z.m_TooMany rfl) pa_nil))) (pe_callB (call_isiX (K := K) ho) (by rfl) M.isinstance boot_isinstance (pa_Name (pv 3) (pa_Name (pe_glob (v := .ref _) rfl Z.m_NoRow rfl) pa_nil))) (pe_callB (call_isiX (K := K) ho) (by rfl) M.isinstance boot_isinstance (pa_Name (pv 3) (pa_Name (pe_glob (v := .ref _) rfl Z.m_NoCord rfl) pa_nil))) (pe_callB (call_isiX (K := K) ho) (by rfl) M.isinstance boot_isinstance (pa_Name (pv 3) (pa_Name (pe_glob (v := .ref _) rfl Z.m_NoTurn rfl) pa_nil))) pa_nil)))
      (pss_cons (ps_set (i := 4) sc.nd rfl (Or.inl rfl) (pe_op op_cat (pv 4) (pe_lst (pa_o3 (pe_callB (call_isiX (K := K) ho) (by rfl) M.isinstance boot_isinstance (pa_Name (pv 3) (pa_Name (pe_glob (v := .ref _) rfl Z.m_NoText rfl) pa_nil))) (pe_callB (call_isiX (K := K) ho) (by rfl) M.isinstance boot_isinstance (pa_Name (pv 3) (pa_Name (pe_glob (v := .ref _) rfl Z.m_NoSheet rfl) pa_nil))) (pe_callB (call_isiX (K := K) ho) (by rfl) M.isinstance boot_isinstance (pa_Name (pv 3) (pa_Name (pe_glob (v := .ref _) rfl Z.m_NoName rfl) pa_nil))) pa_nil))))
      (pss_one (ps_ret (pe_and (pe_callB (call_isiX (K := K) ho) (by rfl) M.isinstance boot_isinstance (pa_Name (pv 3) (pa_Name (pe_glob (v := .ref _) rfl Z.m_NoDeed rfl) pa_nil))) (pe_and (pe_callB (call_isiX (K := K) ho) (by rfl) M.isinstance boot_isinstance (pa_Name (pv 3) (pa_Name (pe_bltn (v := .ty "ValueError") rfl B.ve PyProof.Rows.Boot.«ValueError» rfl) pa_nil))) (pe_and (pe_cmpR (op_notInK (K := K)) pe_bl (pv 4) rfl) (pe_one (pe_cmpR (op_eqDS (K := K) hr) (pv 2) (pv 0) (nomark _))))))))))))
      (pss_one (ps_ret pe_bl)))), ?_⟩
    exact refusedG_reads (noD Z) h hl r31_up hf k
abbrev s__law_odd : Stmt := top 75
theorem sc__law_odd : FnScope ["_law_many", "_law_big_here", "_law_some"] ["_law_many", "_law_big_here"] (defScope s__law_odd) := ⟨rfl, rfl, rfl, by decide +kernel, rfl, by decide +kernel, by decide +kernel⟩
set_option maxHeartbeats 8000000 in
theorem ok_odd {f : Addr} {fd : FuncData} (F : Fun K "_law_odd" "_law_odd" s__law_odd f fd) (M : Txt mg) : FnOk P w K mg base CX0 1 f fd ["_law_many", "_law_big_here"] spOdd := by
  have sc := sc__law_odd
  refine F.ok sc (fun vs H Q E h => ?_) (fun cdv A outer s H vs Q E hr h => ?_)
  · obtain ⟨m, b, rfl, _⟩ := h
    rfl
  · obtain ⟨m, b, rfl, h0, k⟩ := h
    refine ⟨_, (pss_cons (ps_set (i := 2) sc.nd rfl (Or.inl rfl) (pe_lst (pa_o4 (pv 0) (pe_un un_neg pe_int) (pe_op op_add (pv 0) (pe_op op_mod (pe_op op_fdivL (pv 1) pe_int) (pe_op op_pow pe_int pe_int))) (pe_op op_sub (pe_un un_neg pe_int) (pe_op op_mod (pe_op op_fdivL (pv 1) pe_int) (pe_op op_pow pe_int pe_int))) (pa_o4 pe_non pe_bl pe_bl pe_str (pa_o3 (pe_lst (pa_Constant pe_int pa_nil)) (pe_tup (pa_Constant pe_int pa_nil)) (pe_tup pa_nil) pa_nil)))))
      (pss_one (ps_ret (pe_ix (ix_listK (K := K)) (pv 2) (pe_op op_mod (pv 1) (pe_callB (call_lenK (K := K)) (by rfl) M.len PySem.boot_len (pa_Name (pv 2) pa_nil))) (fun _ _ => rfl))))), ?_⟩
    exact odd_reads (K := K) h0 k
abbrev s__law_things : Stmt := top 76
theorem sc__law_things : FnScope ["_law_many", "_law_big_here", "_law_odd_here", "_law_other", "_law_word", "_law_some"] ["_law_many", "_law_big_here"] (defScope s__law_things) := ⟨rfl, rfl, rfl, by decide +kernel, rfl, by decide +kernel, by decide +kernel⟩
set_option maxHeartbeats 16000000 in
theorem ok_things {f : Addr} {fd : FuncData} (F : Fun K "_law_things" "_law_things" s__law_things f fd) (M : Txt mg) (G_law_odd : Kn P w K mg base "_law_odd" 1 ["_law_many", "_law_big_here"] spOdd) : FnOk P w K mg base CX0 2 f fd ["_law_many", "_law_big_here"] spThings := by
  have sc := sc__law_things
  refine F.ok sc (fun vs H Q E h => ?_) (fun cdv A outer s H vs Q E hr h => ?_)
  · obtain ⟨m, b, rfl, _⟩ := h
    rfl
  · obtain ⟨m, b, rfl, h0, k⟩ := h
    refine ⟨_, (pss_cons (ps_set (i := 2) sc.nd rfl (Or.inl rfl) (pe_callD G_law_odd hr rfl (pa_Name (pv 0) (pa_BinOp (pe_op op_fdivL (pv 1) pe_int) pa_nil))))
      (pss_cons (ps_set (i := 3) sc.nd rfl (Or.inl rfl) (pe_callD G_law_odd hr rfl (pa_Name (pv 0) (pa_BinOp (pe_op op_fdivL (pv 1) pe_int) pa_nil))))
      (pss_cons (ps_set (i := 4) sc.nd rfl (Or.inl rfl) (pe_ix (ix_listK (K := K)) (pe_lst (pa_o4 pe_str pe_str pe_str pe_str (pa_o2 pe_str pe_str pa_nil))) (pe_op op_mod (pv 1) pe_int) (fun _ _ => rfl)) sw_sub)
      (pss_cons (ps_set (i := 5) sc.nd rfl (Or.inl rfl) (pe_lst (pa_o4 pe_non pe_bl (pe_op op_mod (pv 1) (pe_op op_pow pe_int pe_int)) (pv 4) (pa_o4 pe_str (pe_lst pa_nil) (pe_tup pa_nil) (pe_lst (pa_o2 (pv 4) pe_int pa_nil)) (pa_o4 (pe_lst (pa_o3 (pv 4) pe_int pe_int pa_nil)) (pe_tup (pa_Constant pe_int pa_nil)) (pe_tup (pa_o2 pe_non pe_int pa_nil)) (pe_tup (pa_o2 (pe_lst (pa_Name (pv 4) pa_nil)) pe_int pa_nil)) pa_nil)))))
      (pss_cons (ps_set (i := 5) sc.nd rfl (Or.inl rfl) (pe_op op_cat (pv 5) (pe_lst (pa_o4 (pe_tup (pa_o2 (pe_tup (pa_Name (pv 4) pa_nil)) pe_int pa_nil)) (pe_tup (pa_Name (pv 4) pa_nil)) (pe_tup (pa_o2 pe_str pe_int pa_nil)) (pe_tup (pa_o2 pe_str pe_int pa_nil)) (pa_o3 (pe_tup (pa_o2 pe_str pe_int pa_nil)) (pe_tup (pa_o3 pe_str pe_int pe_int pa_nil)) (pe_tup (pa_o2 pe_str (pv 2) pa_nil)) pa_nil)))))
      (pss_cons (ps_set (i := 5) sc.nd rfl (Or.inl rfl) (pe_op op_cat (pv 5) (pe_lst (pa_o4 (pe_tup (pa_o2 pe_str (pv 2) pa_nil)) (pe_tup (pa_o2 pe_str (pv 2) pa_nil)) (pe_tup (pa_o3 pe_str (pv 2) (pv 3) pa_nil)) (pe_tup (pa_o4 pe_str (pv 2) (pv 3) pe_str pa_nil)) pa_nil))))
      (pss_cons (ps_set (i := 5) sc.nd rfl (Or.inl rfl) (pe_op op_cat (pv 5) (pe_lst (pa_o4 (pe_tup (pa_o4 pe_str (pv 2) (pv 3) pe_str pa_nil)) (pe_tup (pa_o3 pe_str (pv 2) (pv 3) pa_nil)) (pe_tup (pa_o3 pe_str pe_int (pv 2) pa_nil)) (pe_tup (pa_o3 pe_str pe_int (pv 3) pa_nil)) pa_nil))))
      (pss_cons (ps_set (i := 5) sc.nd rfl (Or.inl rfl) (pe_op op_cat (pv 5) (pe_lst (pa_o4 (pe_tup (pa_o4 pe_str pe_int (pv 2) pe_str pa_nil)) (pe_tup (pa_o4 pe_str (pv 2) pe_int pe_str pa_nil)) (pe_tup (pa_o3 pe_str pe_int pe_int pa_nil)) (pe_tup (pa_o3 pe_str pe_int pe_int pa_nil)) pa_nil))))
      (pss_cons (ps_set (i := 5) sc.nd rfl (Or.inl rfl) (pe_op op_cat (pv 5) (pe_lst (pa_o4 (pe_tup (pa_o4 pe_str pe_int pe_int pe_int pa_nil)) (pe_tup (pa_o3 pe_str pe_int pe_int pa_nil)) (pe_tup (pa_o4 pe_str pe_int pe_int pe_str (pa_cons pe_int pa_nil))) (pe_tup (pa_o4 pe_str pe_int pe_int pe_int pa_nil)) (pa_cons (pe_tup (pa_o2 pe_str pe_int pa_nil)) pa_nil)))))
      (pss_cons (ps_set (i := 5) sc.nd rfl (Or.inl rfl) (pe_op op_cat (pv 5) (pe_lst (pa_o4 (pe_tup (pa_o3 pe_str pe_int pe_int pa_nil)) (pe_tup (pa_o2 pe_str pe_int pa_nil)) (pe_tup (pa_o4 pe_str pe_int pe_int pe_str pa_nil)) (pe_tup (pa_o4 pe_str pe_int pe_int pe_str pa_nil)) (pa_cons (pe_tup (pa_o4 (pv 4) pe_int pe_int pe_non pa_nil)) pa_nil)))))
      (pss_cons (ps_set (i := 5) sc.nd rfl (Or.inl rfl) (pe_op op_cat (pv 5) (pe_lst (pa_o3 (pe_tup (pa_o4 pe_str pe_int pe_int (pe_lst (pa_Constant pe_str pa_nil)) pa_nil)) (pe_tup (pa_o4 pe_str pe_int pe_int pe_int pa_nil)) (pe_tup (pa_o4 pe_str pe_int pe_int pe_bl pa_nil)) pa_nil))))
      (pss_cons (ps_set (i := 5) sc.nd rfl (Or.inl rfl) (pe_op op_cat (pv 5) (pe_lst (pa_Tuple (pe_tup (pa_o4 pe_str pe_int pe_int (pe_tup (pa_Constant pe_str pa_nil)) pa_nil)) pa_nil))))
      (pss_one (ps_ret (pv 5))))))))))))))), ?_⟩
    exact things_reads (K := K) h0 k
abbrev s__law_is_deed : Stmt := top 77
theorem sc__law_is_deed : FnScope ["_law_hall_here", "_law_thing"] ["_law_hall_here", "_law_thing"] (defScope s__law_is_deed) := ⟨rfl, rfl, rfl, by decide +kernel, rfl, by decide +kernel, by decide +kernel⟩
set_option maxHeartbeats 4000000 in
theorem ok_isdeed {f : Addr} {fd : FuncData} (F : Fun K "_law_is_deed" "_law_is_deed" s__law_is_deed f fd) (M : Txt mg) (G_law_is_whole : Kn P w K mg base "_law_is_whole" 1 ["_law_thing"] spWhD) : FnOk P w K mg base CX0 2 f fd ["_law_hall_here", "_law_thing"] spIsDeed := by
  have sc := sc__law_is_deed
  refine F.ok sc (fun vs H Q E h => ?_) (fun cdv A outer s H vs Q E hr h => ?_)
  · obtain ⟨a, pa, pb, u, d, n, ps, L, ya, yb, rfl, _⟩ := h
    rfl
  · obtain ⟨a, pa, pb, u, d, n, ps, L, ya, yb, rfl, h, hu, lf, k⟩ := h
    refine ⟨_, (pss_cons (ps_if (PW.pt (pw_or (pt_not (pt_val (pe_callB (call_isinstK (T := "tuple") (K := K)) (by rfl) M.isinstance boot_isinstance (pa_Name (pv 1) (pa_Name (pe_bltn (v := .ty "tuple") rfl M.tuple boot_tuple rfl) pa_nil))))) (pw_or (pt_cmpR op_lt (pe_callB (call_lenK (K := K)) (by rfl) M.len PySem.boot_len (pa_Name (pv 1) pa_nil)) pe_int (nomark _)) (pw_or1 (pt_cmpR (op_notInD (K := K) hr) (pe_ix (ix_tupK (K := K)) (pv 1) pe_int (fun _ _ => rfl)) (pe_lst (pa_o2 pe_str pe_str pa_nil)) rfl))))) (pss_one (ps_ret pe_bl)) pss_nil)
      (pss_cons (ps_if (pt_cmpR op_ne (pe_callB (call_lenK (K := K)) (by rfl) M.len PySem.boot_len (pa_Name (pv 1) pa_nil)) (pe_op op_add pe_int (pe_callTy call_int1 (by rfl) M.int boot_int (pa_cons (pe_cmpR op_eq (pe_ix (ix_tupK (K := K)) (pv 1) pe_int (fun _ _ => rfl)) pe_str (nomark _)) pa_nil))) (nomark _)) (pss_one (ps_ret pe_bl)) pss_nil)
      (pss_one (ps_ret (pe_and (pe_callD G_law_is_whole hr rfl (pa_Subscript (pe_ix (ix_tupK (K := K)) (pv 1) (pe_un un_neg pe_int) (fun _ _ => rfl)) pa_nil)) (pe_one (pe_chain op_le op_lt pe_int (pe_ix (ix_tupK (K := K)) (pv 1) (pe_un un_neg pe_int) (fun _ _ => rfl)) (pe_ix (ix_tupK (K := K)) (pv 0) pe_int (fun _ _ => rfl))))))))), ?_⟩
    exact isdeed_reads (K := K) h hu lf k
end
end Toy
set_option Elab.async false
set_option linter.all false
set_option maxRecDepth 100000
set_option maxHeartbeats 1000000
namespace Toy
open PySem L2 PyProof.Rows
section
variable {P : Program} {w : World} {K : PySem.W.Frag} {mg : Str → Option Value} {base : Heap} {c_CordError c_TooMany c_NoDeed c_NoRow c_NoCord c_NoTurn c_NoText c_NoSheet c_NoName aF aD aS g1 g2 g3 g4 g5 g6 d1 d2 d3 d4 d5 d6 : Addr}
def spLaw (K : PySem.W.Frag) : Sp := fun vs H Q _ => ∃ (a : Addr) (ns : List Int), vs = [.ref a] ∧ SqL K H a (ns.map V.int) ∧ ns.length ≤ 63 ∧ ∀ H', Q (.bl true) H'
abbrev s_law : Stmt := top 78
theorem sc_law : FnScope ["_law_script", "_law_hall_here", "_law_n", "_law_pairings", "_law_weighing_here", "_law_k", "_law_thing"] ["_law_script"] (defScope s_law) := ⟨rfl, rfl, rfl, by decide +kernel, rfl, by decide +kernel, by decide +kernel⟩
set_option maxHeartbeats 8000000 in
theorem ok_law {f : Addr} {fd : FuncData} (F : Fun K "law" "law" s_law f fd) (M : Txt mg) (G_law_hall : Kn P w K mg base "_law_hall" 4 ["_law_script", "_law_at"] (spHallD K)) (G_law_things : Kn P w K mg base "_law_things" 2 ["_law_many", "_law_big_here"] spThings) (G_law_big : Kn P w K mg base "_law_big" 2 ["_law_script", "_law_k"] (spBigD K)) (G_law_is_deed : Kn P w K mg base "_law_is_deed" 2 ["_law_hall_here", "_law_thing"] spIsDeed) (G_law_refused : Kn P w K mg base "_law_refused" 6 ["_law_hall_here", "_law_deed"] (spRefusedG K r31)) (Gdeed_done : KnX P w K mg base "deed_done" 5 ["hall", "deed"] (spDeedR c_NoDeed r31)) (N : Nms w K mg aF aD aS g1 g2 g3 g4 g5 g6 d1 d2 d3 d4 d5 d6) : FnOk P w K mg base CX0 9 f fd ["_law_script"] (spLaw K) := by
  have sc := sc_law
  refine F.ok sc (fun vs H Q E h => ?_) (fun cdv A outer s H vs Q E hr h => ?_)
  · obtain ⟨a, ns, rfl, _⟩ := h
    rfl
  · obtain ⟨a, ns, rfl, hS, hl, k⟩ := h
    refine ⟨_, (pss_cons (ps_set (i := 1) sc.nd rfl (Or.inl rfl) (pe_callD G_law_hall hr rfl (pa_Name (pv 0) (pa_Constant pe_int pa_nil))))
      (pss_cons (ps_asg (pv 1) (pg_tup rfl (pgs_cons (pg_name (i := 2) sc.nd rfl (Or.inl rfl)) (pgs_cons (pg_name (i := 3) sc.nd rfl (Or.inl rfl)) (pgs_cons (pg_name (i := 4) sc.nd rfl (Or.inl rfl)) pgs_nil)))))
      (pss_cons (ps_for PassesOwn.never rfl (pi_range1 rfl M.range (pa_Constant pe_int pa_nil)) (pg_name (i := 5) sc.nd rfl (Or.inl rfl))
      (pss_one (ps_for PassesOwn.never rfl (pi_list (pe_callD G_law_things hr rfl (pa_Call (pe_callB (call_lenK (K := K)) (by rfl) M.len PySem.boot_len (pa_Name (pv 3) pa_nil)) (pa_Call (pe_callD G_law_big hr rfl (pa_Name (pv 0) (pa_BinOp (pe_op op_add pe_int (pv 5)) pa_nil))) pa_nil)))) (pg_name (i := 6) sc.nd rfl (Or.inl rfl))
      (pss_one (ps_if (PW.pt (pw_and (pt_not (pt_val (pe_callD G_law_is_deed hr rfl (pa_Name (pv 1) (pa_Name (pv 6) pa_nil))))) (pw_and1 (pt_not (pt_val (pe_callD G_law_refused hr rfl (pa_Name (pv 1) (pa_Name (pv 6) pa_nil)))))))) (pss_one (ps_ret pe_bl)) pss_nil)))))
      (pss_cons (ps_if (PW.pt (pw_and (pt_cmpR (op_eqD hr) (pv 3) (pe_lst pa_nil) (nomark _)) (pw_and1 (pt_cmpR op_gt (pv 2) pe_int (nomark _))))) (pss_one (ps_ret (pe_cmpR (op_eqD hr) (pe_ix (ix_tupK (K := K)) (pe_callX Gdeed_done passN hr rfl (pa_Name (pv 1) (pa_Tuple (pe_tup (pa_o2 pe_str pe_int pa_nil)) pa_nil))) pe_int (fun _ _ => rfl)) (pe_tup (pa_o3 pe_int (pe_lst pa_nil) (pe_lst pa_nil) pa_nil)) (nomark _)))) pss_nil)
      (pss_one (ps_ret pe_bl)))))), ?_⟩
    exact law31_reads (cN := c_NoDeed) hS k
end
theorem all_mk {l : PySem.W.OpenLaw} {w : World} {K : PySem.W.Frag} {h : Heap} {mg : Str → Option Value} {fa f0 f1 f2 f3 f4 f5 f6 f7 f8 f9 f10 f11 f12 f13 f14 f15 f16 f17 f18 f19 f20 f21 f22 f23 f24 : Addr} {c_CordError c_TooMany c_NoDeed c_NoRow c_NoCord c_NoTurn c_NoText c_NoSheet c_NoName : Addr} {aF aD aS g1 g2 g3 g4 g5 g6 d1 d2 d3 d4 d5 : Addr} {tf1 tf2 tf3 tf4 tf5 tf6 td1 td2 td3 td4 td5 td6 ts1 ts2 tg1_0 tg2_0 tg3_0 tg3_1 tg4_0 tg4_1 tg4_2 tg5_0 tg5_1 tg6_0 : Tok} {ns0 nt1 nt2 nt3 nt4 nt5 nt6 : Nat} (X : K.In h) (G : h.Ns mainGlobals mg) (hfa : mg "law" = some (.ref fa))
    {od0 an0 od1 an1 od2 an2 od3 an3 od4 an4 od5 an5 od6 an6 od7 an7 od8 an8 od9 an9 od10 an10 od11 an11 od12 an12 od13 an13 od14 an14 od15 an15 od16 an16 od17 an17 od18 an18 od19 an19 od20 an20 od21 an21 od22 an22 od23 an23 od24 an24 : Option Addr} {sl0 sl1 sl2 sl3 sl4 sl5 sl6 sl7 sl8 sl9 sl10 sl11 sl12 sl13 sl14 sl15 sl16 sl17 sl18 sl19 sl20 sl21 sl22 sl23 sl24 : Array (Option Value)} {oc0 kV0 dc0 pm0 cd0 ct0 oc1 kV1 dc1 pm1 cd1 ct1 oc2 kV2 dc2 pm2 cd2 ct2 oc3 kV3 dc3 pm3 cd3 ct3 oc4 kV4 dc4 pm4 cd4 ct4 oc5 kV5 dc5 pm5 cd5 ct5 oc6 kV6 dc6 pm6 cd6 ct6 oc7 kV7 dc7 pm7 cd7 ct7 oc8 kV8 dc8 pm8 cd8 ct8 oc9 kV9 dc9 pm9 cd9 ct9 oc10 kV10 dc10 pm10 cd10 ct10 oc11 kV11 dc11 pm11 cd11 ct11 oc12 kV12 dc12 pm12 cd12 ct12 oc13 kV13 dc13 pm13 cd13 ct13 oc14 kV14 dc14 pm14 cd14 ct14 oc15 kV15 dc15 pm15 cd15 ct15 oc16 kV16 dc16 pm16 cd16 ct16 oc17 kV17 dc17 pm17 cd17 ct17 oc18 kV18 dc18 pm18 cd18 ct18 oc19 kV19 dc19 pm19 cd19 ct19 oc20 kV20 dc20 pm20 cd20 ct20 oc21 kV21 dc21 pm21 cd21 ct21 oc22 kV22 dc22 pm22 cd22 ct22 oc23 kV23 dc23 pm23 cd23 ct23 oc24 kV24 dc24 pm24 cd24 ct24 : Value}
    (a0 : PySem.W.nsIn K mainGlobals "is_whole" = some (some (.ref f0))) (l0 : K.lookup f0 = some ⟨oc0, od0, .func (PySem.W.fnOf "is_whole" "is_whole" (defArgs s_is_whole) (defBody s_is_whole) (defScope s_is_whole) .none kV0 dc0 pm0 an0 cd0 ct0), sl0⟩) (c0 : PySem.W.codeIn K cd0 "is_whole" = true) (k0 : PySem.W.keepIn K (.ref f0) = true)
    (a1 : PySem.W.nsIn K mainGlobals "is_whole_from" = some (some (.ref f1))) (l1 : K.lookup f1 = some ⟨oc1, od1, .func (PySem.W.fnOf "is_whole_from" "is_whole_from" (defArgs s_is_whole_from) (defBody s_is_whole_from) (defScope s_is_whole_from) .none kV1 dc1 pm1 an1 cd1 ct1), sl1⟩) (c1 : PySem.W.codeIn K cd1 "is_whole_from" = true) (k1 : PySem.W.keepIn K (.ref f1) = true)
    (a2 : PySem.W.nsIn K mainGlobals "end_of" = some (some (.ref f2))) (l2 : K.lookup f2 = some ⟨oc2, od2, .func (PySem.W.fnOf "end_of" "end_of" (defArgs s_end_of) (defBody s_end_of) (defScope s_end_of) .none kV2 dc2 pm2 an2 cd2 ct2), sl2⟩) (c2 : PySem.W.codeIn K cd2 "end_of" = true) (k2 : PySem.W.keepIn K (.ref f2) = true)
    (a3 : PySem.W.nsIn K mainGlobals "shaped" = some (some (.ref f3))) (l3 : K.lookup f3 = some ⟨oc3, od3, .func (PySem.W.fnOf "shaped" "shaped" (defArgs s_shaped) (defBody s_shaped) (defScope s_shaped) .none kV3 dc3 pm3 an3 cd3 ct3), sl3⟩) (c3 : PySem.W.codeIn K cd3 "shaped" = true) (k3 : PySem.W.keepIn K (.ref f3) = true)
    (a4 : PySem.W.nsIn K mainGlobals "laid_from" = some (some (.ref f4))) (l4 : K.lookup f4 = some ⟨oc4, od4, .func (PySem.W.fnOf "laid_from" "laid_from" (defArgs s_laid_from) (defBody s_laid_from) (defScope s_laid_from) .none kV4 dc4 pm4 an4 cd4 ct4), sl4⟩) (c4 : PySem.W.codeIn K cd4 "laid_from" = true) (k4 : PySem.W.keepIn K (.ref f4) = true)
    (a5 : PySem.W.nsIn K mainGlobals "part" = some (some (.ref f5))) (l5 : K.lookup f5 = some ⟨oc5, od5, .func (PySem.W.fnOf "part" "part" (defArgs s_part) (defBody s_part) (defScope s_part) .none kV5 dc5 pm5 an5 cd5 ct5), sl5⟩) (c5 : PySem.W.codeIn K cd5 "part" = true) (k5 : PySem.W.keepIn K (.ref f5) = true)
    (a6 : PySem.W.nsIn K mainGlobals "sorts" = some (some (.ref f6))) (l6 : K.lookup f6 = some ⟨oc6, od6, .func (PySem.W.fnOf "sorts" "sorts" (defArgs s_sorts) (defBody s_sorts) (defScope s_sorts) .none kV6 dc6 pm6 an6 cd6 ct6), sl6⟩) (c6 : PySem.W.codeIn K cd6 "sorts" = true) (k6 : PySem.W.keepIn K (.ref f6) = true)
    (a7 : PySem.W.nsIn K mainGlobals "demand" = some (some (.ref f7))) (l7 : K.lookup f7 = some ⟨oc7, od7, .func (PySem.W.fnOf "demand" "demand" (defArgs s_demand) (defBody s_demand) (defScope s_demand) .none kV7 dc7 pm7 an7 cd7 ct7), sl7⟩) (c7 : PySem.W.codeIn K cd7 "demand" = true) (k7 : PySem.W.keepIn K (.ref f7) = true)
    (a8 : PySem.W.nsIn K mainGlobals "all_end_by" = some (some (.ref f8))) (l8 : K.lookup f8 = some ⟨oc8, od8, .func (PySem.W.fnOf "all_end_by" "all_end_by" (defArgs s_all_end_by) (defBody s_all_end_by) (defScope s_all_end_by) .none kV8 dc8 pm8 an8 cd8 ct8), sl8⟩) (c8 : PySem.W.codeIn K cd8 "all_end_by" = true) (k8 : PySem.W.keepIn K (.ref f8) = true)
    (a9 : PySem.W.nsIn K mainGlobals "do_free" = some (some (.ref f9))) (l9 : K.lookup f9 = some ⟨oc9, od9, .func (PySem.W.fnOf "do_free" "do_free" (defArgs s_do_free) (defBody s_do_free) (defScope s_do_free) .none kV9 dc9 pm9 an9 cd9 ct9), sl9⟩) (c9 : PySem.W.codeIn K cd9 "do_free" = true) (k9 : PySem.W.keepIn K (.ref f9) = true)
    (a10 : PySem.W.nsIn K mainGlobals "fits" = some (some (.ref f10))) (l10 : K.lookup f10 = some ⟨oc10, od10, .func (PySem.W.fnOf "fits" "fits" (defArgs s_fits) (defBody s_fits) (defScope s_fits) .none kV10 dc10 pm10 an10 cd10 ct10), sl10⟩) (c10 : PySem.W.codeIn K cd10 "fits" = true) (k10 : PySem.W.keepIn K (.ref f10) = true)
    (a11 : PySem.W.nsIn K mainGlobals "is_formed" = some (some (.ref f11))) (l11 : K.lookup f11 = some ⟨oc11, od11, .func (PySem.W.fnOf "is_formed" "is_formed" (defArgs s_is_formed) (defBody s_is_formed) (defScope s_is_formed) .none kV11 dc11 pm11 an11 cd11 ct11), sl11⟩) (c11 : PySem.W.codeIn K cd11 "is_formed" = true) (k11 : PySem.W.keepIn K (.ref f11) = true)
    (a12 : PySem.W.nsIn K mainGlobals "deed_done" = some (some (.ref f12))) (l12 : K.lookup f12 = some ⟨oc12, od12, .func (PySem.W.fnOf "deed_done" "deed_done" (defArgs s_deed_done) (defBody s_deed_done) (defScope s_deed_done) .none kV12 dc12 pm12 an12 cd12 ct12), sl12⟩) (c12 : PySem.W.codeIn K cd12 "deed_done" = true) (k12 : PySem.W.keepIn K (.ref f12) = true)
    (a13 : PySem.W.nsIn K mainGlobals "_law_cell_at" = some (some (.ref f13))) (l13 : K.lookup f13 = some ⟨oc13, od13, .func (PySem.W.fnOf "_law_cell_at" "_law_cell_at" (defArgs s__law_cell_at) (defBody s__law_cell_at) (defScope s__law_cell_at) .none kV13 dc13 pm13 an13 cd13 ct13), sl13⟩) (c13 : PySem.W.codeIn K cd13 "_law_cell_at" = true) (k13 : PySem.W.keepIn K (.ref f13) = true)
    (a14 : PySem.W.nsIn K mainGlobals "_law_big" = some (some (.ref f14))) (l14 : K.lookup f14 = some ⟨oc14, od14, .func (PySem.W.fnOf "_law_big" "_law_big" (defArgs s__law_big) (defBody s__law_big) (defScope s__law_big) .none kV14 dc14 pm14 an14 cd14 ct14), sl14⟩) (c14 : PySem.W.codeIn K cd14 "_law_big" = true) (k14 : PySem.W.keepIn K (.ref f14) = true)
    (a15 : PySem.W.nsIn K mainGlobals "_law_take" = some (some (.ref f15))) (l15 : K.lookup f15 = some ⟨oc15, od15, .func (PySem.W.fnOf "_law_take" "_law_take" (defArgs s__law_take) (defBody s__law_take) (defScope s__law_take) .none kV15 dc15 pm15 an15 cd15 ct15), sl15⟩) (c15 : PySem.W.codeIn K cd15 "_law_take" = true) (k15 : PySem.W.keepIn K (.ref f15) = true)
    (a16 : PySem.W.nsIn K mainGlobals "_law_weighing" = some (some (.ref f16))) (l16 : K.lookup f16 = some ⟨oc16, od16, .func (PySem.W.fnOf "_law_weighing" "_law_weighing" (defArgs s__law_weighing) (defBody s__law_weighing) (defScope s__law_weighing) .none kV16 dc16 pm16 an16 cd16 ct16), sl16⟩) (c16 : PySem.W.codeIn K cd16 "_law_weighing" = true) (k16 : PySem.W.keepIn K (.ref f16) = true)
    (a17 : PySem.W.nsIn K mainGlobals "_law_pairing" = some (some (.ref f17))) (l17 : K.lookup f17 = some ⟨oc17, od17, .func (PySem.W.fnOf "_law_pairing" "_law_pairing" (defArgs s__law_pairing) (defBody s__law_pairing) (defScope s__law_pairing) .none kV17 dc17 pm17 an17 cd17 ct17), sl17⟩) (c17 : PySem.W.codeIn K cd17 "_law_pairing" = true) (k17 : PySem.W.keepIn K (.ref f17) = true)
    (a18 : PySem.W.nsIn K mainGlobals "_law_hall" = some (some (.ref f18))) (l18 : K.lookup f18 = some ⟨oc18, od18, .func (PySem.W.fnOf "_law_hall" "_law_hall" (defArgs s__law_hall) (defBody s__law_hall) (defScope s__law_hall) .none kV18 dc18 pm18 an18 cd18 ct18), sl18⟩) (c18 : PySem.W.codeIn K cd18 "_law_hall" = true) (k18 : PySem.W.keepIn K (.ref f18) = true)
    (a19 : PySem.W.nsIn K mainGlobals "_law_is_whole" = some (some (.ref f19))) (l19 : K.lookup f19 = some ⟨oc19, od19, .func (PySem.W.fnOf "_law_is_whole" "_law_is_whole" (defArgs s__law_is_whole) (defBody s__law_is_whole) (defScope s__law_is_whole) .none kV19 dc19 pm19 an19 cd19 ct19), sl19⟩) (c19 : PySem.W.codeIn K cd19 "_law_is_whole" = true) (k19 : PySem.W.keepIn K (.ref f19) = true)
    (a20 : PySem.W.nsIn K mainGlobals "_law_refused" = some (some (.ref f20))) (l20 : K.lookup f20 = some ⟨oc20, od20, .func (PySem.W.fnOf "_law_refused" "_law_refused" (defArgs s__law_refused) (defBody s__law_refused) (defScope s__law_refused) .none kV20 dc20 pm20 an20 cd20 ct20), sl20⟩) (c20 : PySem.W.codeIn K cd20 "_law_refused" = true) (k20 : PySem.W.keepIn K (.ref f20) = true)
    (a21 : PySem.W.nsIn K mainGlobals "_law_odd" = some (some (.ref f21))) (l21 : K.lookup f21 = some ⟨oc21, od21, .func (PySem.W.fnOf "_law_odd" "_law_odd" (defArgs s__law_odd) (defBody s__law_odd) (defScope s__law_odd) .none kV21 dc21 pm21 an21 cd21 ct21), sl21⟩) (c21 : PySem.W.codeIn K cd21 "_law_odd" = true) (k21 : PySem.W.keepIn K (.ref f21) = true)
    (a22 : PySem.W.nsIn K mainGlobals "_law_things" = some (some (.ref f22))) (l22 : K.lookup f22 = some ⟨oc22, od22, .func (PySem.W.fnOf "_law_things" "_law_things" (defArgs s__law_things) (defBody s__law_things) (defScope s__law_things) .none kV22 dc22 pm22 an22 cd22 ct22), sl22⟩) (c22 : PySem.W.codeIn K cd22 "_law_things" = true) (k22 : PySem.W.keepIn K (.ref f22) = true)
    (a23 : PySem.W.nsIn K mainGlobals "_law_is_deed" = some (some (.ref f23))) (l23 : K.lookup f23 = some ⟨oc23, od23, .func (PySem.W.fnOf "_law_is_deed" "_law_is_deed" (defArgs s__law_is_deed) (defBody s__law_is_deed) (defScope s__law_is_deed) .none kV23 dc23 pm23 an23 cd23 ct23), sl23⟩) (c23 : PySem.W.codeIn K cd23 "_law_is_deed" = true) (k23 : PySem.W.keepIn K (.ref f23) = true)
    (a24 : PySem.W.nsIn K mainGlobals "law" = some (some (.ref f24))) (l24 : K.lookup f24 = some ⟨oc24, od24, .func (PySem.W.fnOf "law" "law" (defArgs s_law) (defBody s_law) (defScope s_law) .none kV24 dc24 pm24 an24 cd24 ct24), sl24⟩) (c24 : PySem.W.codeIn K cd24 "law" = true) (k24 : PySem.W.keepIn K (.ref f24) = true)
    (n_CordError : PySem.W.nsIn K mainGlobals "CordError" = some (some (.ref c_CordError)))
    (xa_CordError : PySem.W.findIn K (.ref c_CordError) "__getattribute__" = some (some (.builtin "BaseException.__getattribute__"))) (xb_CordError : PySem.W.findIn K (.ref c_CordError) "__getattr__" = some none) (xc_CordError : PySem.W.findIn K (.ref c_CordError) "__class__" = some (some (.builtin "object.__class__"))) (xd_CordError : PySem.W.subIn K (.ref c_CordError) (.type "BaseException") = some true) (xe_CordError : PySem.W.subIn K (.ref c_CordError) (.type "object") = some true) (xf_CordError : PySem.W.typeIn K (.ref c_CordError) = some (.type "type")) (xg_CordError : PySem.W.isClsIn K c_CordError = true) (xh_CordError : PySem.W.subIn K (.ref c_CordError) (.ref c_CordError) = some true)
    (n_TooMany : PySem.W.nsIn K mainGlobals "TooMany" = some (some (.ref c_TooMany)))
    (xa_TooMany : PySem.W.findIn K (.ref c_TooMany) "__getattribute__" = some (some (.builtin "BaseException.__getattribute__"))) (xb_TooMany : PySem.W.findIn K (.ref c_TooMany) "__getattr__" = some none) (xc_TooMany : PySem.W.findIn K (.ref c_TooMany) "__class__" = some (some (.builtin "object.__class__"))) (xd_TooMany : PySem.W.subIn K (.ref c_TooMany) (.type "BaseException") = some true) (xe_TooMany : PySem.W.subIn K (.ref c_TooMany) (.type "object") = some true) (xf_TooMany : PySem.W.typeIn K (.ref c_TooMany) = some (.type "type")) (xg_TooMany : PySem.W.isClsIn K c_TooMany = true) (xh_TooMany : PySem.W.subIn K (.ref c_TooMany) (.ref c_TooMany) = some true)
    (n_NoDeed : PySem.W.nsIn K mainGlobals "NoDeed" = some (some (.ref c_NoDeed)))
    (xa_NoDeed : PySem.W.findIn K (.ref c_NoDeed) "__getattribute__" = some (some (.builtin "BaseException.__getattribute__"))) (xb_NoDeed : PySem.W.findIn K (.ref c_NoDeed) "__getattr__" = some none) (xc_NoDeed : PySem.W.findIn K (.ref c_NoDeed) "__class__" = some (some (.builtin "object.__class__"))) (xd_NoDeed : PySem.W.subIn K (.ref c_NoDeed) (.type "BaseException") = some true) (xe_NoDeed : PySem.W.subIn K (.ref c_NoDeed) (.type "object") = some true) (xf_NoDeed : PySem.W.typeIn K (.ref c_NoDeed) = some (.type "type")) (xg_NoDeed : PySem.W.isClsIn K c_NoDeed = true) (xh_NoDeed : PySem.W.subIn K (.ref c_NoDeed) (.ref c_NoDeed) = some true)
    (n_NoRow : PySem.W.nsIn K mainGlobals "NoRow" = some (some (.ref c_NoRow)))
    (xa_NoRow : PySem.W.findIn K (.ref c_NoRow) "__getattribute__" = some (some (.builtin "BaseException.__getattribute__"))) (xb_NoRow : PySem.W.findIn K (.ref c_NoRow) "__getattr__" = some none) (xc_NoRow : PySem.W.findIn K (.ref c_NoRow) "__class__" = some (some (.builtin "object.__class__"))) (xd_NoRow : PySem.W.subIn K (.ref c_NoRow) (.type "BaseException") = some true) (xe_NoRow : PySem.W.subIn K (.ref c_NoRow) (.type "object") = some true) (xf_NoRow : PySem.W.typeIn K (.ref c_NoRow) = some (.type "type")) (xg_NoRow : PySem.W.isClsIn K c_NoRow = true) (xh_NoRow : PySem.W.subIn K (.ref c_NoRow) (.ref c_NoRow) = some true)
    (n_NoCord : PySem.W.nsIn K mainGlobals "NoCord" = some (some (.ref c_NoCord)))
    (xa_NoCord : PySem.W.findIn K (.ref c_NoCord) "__getattribute__" = some (some (.builtin "BaseException.__getattribute__"))) (xb_NoCord : PySem.W.findIn K (.ref c_NoCord) "__getattr__" = some none) (xc_NoCord : PySem.W.findIn K (.ref c_NoCord) "__class__" = some (some (.builtin "object.__class__"))) (xd_NoCord : PySem.W.subIn K (.ref c_NoCord) (.type "BaseException") = some true) (xe_NoCord : PySem.W.subIn K (.ref c_NoCord) (.type "object") = some true) (xf_NoCord : PySem.W.typeIn K (.ref c_NoCord) = some (.type "type")) (xg_NoCord : PySem.W.isClsIn K c_NoCord = true) (xh_NoCord : PySem.W.subIn K (.ref c_NoCord) (.ref c_NoCord) = some true)
    (n_NoTurn : PySem.W.nsIn K mainGlobals "NoTurn" = some (some (.ref c_NoTurn)))
    (xa_NoTurn : PySem.W.findIn K (.ref c_NoTurn) "__getattribute__" = some (some (.builtin "BaseException.__getattribute__"))) (xb_NoTurn : PySem.W.findIn K (.ref c_NoTurn) "__getattr__" = some none) (xc_NoTurn : PySem.W.findIn K (.ref c_NoTurn) "__class__" = some (some (.builtin "object.__class__"))) (xd_NoTurn : PySem.W.subIn K (.ref c_NoTurn) (.type "BaseException") = some true) (xe_NoTurn : PySem.W.subIn K (.ref c_NoTurn) (.type "object") = some true) (xf_NoTurn : PySem.W.typeIn K (.ref c_NoTurn) = some (.type "type")) (xg_NoTurn : PySem.W.isClsIn K c_NoTurn = true) (xh_NoTurn : PySem.W.subIn K (.ref c_NoTurn) (.ref c_NoTurn) = some true)
    (n_NoText : PySem.W.nsIn K mainGlobals "NoText" = some (some (.ref c_NoText)))
    (xa_NoText : PySem.W.findIn K (.ref c_NoText) "__getattribute__" = some (some (.builtin "BaseException.__getattribute__"))) (xb_NoText : PySem.W.findIn K (.ref c_NoText) "__getattr__" = some none) (xc_NoText : PySem.W.findIn K (.ref c_NoText) "__class__" = some (some (.builtin "object.__class__"))) (xd_NoText : PySem.W.subIn K (.ref c_NoText) (.type "BaseException") = some true) (xe_NoText : PySem.W.subIn K (.ref c_NoText) (.type "object") = some true) (xf_NoText : PySem.W.typeIn K (.ref c_NoText) = some (.type "type")) (xg_NoText : PySem.W.isClsIn K c_NoText = true) (xh_NoText : PySem.W.subIn K (.ref c_NoText) (.ref c_NoText) = some true)
    (n_NoSheet : PySem.W.nsIn K mainGlobals "NoSheet" = some (some (.ref c_NoSheet)))
    (xa_NoSheet : PySem.W.findIn K (.ref c_NoSheet) "__getattribute__" = some (some (.builtin "BaseException.__getattribute__"))) (xb_NoSheet : PySem.W.findIn K (.ref c_NoSheet) "__getattr__" = some none) (xc_NoSheet : PySem.W.findIn K (.ref c_NoSheet) "__class__" = some (some (.builtin "object.__class__"))) (xd_NoSheet : PySem.W.subIn K (.ref c_NoSheet) (.type "BaseException") = some true) (xe_NoSheet : PySem.W.subIn K (.ref c_NoSheet) (.type "object") = some true) (xf_NoSheet : PySem.W.typeIn K (.ref c_NoSheet) = some (.type "type")) (xg_NoSheet : PySem.W.isClsIn K c_NoSheet = true) (xh_NoSheet : PySem.W.subIn K (.ref c_NoSheet) (.ref c_NoSheet) = some true)
    (n_NoName : PySem.W.nsIn K mainGlobals "NoName" = some (some (.ref c_NoName)))
    (xa_NoName : PySem.W.findIn K (.ref c_NoName) "__getattribute__" = some (some (.builtin "BaseException.__getattribute__"))) (xb_NoName : PySem.W.findIn K (.ref c_NoName) "__getattr__" = some none) (xc_NoName : PySem.W.findIn K (.ref c_NoName) "__class__" = some (some (.builtin "object.__class__"))) (xd_NoName : PySem.W.subIn K (.ref c_NoName) (.type "BaseException") = some true) (xe_NoName : PySem.W.subIn K (.ref c_NoName) (.type "object") = some true) (xf_NoName : PySem.W.typeIn K (.ref c_NoName) = some (.type "type")) (xg_NoName : PySem.W.isClsIn K c_NoName = true) (xh_NoName : PySem.W.subIn K (.ref c_NoName) (.ref c_NoName) = some true)
    (e_NoDeed : PySem.W.excIn K c_NoDeed bmV "ValueError.__new__" = true) (v_NoDeed : PySem.W.subIn K (.ref c_NoDeed) (.type "ValueError") = some true)
    (s_NoDeed_CordError : PySem.W.subIn K (.ref c_NoDeed) (.ref c_CordError) = some true)
    (s_NoDeed_TooMany : PySem.W.subIn K (.ref c_NoDeed) (.ref c_TooMany) = some false)
    (s_NoDeed_NoDeed : PySem.W.subIn K (.ref c_NoDeed) (.ref c_NoDeed) = some true)
    (s_NoDeed_NoRow : PySem.W.subIn K (.ref c_NoDeed) (.ref c_NoRow) = some false)
    (s_NoDeed_NoCord : PySem.W.subIn K (.ref c_NoDeed) (.ref c_NoCord) = some false)
    (s_NoDeed_NoTurn : PySem.W.subIn K (.ref c_NoDeed) (.ref c_NoTurn) = some false)
    (s_NoDeed_NoText : PySem.W.subIn K (.ref c_NoDeed) (.ref c_NoText) = some false)
    (s_NoDeed_NoSheet : PySem.W.subIn K (.ref c_NoDeed) (.ref c_NoSheet) = some false)
    (s_NoDeed_NoName : PySem.W.subIn K (.ref c_NoDeed) (.ref c_NoName) = some false)
    (nF : PySem.W.nsIn K mainGlobals "FORMS" = some (some (.ref aF))) (nD : PySem.W.nsIn K mainGlobals "DEEDS" = some (some (.ref aD))) (nS : PySem.W.nsIn K mainGlobals "SIDES" = some (some (.ref aS)))
    (lF : K.lookup aF = some ⟨.type "dict", none, .dict #[⟨PyData.keyHash w.params "gone", .str "gone" tf1, .ref g1⟩, ⟨PyData.keyHash w.params "folded", .str "folded" tf2, .ref g2⟩, ⟨PyData.keyHash w.params "joined", .str "joined" tf3, .ref g3⟩, ⟨PyData.keyHash w.params "carried", .str "carried" tf4, .ref g4⟩, ⟨PyData.keyHash w.params "cut", .str "cut" tf5, .ref g5⟩, ⟨PyData.keyHash w.params "free", .str "free" tf6, .ref g6⟩] 6, #[]⟩) (lD : K.lookup aD = some ⟨.type "dict", none, .dict #[⟨PyData.keyHash w.params "gone", .str "gone" td1, .ref d1⟩, ⟨PyData.keyHash w.params "folded", .str "folded" td2, .ref d2⟩, ⟨PyData.keyHash w.params "joined", .str "joined" td3, .ref d3⟩, ⟨PyData.keyHash w.params "carried", .str "carried" td4, .ref d4⟩, ⟨PyData.keyHash w.params "cut", .str "cut" td5, .ref d5⟩, ⟨PyData.keyHash w.params "free", .str "free" td6, .ref f9⟩] 6, #[]⟩) (lS : K.lookup aS = some ⟨.type "tuple", none, .seq #[.str "low" ts1, .str "high" ts2] ns0, #[]⟩)
    (lg1 : K.lookup g1 = some ⟨.type "tuple", none, .seq #[.str "pairing" tg1_0] nt1, #[]⟩)
    (lg2 : K.lookup g2 = some ⟨.type "tuple", none, .seq #[.str "pairing" tg2_0] nt2, #[]⟩)
    (lg3 : K.lookup g3 = some ⟨.type "tuple", none, .seq #[.str "pairing" tg3_0, .str "pairing" tg3_1] nt3, #[]⟩)
    (lg4 : K.lookup g4 = some ⟨.type "tuple", none, .seq #[.str "pairing" tg4_0, .str "pairing" tg4_1, .str "side" tg4_2] nt4, #[]⟩)
    (lg5 : K.lookup g5 = some ⟨.type "tuple", none, .seq #[.str "pairing" tg5_0, .str "place" tg5_1] nt5, #[]⟩)
    (lg6 : K.lookup g6 = some ⟨.type "tuple", none, .seq #[.str "place" tg6_0] nt6, #[]⟩)
    (mF : (aF == sysModules) = false) (mD : (aD == sysModules) = false)
    (g_abs : PySem.W.nsIn K mainGlobals "abs" = some none)
    (g_zip : PySem.W.nsIn K mainGlobals "zip" = some none)
    (g_divmod : PySem.W.nsIn K mainGlobals "divmod" = some none)
    (g_ValueError : PySem.W.nsIn K mainGlobals "ValueError" = some none)
    (z_len : PySem.W.nsIn K mainGlobals "len" = some none) (z_range : PySem.W.nsIn K mainGlobals "range" = some none) (z_min : PySem.W.nsIn K mainGlobals "min" = some none) (z_max : PySem.W.nsIn K mainGlobals "max" = some none) (z_isinstance : PySem.W.nsIn K mainGlobals "isinstance" = some none) (z_bool : PySem.W.nsIn K mainGlobals "bool" = some none) (z_int : PySem.W.nsIn K mainGlobals "int" = some none) (z_tuple : PySem.W.nsIn K mainGlobals "tuple" = some none) (z_list : PySem.W.nsIn K mainGlobals "list" = some none) (z_str : PySem.W.nsIn K mainGlobals "str" = some none) (z_all : PySem.W.nsIn K mainGlobals "all" = some none) (z_sum : PySem.W.nsIn K mainGlobals "sum" = some none) (z_sorted : PySem.W.nsIn K mainGlobals "sorted" = some none) :
    ∃ fd : FuncData, (∀ (s : Shared) (v : Value), BindsTo s fd ⟨[v], []⟩ [("_law_script", v)]) ∧ ∀ base : Heap, K.In base → base.Ns mainGlobals mg → FnOk l.prog w K mg base CX0 9 fa fd ["_law_script"] (spLaw K) := by
  have e := hfa.symm.trans (PySem.W.mg_of X G a24)
  cases e
  have M : Txt mg := ⟨PySem.W.mg_none_of X G z_len, PySem.W.mg_none_of X G z_range, PySem.W.mg_none_of X G z_min, PySem.W.mg_none_of X G z_max, PySem.W.mg_none_of X G z_isinstance, PySem.W.mg_none_of X G z_bool, PySem.W.mg_none_of X G z_int, PySem.W.mg_none_of X G z_tuple, PySem.W.mg_none_of X G z_list, PySem.W.mg_none_of X G z_str, PySem.W.mg_none_of X G z_all, PySem.W.mg_none_of X G z_sum, PySem.W.mg_none_of X G z_sorted⟩
  have GB : Gb mg := ⟨PySem.W.mg_none_of X G g_abs, PySem.W.mg_none_of X G g_zip, PySem.W.mg_none_of X G g_divmod, PySem.W.mg_none_of X G g_ValueError⟩
  have Z : Exs K mg c_CordError c_TooMany c_NoDeed c_NoRow c_NoCord c_NoTurn c_NoText c_NoSheet c_NoName := ⟨PySem.W.mg_of X G n_CordError, PySem.W.mg_of X G n_TooMany, PySem.W.mg_of X G n_NoDeed, PySem.W.mg_of X G n_NoRow, PySem.W.mg_of X G n_NoCord, PySem.W.mg_of X G n_NoTurn, PySem.W.mg_of X G n_NoText, PySem.W.mg_of X G n_NoSheet, PySem.W.mg_of X G n_NoName, ⟨xa_CordError, xb_CordError, xc_CordError, xd_CordError, xe_CordError, xf_CordError, xg_CordError, xh_CordError⟩, ⟨xa_TooMany, xb_TooMany, xc_TooMany, xd_TooMany, xe_TooMany, xf_TooMany, xg_TooMany, xh_TooMany⟩, ⟨xa_NoDeed, xb_NoDeed, xc_NoDeed, xd_NoDeed, xe_NoDeed, xf_NoDeed, xg_NoDeed, xh_NoDeed⟩, ⟨xa_NoRow, xb_NoRow, xc_NoRow, xd_NoRow, xe_NoRow, xf_NoRow, xg_NoRow, xh_NoRow⟩, ⟨xa_NoCord, xb_NoCord, xc_NoCord, xd_NoCord, xe_NoCord, xf_NoCord, xg_NoCord, xh_NoCord⟩, ⟨xa_NoTurn, xb_NoTurn, xc_NoTurn, xd_NoTurn, xe_NoTurn, xf_NoTurn, xg_NoTurn, xh_NoTurn⟩, ⟨xa_NoText, xb_NoText, xc_NoText, xd_NoText, xe_NoText, xf_NoText, xg_NoText, xh_NoText⟩, ⟨xa_NoSheet, xb_NoSheet, xc_NoSheet, xd_NoSheet, xe_NoSheet, xf_NoSheet, xg_NoSheet, xh_NoSheet⟩, ⟨xa_NoName, xb_NoName, xc_NoName, xd_NoName, xe_NoName, xf_NoName, xg_NoName, xh_NoName⟩, e_NoDeed, v_NoDeed, s_NoDeed_CordError, s_NoDeed_TooMany, s_NoDeed_NoDeed, s_NoDeed_NoRow, s_NoDeed_NoCord, s_NoDeed_NoTurn, s_NoDeed_NoText, s_NoDeed_NoSheet, s_NoDeed_NoName⟩
  have N : Nms w K mg aF aD aS g1 g2 g3 g4 g5 g6 d1 d2 d3 d4 d5 f9 := ⟨PySem.W.mg_of X G nF, PySem.W.mg_of X G nD, PySem.W.mg_of X G nS, kdict_of (ps := [("gone", tf1, g1), ("folded", tf2, g2), ("joined", tf3, g3), ("carried", tf4, g4), ("cut", tf5, g5), ("free", tf6, g6)]) lF mF (show (["gone", "folded", "joined", "carried", "cut", "free"] : List Str).Nodup by decide), kdict_of (ps := [("gone", td1, d1), ("folded", td2, d2), ("joined", td3, d3), ("carried", td4, d4), ("cut", td5, d5), ("free", td6, f9)]) lD mD (show (["gone", "folded", "joined", "carried", "cut", "free"] : List Str).Nodup by decide), fun H => .inr ⟨_, _, _, lS, rfl, rfl, Nat.le_of_ble_eq_true rfl, .cons ⟨_, rfl⟩ (.cons ⟨_, rfl⟩ (.nil))⟩, fun H => .inr ⟨_, _, _, lg1, rfl, rfl, Nat.le_of_ble_eq_true rfl, .cons ⟨_, rfl⟩ (.nil)⟩, fun H => .inr ⟨_, _, _, lg2, rfl, rfl, Nat.le_of_ble_eq_true rfl, .cons ⟨_, rfl⟩ (.nil)⟩, fun H => .inr ⟨_, _, _, lg3, rfl, rfl, Nat.le_of_ble_eq_true rfl, .cons ⟨_, rfl⟩ (.cons ⟨_, rfl⟩ (.nil))⟩, fun H => .inr ⟨_, _, _, lg4, rfl, rfl, Nat.le_of_ble_eq_true rfl, .cons ⟨_, rfl⟩ (.cons ⟨_, rfl⟩ (.cons ⟨_, rfl⟩ (.nil)))⟩, fun H => .inr ⟨_, _, _, lg5, rfl, rfl, Nat.le_of_ble_eq_true rfl, .cons ⟨_, rfl⟩ (.cons ⟨_, rfl⟩ (.nil))⟩, fun H => .inr ⟨_, _, _, lg6, rfl, rfl, Nat.le_of_ble_eq_true rfl, .cons ⟨_, rfl⟩ (.nil)⟩⟩
  have F0 := fun_mk (st := s_is_whole) l0 c0 k0
  have b0 := F0.binds (ps := ["thing"]) fun _ _ _ _ _ _ us hl => match us, hl with | [_], _ => rfl
  have F1 := fun_mk (st := s_is_whole_from) l1 c1 k1
  have b1 := F1.binds (ps := ["thing", "least"]) fun _ _ _ _ _ _ us hl => match us, hl with | [_, _], _ => rfl
  have F2 := fun_mk (st := s_end_of) l2 c2 k2
  have b2 := F2.binds (ps := ["pairing"]) fun _ _ _ _ _ _ us hl => match us, hl with | [_], _ => rfl
  have F3 := fun_mk (st := s_shaped) l3 c3 k3
  have b3 := F3.binds (ps := ["pieces"]) fun _ _ _ _ _ _ us hl => match us, hl with | [_], _ => rfl
  have F4 := fun_mk (st := s_laid_from) l4 c4 k4
  have b4 := F4.binds (ps := ["weighing", "begin"]) fun _ _ _ _ _ _ us hl => match us, hl with | [_, _], _ => rfl
  have F5 := fun_mk (st := s_part) l5 c5 k5
  have b5 := F5.binds (ps := ["weighing", "begin", "end"]) fun _ _ _ _ _ _ us hl => match us, hl with | [_, _, _], _ => rfl
  have F6 := fun_mk (st := s_sorts) l6 c6 k6
  have b6 := F6.binds (ps := ["weighing"]) fun _ _ _ _ _ _ us hl => match us, hl with | [_], _ => rfl
  have F7 := fun_mk (st := s_demand) l7 c7 k7
  have b7 := F7.binds (ps := ["is_deed"]) fun _ _ _ _ _ _ us hl => match us, hl with | [_], _ => rfl
  have F8 := fun_mk (st := s_all_end_by) l8 c8 k8
  have b8 := F8.binds (ps := ["pairings", "end"]) fun _ _ _ _ _ _ us hl => match us, hl with | [_, _], _ => rfl
  have F9 := fun_mk (st := s_do_free) l9 c9 k9
  have b9 := F9.binds (ps := ["hall", "deed"]) fun _ _ _ _ _ _ us hl => match us, hl with | [_, _], _ => rfl
  have F10 := fun_mk (st := s_fits) l10 c10 k10
  have b10 := F10.binds (ps := ["thing", "kind", "hall"]) fun _ _ _ _ _ _ us hl => match us, hl with | [_, _, _], _ => rfl
  have F11 := fun_mk (st := s_is_formed) l11 c11 k11
  have b11 := F11.binds (ps := ["hall", "deed"]) fun _ _ _ _ _ _ us hl => match us, hl with | [_, _], _ => rfl
  have F12 := fun_mk (st := s_deed_done) l12 c12 k12
  have b12 := F12.binds (ps := ["hall", "deed"]) fun _ _ _ _ _ _ us hl => match us, hl with | [_, _], _ => rfl
  have F13 := fun_mk (st := s__law_cell_at) l13 c13 k13
  have b13 := F13.binds (ps := ["_law_script", "_law_k"]) fun _ _ _ _ _ _ us hl => match us, hl with | [_, _], _ => rfl
  have F14 := fun_mk (st := s__law_big) l14 c14 k14
  have b14 := F14.binds (ps := ["_law_script", "_law_k"]) fun _ _ _ _ _ _ us hl => match us, hl with | [_, _], _ => rfl
  have F15 := fun_mk (st := s__law_take) l15 c15 k15
  have b15 := F15.binds (ps := ["_law_bag", "_law_many"]) fun _ _ _ _ _ _ us hl => match us, hl with | [_, _], _ => rfl
  have F16 := fun_mk (st := s__law_weighing) l16 c16 k16
  have b16 := F16.binds (ps := ["_law_n", "_law_head", "_law_script", "_law_at"]) fun _ _ _ _ _ _ us hl => match us, hl with | [_, _, _, _], _ => rfl
  have F17 := fun_mk (st := s__law_pairing) l17 c17 k17
  have b17 := F17.binds (ps := ["_law_n", "_law_head", "_law_script", "_law_at"]) fun _ _ _ _ _ _ us hl => match us, hl with | [_, _, _, _], _ => rfl
  have F18 := fun_mk (st := s__law_hall) l18 c18 k18
  have b18 := F18.binds (ps := ["_law_script", "_law_at"]) fun _ _ _ _ _ _ us hl => match us, hl with | [_, _], _ => rfl
  have F19 := fun_mk (st := s__law_is_whole) l19 c19 k19
  have b19 := F19.binds (ps := ["_law_thing"]) fun _ _ _ _ _ _ us hl => match us, hl with | [_], _ => rfl
  have F20 := fun_mk (st := s__law_refused) l20 c20 k20
  have b20 := F20.binds (ps := ["_law_hall_here", "_law_deed"]) fun _ _ _ _ _ _ us hl => match us, hl with | [_, _], _ => rfl
  have F21 := fun_mk (st := s__law_odd) l21 c21 k21
  have b21 := F21.binds (ps := ["_law_many", "_law_big_here"]) fun _ _ _ _ _ _ us hl => match us, hl with | [_, _], _ => rfl
  have F22 := fun_mk (st := s__law_things) l22 c22 k22
  have b22 := F22.binds (ps := ["_law_many", "_law_big_here"]) fun _ _ _ _ _ _ us hl => match us, hl with | [_, _], _ => rfl
  have F23 := fun_mk (st := s__law_is_deed) l23 c23 k23
  have b23 := F23.binds (ps := ["_law_hall_here", "_law_thing"]) fun _ _ _ _ _ _ us hl => match us, hl with | [_, _], _ => rfl
  have F24 := fun_mk (st := s_law) l24 c24 k24
  refine ⟨PySem.W.fnOf "law" "law" (defArgs s_law) (defBody s_law) (defScope s_law) .none kV24 dc24 pm24 an24 cd24 ct24, fun s v => .of_eq rfl, fun base _ _ => ?_⟩
  have Gis_whole : Kn l.prog w K mg base "is_whole" _ ["thing"] _ := ⟨⟨f0, _, ok_whole F0 M , PySem.W.mg_of X G a0, k0, b0⟩⟩
  have Gis_whole_from : Kn l.prog w K mg base "is_whole_from" _ ["thing", "least"] _ := ⟨⟨f1, _, ok_from F1 M Gis_whole, PySem.W.mg_of X G a1, k1, b1⟩⟩
  have Gdemand : KnX l.prog w K mg base "demand" _ ["is_deed"] _ := ⟨⟨f7, _, ok_demand F7 M Z, PySem.W.mg_of X G a7, k7, b7⟩⟩
  have Gfits : Kn l.prog w K mg base "fits" _ ["thing", "kind", "hall"] _ := ⟨⟨f10, _, ok_fits F10 M Gis_whole_from N, PySem.W.mg_of X G a10, k10, b10⟩⟩
  have Gis_formed : Kn l.prog w K mg base "is_formed" _ ["hall", "deed"] _ := ⟨⟨f11, _, ok_formed F11 M Gfits N GB, PySem.W.mg_of X G a11, k11, b11⟩⟩
  have Gend_of : Kn l.prog w K mg base "end_of" _ ["pairing"] _ := ⟨⟨f2, _, ok_endof F2 M , PySem.W.mg_of X G a2, k2, b2⟩⟩
  have Gshaped : Kn l.prog w K mg base "shaped" _ ["pieces"] _ := ⟨⟨f3, _, ok_shaped F3 M , PySem.W.mg_of X G a3, k3, b3⟩⟩
  have Glaid_from : Kn l.prog w K mg base "laid_from" _ ["weighing", "begin"] _ := ⟨⟨f4, _, ok_laid F4 M , PySem.W.mg_of X G a4, k4, b4⟩⟩
  have Gpart : Kn l.prog w K mg base "part" _ ["weighing", "begin", "end"] _ := ⟨⟨f5, _, ok_part F5 M Glaid_from Gshaped, PySem.W.mg_of X G a5, k5, b5⟩⟩
  have Gsorts : Kn l.prog w K mg base "sorts" _ ["weighing"] _ := ⟨⟨f6, _, ok_sorts F6 M , PySem.W.mg_of X G a6, k6, b6⟩⟩
  have Gall_end_by : Kn l.prog w K mg base "all_end_by" _ ["pairings", "end"] _ := ⟨⟨f8, _, ok_allend F8 M Gend_of, PySem.W.mg_of X G a8, k8, b8⟩⟩
  have GF : KnF l.prog w K mg base f9 _ ["hall", "deed"] _ := ⟨⟨_, ok_dofree F9 M Gdemand Gall_end_by Gpart Gsorts, k9, b9⟩⟩
  have Gdo_free : KnX l.prog w K mg base "do_free" _ ["hall", "deed"] _ := ⟨⟨f9, _, ok_dofree F9 M Gdemand Gall_end_by Gpart Gsorts, PySem.W.mg_of X G a9, k9, b9⟩⟩
  have Gdeed_done : KnX l.prog w K mg base "deed_done" _ ["hall", "deed"] _ := ⟨⟨f12, _, ok_deed F12 M Gdemand Gis_formed N GF, PySem.W.mg_of X G a12, k12, b12⟩⟩
  have G_law_cell_at : Kn l.prog w K mg base "_law_cell_at" _ ["_law_script", "_law_k"] _ := ⟨⟨f13, _, ok_cell F13 M , PySem.W.mg_of X G a13, k13, b13⟩⟩
  have G_law_big : Kn l.prog w K mg base "_law_big" _ ["_law_script", "_law_k"] _ := ⟨⟨f14, _, ok_big F14 M G_law_cell_at GB, PySem.W.mg_of X G a14, k14, b14⟩⟩
  have G_law_take : Kn l.prog w K mg base "_law_take" _ ["_law_bag", "_law_many"] _ := ⟨⟨f15, _, ok_take F15 M , PySem.W.mg_of X G a15, k15, b15⟩⟩
  have G_law_weighing : Kn l.prog w K mg base "_law_weighing" _ ["_law_n", "_law_head", "_law_script", "_law_at"] _ := ⟨⟨f16, _, ok_lweigh F16 M G_law_take G_law_big, PySem.W.mg_of X G a16, k16, b16⟩⟩
  have G_law_pairing : Kn l.prog w K mg base "_law_pairing" _ ["_law_n", "_law_head", "_law_script", "_law_at"] _ := ⟨⟨f17, _, ok_lpairing F17 M G_law_take G_law_big, PySem.W.mg_of X G a17, k17, b17⟩⟩
  have G_law_hall : Kn l.prog w K mg base "_law_hall" _ ["_law_script", "_law_at"] _ := ⟨⟨f18, _, ok_lhall F18 M G_law_big G_law_take G_law_weighing G_law_pairing, PySem.W.mg_of X G a18, k18, b18⟩⟩
  have G_law_is_whole : Kn l.prog w K mg base "_law_is_whole" _ ["_law_thing"] _ := ⟨⟨f19, _, ok_liswhole F19 M , PySem.W.mg_of X G a19, k19, b19⟩⟩
  have G_law_refused : Kn l.prog w K mg base "_law_refused" _ ["_law_hall_here", "_law_deed"] _ := ⟨⟨f20, _, ok_refused F20 M Gdeed_done Z GB, PySem.W.mg_of X G a20, k20, b20⟩⟩
  have G_law_odd : Kn l.prog w K mg base "_law_odd" _ ["_law_many", "_law_big_here"] _ := ⟨⟨f21, _, ok_odd F21 M , PySem.W.mg_of X G a21, k21, b21⟩⟩
  have G_law_things : Kn l.prog w K mg base "_law_things" _ ["_law_many", "_law_big_here"] _ := ⟨⟨f22, _, ok_things F22 M G_law_odd, PySem.W.mg_of X G a22, k22, b22⟩⟩
  have G_law_is_deed : Kn l.prog w K mg base "_law_is_deed" _ ["_law_hall_here", "_law_thing"] _ := ⟨⟨f23, _, ok_isdeed F23 M G_law_is_whole, PySem.W.mg_of X G a23, k23, b23⟩⟩
  exact ok_law F24 M G_law_hall G_law_things G_law_big G_law_is_deed G_law_refused Gdeed_done N
theorem walk {l : PySem.W.OpenLaw} {q : Program} {loose : List Str} {XP : (Str → Option Value) → Heap → Prop} {YP : World → Heap → Prop} {d : DefRec} {K : Params → PySem.W.Frag} (hn : l.most = some 63) (hdf : d.params.defaults = [])
    (hY : ∀ (w : World) (h : Heap), YP w h → (K w.params).In h)
    (F : ∀ (w : World) (mg : Str → Option Value) (fa : Addr) (h : Heap), (K w.params).In h → h.Ns mainGlobals mg → mg d.name = some (.ref fa) →
      ∃ fd : FuncData, (∀ (s : Shared) (u : Value), BindsTo s fd ⟨[u], []⟩ [("_law_script", u)]) ∧ ∀ base : Heap, (K w.params).In base → base.Ns mainGlobals mg → FnOk l.prog w (K w.params) mg base CX0 9 fa fd ["_law_script"] (spLaw (K w.params))) :
    PySem.W.WalkO q loose XP YP l.row.toRowW d [] (fun f vs => PySem.call f vs) :=
  L2.walk_of (n := 63) (k := 9) (x := "_law_script") (CX := fun _ => CX0) (sp := fun w => spLaw (K w.params)) hn (by decide) hdf ⟨rfl, by decide, by decide, rfl⟩ hY F (fun _ _ a ns hl _ hS => ⟨a, ns, rfl, hS, hl, fun _ => rfl⟩) fun _ _ _ _ _ z => z
end Toy
open PySem PySem.W PyProof.Rows
set_option maxRecDepth 100000 in
set_option maxHeartbeats 0 in
theorem PySem.Challenge.cw_farcords_k31_no_deeds_holds : PySem.Challenge.rw_farcords_k31_no_deeds.Holds := by
  w_on; o_law; k_head; (case hw => w_witness2)
  k_fill
  refine Toy.walk (l := PySem.Challenge.rw_farcords_k31_no_deeds) rfl rfl (fun w h Y => PySem.W.kIn_of Y) ?F
  case F =>
    intro w mg fa h KX G hmg
    refine' Toy.all_mk KX G hmg ?a0 ?l0 ?c0 ?k0 ?a1 ?l1 ?c1 ?k1 ?a2 ?l2 ?c2 ?k2 ?a3 ?l3 ?c3 ?k3 ?a4 ?l4 ?c4 ?k4 ?a5 ?l5 ?c5 ?k5 ?a6 ?l6 ?c6 ?k6 ?a7 ?l7 ?c7 ?k7 ?a8 ?l8 ?c8 ?k8 ?a9 ?l9 ?c9 ?k9 ?a10 ?l10 ?c10 ?k10 ?a11 ?l11 ?c11 ?k11 ?a12 ?l12 ?c12 ?k12 ?a13 ?l13 ?c13 ?k13 ?a14 ?l14 ?c14 ?k14 ?a15 ?l15 ?c15 ?k15 ?a16 ?l16 ?c16 ?k16 ?a17 ?l17 ?c17 ?k17 ?a18 ?l18 ?c18 ?k18 ?a19 ?l19 ?c19 ?k19 ?a20 ?l20 ?c20 ?k20 ?a21 ?l21 ?c21 ?k21 ?a22 ?l22 ?c22 ?k22 ?a23 ?l23 ?c23 ?k23 ?a24 ?l24 ?c24 ?k24 ?n_CordError ?xa_CordError ?xb_CordError ?xc_CordError ?xd_CordError ?xe_CordError ?xf_CordError ?xg_CordError ?xh_CordError ?n_TooMany ?xa_TooMany ?xb_TooMany ?xc_TooMany ?xd_TooMany ?xe_TooMany ?xf_TooMany ?xg_TooMany ?xh_TooMany ?n_NoDeed ?xa_NoDeed ?xb_NoDeed ?xc_NoDeed ?xd_NoDeed ?xe_NoDeed ?xf_NoDeed ?xg_NoDeed ?xh_NoDeed ?n_NoRow ?xa_NoRow ?xb_NoRow ?xc_NoRow ?xd_NoRow ?xe_NoRow ?xf_NoRow ?xg_NoRow ?xh_NoRow ?n_NoCord ?xa_NoCord ?xb_NoCord ?xc_NoCord ?xd_NoCord ?xe_NoCord ?xf_NoCord ?xg_NoCord ?xh_NoCord ?n_NoTurn ?xa_NoTurn ?xb_NoTurn ?xc_NoTurn ?xd_NoTurn ?xe_NoTurn ?xf_NoTurn ?xg_NoTurn ?xh_NoTurn ?n_NoText ?xa_NoText ?xb_NoText ?xc_NoText ?xd_NoText ?xe_NoText ?xf_NoText ?xg_NoText ?xh_NoText ?n_NoSheet ?xa_NoSheet ?xb_NoSheet ?xc_NoSheet ?xd_NoSheet ?xe_NoSheet ?xf_NoSheet ?xg_NoSheet ?xh_NoSheet ?n_NoName ?xa_NoName ?xb_NoName ?xc_NoName ?xd_NoName ?xe_NoName ?xf_NoName ?xg_NoName ?xh_NoName ?e_NoDeed ?v_NoDeed ?s_NoDeed_CordError ?s_NoDeed_TooMany ?s_NoDeed_NoDeed ?s_NoDeed_NoRow ?s_NoDeed_NoCord ?s_NoDeed_NoTurn ?s_NoDeed_NoText ?s_NoDeed_NoSheet ?s_NoDeed_NoName ?nF ?nD ?nS ?lF ?lD ?lS ?lg1 ?lg2 ?lg3 ?lg4 ?lg5 ?lg6 ?mF ?mD ?g_abs ?g_zip ?g_divmod ?g_ValueError ?z_len ?z_range ?z_min ?z_max ?z_isinstance ?z_bool ?z_int ?z_tuple ?z_list ?z_str ?z_all ?z_sum ?z_sorted
    (case a0 => k_is)
    (case l0 => k_is)
    (case c0 => k_is)
    (case k0 => k_is)
    (case a1 => k_is)
    (case l1 => k_is)
    (case c1 => k_is)
    (case k1 => k_is)
    (case a2 => k_is)
    (case l2 => k_is)
    (case c2 => k_is)
    (case k2 => k_is)
    (case a3 => k_is)
    (case l3 => k_is)
    (case c3 => k_is)
    (case k3 => k_is)
    (case a4 => k_is)
    (case l4 => k_is)
    (case c4 => k_is)
    (case k4 => k_is)
    (case a5 => k_is)
    (case l5 => k_is)
    (case c5 => k_is)
    (case k5 => k_is)
    (case a6 => k_is)
    (case l6 => k_is)
    (case c6 => k_is)
    (case k6 => k_is)
    (case a7 => k_is)
    (case l7 => k_is)
    (case c7 => k_is)
    (case k7 => k_is)
    (case a8 => k_is)
    (case l8 => k_is)
    (case c8 => k_is)
    (case k8 => k_is)
    (case a9 => k_is)
    (case l9 => k_is)
    (case c9 => k_is)
    (case k9 => k_is)
    (case a10 => k_is)
    (case l10 => k_is)
    (case c10 => k_is)
    (case k10 => k_is)
    (case a11 => k_is)
    (case l11 => k_is)
    (case c11 => k_is)
    (case k11 => k_is)
    (case a12 => k_is)
    (case l12 => k_is)
    (case c12 => k_is)
    (case k12 => k_is)
    (case a13 => k_is)
    (case l13 => k_is)
    (case c13 => k_is)
    (case k13 => k_is)
    (case a14 => k_is)
    (case l14 => k_is)
    (case c14 => k_is)
    (case k14 => k_is)
    (case a15 => k_is)
    (case l15 => k_is)
    (case c15 => k_is)
    (case k15 => k_is)
    (case a16 => k_is)
    (case l16 => k_is)
    (case c16 => k_is)
    (case k16 => k_is)
    (case a17 => k_is)
    (case l17 => k_is)
    (case c17 => k_is)
    (case k17 => k_is)
    (case a18 => k_is)
    (case l18 => k_is)
    (case c18 => k_is)
    (case k18 => k_is)
    (case a19 => k_is)
    (case l19 => k_is)
    (case c19 => k_is)
    (case k19 => k_is)
    (case a20 => k_is)
    (case l20 => k_is)
    (case c20 => k_is)
    (case k20 => k_is)
    (case a21 => k_is)
    (case l21 => k_is)
    (case c21 => k_is)
    (case k21 => k_is)
    (case a22 => k_is)
    (case l22 => k_is)
    (case c22 => k_is)
    (case k22 => k_is)
    (case a23 => k_is)
    (case l23 => k_is)
    (case c23 => k_is)
    (case k23 => k_is)
    (case a24 => k_is)
    (case l24 => k_is)
    (case c24 => k_is)
    (case k24 => k_is)
    (case n_CordError => k_is)
    (case xa_CordError => k_is)
    (case xb_CordError => k_is)
    (case xc_CordError => k_is)
    (case xd_CordError => k_is)
    (case xe_CordError => k_is)
    (case xf_CordError => k_is)
    (case xg_CordError => k_is)
    (case xh_CordError => k_is)
    (case n_TooMany => k_is)
    (case xa_TooMany => k_is)
    (case xb_TooMany => k_is)
    (case xc_TooMany => k_is)
    (case xd_TooMany => k_is)
    (case xe_TooMany => k_is)
    (case xf_TooMany => k_is)
    (case xg_TooMany => k_is)
    (case xh_TooMany => k_is)
    (case n_NoDeed => k_is)
    (case xa_NoDeed => k_is)
    (case xb_NoDeed => k_is)
    (case xc_NoDeed => k_is)
    (case xd_NoDeed => k_is)
    (case xe_NoDeed => k_is)
    (case xf_NoDeed => k_is)
    (case xg_NoDeed => k_is)
    (case xh_NoDeed => k_is)
    (case n_NoRow => k_is)
    (case xa_NoRow => k_is)
    (case xb_NoRow => k_is)
    (case xc_NoRow => k_is)
    (case xd_NoRow => k_is)
    (case xe_NoRow => k_is)
    (case xf_NoRow => k_is)
    (case xg_NoRow => k_is)
    (case xh_NoRow => k_is)
    (case n_NoCord => k_is)
    (case xa_NoCord => k_is)
    (case xb_NoCord => k_is)
    (case xc_NoCord => k_is)
    (case xd_NoCord => k_is)
    (case xe_NoCord => k_is)
    (case xf_NoCord => k_is)
    (case xg_NoCord => k_is)
    (case xh_NoCord => k_is)
    (case n_NoTurn => k_is)
    (case xa_NoTurn => k_is)
    (case xb_NoTurn => k_is)
    (case xc_NoTurn => k_is)
    (case xd_NoTurn => k_is)
    (case xe_NoTurn => k_is)
    (case xf_NoTurn => k_is)
    (case xg_NoTurn => k_is)
    (case xh_NoTurn => k_is)
    (case n_NoText => k_is)
    (case xa_NoText => k_is)
    (case xb_NoText => k_is)
    (case xc_NoText => k_is)
    (case xd_NoText => k_is)
    (case xe_NoText => k_is)
    (case xf_NoText => k_is)
    (case xg_NoText => k_is)
    (case xh_NoText => k_is)
    (case n_NoSheet => k_is)
    (case xa_NoSheet => k_is)
    (case xb_NoSheet => k_is)
    (case xc_NoSheet => k_is)
    (case xd_NoSheet => k_is)
    (case xe_NoSheet => k_is)
    (case xf_NoSheet => k_is)
    (case xg_NoSheet => k_is)
    (case xh_NoSheet => k_is)
    (case n_NoName => k_is)
    (case xa_NoName => k_is)
    (case xb_NoName => k_is)
    (case xc_NoName => k_is)
    (case xd_NoName => k_is)
    (case xe_NoName => k_is)
    (case xf_NoName => k_is)
    (case xg_NoName => k_is)
    (case xh_NoName => k_is)
    (case e_NoDeed => k_exc)
    (case v_NoDeed => k_is)
    (case s_NoDeed_CordError => k_is)
    (case s_NoDeed_TooMany => k_is)
    (case s_NoDeed_NoDeed => k_is)
    (case s_NoDeed_NoRow => k_is)
    (case s_NoDeed_NoCord => k_is)
    (case s_NoDeed_NoTurn => k_is)
    (case s_NoDeed_NoText => k_is)
    (case s_NoDeed_NoSheet => k_is)
    (case s_NoDeed_NoName => k_is)
    (case nF => k_is)
    (case nD => k_is)
    (case nS => k_is)
    (case lF => k_is)
    (case lD => k_is)
    (case lS => k_is)
    (case lg1 => k_is)
    (case lg2 => k_is)
    (case lg3 => k_is)
    (case lg4 => k_is)
    (case lg5 => k_is)
    (case lg6 => k_is)
    (case mF => first | rfl | decide | k_is)
    (case mD => first | rfl | decide | k_is)
    (case g_abs => k_is)
    (case g_zip => k_is)
    (case g_divmod => k_is)
    (case g_ValueError => k_is)
    (case z_len => k_is)
    (case z_range => k_is)
    (case z_min => k_is)
    (case z_max => k_is)
    (case z_isinstance => k_is)
    (case z_bool => k_is)
    (case z_int => k_is)
    (case z_tuple => k_is)
    (case z_list => k_is)
    (case z_str => k_is)
    (case z_all => k_is)
    (case z_sum => k_is)
    (case z_sorted => k_is)
#print axioms PySem.Challenge.cw_farcords_k31_no_deeds_holds
