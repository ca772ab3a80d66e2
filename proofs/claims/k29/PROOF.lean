import PyProof.Rows.All
import Wide.All
import OpenK.AllK
import Wide.FinOn
import Lean
import PyProof.EqAt
import PyProof.EqKinds
import PyProof.TupleCall
import PyProof.NeData
import PyProof.SumAny
import PyProof.ReprRoads
import PyProof.CallStr
import PyProof.ReprLen
import PyProof.Rows.StrDigitsNeg
import PyProof.Rows.StrJoinMade
import PyProof.Rows.ZipGen
import PyProof.ListRange
import PyProof.TupleOfSeq
import PyProof.SetScanFacts
import PyProof.SetKind
import PyProof.Rows.SetFrom
import PyProof.SetRoads
import PyProof.Rows.SortShell
import PyProof.ListMulRoad
import PyProof.ListMulAny
import PyProof.FactsAll.tuple
import PyProof.RulesAssignMore
import PyProof.ZipIter
import PyProof.TupleIter
import PyProof.ExcArgsOwn
import PyProof.ExcAttrAll.ValueError
import PyProof.ExcBaseAll.ValueError
import PyProof.EnumFor
import PyProof.EnumMake
import PyProof.FitsBits
import KE.KDictList
import PyProof.Rows.SortShellK
import PyProof.TupleKey
import KE.KItemsList
import KE.KSortTup
import PyProof.Rows.ListMulR
import PyProof.FactsAll.list_2
import PyProof.FactsAll.list_4
import PyProof.Rows.BitMore
import PyProof.WalkInts
import PyProof.ListIndex
import PyProof.P3Eq
import PySem.Challenge.RW_farcords_k29_cut
set_option maxHeartbeats 16000000
section
open PySem PySem.Spec PyProof.Rows
abbrev Qaa:=@wpAny_bind
abbrev Qab:=@List.mem_cons_of_mem
abbrev Qac:=@List.length_map
abbrev Qad:=@List.mem_cons_self
abbrev Qae:=@List.length_append
abbrev Qaf:=@List.getElem?_eq_some_iff
abbrev Qag:=@Heap.get?_push_of_some
abbrev Qah:=@List.getElem?_eq_getElem
abbrev Qai:=@lookup_relabel_local
abbrev Qaj:=@wpAny_pure
abbrev Qak:=@PySem.W.mg_of
abbrev Qal:=@Nat.le_refl
abbrev Qam:=@List.getD_eq_getElem?_getD
abbrev Qan:=@List.mem_singleton
abbrev Qao:=@of_decide_eq_true
abbrev Qap:=@Heap.lt_size
abbrev Qaq:=@List.getElem?_map
abbrev Qar:=@decide_eq_true
abbrev Qas:=@List.mem_cons
abbrev Qat:=@List.size_toArray
abbrev Qau:=@List.mem_of_getElem?
abbrev Qav:=@List.length_take
abbrev Qaw:=@List.map_append
abbrev Qax:=@Heap.get?_push_size
abbrev Qay:=@List.getElem?_eq_none
abbrev Qaz:=@List.mem_append
abbrev QaA:=@List.mem_append_right
abbrev QaB:=@Bool.false_ne_true
abbrev QaC:=@Nat.lt_of_lt_of_le
abbrev QaD:=@Nat.le_trans
abbrev QaE:=@PySem.F.plainAttrs_list
abbrev QaF:=@List.getElem?_append_right
abbrev QaG:=@Nat.lt_of_le_of_lt
abbrev QaH:=@Array.getElem?_eq_getElem
abbrev QaI:=@PySem.F.slot_list_append
abbrev QaJ:=@PySem.F.type_list_append
abbrev QaK:=@List.getElem?_append_left
abbrev QaL:=@Nat.ne_of_lt
abbrev QaM:=@List.mem_append_left
abbrev QaN:=@decide_eq_false
abbrev QaO:=@List.take_length
abbrev QaP:=@boot_isinstance
abbrev QaQ:=@PassesOwn.never
abbrev QaR:=@PySem.W.mg_none_of
abbrev QaS:=@Array.getD_eq_getD_getElem?
abbrev QaT:=@Int.emod_nonneg
abbrev QaU:=@Int.emod_lt_of_pos
abbrev QaV:=@Nat.zero_le
abbrev QaW:=@List.length_drop
abbrev QaX:=@Int.le_refl
abbrev QaY:=@Bool.and_eq_true
abbrev QaZ:=@List.not_mem_nil
abbrev Qa0:=@Array.length_toList
abbrev Qa1:=@wpAny_newObj_type
abbrev Qa2:=@List.append_assoc
abbrev Qa3:=@List.length_singleton
abbrev Qa4:=@wpAny_setField_rec
abbrev Qa5:=@Int.le_of_lt
abbrev Qa6:=@Heap.size_push
abbrev Qa7:=@List.getElem?_eq_none_iff
abbrev Qa8:=@List.take_zero
abbrev Qa9:=@List.getLast?_eq_getElem?
abbrev Qba:=@List.take_of_length_le
abbrev Qbb:=@List.length_cons
abbrev Qbc:=@List.length_replicate
abbrev Qbd:=@PySem.W.kia_one
abbrev Qbe:=@Int.add_zero
abbrev Qbf:=@Array.getElem?_toList
abbrev Qbg:=@List.take_succ_cons
abbrev Qbh:=@wpAny_mono
abbrev Qbi:=@wpAny_truthy_bool
abbrev Qbj:=@Nat.ne_of_gt
abbrev Qbk:=@wpAny_Call_Name_kw
abbrev Qbl:=@List.pairwise_cons
abbrev Qbm:=@List.mem_map
abbrev Qbn:=@Option.some.inj
abbrev Qbo:=@List.append_nil
abbrev Qbp:=@Nat.lt_irrefl
abbrev Qbq:=@wpAny_call_entry
abbrev Qbr:=@Nat.le_add_right
abbrev Qbs:=@PySem.mem_of_lookup
abbrev Qbt:=@List.length_zipWith
abbrev Qbu:=@List.mem_iff_getElem?
abbrev Qbv:=@Nat.le_of_ble_eq_true
abbrev Qbw:=@PyProof.Rows.callWith_type1
abbrev Qbx:=@wpAny_field
abbrev Qby:=@wpAny_callSpecial?_slot
abbrev Qbz:=@List.map_cons
abbrev QbA:=@List.foldl_cons
abbrev QbB:=@List.length_dropLast
abbrev QbC:=@Around.under_plainId
abbrev QbD:=@Int.ediv_eq_zero_of_lt
abbrev QbE:=@Bool.eq_false_iff
abbrev QbF:=@PySem.boot_len
abbrev QbG:=@codeAny_builtin
abbrev QbH:=@of_decide_eq_false
abbrev QbI:=@wpAny_holding
abbrev QbJ:=@PyProof.Rows.F.plain_set_update_loop
abbrev QbK:=@wpAny_seqItems
abbrev QbL:=@Nat.lt_succ_of_lt
abbrev QbM:=@List.mem_filter
abbrev QbN:=@List.nodup_cons
abbrev QbO:=@List.find?_cons
abbrev QbP:=@Nat.min_le_left
abbrev QbQ:=@List.lookup_cons
abbrev QbR:=@Heap.get?_update_self
abbrev QbS:=@List.getElem?_zipWith
abbrev QbT:=@Int.zero_add
abbrev QbU:=@Int.add_mul_ediv_left
abbrev QbV:=@List.pairwise_iff_getElem
abbrev QbW:=@List.dropLast_subset
abbrev QbX:=@wpAny_passesOwn
abbrev QbY:=@Option.isSome_iff_exists
abbrev QbZ:=@Int.toNat_natCast
abbrev Qb0:=@wpAny_loadPart_at
abbrev Qb1:=@List.filterMap_cons
abbrev Qb2:=@List.length_reverse
abbrev Qb3:=@PySem.F.plain_list_iadd
abbrev Qb4:=@List.length_eq_zero_iff
abbrev Qb5:=@List.eq_nil_of_length_eq_zero
abbrev Qb6:=@Int.mul_le_mul_of_nonneg_left
abbrev Qb7:=@Heap.get?_update_other
abbrev Qb8:=@Calls.spliced_cons
abbrev Qb9:=@Bool.false_eq_true
abbrev Qca:=@or_false
abbrev Qcb:=@List.getElem?_drop
abbrev Qcc:=@Nat.le_of_lt
abbrev Qcd:=@List.nil_append
abbrev Qce:=@Int.sub_zero
abbrev Qcf:=@Nat.lt_trans
abbrev Qcg:=@wpAny_setState_of
abbrev Qch:=@boot_tuple
abbrev Qci:=@Calls.Name_function_global
abbrev Qcj:=@List.mem_of_mem_take
abbrev Qck:=@PyProof.Rows.F.entry_set_update_loop
abbrev Qcl:=@List.getElem_mem
abbrev Qcm:=@wpAny_askSetting
abbrev Qcn:=@Heap.SameBut.update
abbrev Qco:=@PySem.W.looks_subIn
abbrev Qcp:=@List.getElem?_range
abbrev Qcq:=@True.intro
abbrev Qcr:=@codeAny_mono
abbrev Qcs:=@PySem.F.slot_list_extend
abbrev Qct:=@PySem.F.type_list_extend
abbrev Qcu:=@wpAny_execs_nil
abbrev Qcv:=@List.getElem?_replicate
abbrev Qcw:=@List.filter_append
abbrev Qcx:=@List.filter_cons_of_pos
abbrev Qcy:=@Calls.callWith_builtin
abbrev Qcz:=@wpAny_pyIter_list
abbrev QcA:=@Calls.spliced_nil
abbrev QcB:=@PyProof.Rows.slot_tuple_getitem
abbrev QcC:=@fits_of_scanBound
abbrev QcD:=@wpAny_rule
abbrev QcE:=@List.length_range
abbrev QcF:=@List.ext_getElem?
abbrev QcG:=@boot_min
abbrev QcH:=@PyProof.Rows.callWith_builtin1
abbrev QcI:=@List.take_append_drop
abbrev QcJ:=@Int.mul_ediv_add_emod
abbrev QcK:=@PySem.F.slot_dict_get
abbrev QcL:=@Nat.min_self
abbrev QcM:=@boot_list
abbrev QcN:=@Nat.lt_succ_self
abbrev QcO:=@List.getLast?_eq_some_getLast
abbrev QcP:=@wpAny_pyIter_zip
abbrev QcQ:=@wpAny_isInstance
abbrev QcR:=@List.cons_append
abbrev QcS:=@List.filter_cons
abbrev QcT:=@Calls.evalArgs_plain
abbrev QcU:=@Array.getElem_toList
abbrev QcV:=@codeAny_call_builtin
abbrev QcW:=@List.mem_of_getLast?
abbrev QcX:=@wpAny_updateSeq_pair
abbrev QcY:=@PySem.W.looks_findIn
abbrev QcZ:=@List.any_cons
abbrev Qc0:=@plainId_quiet
abbrev Qc1:=@List.map_take
abbrev Qc2:=@List.map_drop
abbrev Qc3:=@boot_max
abbrev Qc4:=@Bool.eq_iff_iff
abbrev Qc5:=@List.forIn_cons
abbrev Qc6:=@Nat.le_succ
abbrev Qc7:=@PySem.F.entry_proto_collect
abbrev Qc8:=@PySem.F.plain_proto_collect
abbrev Qc9:=@Int.mul_add
abbrev Qda:=@Option.map_some
abbrev Qdb:=@List.length_pos_iff
abbrev Qdc:=@Int.fmod_eq_emod_of_nonneg
abbrev Qdd:=@Int.fdiv_eq_ediv_of_nonneg
abbrev Qde:=@Array.getElem?_eq_some_iff
abbrev Qdf:=@List.length_eraseIdx_of_lt
abbrev Qdg:=@Int.add_mul_emod_self_left
abbrev Qdh:=@PySem.F.excBase_ValueError
abbrev Qdi:=@PySem.W.of_hideAll
abbrev Qdj:=@wpAny_pyIter_tuple
abbrev Qdk:=@List.mem_filterMap
abbrev Qdl:=@PySem.W.callWith_K
abbrev Qdm:=@Nat.lt_or_eq_of_le
abbrev Qdn:=@tupleKind_room_in1
abbrev Qdo:=@Int.lt_of_le_of_lt
abbrev Qdp:=@List.getElem?_zip_eq_some
abbrev Qdq:=@wpAny_letOwnedTupleGo_zip
abbrev Qdr:=@Calls.call_function_entry
abbrev Qds:=@List.drop_zero
abbrev Qdt:=@List.drop_eq_getElem_cons
abbrev Qdu:=@wpAny_getItem_list_slice
abbrev Qdv:=@PyProof.noPylong_of_log2
abbrev Qdw:=@List.reverse_cons
abbrev Qdx:=@AutoSeq1.wpAny_loadPart'
abbrev Qdy:=@Paired.length
abbrev Qdz:=@Calls.loadGlobal_global
abbrev QdA:=@if_false
abbrev QdB:=@if_true
abbrev QdC:=@List.all_cons
abbrev QdD:=@List.getLast?_cons_cons
abbrev QdE:=@List.filter_cons_of_neg
abbrev QdF:=@PySem.F.entry_list_iadd
abbrev QdG:=@wpAny_onRaise
abbrev QdH:=@PySem.F.attr_ValueError
abbrev QdI:=@PySem.F.args_dict_get_3
abbrev QdJ:=@PySem.F.plainAttrs_dict
abbrev QdK:=@Int.eq_ofNat_of_zero_le
abbrev QdL:=@List.mem_flatMap
abbrev QdM:=@List.mem_reverse
abbrev QdN:=@List.getElem?_set_self
abbrev QdO:=@PySem.W.cellsFrom_some
abbrev QdP:=@subscriptTail_builtinR
abbrev QdQ:=@PySem.F.entry_dict_get
abbrev QdR:=@PySem.F.slot_dict_keys
abbrev QdS:=@wpAny_isTrue_Compare1
abbrev QdT:=@List.of_mem_zip
abbrev QdU:=@SeqAt.compareEq_reads
abbrev QdV:=@Nat.sub_self
abbrev QdW:=@Nat.sub_zero
abbrev QdX:=@PySem.F.plain_set_new
abbrev QdY:=@builtinLookup_eq_fast
abbrev QdZ:=@PySem.F.slot_set_iter
abbrev Qd0:=@List.length_nil
abbrev Qd1:=@wpAny_ite_split
abbrev Qd2:=@wpAny_updateSeq
abbrev Qd3:=@List.map_map
abbrev Qd4:=@Int.mul_zero
abbrev Qd5:=@List.getElem?_reverse
abbrev Qd6:=@Int.lt_trans
abbrev Qd7:=@List.length_filter_le
abbrev Qd8:=@Int.ediv_nonneg
abbrev Qd9:=@List.mem_range
abbrev Qea:=@wpAny_runValue
abbrev Qeb:=@isSubtype_type
abbrev Qec:=@isSubtype_stop
abbrev Qed:=@Sum.inl.inj
abbrev Qee:=@Int.mul_one
abbrev Qef:=@wpAny_of_eq
abbrev Qeg:=@Nat.log2_lt
abbrev Qeh:=@wpAny_standAt
abbrev Qei:=@evalPart_none
abbrev Qej:=@wpAny_attempt
abbrev Qek:=@wpAny_call
abbrev Qel:=@Subscript_
abbrev Qem:=@wpAny_typeOf
abbrev Qen:=@List.map_nil
abbrev Qeo:=@seqIndex_neg
abbrev Qep:=@List.all_map
abbrev Qeq:=@call_meetsIn
abbrev Qer:=@Int.add_comm
end
namespace PySem.W.Fast
def tw16980994883155650668:=()
def tw14559973157110390860:=()
def tw11900373931487411884:=()
def tw11166270055863569964:=()
def tw16437143040122045260:=()
def tw15858676447123990924:=()
def tw2106263826473944460:=()
def tw14527685074778820332:=()
def tw2752397548809858796:=()
def tw7325200758380719820:=()
def tw9491931196120563404:=()
def tw8883665590192459468:=()
def tw3583871254466909452:=()
def tw4025670067248386668:=()
def tw954564725182156364:=()
def tw4666013227633353292:=()
def tw7504374845184194572:=()
def tw11379976960133721452:=()
def tw15930292198595727724:=()
def tw4399320139227217804:=()
def tw17906394735119888268:=()
def tw9797387737630163180:=()
def tw7654727932375898924:=()
def tw14286280669196156684:=()
def tw18058532876478890453:=()
def tw5311639400478237493:=()
def tw1401509582345540373:=()
def tw12784943452520698549:=()
def tw18113315555679417013:=()
def tw15989015587585031829:=()
def tw5726105772819992693:=()
def tw4147353204528979957:=()
def tw3366320172880910613:=()
def tw4353940413025208181:=()
def tw6459978854054381621:=()
def tw1823848077888966974:=()
def tw6295116572639413566:=()
def tw11145209535855801982:=()
def tw17815841198907443838:=()
def tw2895225064016617694:=()
def tw15748026642049232286:=()
def tw15657411988371727614:=()
def tw16669544646956322622:=()
def tw9640604322281368382:=()
def tw13303400279264435326:=()
def tw16186405134703108222:=()
def tw3242389827125515262:=()
def tw2125783719742690910:=()
def tw2600560882388445790:=()
def tw3292523085078931006:=()
def tw11093872452006535038:=()
def tw3622840662178643422:=()
def tw15567895188145983527:=()
def tw1769630051724493191:=()
def tw212855234870898631:=()
def tw12655657000209465607:=()
def tw17291217970262444295:=()
def tw12639012558538718471:=()
def tw15681999791270593351:=()
def tw3098979852477862727:=()
def tw3804204564233662247:=()
def tw17928604793057145639:=()
def tw12749405397320786055:=()
def tw16564468633709694663:=()
def tw11102541999729304263:=()
def tw10236931473772150791:=()
def tw3914917561558633031:=()
def tw963965396462737863:=()
def tw11836719714724477351:=()
def tw1072818604688923975:=()
def tw5794239175397825159:=()
def tw4654228970892847303:=()
def tw2270499705042147495:=()
def tw12836696657627029096:=()
def tw3027800204916135528:=()
def tw6559228751876387784:=()
def tw4845390527590098888:=()
def tw15046483677253088648:=()
def tw3342536707005575880:=()
def tw9065746780786078376:=()
def tw7907168525248736488:=()
def tw8940071408957411912:=()
def tw2128567357378891912:=()
def tw11628766716399174760:=()
def tw599265418045321512:=()
def tw17758832640983357320:=()
def tw6294880016525533384:=()
def tw1402442567088437000:=()
def tw6852893786558684936:=()
def tw9063824338192907153:=()
def tw4593770073500138385:=()
def tw3174643469912039313:=()
def tw1343284602543042033:=()
def tw13034208523572350769:=()
def tw5700641672663521073:=()
def tw10936452466225888593:=()
def tw8802351673401647761:=()
def tw1960808041347895953:=()
def tw2093057023275100401:=()
def tw15047427083198554673:=()
def tw4603782570493269073:=()
def tw10582163806784138641:=()
def tw6696302780151909361:=()
def tw12286699539198489329:=()
def tw13385122189868901105:=()
def tw10764802989828860218:=()
def tw14890326603284829370:=()
def tw9864553227104881946:=()
def tw180336325842460698:=()
def tw12007635399712794490:=()
def tw3877718225488600858:=()
def tw17131139606054494970:=()
def tw15821560194176008538:=()
def tw10677489561714266458:=()
def tw811166970153990627:=()
def tw1890000122412541411:=()
def tw16852608882115260803:=()
def tw16694822922651688963:=()
def tw10497937354512399363:=()
def tw8368047917801533443:=()
def tw14156780109431330371:=()
def tw10220498655759190563:=()
def tw15248397102447369763:=()
def tw18165990707340605315:=()
def tw1174442771035141891:=()
def tw16324646389993831715:=()
def tw2621640766992926756:=()
def tw15651289077369361316:=()
def tw2702379024511639012:=()
def tw2542355412112971556:=()
def tw8157940216428342052:=()
def tw9519897368121283236:=()
def tw5176956860714300964:=()
def tw15689542239909264484:=()
def tw678312930945198500:=()
def tw3150103155170003364:=()
def tw4152013944541838340:=()
def tw16700883685757223236:=()
def tw15202694297796932900:=()
def tw3254510509322604292:=()
def tw13830221920050559748:=()
def tw10363935397630026541:=()
def tw752171748591049517:=()
def tw11282586908864585037:=()
def tw796376724998315693:=()
def tw8837928053624286861:=()
def tw386796026063293069:=()
def tw14008028696226790637:=()
def tw7017693350869487853:=()
def tw6009731274060923117:=()
def tw15523923948571338957:=()
def tw6204804013208099949:=()
def tw18096686725886590061:=()
def tw12473154169846193229:=()
def tw15222702145854245869:=()
def tw3546509444557231981:=()
def tw8541871009339770029:=()
def tw1173607839178604685:=()
def tw16895185228604908237:=()
def tw324891452741277741:=()
def tw5313034936135422573:=()
def tw17192951597694148205:=()
def tw18140987535242656365:=()
def tw18315977292846781005:=()
def tw14742922257160674838:=()
def tw11239663371089331734:=()
def tw11982580080478516726:=()
def tw7547773769310198262:=()
def tw8095177291342894166:=()
def tw9693987599991699414:=()
def tw11855437242860095190:=()
def tw13824593923444564982:=()
def tw12212408072956735478:=()
def tw8242579918262646518:=()
def tw3495516214739205462:=()
def tw11707010435202275807:=()
def tw3188356942448349663:=()
def tw10938241819879678399:=()
def tw13040362893006489599:=()
def tw3028169677241289791:=()
def tw3682784914194005663:=()
def tw12889237632468920991:=()
def tw3596284485227668095:=()
def tw6154598204932799455:=()
def tw2206203579288216543:=()
def tw5459660918704034751:=()
def tw2523975175381802495:=()
def tw1170647030431583071:=()
def tw10126498749442120863:=()
def tw2296421236570028191:=()
def tw14876366480311893728:=()
def tw17413614416751097536:=()
def tw13636901107242339104:=()
def tw10804359574193840896:=()
def tw12965744576572934784:=()
def tw2285936160512132736:=()
def tw16462950158291788416:=()
def tw16791178553959465504:=()
def tw11987857834077622816:=()
def tw9174841422751379552:=()
def tw17855274969506956672:=()
def tw9331436614005346560:=()
def tw9989566830286388352:=()
def tw8943587081461215689:=()
def tw12189879682854214089:=()
def tw51840352378426121:=()
def tw1964275195070955145:=()
def tw14097408756129163465:=()
def tw16209331859635128489:=()
def tw16492337177357070505:=()
def tw12928800560832007657:=()
def tw7581997445622891561:=()
def tw10917738319669624201:=()
def tw13898255765369550217:=()
def tw12686071507520778601:=()
def tw8016679920684018953:=()
def tw6034465708867185929:=()
def tw13126976711536899209:=()
def tw17722970645818229897:=()
def tw11025115103849806505:=()
def tw4983482664541844489:=()
def tw17702357119200520169:=()
def tw2066871092555358761:=()
def tw505296409913092242:=()
def tw16360251988226688498:=()
def tw1275156017707709906:=()
def tw7535577346020824402:=()
def tw15466015578831876018:=()
def tw5846064330532873138:=()
def tw14645605004353294130:=()
def tw18401170674933984946:=()
def tw2493310861706944178:=()
def tw15636603799731814034:=()
def tw8019732707672939154:=()
def tw2237015686027492210:=()
def tw3318131092614001490:=()
def tw8157919752481299890:=()
def tw13125082133383069426:=()
def tw13278175409786598747:=()
def tw10418331024610226971:=()
def tw10094502516014441243:=()
def tw15696686888337703579:=()
def tw6331288576021450363:=()
def tw5978824315449253851:=()
def tw9256367615161078715:=()
def tw6376206562605741563:=()
def tw12543139712683089755:=()
def tw14528304433713807163:=()
def tw18229039433068140827:=()
def tw10210667793599807739:=()
def tw8653701479702614587:=()
def tw17046519032057246748:=()
def tw13694333033549768700:=()
def tw5303490161395612572:=()
def tw12818066580785717116:=()
def tw2706696501165671740:=()
def tw11394170447237104956:=()
def tw13069942221842508412:=()
def tw18383491306579334780:=()
def tw3975021589261163740:=()
def tw4161346278261904572:=()
def tw3841662973739814268:=()
def tw4793072684217332092:=()
def tw2311312412069053820:=()
def tw3324380767766921596:=()
def tw427447332028086556:=()
def tw13048769832025570588:=()
def tw12003580959492851996:=()
def tw18078038774641853724:=()
def tw13421028278851552508:=()
def tw9598015181525159068:=()
def tw718409130362234757:=()
def tw3575688821329569669:=()
def tw6341464884194337637:=()
def tw17767485072680363877:=()
def tw17916088932896221637:=()
def tw3335704106948880805:=()
def tw587589287570655973:=()
def tw8838110169184809605:=()
def tw4686574472814546277:=()
def tw11054914735339983813:=()
def tw461615927490220293:=()
def tw4525797367662895333:=()
def tw16159955384586566469:=()
def tw5650825963722124293:=()
def tw13412491665272889614:=()
def tw4323266579239136526:=()
def tw5518176946673566894:=()
def tw3171449641549369806:=()
def tw8205569988489147406:=()
def tw13930053566284908558:=()
def tw9201292217258747246:=()
def tw14776989219550123950:=()
def tw854560066933574542:=()
def tw6060308167399872398:=()
def tw12173406991730831246:=()
def tw4320463339150586958:=()
def tw3907716016419437102:=()
def tw4918748477503854094:=()
def tw13307060763534916430:=()
def tw7098264895677373870:=()
def tw16771620953092946350:=()
def tw9736698889177614734:=()
def tw8040569848742437262:=()
def tw11564079333242678711:=()
def tw4425405830669986231:=()
def tw14496053909319187447:=()
def tw12771069162062326103:=()
def tw7807253496237803831:=()
def tw9504413322319720663:=()
def tw1109048755205008599:=()
def tw9504405446191884471:=()
def tw12311488580757475095:=()
def tw5895203929044392567:=()
def tw13977518649792703447:=()
def tw782650592114279927:=()
def tw6313370236280872343:=()
def tw15885116488371451607:=()
def tw3678810775766547159:=()
def tw13196153725439709783:=()
def tw10947626594965709367:=()
def tw4701475138318306423:=()
def tw17631089708130372280:=()
def tw8338971947610545176:=()
def tw8947748412758864760:=()
def tw14558337065642698168:=()
def tw836972813075817912:=()
def tw4449710818080901912:=()
def tw7425924030594783000:=()
def tw10633580943064560248:=()
def tw9019335828298153176:=()
def tw4374992229576865976:=()
def tw16525388831059705368:=()
def tw7326497796944996280:=()
def tw2093732663347367864:=()
def tw12384664131960490104:=()
def tw14572701138303990904:=()
def tw3374118430911418785:=()
def tw15566366010891991809:=()
def tw17899643458275703553:=()
def tw11595274884641885953:=()
def tw4027532317575946561:=()
def tw10835543134525877569:=()
def tw621490409327332673:=()
def tw4942806076924329249:=()
def tw8679801397165494561:=()
def tw13502508025219741985:=()
def tw8664998826801592609:=()
def tw13416089232085302913:=()
def tw9058148921452770945:=()
def tw5726830237045426817:=()
def tw2767436547795339777:=()
def tw17046576692301631521:=()
def tw546426496843209089:=()
def tw7522656155617658817:=()
def tw1098952327197476097:=()
def tw14635279614230080737:=()
def tw14333742382376752353:=()
def tw8869081105653359393:=()
def tw2068106070114113633:=()
def tw7266855551584710625:=()
def tw13291702144358748129:=()
def tw18225630606965850657:=()
def tw11401372402821981866:=()
def tw12634177440798379594:=()
def tw10162280390867176906:=()
def tw257017390668149770:=()
def tw14995770170913950730:=()
def tw5001507182208156682:=()
def tw11589759984616242506:=()
def tw17050458696555850026:=()
def tw15748088760214424874:=()
def tw17921273405506765706:=()
def tw4856871158652822442:=()
def tw2821040999217456618:=()
def tw2857493544999662058:=()
def tw8329538392739197770:=()
def tw16728873832388614858:=()
def tw5399516812089653331:=()
def tw2237841119549275539:=()
def tw5884105059949300115:=()
def tw15911609505875081619:=()
def tw2580803630034584563:=()
def tw14545299805324250067:=()
def tw2849726030681578355:=()
def tw10754598007538108243:=()
def tw12067479069800782003:=()
def tw3626875304461275859:=()
def tw2336971030183942739:=()
def tw4610877123576987411:=()
def tw11234240147000924531:=()
def tw17097801082803025587:=()
def tw15163468787686079731:=()
def tw208164060502167091:=()
def tw7581538917290288659:=()
def tw8490607158850216051:=()
def tw13796005542746466996:=()
def tw8519960378318816116:=()
def tw4654468417511611828:=()
def tw1539044934302006676:=()
def tw17743876478650809044:=()
def tw16499948069939152500:=()
def tw5051058641184058548:=()
def tw7991678318668414100:=()
def tw2748700949080883572:=()
def tw17884955308493592692:=()
def tw18059907587931044349:=()
def tw12419759024782804701:=()
def tw12151004262371843805:=()
def tw10255913789796307101:=()
def tw13696319978744198365:=()
def tw17306992741417281757:=()
def tw7525122663732747229:=()
def tw5384479702299124390:=()
def tw17076678930898019590:=()
def tw16139709070105452966:=()
def tw16322965497078139910:=()
def tw7519056903709958150:=()
def tw2377421537326710086:=()
def tw17098663549534663878:=()
def tw14633690824573567046:=()
def tw8810283949483792454:=()
def tw18274559900123903046:=()
def tw17947903316515531814:=()
def tw2522498406677910118:=()
def tw11340396747092500422:=()
def tw2107887833592391590:=()
def tw11300068533693481894:=()
def tw7993459483460989862:=()
def tw14281515491626235366:=()
def tw256447367385800166:=()
def tw3376005258977031558:=()
def tw5544251835079349958:=()
def tw11525026170509219215:=()
def tw14973868976962357231:=()
def tw8292506853549104111:=()
def tw16269394327752278991:=()
def tw14109321665808568175:=()
def tw5553529884576790703:=()
def tw17421404080586653583:=()
def tw8424252872632602063:=()
def tw3203715655496225583:=()
def tw9394610327810210479:=()
def tw6370624443070685839:=()
def tw8051154775567258831:=()
def tw6354334233507642479:=()
def tw10511636459898176592:=()
def tw7756383573996893136:=()
def tw7193894282273186352:=()
def tw4666188186965465616:=()
def tw6586669793861758800:=()
def tw7712635942935207344:=()
def tw13202247083294161168:=()
def tw8376174931032602992:=()
def tw13882072462991900592:=()
def tw9520700739680046992:=()
def tw417628540981640400:=()
def tw13532613550865286256:=()
def tw5064657048269595760:=()
def tw11175678609831306745:=()
def tw12907225752491493209:=()
def tw17763412874775362393:=()
def tw10409875852130562425:=()
def tw1127771985604294329:=()
def tw15902827471283805433:=()
def tw15585073788467489337:=()
def tw5530251192334321689:=()
def tw3308240877785228601:=()
def tw7835674075659153721:=()
def tw8207697521112510329:=()
def tw834597999620440953:=()
def tw7769887234139572441:=()
def tw13029739773611058361:=()
def tw2863700425538451097:=()
def tw1443929343905577593:=()
def tw14045162691066982937:=()
def tw11186621352678511842:=()
def tw17030455214781211202:=()
def tw10761285323374753186:=()
def tw2013873578490430338:=()
def tw16255566637327262562:=()
def tw10402976034753390754:=()
def tw16167982576559594242:=()
def tw8375109358095374370:=()
def tw2980254552606724034:=()
def tw1392405431348478466:=()
def tw5516732895749248482:=()
def tw4996654522958870338:=()
def tw5497699474778225026:=()
def tw7562971052191240546:=()
def tw15778126059228257675:=()
def tw12050894634719721451:=()
def tw18215902051454517067:=()
def tw4888274219907199819:=()
def tw2139323586424233131:=()
def tw10752759881837776459:=()
def tw9832302663487964075:=()
def tw1455104051063513899:=()
def tw16513862188392691467:=()
def tw16441578997825846923:=()
def tw9199532033673260267:=()
def tw5439198438199551511:=()
end PySem.W.Fast
set_option Elab.async false
set_option linter.all false
set_option maxRecDepth 100000
namespace L2
open PySem PySem.Spec PyProof.Rows
variable {s s':Shared}{qa:List (Addr×Obj)}{x qr:Str}{a b C dx it:Addr}{h h' base:Heap}{u:Value}{E:Value→Shared→Prop}{e tg c l:Expr}{P:Program}{w:World}{i t' n j:Nat}{A:Around}{op:CmpOp}{o:Obj}{es:List Expr}{M:Model}{us:List Value}{ch fp:List Addr}{Q:Unit→Shared→Prop}{body:List Stmt}{p pos':PySem.Pos}{f:Value→Value→Sem Value}{ps N:List Str}{g':Array GenState}{d':Drawn}{lo:Int}{g:Int→Int→Int}{mA mg:Str→Option Value}{fd:FuncData}{scope:Scope}
abbrev Key:=Sum Int Str
def Zjb:Key→Value→Bool
 | .inl k,v=>Value.isInt k v
 | .inr x,v=>Value.isStrOf x v
def ZqJ (w:World):Key→Int
 | .inl k=>hashInt k
 | .inr x=>hashStr w x
theorem Zbk:∀{k:Key} {v:Value},Zjb k v=true→(∃i t,k=Sum.inl i∧v=Value.int i t)∨(∃x t,k=Sum.inr x∧v=Value.str x t)
 | .inl i,v,h=>by
  obtain⟨t,e⟩:=Value.isInt_shape (k:=i) (v:=v) h;exact .inl ⟨i,t,rfl,e⟩
 | .inr x,v,h=>by
  obtain⟨t,e⟩:=Value.isStrOf_shape (x:=x) (v:=v) h;exact .inr ⟨x,t,rfl,e⟩
theorem ZjZ (i:Int)(t:Tok):Zjb (.inl i) (.int i t)=true:=by simp[Zjb,Value.isInt]
theorem Zj0 (x:Str)(t:Tok):Zjb (.inr x) (.str x t)=true:=by simp[Zjb,Value.isStrOf]
theorem ZoF (a b:Int):decide ((Sum.inl a:Key)=Sum.inl b)=(a==b):=by
 by_cases e:a=b
 ·subst e;simp
 ·have h:¬(Sum.inl a:Key)=Sum.inl b:=fun q=>e (Qed q);rw[QaN h];exact(beq_eq_false_iff_ne.mpr e).symm
theorem ZoG (a b:Str):decide ((Sum.inr a:Key)=Sum.inr b)=decide (a=b):=by
 by_cases e:a=b
 ·subst e;simp
 ·have h:¬(Sum.inr a:Key)=Sum.inr b:=fun q=>e (Sum.inr.inj q);rw[QaN h,QaN e]
theorem ZoH (a:Int)(b:Str):decide ((Sum.inl a:Key)=Sum.inr b)=false:=QaN (fun q=>nomatch q)
theorem ZoI (a:Str)(b:Int):decide ((Sum.inr a:Key)=Sum.inl b)=false:=QaN (fun q=>nomatch q)
def Zbu (prog:Program)(w:World):PySem.KeyKind prog w Key where
 is:=Zjb
 hash:=ZqJ w
 inj:=fun v a b ha hb=>by
  rcases Zbk ha with⟨i,t,rfl,rfl⟩|⟨x,t,rfl,rfl⟩
  ·rcases Zbk hb with⟨j,u,rfl,e⟩|⟨y,u,rfl,e⟩
   ·injection e with e1 _;rw[e1]
   ·exact nomatch e
  ·rcases Zbk hb with⟨j,u,rfl,e⟩|⟨y,u,rfl,e⟩
   ·exact nomatch e
   ·injection e with e1 _;rw[e1]
 byValue:=fun k v h=>by
  rcases Zbk h with⟨i,t,rfl,rfl⟩|⟨x,t,rfl,rfl⟩<;>rfl
 pyHash:=fun hv h=>by
  rcases Zbk hv with⟨i,t,rfl,rfl⟩|⟨x,t,rfl,rfl⟩
  ·exact wpAny_pyHash_int h
  ·exact wpAny_pyHash_str h
 eqBool:=fun hu hv h=>by
  rcases Zbk hu with⟨i,t,rfl,rfl⟩|⟨x,t,rfl,rfl⟩
  ·rcases Zbk hv with⟨j,u,rfl,rfl⟩|⟨y,u,rfl,rfl⟩
   ·rw[ZoF] at h;exact wpAny_eqBool_int h
   ·rw[ZoH] at h;exact SeqAt.EqAt.int_str i t y u _ _ _ _ h
  ·rcases Zbk hv with⟨j,u,rfl,rfl⟩|⟨y,u,rfl,rfl⟩
   ·rw[ZoI] at h;exact SeqAt.EqAt.str_int x t j u _ _ _ _ h
   ·rw[ZoG] at h;exact wpAny_eqBool_str h
 «strs»:=fun k x t v h=>by
  rcases Zbk h with⟨i,u,rfl,e⟩|⟨y,u,rfl,e⟩
  ·exact nomatch e
  ·injection e with e1 _
   subst e1;cases v<;>rfl
theorem Zhu (prog:Program)(w:World)(i:Int)(t:Tok):(Zbu prog w).is (.inl i) (.int i t)=true:=ZjZ i t
theorem Zhv (prog:Program)(w:World)(x:Str)(t:Tok):(Zbu prog w).is (.inr x) (.str x t)=true:=Zj0 x t
inductive V where
 |non|bl (b:Bool)|int (i:Int)|str (x:Str)|byt (b:Array UInt8)|flt (b:UInt64)|ref (a:Addr)|ty (n:String)
 deriving DecidableEq
def ZbB:V→Value→Prop
 | .non,u=>u=Value.none
 | .bl b,u=>u=Value.bool b
 | .int i,u=>∃t,u=Value.int i t
 | .str x,u=>∃t,u=Value.str x t
 | .byt b,u=>∃t,u=Value.bytes b t
 | .flt b,u=>∃t,u=Value.float b t
 | .ref a,u=>u=Value.ref a
 | .ty n,u=>u=Value.type n
abbrev ZbC:List V→List Value→Prop:=Paired ZbB
theorem ZbC.length {xs:List V}{us:List Value}(r:ZbC xs us):xs.length=us.length:=Qdy r
theorem ZbC.get:∀{xs:List V} {us:List Value} {i:Nat} {x:V},ZbC xs us→xs[i]?=some x→∃u,us[i]?=some u∧ZbB x u
 |_,_,_,_,.nil,e=>by simp at e
 |_,_,0,_,.cons r _,e=>by simp at e;subst e;exact⟨_,rfl,r⟩
 |_,_,i+1,x,.cons _ t,e=>by
  obtain⟨u,h1,h2⟩:=ZbC.get (i:=i) (x:=x) t (by simpa using e);exact⟨u,by simpa using h1,h2⟩
theorem ZbC.set {x:V}{u:Value}(r:ZbB x u):∀{xs:List V} {us:List Value} (i:Nat),ZbC xs us→ZbC (xs.set i x) (us.set i u)
 |_,_,_,.nil=> .nil
 |_,_,0,.cons _ t=> .cons r t
 |_,_,i+1,.cons q t=> .cons q (ZbC.set r i t)
theorem ZbC.append:∀{xs ys:List V} {us ws:List Value},ZbC xs us→ZbC ys ws→ZbC (xs++ys) (us++ws)
 |_,_,_,_,.nil,s=>s
 |_,_,_,_,.cons r t,s=> .cons r (ZbC.append t s)
theorem ZbC.take:∀{xs:List V} {us:List Value} (n:Nat),ZbC xs us→ZbC (xs.take n) (us.take n)
 |_,_,0,_=> .nil
 |_,_,_+1,.nil=> .nil
 |_,_,n+1,.cons r t=> .cons r (ZbC.take n t)
theorem ZbC.drop:∀{xs:List V} {us:List Value} (n:Nat),ZbC xs us→ZbC (xs.drop n) (us.drop n)
 |_,_,0,r=>r
 |_,_,_+1,.nil=> .nil
 |_,_,n+1,.cons _ t=>ZbC.drop n t
def Zjc:Option V→Option Value→Prop
 |some v,some u=>ZbB v u
 |none,none=>True
 |_,_=>False
def KV {κ:Type}:List (κ×V)→List (κ×Value)→Prop:=Paired fun(p:κ×V) (q:κ×Value)=>p.1=q.1∧ZbB p.2 q.2
def kV:Key→V
 | .inl i=> .int i
 | .inr x=> .str x
inductive HO where
 |lst (xs:List V)
 |tup (xs:List V)
 |dK (kvs:List (Key×V))|dT (kvs:List (List Key×V))
 |set (S:Int→Bool) (n:Nat)
 |ins (C dx:Addr) (fs:List (Str×V))
 |own (x:Addr)
 |xd (fs:List (Str×V))
 |met (f x:Addr)
 |rng (lo hi:Int)
 |frz (o:Obj) (u:HO)
 |tbl (ps:Array Value)
 |ext (φ:Heap→Prop)
abbrev Hp:=Addr→Option HO
def upd (H:Hp)(a:Addr)(o:HO):Hp:=fun b=>if b=a then some o else H b
theorem Zad {H:Hp}{o:HO}:upd H a o a=some o:=by unfold upd;rw[if_pos rfl]
theorem Zax {H:Hp}{o:HO}(h:b≠a):upd H a o b=H b:=by unfold upd;rw[if_neg h]
theorem Zl3 {H:Hp}{o u:HO}(h:H a=some o)(h':H b=some u)(d:o≠u):a≠b:=by
 intro e;subst e;rw[h] at h';exact d (Qbn h')
theorem Zav {H:Hp}{o:HO}(h:H a=some o)(h':H b=none):a≠b:=by
 intro e;subst e;rw[h] at h';cases h'
section
variable (P:Program)(w:World)
def ZbN (H:Hp)(h:Heap)(a:Addr):HO→Prop
 | .lst xs=>xs.length≤sizeLine∧∃(its:List Value) (n:Nat),ZbC xs its∧h.get? a=some {cls:=.type "list",data:=.seq its.toArray n }
 | .tup xs=>xs.length≤sizeLine∧∃its:List Value,ZbC xs its∧IsTup h a its.toArray
 | .dK kvs=>kvs.length≤sizeLine∧(a==sysModules)=false∧∃vs,KV kvs vs∧h.DictOf (Zbu P w) a vs
 | .dT kvs=>kvs.length≤sizeLine∧(a==sysModules)=false∧∃xs:List (List Key×Addr×Value),
   Paired (fun(p:List Key×V) (q:List Key×Addr×Value)=>p.1=q.1∧H q.2.1=some (.tup (p.1.map kV))∧ZbB p.2 q.2.2) kvs xs∧
   ∃o es ep,h.get? a=some o∧o.ExactDict∧o.data= .dict es ep∧es.toList=xs.map (entryOfKey (tupleKind (Zbu P w)))∧(xs.map (·.1)).Nodup
 | .set S n=>h.SetOf (intKind P w) a S n
 | .ins C dx fs=>H dx=some (.own a)∧fs.length≤1000∧dx≠a∧h.get? a=some (PySem.W.instObj C dx)∧
   ∃mA,h.Ns1 dx mA∧(∀f,Zjc (fs.lookup f) (mA f))∧PySem.Within mA (fs.map (·.1))
 | .own _=>∃o,h.get? a=some o
 | .xd fs=>∃mA,h.Ns1 a mA∧∀f,Zjc (fs.lookup f) (mA f)
 | .rng lo hi=>∃t u v,h.get? a=some {cls:=.type "range",data:=.fields #[.int lo t,.int hi u,.int 1 v] }
 | .frz o u=>h.get? a=some o∧ZbN H h a u
 | .tbl ps=>h.get? a=some {cls:=.none,data:=.fields ps }
 | .met f x=>h.get? a=some (PySem.W.methodObj (.ref f) (.ref x))
 | .ext φ=>φ h∧(∃o,h.get? a=some o)∧∀h1 h2:Heap,φ h1→(∀o,h1.get? a=some o→h2.get? a=some o)→φ h2
def HOk (H:Hp)(h:Heap):Prop:=∀a o,H a=some o→ZbN P w H h a o
end
section
variable {H H':Hp}{o:HO}
theorem ZbN.lt (x:ZbN P w H h a o):a<h.objs.size:=by
 cases o with
 |lst xs=>obtain⟨_,_,_,_,e⟩:=x;exact Qap e
 |tup xs=>obtain⟨_,_,_,p⟩:=x;exact p.lt
 |dK kvs=>obtain⟨_,_,_,_,o,_,_,e,_⟩:=x;exact Qap e
 |dT kvs=>obtain⟨_,_,_,_,o,_,_,e,_⟩:=x;exact Qap e
 |set S n=>obtain⟨o,_,_,_,e,_⟩:=x;exact Qap e
 |ins C dx fs=>obtain⟨_,_,_,e,_⟩:=x;exact Qap e
 |own y=>obtain⟨_,e⟩:=x;exact Qap e
 |xd fs=>obtain⟨_,⟨_,_,_,e,_⟩,_⟩:=x;exact Qap e
 |rng lo hi=>obtain⟨_,_,_,e⟩:=x;exact Qap e
 |frz ob u=>obtain⟨e,_⟩:=x;exact Qap e
 |tbl ps=>exact Qap (show h.get? a=some _ from x)
 |met f y=>exact Qap (show h.get? a=some _ from x)
 |ext φ=>obtain⟨_,⟨_,e⟩,_⟩:=x;exact Qap e
theorem Paired.mapP {α β:Type}{F G:α→β→Prop}:∀{l₁:List α} {l₂:List β},Paired F l₁ l₂→(∀a b,F a b→G a b)→Paired G l₁ l₂
 |_,_,.nil,_=> .nil
 |_,_,.cons r t,f=> .cons (f _ _ r) (Paired.mapP t f)
theorem ZbN.stay (x:ZbN P w H h a o)(k:∀b u,(b=a∨H b=some (.own a))→h.get? b=some u→h'.get? b=some u)
  (ho:∀b,H b=some (.own a)→H' b=some (.own a)) (ht:∀b xs,H b=some (.tup xs)→H' b=some (.tup xs)):ZbN P w H' h' a o:=by
 induction o with
 |lst xs=>obtain⟨z,its,n,r,e⟩:=x;exact⟨z,its,n,r,k _ _ (.inl rfl) e⟩
 |tup xs=>obtain⟨z,its,r,ob,e,c⟩:=x;exact⟨z,its,r,ob,k _ _ (.inl rfl) e,c⟩
 |dK kvs=>obtain⟨z,y,vs,r,ob,es,ep,e,c⟩:=x;exact⟨z,y,vs,r,ob,es,ep,k _ _ (.inl rfl) e,c⟩
 |dT kvs=>
  obtain⟨z,y,xs,r,ob,es,ep,e,c⟩:=x;exact⟨z,y,xs,Paired.mapP r fun p q z=>⟨z.1,ht _ _ z.2.1,z.2.2⟩,ob,es,ep,k _ _ (.inl rfl) e,c⟩
 |set S n=>obtain⟨ob,es,ep,t,e,c⟩:=x;exact⟨ob,es,ep,t,k _ _ (.inl rfl) e,c⟩
 |ins C dx fs=>
  obtain⟨d,z,ne,e,mA,⟨od,es,ep,e2,c⟩,r⟩:=x;exact⟨ho _ d,z,ne,k _ _ (.inl rfl) e,mA,⟨od,es,ep,k _ _ (.inr d) e2,c⟩,r⟩
 |own y=>obtain⟨ob,e⟩:=x;exact⟨ob,k _ _ (.inl rfl) e⟩
 |xd fs=>obtain⟨mA,⟨od,es,ep,e,c⟩,r⟩:=x;exact⟨mA,⟨od,es,ep,k _ _ (.inl rfl) e,c⟩,r⟩
 |rng lo hi=>obtain⟨t,u,v,e⟩:=x;exact⟨t,u,v,k _ _ (.inl rfl) e⟩
 |frz ob u ih=>obtain⟨e,q⟩:=x;exact⟨k _ _ (.inl rfl) e,ih q⟩
 |tbl ps=>
  have e:h.get? a=some {cls:=.none,data:=.fields ps }:=x;show h'.get? a=some {cls:=.none,data:=.fields ps };exact k a _ (.inl rfl) e
 |met f y=>
  have e:h.get? a=some (PySem.W.methodObj (.ref f) (.ref y)):=x;show h'.get? a=some (PySem.W.methodObj (.ref f) (.ref y));exact k a _ (.inl rfl) e
 |ext φ=>obtain⟨p,⟨o,e⟩,st⟩:=x;exact⟨st _ _ p fun o q=>k _ _ (.inl rfl) q,⟨o,k _ _ (.inl rfl) e⟩,st⟩
theorem HOk.lt (x:HOk P w H h)(e:H a=some o):a<h.objs.size:=(x a o e).lt
theorem HOk.fresh (x:HOk P w H h)(e:h.objs.size≤a):H a=none:=by
 cases q:H a with
 |none=>rfl
 |some u=>exact absurd (QaC (x.lt q) e) (Qbp _)
theorem HOk.kept (x:HOk P w H h)(k:∀b u,h.get? b=some u→h'.get? b=some u):HOk P w H h':=fun a o e=>
 (x a o e).stay (fun b u _ q=>k b u q) (fun _ q=>q) fun _ _ q=>q
theorem HOk.laid (x:HOk P w H h)(k:∀b u,h.get? b=some u→h'.get? b=some u)(hp:h.objs.size≤a)(new:ZbN P w (upd H a o) h' a o):HOk P w (upd H a o) h':=fun b u e=>by
 have hn:=x.fresh hp;by_cases hb:b=a
 ·subst hb;rw[Zad] at e;cases e;exact new
 ·rw[Zax hb] at e;exact(x b u e).stay (fun c v _ q=>k c v q) (fun c q=>by rw[Zax (Zav q hn)];exact q) fun c xs q=>by rw[Zax (Zav q hn)];exact q
end
def Rd (H:Hp)(a:Addr)(u:HO):Prop:=H a=some u∨∃o,H a=some (.frz o u)
theorem Rd.ok {H:Hp}{u:HO}(r:Rd H a u)(x:HOk P w H h):ZbN P w H h a u:=by
 rcases r with r|⟨o,r⟩
 ·exact x a u r
 ·obtain⟨_,q⟩:=x a _ r;exact q
def Mut:Option HO→Prop
 |some (.lst _)=>True
 |some (.dK _)=>True
 |some (.dT _)=>True
 |some (.set _ _)=>True
 |some (.ins _ _ _)=>True
 |some (.ext _)=>True
 |_=>False
section
variable {H:Hp}{x e:Addr}{o':HO}
theorem HOk.write (ok:HOk P w H h)(mu:Mut (H x))(he:e=x∨H e=some (.own x))(k:∀b u,b≠e→h.get? b=some u→h'.get? b=some u)(heo:∃u,h'.get? e=some u)
  (new:ZbN P w (upd H x o') h' x o'):HOk P w (upd H x o') h':=fun b u q=>by
 have nown:∀c y,H c=some (.own y)→c≠x:=fun c y r z=>by subst z;rw[r] at mu;exact mu
 have ntup:∀c xs,H c=some (.tup xs)→c≠x:=fun c xs r z=>by subst z;rw[r] at mu;exact mu
 by_cases hb:b=x
 ·subst hb;rw[Zad] at q;cases q;exact new
 ·rw[Zax hb] at q;by_cases hbe:b=e
  ·have q':H b=some (.own x):=by
    rcases he with z|z
    ·exact absurd (hbe.trans z) hb
    ·rw[hbe];exact z
   rw[q] at q';cases q';obtain⟨v,hv⟩:=heo;exact⟨v,by rw[hbe];exact hv⟩
  ·refine(ok b u q).stay (fun c v hc r=>k c v ?_ r) (fun c r=>by rw[Zax (nown c b r)];exact r) fun c xs r=>by rw[Zax (ntup c xs r)];exact r
   rcases hc with rfl|hc
   ·exact hbe
   ·rintro rfl;rcases he with z|z
    ·exact nown c b hc z
    ·rw[hc] at z;cases z;exact hb rfl
end
structure Un (fs ex:List Addr)(H H':Hp)(h h':Heap):Prop where
 keep:∀b o,h.get? b=some o→H b=none→b∉fs→b∉ex→h'.get? b=some o
 slot:∀b o,h.get? b=some o→H b=none→b∈fs→b∉ex→∃sl,h'.get? b=some {o with slots:=sl }
 free:∀b o,h.get? b=some o→H b=none→b∉ex→H' b=none
 there:∀b o,h.get? b=some o→b∉ex→∃o',h'.get? b=some o'
 tups:∀b xs,H b=some (.tup xs)→H' b=some (.tup xs)
 frzs:∀b o u,H b=some (.frz o u)→H' b=some (.frz o u)
 tbls:∀b ps,H b=some (.tbl ps)→∃more,H' b=some (.tbl (ps++more))
section
variable {fs fs' ex ex':List Addr}{H H1 H2:Hp}{h1 h2:Heap}{x e:Addr}{o:HO}
theorem Un.any (u:Un fs ex H H1 h h1){ob:Obj}(q:h.get? b=some ob)(n:H b=none)(hx:b∉ex):∃sl,h1.get? b=some {ob with slots:=sl }:=by
 by_cases hb:b∈fs
 ·exact u.slot b ob q n hb hx
 ·exact⟨ob.slots,u.keep b ob q n hb hx⟩
theorem Un.kept (k:∀b u,h.get? b=some u→h'.get? b=some u):Un fs ex H H h h':=
 ⟨fun b ob q _ _ _=>k b ob q,fun b ob q _ _ _=>⟨ob.slots,k b ob q⟩,fun _ _ _ n _=>n,fun b ob q _=>⟨ob,k b ob q⟩,fun _ _ q=>q,fun _ _ _ q=>q,fun _ ps q=>⟨#[],by rw[q];simp⟩⟩
theorem Un.refl:Un fs ex H H h h:=Un.kept fun _ _ q=>q
theorem Un.laid (k:∀b u,h.get? b=some u→h'.get? b=some u)(hp:h.objs.size≤a)(hn:H a=none):Un fs ex H (upd H a o) h h' where
 keep:=fun b u q _ _ _=>k b u q
 slot:=fun b u q _ _ _=>⟨u.slots,k b u q⟩
 free:=fun b u q n _=>by rw[Zax (QaL (QaC (Qap q) hp))];exact n
 there:=fun b u q _=>⟨u,k b u q⟩
 tups:=fun b xs q=>by rw[Zax (Zav q hn)];exact q
 frzs:=fun b u xs q=>by rw[Zax (Zav q hn)];exact q
 tbls:=fun b ps q=>⟨#[],by rw[Zax (Zav q hn),q];simp⟩
theorem Un.write (mu:Mut (H x))(he:e=x∨H e=some (.own x))(k:∀b u,b≠e→h.get? b=some u→h'.get? b=some u)(heo:∃u,h'.get? e=some u):Un fs ex H (upd H x o) h h':=by
 have hx:∀b,H b=none→b≠x:=fun b n z=>by subst z;rw[n] at mu;exact mu
 have hb:∀b,H b=none→b≠e:=fun b n z=>by
  subst z;rcases he with r|r
  ·exact hx b n r
  ·rw[n] at r;cases r
 have hm:∀b u,H b=some u→¬Mut (some u)→b≠x:=fun b u q nm z=>by subst z;rw[q] at mu;exact nm mu
 refine⟨fun b u q n _ _=>k b u (hb b n) q,fun b u q n _ _=>⟨u.slots,k b u (hb b n) q⟩,fun b u q n _=>by rw[Zax (hx b n)];exact n,fun b u q _=> ?_,
  fun b xs q=>by rw[Zax (hm b _ q fun z=>z)];exact q,fun b u xs q=>by rw[Zax (hm b _ q fun z=>z)];exact q,fun b ps q=>⟨#[],by rw[Zax (hm b _ q fun z=>z),q];simp⟩⟩
 by_cases hbe:b=e
 ·subst hbe;exact heo
 ·exact⟨u,k b u hbe q⟩
end
def trk (h:Heap)(H:Hp):List Addr:=(List.range h.objs.size).filter fun a=>(H a).isSome
def Zl4 (h:Heap)(H:Hp):Heap:=PySem.W.hideAll h (trk h H)
theorem Zj1 (h:Heap)(H:Hp):(Zl4 h H).objs.size=h.objs.size:=PySem.W.hideAll_size _ _
theorem Zl5 {H:Hp}(e:h.get? b=some o)(n:H b=none):(Zl4 h H).get? b=some o:=
 PySem.W.hideAll_get _ e fun hm=>by
  have q:(H b).isSome=true:=(QbM.mp hm).2;rw[n] at q;simp at q
theorem ZnG {H:Hp}(e:(Zl4 h H).get? b=some o):h.get? b=some o∧H b=none:=by
 have e':h.get? b=some o:=Qdi (trk h H) e;refine⟨e',?_⟩
 cases q:H b with
 |none=>rfl
 |some x=>
  have hm:b∈trk h H:=QbM.mpr ⟨Qd9.mpr (Qap e'),by simp[q]⟩;have z:(Zl4 h H).get? b=none:=PySem.W.hideAll_none (trk h H) hm;rw[z] at e;cases e
def ZnH (g h:Heap)(L:Addr):List (Addr×Obj):=(List.range h.objs.size).filterMap fun a=>if a=L∨(g.get? a).isSome=true then none else(h.get? a).map fun o=>(a,o)
def rest (g h:Heap)(L d:Addr):List (Addr×Obj):=(ZnH g h L).filter fun p=>decide (p.1≠d)
structure Mod (K:PySem.W.Frag)(mg:Str→Option Value)(base:Heap):Prop where
 kin:K.In base
 glob:base.Ns mainGlobals mg
 blt:∃mb,base.Ns builtinsNs mb∧∀x:Str,x≠ "__name__" →mb x=bootBuiltins x
 nolimit:base.NoLimit
structure Cx where
 prog:Program
 w:World
 K:PySem.W.Frag
 mg:Str→Option Value
 base:Heap
 A:Around
 N:List Str
 s₀:Shared
 H₀:Hp
 env:Env
 outer:List Env
 stack:List Env
 ex:List Addr
 fn:Str→Bool
 calm:Bool
 pn:List (Addr×Obj)
 xe:Value→Shared→Prop
def frs (l:List Env):List Addr:=l.filterMap (·.frame)
abbrev Cx.fs (X:Cx):List Addr:=frs X.outer
def Vis (sc:Scope)(x:Str):Prop:=sc.names.lookup x=some .local∨sc.names.lookup x=some .cell∨sc.names.lookup x=some .free
def Loc (sc:Scope)(x:Str):Prop:=sc.names.lookup x=some .local∨sc.names.lookup x=some .cell
def Zqs (env:Env)(h:Heap)(m:Str→Option Value)(x:Str)(u:Value):Prop:=
 (env.kindOf x=some .local∧m x=some u)∨((env.kindOf x=some .cell∨env.kindOf x=some .free)∧∃c,env.cells.lookup x=some c∧h.IsCell c (some u))
structure Cx.Ok (X:Cx):Prop where
 mod:Mod X.K X.mg X.base
 kind:X.env.scope.kind= .function
 glob:X.env.globals=mainGlobals
 blt:X.env.builtins=builtinsNs
 above:X.s₀.heap.objs.size≤X.env.locals
 inj:∀x y c,X.env.cells.lookup x=some c→X.env.cells.lookup y=some c→x=y
 has:∀x,(X.env.kindOf x=some .cell∨X.env.kindOf x=some .free)→∃c,X.env.cells.lookup x=some c
 cab:∀x c,X.fn x=true→X.env.cells.lookup x=some c→X.s₀.heap.objs.size≤c
 hd:X.calm=true→X.A.handled=none
 frames:X.A.frames=some X.stack
 stk:X.stack=X.outer∨(X.stack=X.env::X.outer∧X.env.frame=some X.env.locals)
 exf:∀b∈X.ex,b≠X.env.locals∧∀x c,X.env.cells.lookup x=some c→c≠b
 bs:∀b o,X.base.get? b=some o→X.s₀.heap.get? b=some o∧X.H₀ b=none
 bsz:X.base.objs.size≤X.s₀.heap.objs.size
 noex:∀b o,X.base.get? b=some o→b∉X.ex
 exfs:∀b∈X.ex,b∉X.fs
 funs:X.s₀.heap.FunFrames X.base X.outer
 frf:∀b∈X.fs,X.H₀ b=none
structure Inv (X:Cx)(qa:List (Addr×Obj))(σ:List (Option V))(H:Hp)(s:Shared):Prop where
 ok:X.Ok
 os:s.os=X.s₀.os
 bare:AllBare s.gens
 base:Un X.fs X.ex X.H₀ H X.s₀.heap s.heap
 loc:∃m,s.heap.Ns X.env.locals m∧∀(i:Nat) (x:Str) (v:V),X.N[i]?=some x→σ[i]?=some (some v)→Vis X.env.scope x→∃u,ZbB v u∧Zqs X.env s.heap m x u
 cell:∀x c,X.env.cells.lookup x=some c→∃v,s.heap.IsCell c v
 free:H X.env.locals=none
 freeC:∀x c,X.env.cells.lookup x=some c→H c=none
 pin:∀p∈X.pn++qa,s.heap.get? p.1=some p.2∧H p.1=none∧p.1≠X.env.locals∧p.1∉X.fs∧∀v,p.2.data≠ .cell v
 hok:HOk X.prog X.w H s.heap
 len:σ.length=X.N.length
section
variable {X:Cx}{σ:List (Option V)}{H H':Hp}
theorem Cx.Ok.nofr (ok:X.Ok)(e:X.base.get? b=some o):b∉X.fs:=fun hb=>by
 have:=(ok.funs.mem hb).1;rw[e] at this;cases this
theorem Inv.bs (I:Inv X qa σ H s):∀b o,X.base.get? b=some o→s.heap.get? b=some o∧H b=none:=fun b o e=>
 ⟨I.base.keep b o (I.ok.bs b o e).1 (I.ok.bs b o e).2 (I.ok.nofr e) (I.ok.noex b o e),I.base.free b o (I.ok.bs b o e).1 (I.ok.bs b o e).2 (I.ok.noex b o e)⟩
theorem Inv.bk (I:Inv X qa σ H s):∀b o,X.base.get? b=some o→s.heap.get? b=some o:=fun b o e=>(I.bs b o e).1
theorem Inv.mod (I:Inv X qa σ H s):Mod X.K X.mg X.base:=I.ok.mod
theorem Inv.kIn (I:Inv X qa σ H s):X.K.In s.heap:=I.ok.mod.kin.keeps I.bk
theorem Inv.lt (I:Inv X qa σ H s):X.env.locals<s.heap.objs.size:=let⟨_,hn,_⟩:=I.loc;hn.lt
theorem Inv.sz (I:Inv X qa σ H s):X.s₀.heap.objs.size≤s.heap.objs.size:=QaD I.ok.above (Qcc I.lt)
theorem Inv.nofs (I:Inv X qa σ H s)(h:s.heap.objs.size≤a):a∉X.fs:=fun hb=>by
 obtain⟨_,o,ho,_⟩:=I.ok.funs.mem hb;exact absurd (QaC (Qap ho) (QaD I.sz h)) (Qbp _)
theorem Inv.cne (I:Inv X qa σ H s):∀x c,X.env.cells.lookup x=some c→c≠X.env.locals:=fun x c e z=>by
 obtain⟨v,o,ho,hd⟩:=I.cell x c e;obtain⟨m,⟨o',es,ep,ho',hd',_⟩,_⟩:=I.loc;rw[z,ho'] at ho;cases ho;rw[hd'] at hd;cases hd
theorem Inv.funs (I:Inv X qa σ H s):s.heap.FunFrames X.base X.outer:=by
 have all:∀(l:List Env),(∀b∈frs l,b∈X.fs)→X.s₀.heap.FunFrames X.base l→s.heap.FunFrames X.base l:=by
  intro l
  induction l with
  |nil=>intro _ _;trivial
  |cons env r ih=>
   intro hs hl;obtain⟨hk,⟨L,o,hf,hn,ho,hd⟩,hr⟩:=hl;have hL:L∈X.fs:=hs L (by unfold frs;rw[Qb1,hf];exact Qad);obtain⟨sl,e⟩:=I.base.slot L o ho (I.ok.frf L hL) hL fun z=>I.ok.exfs L z hL;exact⟨hk,⟨L,_,hf,hn,e,hd⟩,ih (fun b hb=>hs b (by unfold frs;rw[Qb1,hf];exact Qab _ hb)) hr⟩
 exact all X.outer (fun _ hb=>hb) I.ok.funs
theorem Inv.stack (I:Inv X qa σ H s):s.heap.FunFrames X.base X.stack:=by
 rcases I.ok.stk with e|⟨e,hf⟩
 ·rw[e];exact I.funs
 ·rw[e];obtain⟨m,hn,_⟩:=I.loc;refine .cons (by rw[I.ok.kind];decide) hf hn ?_ I.funs;exact Heap.get?_none_of_le (QaD I.ok.bsz I.ok.above)
theorem Inv.stkSub (I:Inv X qa σ H s):∀b∈frs X.stack,b∈X.env.locals::X.fs:=fun b hb=>by
 rcases I.ok.stk with e|⟨e,hf⟩
 ·rw[e] at hb;exact Qab _ hb
 ·rw[e] at hb;unfold frs at hb;rw[Qb1,hf] at hb;exact hb
theorem Inv.stkFree (I:Inv X qa σ H s):∀b∈frs X.stack,H b=none:=fun b hb=>by
 rcases Qas.mp (I.stkSub b hb) with e|hb
 ·rw[e];exact I.free
 ·obtain⟨_,o,ho,_⟩:=I.ok.funs.mem hb;exact I.base.free b o ho (I.ok.frf b hb) fun z=>I.ok.exfs b z hb
theorem Inv.step (I:Inv X qa σ H s)
  (hch:∀b∈ch,(b∈X.ex∨X.s₀.heap.objs.size≤b)∧b≠X.env.locals∧(∀x c,X.env.cells.lookup x=some c→c≠b)∧∀p∈X.pn++qa,p.1≠b)
  (keep:∀b o,b≠X.env.locals→b∉X.fs→b∉ch→s.heap.get? b=some o→H b=none→h'.get? b=some o)
  (slot:∀b o,b≠X.env.locals→b∈X.fs→b∉ch→s.heap.get? b=some o→H b=none→∃sl,h'.get? b=some {o with slots:=sl }) (free:∀b o,b∉ch→s.heap.get? b=some o→H b=none→H' b=none)
  (there:∀b o,b∉ch→s.heap.get? b=some o→∃o',h'.get? b=some o')
  (tups:∀b xs,H b=some (.tup xs)→H' b=some (.tup xs)) (frzs:∀b o u,H b=some (.frz o u)→H' b=some (.frz o u)) (tbls:∀b ps,H b=some (.tbl ps)→∃more,H' b=some (.tbl (ps++more)))
  (ns:∀m,s.heap.Ns X.env.locals m→h'.Ns X.env.locals m) (hok:HOk X.prog X.w H' h') (hg:AllBare g'):
  Inv X qa σ H' {s with heap:=h',gens:=g',drawn:=d',toks:=t' }:=by
 have neL:∀b o,X.s₀.heap.get? b=some o→b≠X.env.locals:=fun b o e=>QaL (QaC (Qap e) I.ok.above)
 have neC:∀b o,X.s₀.heap.get? b=some o→b∉X.ex→b∉ch:=fun b o e hx hb=>by
  rcases(hch b hb).1 with z|z
  ·exact hx z
  ·exact absurd (QaC (Qap e) z) (Qbp _)
 have cellK:∀x c,X.env.cells.lookup x=some c→∀v,s.heap.IsCell c v→h'.IsCell c v:=fun x c e v ⟨o,ho,hd⟩=>by
  have nch:c∉ch:=fun z=>(hch c z).2.2.1 x c e rfl;by_cases hc:c∈X.fs
  ·obtain⟨sl,q⟩:=slot c o (I.cne x c e) hc nch ho (I.freeC x c e);exact⟨_,q,hd⟩
  ·exact⟨o,keep c o (I.cne x c e) hc nch ho (I.freeC x c e),hd⟩
 refine⟨I.ok,I.os,hg,⟨fun b o e n hb hx=> ?_,fun b o e n hb hx=> ?_,fun b o e n hx=> ?_,fun b o e hx=> ?_,fun b xs e=>tups b xs (I.base.tups b xs e),fun b o xs e=>frzs b o xs (I.base.frzs b o xs e),fun b ps e=> ?_⟩,?_,fun x c e=> ?_,?_,fun x c e=> ?_,fun p hp=> ?_,hok,I.len⟩
 ·exact keep b o (neL b o e) hb (neC b o e hx) (I.base.keep b o e n hb hx) (I.base.free b o e n hx)
 ·obtain⟨sl,e1⟩:=I.base.slot b o e n hb hx;obtain⟨sl',e2⟩:=slot b _ (neL b o e) hb (neC b o e hx) e1 (I.base.free b o e n hx);exact⟨sl',e2⟩
 ·obtain⟨o',e1⟩:=I.base.there b o e hx;exact free b o' (neC b o e hx) e1 (I.base.free b o e n hx)
 ·obtain⟨o',e1⟩:=I.base.there b o e hx;exact there b o' (neC b o e hx) e1
 ·obtain⟨m1,e1⟩:=I.base.tbls b ps e;obtain⟨m2,e2⟩:=tbls b _ e1;exact⟨m1++m2,by rw[e2,Array.append_assoc]⟩
 ·obtain⟨m,hn,hl⟩:=I.loc;refine⟨m,ns m hn,fun i x v e1 e2 e3=> ?_⟩;obtain⟨u,r,l⟩:=hl i x v e1 e2 e3;refine⟨u,r,?_⟩;rcases l with l|⟨k,c,e,z⟩
  ·exact .inl l
  ·exact .inr ⟨k,c,e,cellK x c e _ z⟩
 ·obtain⟨v,z⟩:=I.cell x c e;exact⟨v,cellK x c e v z⟩
 ·obtain⟨m,⟨o,_,_,ho,_⟩,_⟩:=I.loc;exact free _ o (fun z=>(hch _ z).2.1 rfl) ho I.free
 ·obtain⟨v,o,ho,hd⟩:=I.cell x c e;exact free c o (fun z=>(hch c z).2.2.1 x c e rfl) ho (I.freeC x c e)
 ·obtain⟨e,n,ne,nf,d⟩:=I.pin p hp;have nch:p.1∉ch:=fun z=>(hch p.1 z).2.2.2 p hp rfl;exact⟨keep p.1 p.2 ne nf nch e n,free p.1 p.2 nch e n,ne,nf,d⟩
theorem Inv.un (I:Inv X qa σ H s)(u:Un X.fs [] H H' s.heap h')(hok:HOk X.prog X.w H' h'):Inv X qa σ H' {s with heap:=h',toks:=t' }:=by
 obtain⟨m,⟨o,es,ep,ho,r⟩,_⟩:=id I.loc;obtain⟨sl,hL⟩:=u.any ho I.free (by simp)
 exact I.step (g':=s.gens) (d':=s.drawn) (ch:=[]) (fun _ z=>nomatch z) (fun b o _ hb _ e n=>u.keep b o e n hb (by simp)) (fun b o _ hb _ e n=>u.slot b o e n hb (by simp)) (fun b o _ e n=>u.free b o e n (by simp)) (fun b o _ e=>u.there b o e (by simp)) u.tups u.frzs u.tbls (fun m' hm=>by
  obtain⟨o',es',ep',ho',r'⟩:=hm
  rw[ho] at ho';cases ho'
  exact⟨_,es',ep',hL,r'⟩) hok I.bare
theorem Inv.call (I:Inv X qa σ H s)(u:Un (frs X.stack) ch H H' s.heap h')(hok:HOk X.prog X.w H' h')(hg:AllBare g')
  (hch:∀b∈ch,(b∈X.ex∨X.s₀.heap.objs.size≤b)∧b≠X.env.locals∧(∀x c,X.env.cells.lookup x=some c→c≠b)∧∀p∈X.pn++qa,p.1≠b):
  Inv X qa σ H' {s with heap:=h',gens:=g',drawn:=d',toks:=t' }:=by
 obtain⟨m,⟨o,es,ep,ho,r⟩,_⟩:=id I.loc;obtain⟨sl,hL⟩:=u.any ho I.free fun z=>(hch _ z).2.1 rfl
 exact I.step (ch:=ch) hch (fun b o hL hb hc e n=>u.keep b o e n (fun z=>(Qas.mp (I.stkSub b z)).elim hL hb) hc) (fun b o _ _ hc e n=>u.any e n hc) (fun b o hc e n=>u.free b o e n hc) (fun b o hc e=>u.there b o e hc) u.tups u.frzs u.tbls (fun m' hm=>by
  obtain⟨o',es',ep',ho',r'⟩:=hm
  rw[ho] at ho';cases ho'
  exact⟨_,es',ep',hL,r'⟩) hok hg
theorem Inv.turned (I:Inv X qa σ H s)(k:∀b o,b≠it→s.heap.get? b=some o→h'.get? b=some o)(hn:H it=none)(hL:it≠X.env.locals)
  (h1:it∈X.ex∨X.s₀.heap.objs.size≤it) (h2:∀x c,X.env.cells.lookup x=some c→c≠it) (h3:∀p∈X.pn++qa,p.1≠it):Inv X qa σ H {s with heap:=h',toks:=t' }:=by
 have nit:∀b u,H b=some u→b≠it:=fun b u e z=>by rw[z,hn] at e;cases e
 refine I.step (g':=s.gens) (d':=s.drawn) (ch:=[it]) (fun b hb=> ?_) (fun b o _ _ hc e _=>k b o (fun z=>hc (by simp[z])) e) (fun b o _ _ hc e _=>⟨o.slots,k b o (fun z=>hc (by simp[z])) e⟩) (fun _ _ _ _ n=>n)
  (fun b o hc e=>⟨o,k b o (fun z=>hc (by simp[z])) e⟩) (fun _ _ e=>e) (fun _ _ _ e=>e) (fun b ps e=>⟨#[],by rw[e];simp⟩) (fun m hm=> ?_) (fun b u e=> ?_) I.bare
 ·have e:b=it:=by simpa using hb
  subst e;exact⟨h1,hL,h2,h3⟩
 ·obtain⟨o,es,ep,ho,r⟩:=hm;exact⟨o,es,ep,k _ o (Ne.symm hL) ho,r⟩
 ·refine(I.hok b u e).stay (fun c v hc q=>k c v ?_ q) (fun _ q=>q) fun _ _ q=>q;rcases hc with z|z
  ·rw[z];exact nit b u e
  ·exact nit c _ z
theorem Inv.tok (I:Inv X qa σ H s)(t:Nat):Inv X qa σ H {s with toks:=t }:=I.un (h':=s.heap) (t':=t) Un.refl I.hok
theorem Inv.kept {t':Nat}(I:Inv X qa σ H s)(k:∀b u,s.heap.get? b=some u→h'.get? b=some u):Inv X qa σ H {s with heap:=h',toks:=t' }:=I.un (Un.kept k) (I.hok.kept k)
theorem Inv.laid {a:Addr}{o:HO}{t':Nat}(I:Inv X qa σ H s)(k:∀b u,s.heap.get? b=some u→h'.get? b=some u)(hp:s.heap.objs.size≤a)(new:ZbN X.prog X.w (upd H a o) h' a o):
  Inv X qa σ (upd H a o) {s with heap:=h',toks:=t' }:=I.un (Un.laid k hp (I.hok.fresh hp)) (I.hok.laid k hp new)
theorem Inv.write {x e:Addr}{o:HO}{t':Nat}(I:Inv X qa σ H s)(mu:Mut (H x))(he:e=x∨H e=some (.own x))(k:∀b u,b≠e→s.heap.get? b=some u→h'.get? b=some u)(heo:∃u,h'.get? e=some u)
  (new:ZbN X.prog X.w (upd H x o) h' x o):Inv X qa σ (upd H x o) {s with heap:=h',toks:=t' }:=I.un (Un.write mu he k heo) (I.hok.write mu he k heo new)
theorem Inv.pins_of {jq:List (Addr×Obj)}(I:Inv X qa σ H s)(h:∀p∈jq,s.heap.get? p.1=some p.2∧H p.1=none∧p.1≠X.env.locals∧p.1∉X.fs∧∀v,p.2.data≠ .cell v):Inv X jq σ H s:=
 ⟨I.ok,I.os,I.bare,I.base,I.loc,I.cell,I.free,I.freeC,fun p hp=>(Qaz.mp hp).elim (fun z=>I.pin p (QaM _ z)) (h p),I.hok,I.len⟩
theorem Zip (hN:N.Nodup)(a:N[i]?=some x)(b:N[j]?=some x):i=j:=by
 obtain⟨h1,e1⟩:=Qaf.mp a;obtain⟨h2,e2⟩:=Qaf.mp b;exact(List.getElem_inj hN).mp (e1.trans e2.symm)
theorem Zj2 {v:V}(I:Inv X qa σ H s)(hN:X.N.Nodup)(hi:X.N[i]?=some x)(hx:Loc X.env.scope x)(r:ZbB v u)
  (h:∀s',Inv X qa (σ.set i (some v)) H s'→(∃a,Heap.SameBut a s.heap s'.heap∧(a=X.env.locals∨X.env.cells.lookup x=some a))→Q () s') (hf:X.fn x=true∨X.env.scope.names.lookup x=some .local:=by first|exact .inl rfl|exact .inr rfl|assumption):wpAny M A (storeName X.env x u) Q E s:=by
 obtain⟨m,hn,hl⟩:=id I.loc;have hcls:(X.env.scope.kind== .class ||(X.env.scope.kind== .module && X.env.locals !=X.env.globals))=false:=by rw[I.ok.kind];rfl
 have hiσ:i<σ.length:=by rw[I.len];exact(Qaf.mp hi).1
 have cne:=I.cne
 have tracked:∀{a:Addr} {h':Heap},(∃o,s.heap.get? a=some o∧H a=none)→Heap.SameBut a s.heap h'→HOk X.prog X.w H h':=fun{a h'} ha hs b ob e=>by
  obtain⟨_,_,jd⟩:=ha;refine(I.hok b ob e).stay (fun c w' hc q=>(hs.2 c ?_).trans q) (fun _ q=>q) fun _ _ q=>q;rintro rfl;rcases hc with rfl|hc
  ·rw[jd] at e;cases e
  ·rw[jd] at hc;cases hc
 rcases hx with hk|hk
 ·refine wpAny_storeName_local hk hn (fun h' hn' hs=> ?_) hcls;obtain⟨oL,_,_,hoL,_⟩:=id hn;refine h _ ⟨I.ok,I.os,I.bare,⟨fun b o e n hb hx=> ?_,fun b o e n hb hx=> ?_,I.base.free,fun b o e hx=> ?_,I.base.tups,I.base.frzs,I.base.tbls⟩,⟨_,hn',fun j y v' e1 e2 e3=> ?_⟩,fun y c e=> ?_,I.free,I.freeC,fun p hp=> ?_,tracked ⟨oL,hoL,I.free⟩ hs,by simpa using I.len⟩ ⟨_,hs,.inl rfl⟩
  ·exact(hs.2 b (QaL (QaC (Qap e) I.ok.above))).trans (I.base.keep b o e n hb hx)
  ·obtain⟨sl,e1⟩:=I.base.slot b o e n hb hx;exact⟨sl,(hs.2 b (QaL (QaC (Qap e) I.ok.above))).trans e1⟩
  ·obtain⟨o',e1⟩:=I.base.there b o e hx;exact⟨o',(hs.2 b (QaL (QaC (Qap e) I.ok.above))).trans e1⟩
  ·by_cases hj:j=i
   ·subst hj;rw[hi] at e1;cases e1;rw[QdN hiσ] at e2;cases e2;exact⟨u,r,.inl ⟨hk,by simp⟩⟩
   ·rw[List.getElem?_set_ne (Ne.symm hj)] at e2;obtain⟨u',r',q⟩:=hl j y v' e1 e2 e3;refine⟨u',r',?_⟩;rcases q with⟨k,e⟩|⟨k,c,e,z⟩
    ·refine .inl ⟨k,?_⟩
     have:y≠x:=fun e=>hj (Zip hN e1 (e ▸ hi));simp[this,e]
    ·exact .inr ⟨k,c,e,z.sameBut hs (cne y c e)⟩
  ·obtain⟨w',z⟩:=I.cell y c e;exact⟨w',z.sameBut hs (cne y c e)⟩
  ·obtain⟨e,n,ne,nf,d⟩:=I.pin p hp;exact⟨(hs.2 p.1 ne).trans e,n,ne,nf,d⟩
 ·have hfn:X.fn x=true:=by
   rcases hf with z|z
   ·exact z
   ·rw[z] at hk;cases hk
  obtain⟨c,hc⟩:=I.ok.has x (.inl hk);obtain⟨w',z⟩:=I.cell x c hc;refine wpAny_storeName_cell I.ok.kind hk hc z (fun h' hc' hs=> ?_);obtain⟨oc,hoc,hocd⟩:=id z;refine h {s with heap:=h' } ⟨I.ok,I.os,I.bare,⟨fun b o e n hb hx=> ?_,fun b o e n hb hx=> ?_,I.base.free,fun b o e hx=> ?_,I.base.tups,I.base.frzs,I.base.tbls⟩,⟨m,hn.sameBut hs (Ne.symm (cne x c hc)),fun j y v' e1 e2 e3=> ?_⟩,fun y c' e=> ?_,I.free,I.freeC,fun p hp=> ?_,tracked ⟨oc,hoc,I.freeC x c hc⟩ hs,by simpa using I.len⟩ ⟨c,hs,.inr hc⟩
  ·exact(hs.2 b (QaL (QaC (Qap e) (I.ok.cab x c hfn hc)))).trans (I.base.keep b o e n hb hx)
  ·obtain⟨sl,e1⟩:=I.base.slot b o e n hb hx;exact⟨sl,(hs.2 b (QaL (QaC (Qap e) (I.ok.cab x c hfn hc)))).trans e1⟩
  ·obtain⟨o',e1⟩:=I.base.there b o e hx;exact⟨o',(hs.2 b (QaL (QaC (Qap e) (I.ok.cab x c hfn hc)))).trans e1⟩
  ·by_cases hj:j=i
   ·subst hj;rw[hi] at e1;cases e1;rw[QdN hiσ] at e2;cases e2;exact⟨u,r,.inr ⟨.inl hk,c,hc,hc'⟩⟩
   ·rw[List.getElem?_set_ne (Ne.symm hj)] at e2;obtain⟨u',r',q⟩:=hl j y v' e1 e2 e3;refine⟨u',r',?_⟩;rcases q with q|⟨k,c',e,z'⟩
    ·exact .inl q
    ·refine .inr ⟨k,c',e,z'.sameBut hs ?_⟩;rintro rfl;exact hj (Zip hN e1 (I.ok.inj _ _ _ e hc ▸ hi))
  ·by_cases hcc:c'=c
   ·subst hcc;exact⟨_,hc'⟩
   ·obtain⟨w2,z2⟩:=I.cell y c' e;exact⟨w2,z2.sameBut hs hcc⟩
  ·obtain⟨e,n,ne,nf,d⟩:=I.pin p hp;refine⟨(hs.2 p.1 ?_).trans e,n,ne,nf,d⟩;intro q;rw[q,hoc] at e;have q':oc=p.2:=Qbn e;exact d w' (by rw[←q'];exact hocd)
theorem Zen {v:V}(I:Inv X qa σ H s)(hN:X.N.Nodup)(hi:X.N[i]?=some x)(hx:Loc X.env.scope x)(r:ZbB v u)
  (h:∀s',Inv X qa (σ.set i (some v)) H s'→Q () s') (hf:X.fn x=true∨X.env.scope.names.lookup x=some .local:=by first|exact .inl rfl|exact .inr rfl|assumption):wpAny M A (storeName X.env x u) Q E s:=
 Zj2 I hN hi hx r (fun s' I' _=>h s' I') hf
theorem Inv.call' (I:Inv X qa σ H s)(ho:s'.os=s.os)(u:Un (frs X.stack) ch H H' s.heap s'.heap)(hok:HOk X.prog X.w H' s'.heap)(hg:AllBare s'.gens)
  (hch:∀b∈ch,(b∈X.ex∨X.s₀.heap.objs.size≤b)∧b≠X.env.locals∧(∀x c,X.env.cells.lookup x=some c→c≠b)∧∀p∈X.pn++qa,p.1≠b):Inv X qa σ H' s':=by
 obtain⟨h',g',d',t',o'⟩:=s';have e:o'=s.os:=ho;subst e;exact I.call (g':=g') (t':=t') (d':=d') u hok hg hch
end
abbrev XK:=Value→Option Addr→Hp→Prop
abbrev St:=List (Option V)
abbrev VK:=V→Hp→Prop
abbrev TE:=St→Hp→VK→Prop
abbrev TT:=St→Hp→(Bool→Hp→Prop)→Prop
abbrev TA:=St→Hp→(List V→Hp→Prop)→Prop
structure Zgk where
 nx:St→Hp→Prop
 rt:VK
 bk:St→Hp→Prop:=fun _ _=>False
 ct:St→Hp→Prop:=fun _ _=>False
abbrev TS:=Zgk→St→Hp→Prop
def EP (X:Cx)(qa:List (Addr×Obj))(σ:St)(Q:VK)(u:Value)(s':Shared):Prop:=∃v H',Inv X qa σ H' s'∧ZbB v u∧Q v H'
def TP (X:Cx)(qa:List (Addr×Obj))(σ:St)(Q:Bool→Hp→Prop)(b:Bool)(s':Shared):Prop:=∃H',Inv X qa σ H' s'∧Q b H'
def AP (X:Cx)(qa:List (Addr×Obj))(σ:St)(Q:List V→Hp→Prop)(us:List Value)(s':Shared):Prop:=∃vs H',Inv X qa σ H' s'∧ZbC vs us∧Q vs H'
def SP (X:Cx)(qa:List (Addr×Obj))(D:Zgk)(f:Flow)(s':Shared):Prop:=
 match f with
 | .next=>∃σ' H',Inv X qa σ' H' s'∧D.nx σ' H'
 | .brk=>∃σ' H',Inv X qa σ' H' s'∧D.bk σ' H'
 | .cont=>∃σ' H',Inv X qa σ' H' s'∧D.ct σ' H'
 | .ret u=>∃v σ' H',Inv X qa σ' H' s'∧ZbB v u∧D.rt v H'
def PE (X:Cx)(e:Expr)(t:TE):Prop:=
 ∀(qa:List (Addr×Obj)) (s:Shared) (σ:St) (H:Hp) (Q:VK),Inv X qa σ H s→t σ H Q→wpAny (model X.prog X.w) X.A (eval e X.env) (EP X qa σ Q) X.xe s
def PT (X:Cx)(e:Expr)(t:TT):Prop:=
 ∀(qa:List (Addr×Obj)) (s:Shared) (σ:St) (H:Hp) (Q:Bool→Hp→Prop),Inv X qa σ H s→t σ H Q→wpAny (model X.prog X.w) X.A (isTrue e X.env (eval e X.env)) (TP X qa σ Q) X.xe s
def PW (X:Cx)(e:Expr)(t:TT):Prop:=
 ∀(jr:Sem Value) (qa:List (Addr×Obj)) (s:Shared) (σ:St) (H:Hp) (Q:Bool→Hp→Prop),Inv X qa σ H s→t σ H Q→wpAny (model X.prog X.w) X.A (isTrue e X.env jr) (TP X qa σ Q) X.xe s
theorem PW.pt {X:Cx}{t:TT}(h:PW X e t):PT X e t:=h _
def PA (X:Cx)(es:List Expr)(t:TA):Prop:=
 ∀(pos:PySem.Pos) (qa:List (Addr×Obj)) (s:Shared) (σ:St) (H:Hp) (Q:List V→Hp→Prop),Inv X qa σ H s→t σ H Q→wpAny (model X.prog X.w) X.A (spliced (backTo pos (starEach es X.env))) (AP X qa σ Q) X.xe s
def PS (X:Cx)(st:Stmt)(t:TS):Prop:=
 ∀(qa:List (Addr×Obj)) (s:Shared) (σ:St) (H:Hp) (D:Zgk),Inv X qa σ H s→t D σ H→wpAny (model X.prog X.w) X.A (exec st X.env) (SP X qa D) X.xe s
def PSs (X:Cx)(st:List Stmt)(t:TS):Prop:=
 ∀(qa:List (Addr×Obj)) (s:Shared) (σ:St) (H:Hp) (D:Zgk),Inv X qa σ H s→t D σ H→wpAny (model X.prog X.w) X.A (execs st X.env) (SP X qa D) X.xe s
theorem thn {α:Type}{t:Sem α}{Q Q':α→Shared→Prop}(h:wpAny M A t Q E s)(hQ:∀a s,Q a s→Q' a s):wpAny M A t Q' E s:=Qbh h hQ fun _ _ x=>x
section
variable {X:Cx}
def Zah (i:Nat):TE:=fun σ H Q=>∃v,σ[i]?=some (some v)∧Q v H
def tC (v:V):TE:=fun _ H Q=>Q v H
theorem ZoJ {pos:PySem.Pos}(hN:X.N[i]?=some x)(hv:Vis X.env.scope x)(hd:(x==("__debug__" :Str))=false:=by decide)(hcd:(x==("__classdict__" :Str))=false:=by decide):PE X (.Name x pos) (Zah i):=by
 intro qa s σ H Q I h;obtain⟨v,e,h⟩:=h;obtain⟨m,hn,hl⟩:=I.loc;obtain⟨u,r,l⟩:=hl i x v hN e hv;have fin:EP X qa σ Q u s:=⟨v,H,I,r,h⟩;rcases l with⟨hk,hm⟩|⟨hk,c,hc,qQ⟩
 ·exact wpAny_Name (wpAny_loadName_local I.ok.kind hk hn hm fin) hd
 ·rcases hk with hk|hk
  ·exact wpAny_Name (wpAny_loadName_cell I.ok.kind hk hc qQ fin) hd
  ·exact wpAny_Name (wpAny_loadName_free I.ok.kind hk hc qQ fin hcd) hd
theorem Zaf {i j pos}:PE X (.Constant (.int i) j pos) (tC (.int i)):=fun _ _ _ H _ I h=>wpAny_Constant_int ⟨.int i,H,I.tok _,⟨_,rfl⟩,h⟩
theorem ZdN {b j pos}:PE X (.Constant (.bool b) j pos) (tC (.bl b)):=fun _ _ _ H _ I h=>Constant_bool ⟨.bl b,H,I,rfl,h⟩
theorem ZeA {j pos}:PE X (.Constant .none j pos) (tC .non):=fun _ _ _ H _ I h=>Constant_none ⟨.non,H,I,rfl,h⟩
theorem Ziq {x j pos}:PE X (.Constant (.str x) j pos) (tC (.str x)):=fun _ _ _ H _ I h=>Calls.Constant_str ⟨.str x,H,I.tok _,⟨_,rfl⟩,h⟩
def Gl (X:Cx)(x:Str):Prop:=X.env.kindOf x=some .globalImplicit
theorem ZdY {σ:St}{H:Hp}{pos:PySem.Pos}{Q:Value→Shared→Prop}(I:Inv X qa σ H s)(hg:Gl X x)(hm:X.mg x=some u)(h:Q u s)
  (hd:(x==("__debug__" :Str))=false:=by decide):wpAny (model X.prog X.w) X.A (eval (.Name x pos) X.env) Q E s:=
 Qci I.ok.kind hg (Qdz (by rw[I.ok.glob];exact I.mod.glob.keeps I.bk) hm h) hd
theorem Zea {σ:St}{H:Hp}{pos:PySem.Pos}{Q:Value→Shared→Prop}(I:Inv X qa σ H s)(hg:Gl X x)(hm:X.mg x=none)(hv:bootBuiltins x=some u)(h:Q u s)
  (hn:x≠ "__name__" :=by decide) (hd:(x==("__debug__" :Str))=false:=by decide):wpAny (model X.prog X.w) X.A (eval (.Name x pos) X.env) Q E s:=by
 obtain⟨mb,h1,h2⟩:=I.mod.blt;exact Qci I.ok.kind hg (Calls.loadGlobal_builtin (by rw[I.ok.glob];exact I.mod.glob.keeps I.bk) hm (by rw[I.ok.blt];exact h1.keeps I.bk) ((h2 x hn).trans hv) h) hd
theorem ZcX {v:V}{pos:PySem.Pos}(hg:Gl X x)(hm:X.mg x=some u)(r:ZbB v u)(hd:(x==("__debug__" :Str))=false:=by decide):PE X (.Name x pos) (tC v):=
 fun _ _ _ H _ I h=>ZdY I hg hm ⟨v,H,I,r,h⟩ hd
theorem ZbX {v:V}{pos:PySem.Pos}(hg:Gl X x)(hm:X.mg x=none)(hv:bootBuiltins x=some u)(r:ZbB v u)(hn:x≠ "__name__" :=by decide)(hd:(x==("__debug__" :Str))=false:=by decide):PE X (.Name x pos) (tC v):=
 fun _ _ _ H _ I h=>Zea I hg hm hv ⟨v,H,I,r,h⟩ hn hd
variable {a b:Expr}{ta tb:TE}{pos:PySem.Pos}
def PC (X:Cx)(op:CmpOp)(a b:Expr)(t:TE):Prop:=
 ∀(qa:List (Addr×Obj)) (s:Shared) (σ:St) (H:Hp) (Q:VK),Inv X qa σ H s→t σ H Q→
  wpAny (model X.prog X.w) X.A (eval a X.env) (fun v s₁=>wpAny (model X.prog X.w) X.A (eval b X.env) (fun u s₂=>wpAny (model X.prog X.w) X.A (compareOp op v u) (EP X qa σ Q) X.xe s₂) X.xe s₁) X.xe s
theorem Zl6 (b:Expr)(h:op≠ .In)(h2:op≠ .NotIn):behindInMarks op b=false:=by
 have e1:(op==CmpOp.In)=false:=by cases op<;>first|rfl|exact absurd rfl h
 have e2:(op==CmpOp.NotIn)=false:=by cases op<;>first|rfl|exact absurd rfl h2
 cases b<;>simp[behindInMarks,e1,e2]
def ZpX (ta:TE):TE:=fun σ H Q=>ta σ H fun x H1=>Q (.bl (decide (x= .non))) H1
theorem ZbB.none_iff {x:V}{v:Value}(r:ZbB x v):(v==Value.none)=decide (x= .non):=by
 cases x with
 |non=>cases r;rfl
 |bl _=>cases r;rfl
 |int _=>obtain⟨t,rfl⟩:=r;rfl
 |str _=>obtain⟨t,rfl⟩:=r;rfl
 |byt _=>obtain⟨t,rfl⟩:=r;rfl
 |flt _=>obtain⟨t,rfl⟩:=r;rfl
 |ref _=>cases r;rfl
 |ty _=>cases r;rfl
theorem Znd {j pos'}(ha:PE X a ta):PC X .Is a (.Constant .none j pos') (ZpX ta):=by
 intro qa s σ H Q I h;refine thn (ha qa s σ H _ I h) fun v s1 ⟨x,H1,I1,r1,q1⟩=> ?_;exact Constant_none (is_none_gen ⟨.bl _,H1,I1,by rw[r1.none_iff];rfl,q1⟩)
def tB (t:TE):TT:=fun σ H Q=>t σ H fun x H1=>∃c,x= .bl c∧Q c H1
theorem Zj3 {t:TE}(h:PC X op a b t)(h1:behindInMarks op b=false:=by first|exact Zl6 _ (by decide) (by decide)|rfl):PT X (.Compare a [op] [b] pos) (tB t):=by
 intro qa s σ H Q I hw;refine QdS (thn (h qa s σ H _ I hw) fun v s1 h1=>thn h1 fun u s2 h2=>thn h2 fun c s3 ⟨x,H1,I1,r1,q1⟩=> ?_) h1;obtain⟨d,rfl,q⟩:=q1;cases r1;exact Qbi ⟨H1,I1,q⟩
theorem Zb9 {t:TE}(h:PE X e t)(he:∀jr,isTrue e X.env jr=(do let v←jr;standAt e.pos;holding [v] (truthy v)):=by intro _;rfl):PT X e (tB t):=by
 intro qa s σ H Q I hw;refine isTrue_plain (thn (h qa s σ H _ I hw) fun v s1 ⟨x,H1,I1,r1,q1⟩=> ?_) (he _);obtain⟨d,rfl,q⟩:=q1;cases r1;exact Qbi ⟨H1,I1,q⟩
variable {tA tB':TT}{rest:List Expr}
def ZnI (t u:TT):TT:=fun σ H Q=>t σ H fun c H1=>if c=true then u σ H1 Q else Q false H1
def tOr (t u:TT):TT:=fun σ H Q=>t σ H fun c H1=>if c=true then Q true H1 else u σ H1 Q
def Zgl (t:TT):TT:=fun σ H Q=>t σ H fun c H1=>Q (!c) H1
theorem ZfC (ha:PT X a tA):PW X (.BoolOp .And [a] pos) tA:=by
 intro wh qa s σ H Q I h;refine isTrue_and (thn (ha qa s σ H Q I h) fun c s1 e=> ?_)
 cases c with
 |true=>exact isTrue_and_nil e
 |false=>exact e
theorem Zeb (ha:PT X a tA):PW X (.BoolOp .Or [a] pos) tA:=by
 intro wh qa s σ H Q I h;refine isTrue_or (thn (ha qa s σ H Q I h) fun c s1 e=> ?_)
 cases c with
 |false=>exact isTrue_or_nil e
 |true=>exact e
theorem Zgn (ha:PT X a tA)(hb:PW X (.BoolOp .And (b::rest) pos) tB'):PW X (.BoolOp .And (a::b::rest) pos) (ZnI tA tB'):=by
 intro wh qa s σ H Q I h;refine isTrue_and (thn (ha qa s σ H _ I h) fun c s1 ⟨H1,I1,q1⟩=> ?_)
 cases c with
 |true=>exact hb wh qa s1 σ H1 Q I1 q1
 |false=>exact⟨H1,I1,q1⟩
theorem ZdF (ha:PT X a tA)(hb:PW X (.BoolOp .Or (b::rest) pos) tB'):PW X (.BoolOp .Or (a::b::rest) pos) (tOr tA tB'):=by
 intro wh qa s σ H Q I h;refine isTrue_or (thn (ha qa s σ H _ I h) fun c s1 ⟨H1,I1,q1⟩=> ?_)
 cases c with
 |true=>exact⟨H1,I1,q1⟩
 |false=>exact hb wh qa s1 σ H1 Q I1 q1
theorem Zcs (ha:PT X a tA):PT X (.UnaryOp .Not a pos) (Zgl tA):=by
 intro qa s σ H Q I h;exact isTrue_not (ha qa s σ H (fun c H1=>Q (!c) H1) I h)
def ZdZ (ta tb:TE):TE:=fun σ H Q=>ta σ H fun x H1=>∃c,x= .bl c∧if c=true then tb σ H1 Q else Q (.bl false) H1
def ZpY (ta tb:TE):TE:=fun σ H Q=>ta σ H fun x H1=>∃c,x= .bl c∧if c=true then Q (.bl true) H1 else tb σ H1 Q
def Zl7 (ta:TE):TE:=fun σ H Q=>ta σ H fun x H1=>∃c,x= .bl c∧Q (.bl (!c)) H1
theorem Zc8 {op}{t:TE}(h:PE X a t):PE X (.BoolOp op [a] pos) t:=fun qa s σ H Q I hw=>BoolOp_one (h qa s σ H Q I hw)
theorem Zc2 (ha:PE X a ta)(hb:PE X (.BoolOp .And (b::rest) pos) tb):PE X (.BoolOp .And (a::b::rest) pos) (ZdZ ta tb):=by
 intro qa s σ H Q I h;refine BoolOp_and (thn (ha qa s σ H _ I h) fun v s1 ⟨x,H1,I1,r1,q1⟩=> ?_);obtain⟨c,rfl,q1⟩:=q1;cases r1;refine Qbi ?_
 cases c with
 |true=>exact hb qa s1 σ H1 Q I1 q1
 |false=>exact⟨.bl false,H1,I1,rfl,q1⟩
theorem ZoK (ha:PE X a ta)(hb:PE X (.BoolOp .Or (b::rest) pos) tb):PE X (.BoolOp .Or (a::b::rest) pos) (ZpY ta tb):=by
 intro qa s σ H Q I h;refine BoolOp_or (thn (ha qa s σ H _ I h) fun v s1 ⟨x,H1,I1,r1,q1⟩=> ?_);obtain⟨c,rfl,q1⟩:=q1;cases r1;refine Qbi ?_
 cases c with
 |false=>exact hb qa s1 σ H1 Q I1 q1
 |true=>exact⟨.bl true,H1,I1,rfl,q1⟩
theorem Zir (ha:PE X a ta):PE X (.UnaryOp .Not a pos) (Zl7 ta):=by
 intro qa s σ H Q I h;refine UnaryOp_ (thn (ha qa s σ H _ I h) fun v s1 ⟨x,H1,I1,r1,q1⟩=> ?_);obtain⟨c,rfl,q1⟩:=q1;cases r1;exact not_of (Qbi ⟨.bl (!c),H1,I1,rfl,q1⟩)
def tIf (t:TT)(ta tb:TE):TE:=fun σ H Q=>t σ H fun c H1=>if c=true then ta σ H1 Q else tb σ H1 Q
theorem Zeo (hc:PT X c tA)(ha:PE X a ta)(hb:PE X b tb):PE X (.IfExp c a b pos) (tIf tA ta tb):=by
 intro qa s σ H Q I h;refine wpAny_IfExp (thn (hc qa s σ H _ I h) fun d s1 ⟨H1,I1,q1⟩=> ?_)
 cases d with
 |true=>exact ha qa s1 σ H1 Q I1 q1
 |false=>exact hb qa s1 σ H1 Q I1 q1
end
def SqL (K:PySem.W.Frag)(H:Hp)(a:Addr)(xs:List V):Prop:=
 Rd H a (.lst xs)∨
  ∃(o:Obj) (its:Array Value) (n:Nat),K.lookup a=some o∧o.cls= .type "list" ∧o.dict=none∧o.data= .seq its n∧its.size≤sizeLine∧ZbC xs its.toList
def SqT (K:PySem.W.Frag)(H:Hp)(a:Addr)(xs:List V):Prop:=
 Rd H a (.tup xs)∨
  ∃(o:Obj) (its:Array Value) (n:Nat),K.lookup a=some o∧o.cls= .type "tuple" ∧o.data= .seq its n∧its.size≤sizeLine∧ZbC xs its.toList
def ZqK:Value→Option V
 | .none=>some .non
 | .bool b=>some (.bl b)
 | .int i _=>some (.int i)
 | .str x _=>some (.str x)
 | .bytes b _=>some (.byt b)
 | .float b _=>some (.flt b)
 | .ref a=>some (.ref a)
 | .type n=>some (.ty n)
 |_=>none
theorem ZbB.abs {x:V}(r:ZbB x u):ZqK u=some x:=by
 cases x with
 |non=>cases r;rfl
 |bl _=>cases r;rfl
 |int _=>obtain⟨t,rfl⟩:=r;rfl
 |str _=>obtain⟨t,rfl⟩:=r;rfl
 |byt _=>obtain⟨t,rfl⟩:=r;rfl
 |flt _=>obtain⟨t,rfl⟩:=r;rfl
 |ref _=>cases r;rfl
 |ty _=>cases r;rfl
theorem ZbB.inj {x y:V}(r:ZbB x u)(q:ZbB y u):x=y:=Qbn (r.abs.symm.trans q.abs)
theorem ZbC.inj:∀{xs ys:List V} {us:List Value},ZbC xs us→ZbC ys us→xs=ys
 |_,_,_,.nil,.nil=>rfl
 |_,_,_,.cons r t,.cons r' t'=>by rw[r.inj r',ZbC.inj t t']
section
variable {X:Cx}{σ:St}{H:Hp}{xs ys:List V}
theorem SqL.of {K:PySem.W.Frag}(h:H a=some (.lst xs)):SqL K H a xs:=.inl (.inl h)
theorem SqT.of {K:PySem.W.Frag}(h:H a=some (.tup xs)):SqT K H a xs:=.inl (.inl h)
theorem Inv.list (I:Inv X qa σ H s)(h:SqL X.K H a xs):∃its:List Value,ZbC xs its∧PlainL s.heap a its.toArray∧xs.length≤sizeLine:=by
 rcases h with h|⟨o,its,n,hk,hc,hd,hs,hz,r⟩
 ·obtain⟨z,its,n,r,e⟩:=h.ok I.hok;exact⟨its,r,⟨_,n,e,rfl,rfl,rfl⟩,z⟩
 ·refine⟨its.toList,r,⟨o,n,I.kIn a o hk,hc,hd,by simpa using hs⟩,?_⟩;have e:=r.length;simp only[Qa0] at e;omega
theorem Inv.tuple (I:Inv X qa σ H s)(h:SqT X.K H a xs):∃its:List Value,ZbC xs its∧IsTup s.heap a its.toArray∧xs.length≤sizeLine:=by
 rcases h with h|⟨o,its,n,hk,hc,hs,hz,r⟩
 ·obtain⟨z,its,r,p⟩:=h.ok I.hok;exact⟨its,r,p,z⟩
 ·refine⟨its.toList,r,⟨o,I.kIn a o hk,hc,n,by simpa using hs⟩,?_⟩;have e:=r.length;simp only[Qa0] at e;omega
theorem Inv.list_inj (I:Inv X qa σ H s)(h:SqL X.K H a xs)(h':SqL X.K H a ys):xs=ys:=by
 obtain⟨its,r,⟨o,n,e,_,_,d⟩,_⟩:=I.list h;obtain⟨its',r',⟨o',n',e',_,_,d'⟩,_⟩:=I.list h';rw[e] at e';cases e';rw[d] at d';injection d' with d1 _
 have:its=its':=by simpa using congrArg Array.toList d1
 subst this;exact r.inj r'
theorem Inv.tuple_inj (I:Inv X qa σ H s)(h:SqT X.K H a xs)(h':SqT X.K H a ys):xs=ys:=by
 obtain⟨its,r,⟨o,e,_,n,d⟩,_⟩:=I.tuple h;obtain⟨its',r',⟨o',e',_,n',d'⟩,_⟩:=I.tuple h';rw[e] at e';cases e';rw[d] at d';injection d' with d1 _
 have:its=its':=by simpa using congrArg Array.toList d1
 subst this;exact r.inj r'
end
abbrev Cx.wish (X:Cx)(E:Value→Shared→Prop):Cx:={X with xe:=E }
abbrev Cx.nox (X:Cx):Cx:=X.wish fun _ _=>False
theorem Cx.Ok.wish {X:Cx}(ok:X.Ok)(E:Value→Shared→Prop):(X.wish E).Ok:=
 ⟨ok.mod,ok.kind,ok.glob,ok.blt,ok.above,ok.inj,ok.has,ok.cab,ok.hd,ok.frames,ok.stk,ok.exf,ok.bs,ok.bsz,ok.noex,ok.exfs,ok.funs,ok.frf⟩
theorem Cx.Ok.unwish {X:Cx}(ok:(X.wish E).Ok):X.Ok:=
 ⟨ok.mod,ok.kind,ok.glob,ok.blt,ok.above,ok.inj,ok.has,ok.cab,ok.hd,ok.frames,ok.stk,ok.exf,ok.bs,ok.bsz,ok.noex,ok.exfs,ok.funs,ok.frf⟩
section
variable {X:Cx}{σ:St}{H:Hp}
theorem Inv.wish (I:Inv X qa σ H s)(E:Value→Shared→Prop):Inv (X.wish E) qa σ H s:=⟨I.ok.wish E,I.os,I.bare,I.base,I.loc,I.cell,I.free,I.freeC,I.pin,I.hok,I.len⟩
theorem Inv.unwish (I:Inv (X.wish E) qa σ H s):Inv X qa σ H s:=⟨I.ok.unwish,I.os,I.bare,I.base,I.loc,I.cell,I.free,I.freeC,I.pin,I.hok,I.len⟩
theorem SP.unwish {D:Zgk}{f:Flow}{s':Shared}(h:SP (X.wish E) qa D f s'):SP X qa D f s':=by
 cases f with
 |next=>obtain⟨σ',H',I,q⟩:=h;exact⟨σ',H',I.unwish,q⟩
 |brk=>obtain⟨σ',H',I,q⟩:=h;exact⟨σ',H',I.unwish,q⟩
 |cont=>obtain⟨σ',H',I,q⟩:=h;exact⟨σ',H',I.unwish,q⟩
 |ret u=>obtain⟨v,σ',H',I,r,q⟩:=h;exact⟨v,σ',H',I.unwish,r,q⟩
theorem PE.nox {e:Expr}{t:TE}(h:PE X.nox e t):PE X e t:=fun qa s σ H Q I hw=>
 Qbh (h qa s σ H Q (I.wish _) hw) (fun _ _ ⟨v,H',I',r,q⟩=>⟨v,H',I'.unwish,r,q⟩) fun _ _ z=>False.elim z
theorem PT.nox {e:Expr}{t:TT}(h:PT X.nox e t):PT X e t:=fun qa s σ H Q I hw=>
 Qbh (h qa s σ H Q (I.wish _) hw) (fun _ _ ⟨H',I',q⟩=>⟨H',I'.unwish,q⟩) fun _ _ z=>False.elim z
theorem PSs.nox {st:List Stmt}{t:TS}(h:PSs X.nox st t):PSs X st t:=fun qa s σ H D I hw=>
 Qbh (h qa s σ H D (I.wish _) hw) (fun _ _ q=>q.unwish) fun _ _ z=>False.elim z
end
section
variable {X:Cx}{st:Stmt}{rest:List Stmt}{t u:TS}{te:TE}{pos:PySem.Pos}
def Zbv:TS:=fun D σ H=>D.nx σ H
def ZaP (t u:TS):TS:=fun D σ H=>t {D with nx:=u D } σ H
theorem ZaO:PSs X [] Zbv:=fun _ _ σ H _ I h=>Qcu ⟨σ,H,I,h⟩
theorem Zae (h1:PS X st t)(h2:PSs X rest u):PSs X (st::rest) (ZaP t u):=by
 intro qa s σ H D I h;refine wpAny_execs_cons (thn (h1 qa s σ H {D with nx:=u D } I h) fun f s1 q=> ?_)
 cases f with
 |next=>
  obtain⟨σ',H',I',q⟩:=q;exact h2 qa s1 σ' H' D I' q
 |ret v=>exact q
 |brk=>exact q
 |cont=>exact q
theorem Zaj (h1:PS X st t):PSs X [st] t:=by
 intro qa s σ H D I h;refine wpAny_execs_cons (thn (h1 qa s σ H D I h) fun f s1 q=> ?_)
 cases f with
 |next=>exact Qcu q
 |ret v=>exact q
 |brk=>exact q
 |cont=>exact q
def ZoL:TS:=fun D σ H=>D.ct σ H
theorem Zhw:PS X (.Continue pos) ZoL:=fun _ _ σ H _ I h=>wpAny_Continue ⟨σ,H,I,h⟩
theorem Inv.quiet {σ:St}{H:Hp}(I:Inv X qa σ H s):interactive X.env=false:=by simp[interactive,I.ok.kind]
def ZcI (te:TE):TS:=fun D σ H=>te σ H fun _ H1=>D.nx σ H1
theorem Zbb (he:PE X e te)(hs:swapsWith e none pos.line X.env=pure false:=by rfl):PS X (.Expr e pos) (ZcI te):=by
 intro qa s σ H D I h;exact wpAny_Expr_any (thn (he qa s σ H _ I h) fun v s1 ⟨x,H1,I1,r1,q1⟩=>⟨σ,H1,I1,q1⟩) I.quiet hs
def ZbY (te:TE):TS:=fun D σ H=>te σ H D.rt
theorem ZaD (he:PE X e te):PS X (.Return (some e) pos) (ZbY te):=by
 intro qa s σ H D I h;exact wpAny_Return_some (thn (he qa s σ H _ I h) fun v s1 ⟨x,H1,I1,r1,q1⟩=>⟨x,σ,H1,I1,r1,q1⟩)
def ZcP (c:TT)(t u:TS):TS:=fun D σ H=>c σ H fun b H1=>if b=true then t D σ H1 else u D σ H1
theorem Zbj {a b:List Stmt}{tc:TT}(hc:PT X c tc)(ha:PSs X a t)(hb:PSs X b u):PS X (.If c a b pos) (ZcP tc t u):=by
 intro qa s σ H D I h;refine wpAny_If (thn (hc qa s σ H _ I h) fun d s1 ⟨H1,I1,q1⟩=> ?_)
 cases d with
 |true=>exact ha qa s1 σ H1 D I1 q1
 |false=>exact hb qa s1 σ H1 D I1 q1
end
abbrev TG:=V→St→Hp→(St→Hp→Prop)→Prop
abbrev TGs:=List V→St→Hp→(St→Hp→Prop)→Prop
def PG (X:Cx)(target:Expr)(t:TG):Prop:=
 ∀(qa:List (Addr×Obj)) (s:Shared) (σ:St) (H:Hp) (v:V) (u:Value) (Q:St→Hp→Prop),Inv X qa σ H s→ZbB v u→t v σ H Q→
  wpAny (model X.prog X.w) X.A (assign target X.env u) (fun _ s'=>∃σ' H',Inv X qa σ' H' s'∧Q σ' H') X.xe s
def PGs (X:Cx)(ts:List Expr)(t:TGs):Prop:=
 ∀(qa:List (Addr×Obj)) (s:Shared) (σ:St) (H:Hp) (vs:List V) (us:List Value) (Q:St→Hp→Prop),Inv X qa σ H s→ZbC vs us→t vs σ H Q→
  wpAny (model X.prog X.w) X.A (assignInOrder ((assignEach ts X.env).map (·.2)) us) (fun _ s'=>∃σ' H',Inv X qa σ' H' s'∧Q σ' H') X.xe s
abbrev ZpZ:=V→V→V→Hp→(Hp→Prop)→Prop
def Zqt (X:Cx)(t:ZpZ):Prop:=
 ∀(qa:List (Addr×Obj)) (s:Shared) (σ:St) (H:Hp) (o i v:V) (ov iv u:Value) (Q:Hp→Prop),Inv X qa σ H s→ZbB o ov→ZbB i iv→ZbB v u→t o i v H Q→
  wpAny (model X.prog X.w) X.A (setItem ov iv u) (fun _ s'=>∃H',Inv X qa σ H' s'∧Q H') X.xe s
abbrev TIp:=V→V→Hp→VK→Prop
def PIp (X:Cx)(op:Operator)(t:TIp):Prop:=
 ∀(qa:List (Addr×Obj)) (s:Shared) (σ:St) (H:Hp) (x y:V) (v u:Value) (Q:VK),Inv X qa σ H s→ZbB x v→ZbB y u→t x y H Q→
  wpAny (model X.prog X.w) X.A (inplaceOp op v u) (EP X qa σ Q) X.xe s
section
variable {X:Cx}{pos:PySem.Pos}
def Zan (i:Nat):TG:=fun v σ H Q=>Q (σ.set i (some v)) H
theorem Zal (hN:X.N.Nodup)(hi:X.N[i]?=some x)(hx:Loc X.env.scope x)(hf:X.fn x=true∨X.env.scope.names.lookup x=some .local:=by first|exact .inl rfl|exact .inr rfl|assumption):PG X (.Name x pos) (Zan i):=by
 intro qa s σ H v u Q I r h;exact wpAny_assign_Name (Zen I hN hi hx r (fun s' I'=>⟨_,H,I',h⟩) hf)
def ZfD:TGs:=fun vs σ H Q=>vs=[]∧Q σ H
def Zbc (t:TG)(u:TGs):TGs:=fun vs σ H Q=>∃v r,vs=v::r∧t v σ H fun σ' H'=>u r σ' H' Q
theorem Za2:PGs X [] ZfD:=by
 intro qa s σ H vs us Q I r h;obtain⟨e,h⟩:=h;subst e;cases r;exact assignInOrder_nil ⟨σ,H,I,h⟩
theorem Zaq {t:TG}{u:TGs}(h1:PG X e t)(h2:PGs X es u)
  (hs:(assignEach (e::es) X.env).map (·.2)=assign e X.env::(assignEach es X.env).map (·.2):=by rfl):PGs X (e::es) (Zbc t u):=by
 intro qa s σ H vs us Q I r h;obtain⟨v,vr,e1,h⟩:=h;subst e1
 cases r with
 |cons r rr=>
  rw[hs];refine assignInOrder_cons (thn (h1 qa s σ H _ _ _ I r h) fun _ s1 ⟨σ1,H1,I1,q1⟩=> ?_);exact h2 qa s1 σ1 H1 _ _ Q I1 rr q1
def Ze4 (K:PySem.W.Frag)(n:Nat)(t:TGs):TG:=fun v σ H Q=>∃a xs,v= .ref a∧SqT K H a xs∧xs.length=n∧t xs σ H Q
theorem ZbR {k:Nat}{t:TGs}(hc:X.calm=true)(h:PGs X es t)
  (hn:(assignEach es X.env).length=n:=by rfl) (hst:(assignEach es X.env).findIdx? (·.1)=none:=by rfl):PG X (.Tuple es k pos) (Ze4 X.K n t):=by
 intro qa s σ H v u Q I r hw;obtain⟨a,xs,e1,hq,hl,hw⟩:=hw;subst e1;cases r;obtain⟨its,rv,ht,hz⟩:=I.tuple hq;refine assign_Tuple_tuple (I.ok.hd hc) ht (by simp[hn,←hl,rv.length]) hst fun h' hx=> ?_;have I1:Inv X qa σ H {s with heap:=h' }:=I.kept (t':=s.toks) fun b o e=>hx b o (QaL (Qap e)) e;exact h qa _ σ H xs _ Q I1 (by simpa using rv) hw
def ZoB (to ti:TE)(t:ZpZ):TG:=fun v σ H Q=>to σ H fun o H1=>ti σ H1 fun i H2=>t o i v H2 fun H3=>Q σ H3
theorem Zis {o i:Expr}{to ti:TE}{t:ZpZ}(ho:PE X o to)(hi:PE X i ti)(hs:Zqt X t)
  (ha:∀v,assign (.Subscript o i pos) X.env v=(do
   let ov←holding [v] (eval o X.env)
   let iv←holding [v,ov] (eval i X.env)
   standAt pos
   holding [v,ov,iv] (setItem ov iv v)
   release [v,ov,iv] []):=by intro _;rfl):PG X (.Subscript o i pos) (ZoB to ti t):=by
 intro qa s σ H v u Q I r h;rw[ha];refine Qaa (QbI (thn (ho qa s σ H _ I h) fun ov s1 ⟨x,H1,I1,r1,q1⟩=> ?_));refine Qaa (QbI (thn (hi qa s1 σ H1 _ I1 q1) fun iv s2 ⟨y,H2,I2,r2,q2⟩=> ?_));refine Qaa (Qeh (Qaa (QbI (thn (hs qa s2 σ H2 x y v ov iv u _ I2 r1 r2 r q2) fun _ s3 ⟨H3,I3,q3⟩=> ?_))));exact wpAny_release ⟨σ,H3,I3,q3⟩
def ZaY (te:TE)(g:TG):TS:=fun D σ H=>te σ H fun x H1=>g x σ H1 D.nx
theorem Zc3 {te:TE}{g:TG}(he:PE X e te)(hg:PG X tg g)(hs:swapsWithSole [tg] e pos.line X.env=pure false:=by rfl)(hw:swappedStores [tg] e X.env=pure none:=by rfl)
  (h1:(assignEach [tg] X.env).map (·.2)=[assign tg X.env]:=by rfl):PS X (.Assign [tg] e pos) (ZaY te g):=by
 intro qa s σ H D I h;refine wpAny_Assign_stores (thn (he qa s σ H _ I h) fun v s1 ⟨x,H1,I1,r1,q1⟩=> ?_) hs hw;rw[h1];exact thn (hg qa s1 σ H1 x v _ I1 r1 q1) fun _ s2 q=>q
theorem Zar {te:TE}(hN:X.N.Nodup)(hi:X.N[i]?=some x)(hx:Loc X.env.scope x)(he:PE X e te)(hs:swapsWith e (some (.Name x pos')) pos.line X.env=pure false:=by rfl)(hf:X.fn x=true∨X.env.scope.names.lookup x=some .local:=by first|exact .inl rfl|exact .inr rfl|assumption):
  PS X (.Assign [.Name x pos'] e pos) (ZaY te (Zan i)):=by
 intro qa s σ H D I h;refine wpAny_Assign_Name (thn (he qa s σ H _ I h) fun v s1 ⟨y,H1,I1,r1,q1⟩=> ?_) hs;exact Zen I1 hN hi hx r1 (fun s2 I2=>⟨_,H1,I2,q1⟩) hf
def Zqu (i:Nat)(te:TE)(ti:TIp):TS:=fun D σ H=>∃x,σ[i]?=some (some x)∧te σ H fun y H1=>ti x y H1 fun z H2=>D.nx (σ.set i (some z)) H2
theorem Zj4 {te:TE}{op:Operator}{ti:TIp}(hN:X.N.Nodup)(hi:X.N[i]?=some x)(hx:Loc X.env.scope x)(he:PE X e te)(ho:PIp X op ti)(hf:X.fn x=true∨X.env.scope.names.lookup x=some .local:=by first|exact .inl rfl|exact .inr rfl|assumption):
  PS X (.AugAssign (.Name x pos') op e pos) (Zqu i te ti):=by
 intro qa s σ H D I h;obtain⟨v,e1,h⟩:=h;obtain⟨m,hn,hl⟩:=I.loc;have vis:Vis X.env.scope x:=by rcases hx with k|k;exact .inl k;exact .inr (.inl k)
 obtain⟨u,r,l⟩:=hl i x v hi e1 vis;refine wpAny_AugAssign_Name ?_
 have go:wpAny (model X.prog X.w) X.A (eval e X.env) (fun w s₂=>wpAny (model X.prog X.w) X.A (inplaceOp op u w) (fun r s₃=>wpAny (model X.prog X.w) X.A (storeName X.env x r) (fun _=>SP X qa D .next) X.xe s₃) X.xe s₂) X.xe s:=by
  refine thn (he qa s σ H _ I h) fun w s1 ⟨y,H1,I1,r1,q1⟩=> ?_;refine thn (ho qa s1 σ H1 v y u w _ I1 r r1 q1) fun z s2 ⟨zv,H2,I2,r2,q2⟩=> ?_;exact Zen I2 hN hi hx r2 (fun s3 I3=>⟨_,H2,I3,q2⟩) hf
 rcases l with⟨hk,hm⟩|⟨hk,c,hc,qQ⟩
 ·exact wpAny_loadName_local I.ok.kind hk hn hm go
 ·rcases hk with hk|hk
  ·exact wpAny_loadName_cell I.ok.kind hk hc qQ go
  ·rcases hx with k|k
   ·have:X.env.scope.names.lookup x=some .free:=hk;rw[k] at this;cases this
   ·have:X.env.scope.names.lookup x=some .free:=hk;rw[k] at this;cases this
def ipI (f:Int→Int→Int):TIp:=fun x y H Q=>∃i j,x= .int i∧y= .int j∧Q (.int (f i j)) H
theorem Zj5:PIp X .Add (ipI fun i j=>i+j):=by
 intro qa s σ H x y v u Q I r1 r2 h;obtain⟨i,j,e1,e2,q⟩:=h;subst e1;subst e2;obtain⟨t,rfl⟩:=r1;obtain⟨t',rfl⟩:=r2;exact iadd_int ⟨.int _,H,I.tok _,⟨_,rfl⟩,q⟩
end
section
variable {X:Cx}{pos:PySem.Pos}
def Zne (c:TT)(tb:TS):TS:=fun D σ H=>∃W:Nat→St→Hp→Prop,(∃m,W m σ H)∧∀m σ H,W m σ H→
 c σ H fun b H1=>if b=true then∃N:St→Hp→Prop,(∀σ' H',N σ' H'→∃m',m'<m∧W m' σ' H')∧tb {D with nx:=N,ct:=N,bk:=D.nx } σ H1 else D.nx σ H1
theorem Zl8 {tc:TT}{tb:TS}(hp:PassesOwn (model X.prog X.w) X.A X.env X.xe)(hc:PT X c tc)(hb:PSs X body tb):PS X (.While c body [] pos) (Zne tc tb):=by
 intro qa s σ H D I h;obtain⟨W,⟨m0,w0⟩,turn⟩:=h;refine wpAny_While (codeAny_whileLoop (fun n s'=>∃σ' H',Inv X qa σ' H' s'∧W n σ' H') ?_ m0 ⟨σ,H,I,w0⟩);rintro n s1 ⟨σ1,H1,I1,w1⟩;refine QbX hp (thn (hc qa s1 σ1 H1 _ I1 (turn n σ1 H1 w1)) fun b s2 ⟨H2,I2,q2⟩=> ?_)
 cases b with
 |true=>
  obtain⟨N,hN,q2⟩:=q2;rw[if_pos rfl];refine QbX hp (thn (hb qa s2 σ1 H2 _ I2 q2) fun f s3 q3=> ?_)
  cases f with
  |next=>
   obtain⟨σ3,H3,I3,n3⟩:=q3;obtain⟨m',hm,w3⟩:=hN σ3 H3 n3;exact⟨m',hm,σ3,H3,I3,w3⟩
  |cont=>
   obtain⟨σ3,H3,I3,n3⟩:=q3;obtain⟨m',hm,w3⟩:=hN σ3 H3 n3;exact⟨m',hm,σ3,H3,I3,w3⟩
  |brk=>exact q3
  |ret v=>exact q3
 |false=>
  rw[if_neg QaB];exact Qcu ⟨σ1,H2,I2,q2⟩
end
structure It where
 go:Nat→Hp→Prop
 yld:Nat→Hp→V→Hp→Prop
 stop:Nat→Hp→Prop
def Zl9 (X:Cx)(qa:List (Addr×Obj))(H:Hp)(b:Addr):Prop:=
 H b=none∧b≠X.env.locals∧b∉X.fs∧(b∈X.ex∨X.s₀.heap.objs.size≤b)∧(∀x c,X.env.cells.lookup x=some c→c≠b)∧∀p∈X.pn++qa,p.1≠b
theorem Inv.fpOk {X:Cx}{σ:St}{H H':Hp}(I:Inv X qa σ H s)(hb:s.heap.objs.size≤b)(hn:H' b=none):Zl9 X qa H' b:=by
 refine⟨hn,Qbj (QaC I.lt hb),I.nofs hb,.inr (QaD I.sz hb),fun x c e z=> ?_,fun p hp z=> ?_⟩
 ·obtain⟨v,q⟩:=I.cell x c e;exact absurd (QaC q.lt (by rw[z];exact hb)) (Qbp _)
 ·exact absurd (QaC (Qap (I.pin p hp).1) (by rw[z];exact hb)) (Qbp _)
structure ZoC (P:Program)(w:World)(K:PySem.W.Frag)(tg:Expr)(J:It)(fp:List Addr)(it:Addr)(tn:Nat→Heap→Prop):Prop where
 mem:it∈fp
 obj:∀i h,tn i h→∀b∈fp,∃o,h.get? b=some o∧∀v,o.data≠ .cell v
 keep:∀i h h',tn i h→(∀b∈fp,∀o,h.get? b=some o→h'.get? b=some o)→tn i h'
 item:∀(X:Cx),X.prog=P→X.w=w→X.K=K→X.calm=true→∀(i:Nat) (qa:List (Addr×Obj)) (s:Shared) (σ:St) (H:Hp) (E:Value→Shared→Prop),Inv X qa σ H s→(∀b∈fp,Zl9 X qa H b)→tn i s.heap→J.go i H→
  wpAny (model P w) X.A (pyNext (.ref it)) (fun r s1=>∃u,r=some u∧
   wpAny (model P w) X.A (letOwnedTupleGo tg (.ref it) u) (fun _ s2=>∃x H',Inv X qa σ H' s2∧ZbB x u∧J.yld i H x H'∧tn (i+1) s2.heap∧∀b∈fp,H' b=none) E s1) E s
 done:∀(X:Cx),X.prog=P→X.w=w→X.K=K→X.calm=true→∀(i:Nat) (qa:List (Addr×Obj)) (s:Shared) (σ:St) (H:Hp) (E:Value→Shared→Prop),Inv X qa σ H s→(∀b∈fp,Zl9 X qa H b)→tn i s.heap→J.stop i H→
  wpAny (model P w) X.A (pyNext (.ref it)) (fun r s1=>r=none∧Inv X qa σ H s1) E s
 self:∀(A:Around) (i:Nat) (s:Shared) (Q:Value→Shared→Prop) (E:Value→Shared→Prop),tn i s.heap→Q (.ref it) s→wpAny (model P w) A (pyIter (.ref it)) Q E s
abbrev TI:=St→Hp→(It→Hp→Prop)→Prop
def PIE (X:Cx)(qa:List (Addr×Obj))(σ:St)(tg:Expr)(R:It→Hp→Prop)(itv:Value)(s2:Shared):Prop:=
 ∃(it:Addr) (fp:List Addr) (tn:Nat→Heap→Prop) (J:It) (H':Hp),itv= .ref it∧Inv X qa σ H' s2∧ZoC X.prog X.w X.K tg J fp it tn∧tn 0 s2.heap∧(∀b∈fp,Zl9 X qa H' b)∧R J H'
def PI (X:Cx)(tg qz:Expr)(wi:TI):Prop:=
 ∀(qa:List (Addr×Obj)) (s:Shared) (σ:St) (H:Hp) (R:It→Hp→Prop),Inv X qa σ H s→wi σ H R→
  wpAny (model X.prog X.w) X.A (eval qz X.env) (fun v s1=>wpAny (model X.prog X.w) X.A (pyIter v) (PIE X qa σ tg R) X.xe s1) X.xe s
theorem ZnJ {n:String}{vs:Array Value}(ho:s.heap.get? it=some o)(hc:o.cls= .type n)(hd:o.data= .fields vs)
  (hn:["enumerate", "zip", "dict_itemiterator", "dict_reverseitemiterator", "odict_iterator", "itertools.zip_longest", "itertools.pairwise"].contains n=false) (hQ:Q () s):wpAny M A (letOwnedTupleGo tg (.ref it) u) Q E s:=by
 unfold letOwnedTupleGo
 cases tg<;>first
  |exact Qaj hQ
  | (cases u<;>first
    |exact Qaj hQ
    | (refine Qaa (wpAny_load ho ?_)
       rw[hc,hd]
       show wpAny M A (if(["enumerate", "zip", "dict_itemiterator", "dict_reverseitemiterator", "odict_iterator", "itertools.zip_longest", "itertools.pairwise"].contains n && vs[0]?==some (rawInt _))=true then _ else _) Q E s
       rw[if_neg (by intro h;rw[hn,Bool.false_and] at h;cases h)]
       exact Qaj hQ))
def Itl (K:PySem.W.Frag)(a:Addr):It:=
 ⟨fun i H=>∃xs x,SqL K H a xs∧xs[i]?=some x,fun i H x H'=>H'=H∧∀xs,SqL K H a xs→xs[i]?=some x,fun i H=>∃xs,SqL K H a xs∧xs.length≤i⟩
def Itt (K:PySem.W.Frag)(a:Addr):It:=
 ⟨fun i H=>∃xs x,SqT K H a xs∧xs[i]?=some x,fun i H x H'=>H'=H∧∀xs,SqT K H a xs→xs[i]?=some x,fun i H=>∃xs,SqT K H a xs∧xs.length≤i⟩
def Itr (lo:Int)(n:Nat):It:=⟨fun i _=>i<n,fun i H x H'=>H'=H∧x= .int (lo+i),fun i _=>n≤i⟩
theorem Zj6 {K:PySem.W.Frag}(a it:Addr):ZoC P w K tg (Itl K a) [it] it (fun i h=>h.IsListIter it a i) where
 mem:=by simp
 obj:=fun i h st b hb=>by
  have e:b=it:=by simpa using hb
  subst e;obtain⟨o,e,c,d⟩:=st;exact⟨o,e,fun v z=>by rw[d] at z;cases z⟩
 keep:=fun i h h' st k=>st.at fun o e=>k it (by simp) o e
 item:=by
  intro X hP hw hK hc i qa s σ H E I hf st hg;subst hP hw hK;obtain⟨xs,x,hq,hx⟩:=hg;obtain⟨its,rv,p,hz⟩:=I.list hq;obtain⟨u,hu,ru⟩:=rv.get hx;obtain⟨f0,f1,f2,f3,f4,f5⟩:=hf it (by simp);refine wpAny_pyNext_list_item st p.isList (x:=u) (by simpa using hu) fun h' st' sb=> ?_;have I1:Inv X qa σ H {s with heap:=h' }:=I.turned (t':=s.toks) (fun b o hb e=>(sb.2 b hb).trans e) f0 f1 f3 f4 f5;obtain⟨o,e,c,d⟩:=id st';exact⟨u,rfl,ZnJ (s:={s with heap:=h' }) e c d (by decide) ⟨x,H,I1,ru,⟨rfl,fun ys hy=>by rw[I.list_inj hy hq];exact hx⟩,st',fun b hb=>(hf b hb).1⟩⟩
 done:=by
  intro X hP hw hK hc i qa s σ H E I hf st hg;subst hP hw hK;obtain⟨xs,hq,hx⟩:=hg;obtain⟨its,rv,p,hz⟩:=I.list hq;obtain⟨f0,f1,f2,f3,f4,f5⟩:=hf it (by simp);have hl:=rv.length;exact wpAny_pyNext_list_end (I.ok.hd hc) st p.isList (by simp;omega) fun h' eb=>⟨rfl,I.turned (t':=s.toks) (fun b o hb e=>eb b o hb e) f0 f1 f3 f4 f5⟩
 self:=fun _ _ _ _ _ st h=>wpAny_pyIter_listiter st h
theorem Zjd {K:PySem.W.Frag}(a it:Addr):ZoC P w K tg (Itt K a) [it] it (fun i h=>h.IsTupleIter it a i) where
 mem:=by simp
 obj:=fun i h st b hb=>by
  have e:b=it:=by simpa using hb
  subst e;obtain⟨o,e,c,d⟩:=st;exact⟨o,e,fun v z=>by rw[d] at z;cases z⟩
 keep:=fun i h h' st k=>st.at fun o e=>k it (by simp) o e
 item:=by
  intro X hP hw hK hc i qa s σ H E I hf st hg;subst hP hw hK;obtain⟨xs,x,hq,hx⟩:=hg;obtain⟨its,rv,p,hz⟩:=I.tuple hq;obtain⟨u,hu,ru⟩:=rv.get hx;obtain⟨f0,f1,f2,f3,f4,f5⟩:=hf it (by simp);refine wpAny_pyNext_tuple_item st (show s.heap.IsTuple a its.toArray from p) (x:=u) (by simpa using hu) fun h' st' sb=> ?_;have I1:Inv X qa σ H {s with heap:=h' }:=I.turned (t':=s.toks) (fun b o hb e=>(sb.2 b hb).trans e) f0 f1 f3 f4 f5;obtain⟨o,e,c,d⟩:=id st';exact⟨u,rfl,ZnJ (s:={s with heap:=h' }) e c d (by decide) ⟨x,H,I1,ru,⟨rfl,fun ys hy=>by rw[I.tuple_inj hy hq];exact hx⟩,st',fun b hb=>(hf b hb).1⟩⟩
 done:=by
  intro X hP hw hK hc i qa s σ H E I hf st hg;subst hP hw hK;obtain⟨xs,hq,hx⟩:=hg;obtain⟨its,rv,p,hz⟩:=I.tuple hq;obtain⟨f0,f1,f2,f3,f4,f5⟩:=hf it (by simp);have hl:=rv.length;exact wpAny_pyNext_tuple_end (I.ok.hd hc) st (show s.heap.IsTuple a its.toArray from p) (by simp;omega) fun h' eb=>⟨rfl,I.turned (t':=s.toks) (fun b o hb e=>eb b o hb e) f0 f1 f3 f4 f5⟩
 self:=fun _ _ _ _ _ st h=>wpAny_pyIter_tupleiter st h
theorem Zje {K:PySem.W.Frag}(it:Addr)(lo:Int)(n:Nat):ZoC P w K tg (Itr lo n) [it] it (fun i h=>IsRangeIter h it (lo+(i:Nat)*1) ((n:Int)-(i:Nat)) 1) where
 mem:=by simp
 obj:=fun i h st b hb=>by
  have e:b=it:=by simpa using hb
  subst e
  exact⟨_,st,fun v z=>by
   have z':Data.fields _=Data.cell v:=z
   cases z'⟩
 keep:=fun i h h' st k=>k it (by simp) _ st
 item:=by
  intro X hP hw hK hc i qa s σ H E I hf st hg;subst hP hw hK;obtain⟨f0,f1,f2,f3,f4,f5⟩:=hf it (by simp);have W:=Walks.range (prog:=X.prog) (w:=X.w) (I.ok.hd hc) it lo 1 n;refine W.item i s _ _ hg st fun v h' tk hv st' kk=> ?_;obtain⟨t,rfl⟩:=hv;have I1:Inv X qa σ H {s with heap:=h',toks:=tk }:=I.turned (fun b o hb e=>kk b o (by simpa using hb) e) f0 f1 f3 f4 f5;refine⟨_,rfl,ZnJ (s:={s with heap:=h',toks:=tk }) (n:= "range_iterator") st' rfl rfl (by decide) ⟨.int (lo+i),H,I1,⟨t,?_⟩,⟨rfl,rfl⟩,st',fun b hb=>(hf b hb).1⟩⟩;rw[Qee]
 done:=by
  intro X hP hw hK hc i qa s σ H E I hf st hg;subst hP hw hK;obtain⟨f0,f1,f2,f3,f4,f5⟩:=hf it (by simp);exact wpAny_pyNext_range_end (I.ok.hd hc) st (by have:n≤i:=hg;omega) fun h' eb=>⟨rfl,I.turned (t':=s.toks) (fun b o hb e=>eb b o hb e) f0 f1 f3 f4 f5⟩
 self:=fun _ _ _ _ _ st h=>wpAny_pyIter_rangeiter st h
section
variable {X:Cx}
def Zci (K:PySem.W.Frag)(tl:TE):TI:=fun σ H R=>tl σ H fun x H1=>∃a,x= .ref a∧(∃xs,SqL K H1 a xs)∧R (Itl K a) H1
def ZqL (K:PySem.W.Frag)(tl:TE):TI:=fun σ H R=>tl σ H fun x H1=>∃a,x= .ref a∧(∃xs,SqT K H1 a xs)∧R (Itt K a) H1
theorem ZaZ {tl:TE}(hl:PE X l tl):PI X tg l (Zci X.K tl):=by
 intro qa s σ H R I h;refine thn (hl qa s σ H _ I h) fun v s1 ⟨x,H1,I1,r1,q1⟩=> ?_;obtain⟨a,e,⟨xs,hq⟩,q⟩:=q1;subst e;cases r1;obtain⟨its,rv,p,hz⟩:=I1.list hq;refine Qcz p.isList ?_;refine⟨s1.heap.objs.size,[s1.heap.objs.size],_,_,H1,rfl,I1.kept (t':=s1.toks) fun b o e=>Qag _ e,Zj6 a _,⟨_,Qax _ rfl,rfl,rfl⟩,fun b hb=> ?_,q⟩;have e:b=s1.heap.objs.size:=by simpa using hb
 subst e;exact I1.fpOk (Qal _) (I1.hok.fresh (Qal _))
theorem ZoM {tl:TE}(hl:PE X l tl):PI X tg l (ZqL X.K tl):=by
 intro qa s σ H R I h;refine thn (hl qa s σ H _ I h) fun v s1 ⟨x,H1,I1,r1,q1⟩=> ?_;obtain⟨a,e,⟨xs,hq⟩,q⟩:=q1;subst e;cases r1;obtain⟨its,rv,p,hz⟩:=I1.tuple hq;refine Qdj (show s1.heap.IsTuple a its.toArray from p) ?_;refine⟨s1.heap.objs.size,[s1.heap.objs.size],_,_,H1,rfl,I1.kept (t':=s1.toks) fun b o e=>Qag _ e,Zjd a _,⟨_,Qax _ rfl,rfl,rfl⟩,fun b hb=> ?_,q⟩;have e:b=s1.heap.objs.size:=by simpa using hb
 subst e;exact I1.fpOk (Qal _) (I1.hok.fresh (Qal _))
theorem Zma {σ:St}{H:Hp}{R:It→Hp→Prop}{hi:Int}{t u v:Tok}{tk:Nat}(I:Inv X qa σ H s)(h1: -(2^62)≤lo)(h2:lo<2^62)(h3: -(2^62)≤hi)(h4:hi<2^62)
  (q:R (Itr lo (hi-lo).toNat) H):wpAny (model X.prog X.w) X.A (pyIter (.ref s.heap.objs.size)) (PIE X qa σ tg R) E {s with heap:=s.heap.push {cls:=.type "range",data:=.fields #[.int lo t,.int hi u,.int 1 v] },toks:=tk }:=by
 refine wpAny_pyIter_range (IsRange.new ..) (small_one h1 h2 h3 h4) ?_;have I1:Inv X qa σ H {s with heap:=s.heap.push {cls:=.type "range",data:=.fields #[.int lo t,.int hi u,.int 1 v] },toks:=tk }:=I.kept fun b o e=>Qag _ e
 refine⟨(s.heap.push {cls:=.type "range",data:=.fields #[.int lo t,.int hi u,.int 1 v] }).objs.size,[(s.heap.push {cls:=.type "range",data:=.fields #[.int lo t,.int hi u,.int 1 v] }).objs.size],_,_,H,rfl,
  I1.kept (t':=tk) fun b o e=>Qag _ e,Zje _ lo (hi-lo).toNat,?_,fun b hb=> ?_,q⟩
 ·have e1:lo+((0:Nat):Int)*1=lo:=by simp
  have e2:(((hi-lo).toNat:Nat):Int)-((0:Nat):Int)=Builtin.Range.rangeSize lo hi 1:=by rw[rangeSize_one];split<;>omega
  show IsRangeIter _ _ (lo+((0:Nat):Int)*1) ((((hi-lo).toNat:Nat):Int)-((0:Nat):Int)) 1;rw[e1,e2];exact Qax _ rfl
 ·have e:b=(s.heap.push {cls:=.type "range",data:=.fields #[.int lo t,.int hi u,.int 1 v] }).objs.size:=by simpa using hb
  subst e;exact I1.fpOk (Qal _) (I1.hok.fresh (Qal _))
def ZfE (ta:TA):TI:=fun σ H R=>ta σ H fun vs H1=>∃j:Int,vs=[.int j]∧-(2^62)≤j∧j<2^62∧R (Itr 0 j.toNat) H1
theorem Zct {a:Expr}{ta:TA}{pos:PySem.Pos}(hg:Gl X "range")(hm:X.mg "range" =none)(ha:PA X [a] ta)(hs:starEach [a] X.env=[(false,eval a X.env)]:=by rfl):PI X tg (.Call (.Name "range" p) [a] [] pos) (ZfE ta):=by
 intro qa s σ H R I h;refine Call_ (Zea I hg hm boot_range (Qbw (thn (ha pos qa s σ H _ I h) fun us s1 ⟨vs,H1,I1,r1,q1⟩=> ?_) hs rfl));obtain⟨j,e,q1,q2,q⟩:=q1;subst e
 cases r1 with
 |cons r rr=>
  cases rr;obtain⟨t,rfl⟩:=r;exact call_range_1 (Zma I1 (by omega) (by omega) q1 q2 (by simpa using q))
def Ze5 (wi:TI)(g:TG)(tb:TS):TS:=fun D σ H=>wi σ H fun J H1=>∃W:Nat→Nat→St→Hp→Prop,(∃m,W 0 m σ H1)∧∀i m σ H,W i m σ H→
 (J.stop i H∧D.nx σ H)∨(J.go i H∧∃N:St→Hp→Prop,(∀σ' H',N σ' H'→∃m',m'<m∧W (i+1) m' σ' H')∧∀x H',J.yld i H x H'→g x σ H' fun σ2 H2=>tb {D with nx:=N,ct:=N,bk:=D.nx } σ2 H2)
def Zgo (fp:List Addr)(h:Heap):List (Addr×Obj):=fp.filterMap fun b=>(h.get? b).map fun o=>(b,o)
theorem Zdi (hb:b∈fp)(e:h.get? b=some o):(b,o)∈Zgo fp h:=Qdk.mpr ⟨b,hb,by rw[e];rfl⟩
theorem Zj7 {p:Addr×Obj}(hp:p∈Zgo fp h):p.1∈fp∧h.get? p.1=some p.2:=by
 obtain⟨b,hb,e⟩:=Qdk.mp hp
 cases q:h.get? b with
 |none=>rw[q] at e;cases e
 |some o=>
  rw[q] at e;have e':(b,o)=p:=Qbn e;subst e';exact⟨hb,q⟩
theorem Inv.pinned {σ:St}{H:Hp}(I:Inv X qa σ H s)(hf:∀b∈fp,Zl9 X qa H b)(ho:∀b∈fp,∃o,s.heap.get? b=some o∧∀v,o.data≠ .cell v):Inv X (qa++Zgo fp s.heap) σ H s:=
 I.pins_of fun p hp=>(Qaz.mp hp).elim (fun z=>I.pin p (QaA _ z)) fun z=>by
  obtain⟨hb,e⟩:=Zj7 z;obtain⟨f0,f1,f2,_⟩:=hf p.1 hb;obtain⟨o,e',d⟩:=ho p.1 hb;rw[e] at e';cases e';exact⟨e,f0,f1,f2,d⟩
theorem Inv.unpinned {pl:List (Addr×Obj)}{σ:St}{H:Hp}(I:Inv X (qa++pl) σ H s):Inv X qa σ H s:=I.pins_of fun p hp=>I.pin p (QaA _ (QaM _ hp))
theorem ZbK {qz:Expr}{wi:TI}{g:TG}{tb:TS}{pos:PySem.Pos}(hp:PassesOwn (model X.prog X.w) X.A X.env X.xe)(hc:X.calm=true)(hi:PI X tg qz wi)(hg:PG X tg g)(hb:PSs X body tb)
  (hs:∀x,foldedSetIterable qz X.env x=pure x:=by intro _;rfl):PS X (.For tg qz body [] pos) (Ze5 wi g tb):=by
 intro qa s σ H D I h;refine wpAny_For (thn (hi qa s σ H _ I h) fun v s1 h1=>thn h1 fun itv s2 h2=> ?_) hs;obtain⟨it,fp,tn,J,H2,e,I2,T,st2,f2,W,⟨m0,w0⟩,turn⟩:=h2;subst e;have stat:∀{H':Hp},(∀b∈fp,H' b=none)→∀b∈fp,Zl9 X qa H' b:=fun hn b hb=>⟨hn b hb,(f2 b hb).2⟩;refine codeAny_forLoop_any (fun n s'=>∃i σ' H',Inv X qa σ' H' s'∧tn i s'.heap∧(∀b∈fp,H' b=none)∧W i n σ' H') ?_ m0 ⟨0,σ,H2,I2,st2,fun b hb=>(f2 b hb).1,w0⟩;rintro n s3 ⟨i,σ3,H3,I3,st3,fr3,w3⟩;rcases turn i n σ3 H3 w3 with⟨stop,qn⟩|⟨go,N,hN,step⟩
 ·refine QbX hp (thn (T.done X rfl rfl rfl hc i qa s3 σ3 H3 X.xe I3 (stat fr3) st3 stop) fun r s4 ⟨hr,I4⟩=> ?_);subst hr;exact Qcu ⟨σ3,H3,I4,qn⟩
 ·refine QbX hp (thn (T.item X rfl rfl rfl hc i qa s3 σ3 H3 X.xe I3 (stat fr3) st3 go) fun r s4 ⟨u,hr,h4⟩=> ?_);subst hr;refine QbX hp (thn h4 fun _ s5 ⟨x,H5,I5,r5,y5,st5,fr5⟩=> ?_);have I5':=I5.pinned (stat fr5) (T.obj _ _ st5);refine QbX hp (thn (hg _ s5 σ3 H5 x u _ I5' r5 (step x H5 y5)) fun _ s6 ⟨σ6,H6,I6,q6⟩=> ?_);refine QbX hp (thn (hb _ s6 σ6 H6 _ I6 q6) fun f s7 q7=> ?_)
  have again:∀{σ7:St} {H7:Hp},Inv X (qa++Zgo fp s5.heap) σ7 H7 s7→N σ7 H7→∃m,m<n∧∃i σ' H',Inv X qa σ' H' s7∧tn i s7.heap∧(∀b∈fp,H' b=none)∧W i m σ' H':=fun{σ7 H7} I7 n7=>by
   obtain⟨m',hm,w7⟩:=hN σ7 H7 n7;refine⟨m',hm,i+1,σ7,H7,I7.unpinned,T.keep _ _ _ st5 fun b hb o e=>(I7.pin (b,o) (QaA _ (QaA _ (Zdi hb e)))).1,fun b hb=> ?_,w7⟩;obtain⟨o,e,d⟩:=T.obj _ _ st5 b hb;exact(I7.pin (b,o) (QaA _ (QaA _ (Zdi hb e)))).2.1
  cases f with
  |next=>obtain⟨σ7,H7,I7,n7⟩:=q7;exact again I7 n7
  |cont=>obtain⟨σ7,H7,I7,n7⟩:=q7;exact again I7 n7
  |brk=>obtain⟨σ7,H7,I7,q7⟩:=q7;exact⟨σ7,H7,I7.unpinned,q7⟩
  |ret v=>obtain⟨x7,σ7,H7,I7,r7,q7⟩:=q7;exact⟨x7,σ7,H7,I7.unpinned,r7,q7⟩
end
theorem Zbx {K:PySem.W.Frag}{xs:List V}{g:TG}{tb:TS}{D:Zgk}{σ:St}{H:Hp}(Pv:Nat→St→Hp→Prop)(h0:Pv 0 σ H)(hl:∀i σ H,i≤xs.length→Pv i σ H→SqL K H a xs)
  (hs:∀i x σ H,xs[i]?=some x→Pv i σ H→g x σ H fun σ2 H2=>tb {D with nx:=Pv (i+1),ct:=Pv (i+1),bk:=D.nx } σ2 H2) (hd:∀σ H,Pv xs.length σ H→D.nx σ H):
  ∃W:Nat→Nat→St→Hp→Prop,(∃m,W 0 m σ H)∧∀i m σ H,W i m σ H→
   ((Itl K a).stop i H∧D.nx σ H)∨((Itl K a).go i H∧∃N:St→Hp→Prop,(∀σ' H',N σ' H'→∃m',m'<m∧W (i+1) m' σ' H')∧∀x H',(Itl K a).yld i H x H'→g x σ H' fun σ2 H2=>tb {D with nx:=N,ct:=N,bk:=D.nx } σ2 H2):=by
 refine⟨fun i m σ H=>m=xs.length-i∧i≤xs.length∧Pv i σ H,⟨xs.length,by simp,QaV _,h0⟩,?_⟩;rintro i m σ H ⟨rfl,hi,p⟩;have q:=hl i σ H hi p;by_cases hlt:i<xs.length
 ·refine .inr ⟨⟨xs,xs[i],q,by simp[hlt]⟩,Pv (i+1),fun σ' H' p'=>⟨xs.length-(i+1),by omega,rfl,hlt,p'⟩,fun x H' y=> ?_⟩;obtain⟨e,y⟩:=y;subst e;exact hs i x σ _ (y xs q) p
 ·have e:i=xs.length:=by omega
  subst e;exact .inl ⟨⟨xs,q,Qal _⟩,hd σ H p⟩
theorem ZcQ {g:TG}{tb:TS}{D:Zgk}{σ:St}{H:Hp}(Pv:Nat→St→Hp→Prop)(h0:Pv 0 σ H)
  (hs:∀i σ H,i<n→Pv i σ H→g (.int (lo+i)) σ H fun σ2 H2=>tb {D with nx:=Pv (i+1),ct:=Pv (i+1),bk:=D.nx } σ2 H2) (hd:∀σ H,Pv n σ H→D.nx σ H):
  ∃W:Nat→Nat→St→Hp→Prop,(∃m,W 0 m σ H)∧∀i m σ H,W i m σ H→
   ((Itr lo n).stop i H∧D.nx σ H)∨((Itr lo n).go i H∧∃N:St→Hp→Prop,(∀σ' H',N σ' H'→∃m',m'<m∧W (i+1) m' σ' H')∧∀x H',(Itr lo n).yld i H x H'→g x σ H' fun σ2 H2=>tb {D with nx:=N,ct:=N,bk:=D.nx } σ2 H2):=by
 refine⟨fun i m σ H=>m=n-i∧i≤n∧Pv i σ H,⟨n,by simp,QaV _,h0⟩,?_⟩;rintro i m σ H ⟨rfl,hi,p⟩;by_cases hlt:i<n
 ·refine .inr ⟨hlt,Pv (i+1),fun σ' H' p'=>⟨n-(i+1),by omega,rfl,hlt,p'⟩,fun x H' y=> ?_⟩;obtain⟨e,y⟩:=y;subst e y;exact hs i σ _ hlt p
 ·have e:i=n:=by omega
  subst e;exact .inl ⟨Qal _,hd σ H p⟩
theorem Zmb {c:TT}{tb:TS}{D:Zgk}{σ:St}{H:Hp}(Pv:St→Hp→Prop)(μ:St→Hp→Nat)(h0:Pv σ H)
  (hs:∀σ H,Pv σ H→c σ H fun b H1=>if b=true then tb {D with nx:=fun σ' H'=>Pv σ' H'∧μ σ' H'<μ σ H,ct:=fun σ' H'=>Pv σ' H'∧μ σ' H'<μ σ H,bk:=D.nx } σ H1 else D.nx σ H1)
  (mono:∀σ H Q Q',(∀b H1,Q b H1→Q' b H1)→c σ H Q→c σ H Q'):Zne c tb D σ H:=by
 refine⟨fun m σ H=>m=μ σ H∧Pv σ H,⟨_,rfl,h0⟩,?_⟩;rintro m σ H ⟨rfl,p⟩;refine mono σ H _ _ (fun b H1 q=> ?_) (hs σ H p)
 cases b with
 |true=>exact⟨_,fun σ' H' ⟨p',l⟩=>⟨_,l,rfl,p'⟩,q⟩
 |false=>exact q
abbrev R2:=V→V→Hp→VK→Prop
def OpR (X:Cx)(f:Value→Value→Sem Value)(r:R2):Prop:=
 ∀(qa:List (Addr×Obj)) (s:Shared) (σ:St) (H:Hp) (x y:V) (v u:Value) (Q:VK),Inv X qa σ H s→ZbB x v→ZbB y u→r x y H Q→
  wpAny (model X.prog X.w) X.A (f v u) (EP X qa σ Q) X.xe s
def UnR (X:Cx)(f:Value→Sem Value)(r:V→Hp→VK→Prop):Prop:=
 ∀(qa:List (Addr×Obj)) (s:Shared) (σ:St) (H:Hp) (x:V) (v:Value) (Q:VK),Inv X qa σ H s→ZbB x v→r x H Q→
  wpAny (model X.prog X.w) X.A (f v) (EP X qa σ Q) X.xe s
def Zc5 (X:Cx)(f:Value)(r:List V→Hp→VK→Prop):Prop:=
 ∀(qa:List (Addr×Obj)) (s:Shared) (σ:St) (H:Hp) (xs:List V) (us:List Value) (Q:VK),Inv X qa σ H s→ZbC xs us→r xs H Q→
  wpAny (model X.prog X.w) X.A (call f us) (EP X qa σ Q) X.xe s
def ZqM (X:Cx)(r:V→Hp→(Bool→Hp→Prop)→Prop):Prop:=
 ∀(qa:List (Addr×Obj)) (s:Shared) (σ:St) (H:Hp) (x:V) (v:Value) (Q:Bool→Hp→Prop),Inv X qa σ H s→ZbB x v→r x H Q→
  wpAny (model X.prog X.w) X.A (truthy v) (TP X qa σ Q) X.xe s
def tOp (r:R2)(ta tb:TE):TE:=fun σ H Q=>ta σ H fun x H1=>tb σ H1 fun y H2=>r x y H2 Q
def tUn (r:V→Hp→VK→Prop)(ta:TE):TE:=fun σ H Q=>ta σ H fun x H1=>r x H1 Q
def rI (C:Int→Int→Prop)(g:Int→Int→V):R2:=fun x y H Q=>∃i j,x= .int i∧y= .int j∧C i j∧Q (g i j) H
def rI0 (g:Int→Int→V):R2:=fun x y H Q=>∃i j,x= .int i∧y= .int j∧Q (g i j) H
def rU (g:Int→V):V→Hp→VK→Prop:=fun x H Q=>∃i,x= .int i∧Q (g i) H
section
variable {X:Cx}{a b:Expr}{ta tb tc:TE}{pos:PySem.Pos}
theorem Zp0 (ha:PE X a ta)(hb:PE X b tb){σ:St}{H:Hp}{R:V→V→Hp→Prop}(I:Inv X qa σ H s)
  (h:ta σ H fun x H1=>tb σ H1 fun y H2=>R x y H2) {Q:Value→Shared→Prop} {f:Value→Value→Sem Value}
  (hf:∀v u s2 x y H2,Inv X qa σ H2 s2→ZbB x v→ZbB y u→R x y H2→wpAny (model X.prog X.w) X.A (f v u) Q X.xe s2):
  wpAny (model X.prog X.w) X.A (eval a X.env) (fun v s₁=>wpAny (model X.prog X.w) X.A (eval b X.env) (fun u s₂=>wpAny (model X.prog X.w) X.A (f v u) Q X.xe s₂) X.xe s₁) X.xe s:=by
 refine thn (ha qa s σ H _ I h) fun v s1 ⟨x,H1,I1,r1,q1⟩=> ?_;refine thn (hb qa s1 σ H1 _ I1 q1) fun u s2 ⟨y,H2,I2,r2,q2⟩=> ?_;exact hf v u s2 x y H2 I2 r1 r2 q2
theorem Zam {op:Operator}{r:R2}(ho:OpR X (binaryOp op) r)(ha:PE X a ta)(hb:PE X b tb):PE X (.BinOp a op b pos) (tOp r ta tb):=by
 intro qa s σ H Q I h;exact wpAny_BinOp (Zp0 ha hb I h fun v u s2 x y H2 I2 rx ry q=>ho qa s2 σ H2 x y v u Q I2 rx ry q)
theorem Zdu {op:UnaryOp}{r:V→Hp→VK→Prop}(ho:UnR X (unaryOp op) r)(ha:PE X a ta):PE X (.UnaryOp op a pos) (tUn r ta):=by
 intro qa s σ H Q I h;exact UnaryOp_ (thn (ha qa s σ H _ I h) fun v s1 ⟨x,H1,I1,r1,q1⟩=>ho qa s1 σ H1 x v Q I1 r1 q1)
theorem opI {C:Int→Int→Prop}
  (rule:∀(i j:Int) (t u:Tok) (s:Shared) (Q:Value→Shared→Prop) (E:Value→Shared→Prop),C i j→Q (.int (g i j) s.toks) {s with toks:=s.toks+1 }→wpAny (model X.prog X.w) X.A (f (.int i t) (.int j u)) Q E s):
  OpR X f (rI C fun i j=> .int (g i j)):=by
 intro qa s σ H x y v u Q I rx ry h;obtain⟨i,j,rfl,rfl,hc,q⟩:=h;obtain⟨t,rfl⟩:=rx;obtain⟨t',rfl⟩:=ry;exact rule i j t t' s _ _ hc ⟨.int (g i j),H,I.tok _,⟨_,rfl⟩,q⟩
theorem Zqv 
  (rule:∀(i j:Int) (t u:Tok) (s:Shared) (Q:Value→Shared→Prop) (E:Value→Shared→Prop),Q (.int (g i j) s.toks) {s with toks:=s.toks+1 }→wpAny (model X.prog X.w) X.A (f (.int i t) (.int j u)) Q E s):
  OpR X f (rI0 fun i j=> .int (g i j)):=by
 intro qa s σ H x y v u Q I rx ry h;obtain⟨i,j,rfl,rfl,q⟩:=h;obtain⟨t,rfl⟩:=rx;obtain⟨t',rfl⟩:=ry;exact rule i j t t' s _ _ ⟨.int (g i j),H,I.tok _,⟨_,rfl⟩,q⟩
theorem ZpS {g:Int→Int→Bool}
  (rule:∀(i j:Int) (t u:Tok) (s:Shared) (Q:Value→Shared→Prop) (E:Value→Shared→Prop),Q (.bool (g i j)) s→wpAny (model X.prog X.w) X.A (f (.int i t) (.int j u)) Q E s):
  OpR X f (rI0 fun i j=> .bl (g i j)):=by
 intro qa s σ H x y v u Q I rx ry h;obtain⟨i,j,rfl,rfl,q⟩:=h;obtain⟨t,rfl⟩:=rx;obtain⟨t',rfl⟩:=ry;exact rule i j t t' s _ _ ⟨.bl (g i j),H,I,rfl,q⟩
def ZoD (i j:Int):Prop:=0≤j∧j≤1000000∧i.natAbs<2^64
def Zit (i j:Int):Prop:=(-(2^64)<i∧i<2^64)∨(-(2^64)<j∧j<2^64)
theorem Zit.ok {i j:Int}(h:Zit i j):IntMulOk i j:=by
 rcases h with⟨h1,h2⟩|⟨h1,h2⟩
 ·exact .of_left (intBits_le_64 h1 h2)
 ·exact .of_right (intBits_le_64 h1 h2)
theorem ZaG:OpR X (binaryOp .Add) (rI0 fun i j=> .int (i+j)):=Zqv fun _ _ _ _ _ _ _ q=>add_int q
theorem ZaR:OpR X (binaryOp .Sub) (rI0 fun i j=> .int (i-j)):=Zqv fun _ _ _ _ _ _ _ q=>sub_int q
theorem Zc9:OpR X (binaryOp .Mult) (rI Zit fun i j=> .int (i*j)):=opI fun _ _ _ _ _ _ _ hc q=>mul_int q hc.ok
theorem ZbL:OpR X (binaryOp .Mod) (rI (fun _ j=>0<j) fun i j=> .int (i%j)):=opI fun i j _ _ _ _ _ hc q=>by
 have h1:(0:Int)<j:=hc;exact mod_int' (by omega) (by rw[Qdc i (by omega)];exact q)
theorem Zgp:OpR X (binaryOp .Pow) (rI ZoD fun i j=> .int (i^j.toNat)):=opI fun _ _ _ _ _ _ _ hc q=>pow_int_small hc.1 hc.2.1 hc.2.2 q
theorem unI {f:Value→Sem Value}{g:Int→Int}
  (rule:∀(i:Int) (t:Tok) (s:Shared) (Q:Value→Shared→Prop) (E:Value→Shared→Prop),Q (.int (g i) s.toks) {s with toks:=s.toks+1 }→wpAny (model X.prog X.w) X.A (f (.int i t)) Q E s):
  UnR X f (rU fun i=> .int (g i)):=by
 intro qa s σ H x v Q I rx h;obtain⟨i,rfl,q⟩:=h;obtain⟨t,rfl⟩:=rx;exact rule i t s _ _ ⟨.int (g i),H,I.tok _,⟨_,rfl⟩,q⟩
theorem Zcx:UnR X (unaryOp .USub) (rU fun i=> .int (-i)):=unI fun _ _ _ _ _ q=>neg_int q
end
def Zqw:V→V→Bool
 | .non,.non=>true| .non,.int _=>true| .int _,.non=>true| .non,.bl _=>true| .bl _,.non=>true| .non,.str _=>true| .str _,.non=>true
 | .int _,.int _=>true| .bl _,.bl _=>true| .str _,.str _=>true| .byt _,.byt _=>true
 | .int _,.str _=>true| .str _,.int _=>true| .bl _,.str _=>true| .str _,.bl _=>true
 |_,_=>false
def rEq:R2:=fun x y H Q=>Zqw x y=true∧Q (.bl (decide (x=y))) H
def rNe:R2:=fun x y H Q=>Zqw x y=true∧Q (.bl (!decide (x=y))) H
theorem Zj8 {i j:Int}:decide (V.int i=V.int j)=(i==j):=by
 rw[Qc4];simp
theorem Znf {i j:Bool}:decide (V.bl i=V.bl j)=(i==j):=by
 rw[Qc4];simp
theorem Zj9 {i j:Str}:decide (V.str i=V.str j)=(i==j):=by
 rw[Qc4];simp
theorem Zka {i j:Array UInt8}:decide (V.byt i=V.byt j)=(i.toList==j.toList):=by
 rw[Qc4];cases i;cases j;simp
section
variable {X:Cx}{a b:Expr}{ta tb tc:TE}{pos:PySem.Pos}
theorem Za9 {σ:St}{H:Hp}{Q:VK}{k k':Bool}(I:Inv X qa σ H s)(q:Q (.bl k) H)(e:k=k'):EP X qa σ Q (.bool k') s:=by
 subst e;exact⟨.bl k,H,I,rfl,q⟩
theorem Zdv:OpR X (compareOp .Eq) rEq:=by
 intro qa s σ H x y v u Q I rx ry h;obtain⟨hs,q⟩:=h
 cases x with
 |non=>
  cases rx
  cases y with
  |non=>cases ry;exact PySem.EqNone.eq_none_none (Za9 I q (by simp))
  |bl j=>cases ry;exact PySem.EqNone.eq_none_bool (Za9 I q (by simp))
  |int j=>obtain⟨t',rfl⟩:=ry;exact PySem.EqNone.eq_none_int (Za9 I q (by simp))
  |str j=>obtain⟨t',rfl⟩:=ry;exact PySem.EqNone.eq_none_str (Za9 I q (by simp))
  |_=>exact absurd (show false=true from hs) QaB
 |bl i=>
  cases rx
  cases y with
  |non=>cases ry;exact PySem.EqNone.eq_bool_none (Za9 I q (by simp))
  |bl j=>cases ry;exact eq_bool (Za9 I q Znf)
  |str j=>obtain⟨t',rfl⟩:=ry;exact PySem.EqMixed.eq_bool_str (Za9 I q (by simp))
  |_=>exact absurd (show false=true from hs) QaB
 |int i=>
  obtain⟨t,rfl⟩:=rx
  cases y with
  |non=>cases ry;exact PySem.EqNone.eq_int_none (Za9 I q (by simp))
  |int j=>obtain⟨t',rfl⟩:=ry;exact eq_int (Za9 I q Zj8)
  |str j=>obtain⟨t',rfl⟩:=ry;exact PySem.EqMixed.eq_int_str (Za9 I q (by simp))
  |_=>exact absurd (show false=true from hs) QaB
 |str i=>
  obtain⟨t,rfl⟩:=rx
  cases y with
  |non=>cases ry;exact PySem.EqNone.eq_str_none (Za9 I q (by simp))
  |bl j=>cases ry;exact PySem.EqMixed.eq_str_bool (Za9 I q (by simp))
  |int j=>obtain⟨t',rfl⟩:=ry;exact PySem.EqMixed.eq_str_int (Za9 I q (by simp))
  |str j=>obtain⟨t',rfl⟩:=ry;exact eq_str (Za9 I q Zj9)
  |_=>exact absurd (show false=true from hs) QaB
 |byt i=>
  obtain⟨t,rfl⟩:=rx
  cases y with
  |byt j=>obtain⟨t',rfl⟩:=ry;exact PySem.W.eq_bytes (Za9 I q Zka)
  |_=>exact absurd (show false=true from hs) QaB
 |_=>cases y<;>exact absurd (show false=true from hs) QaB
theorem Zkb:OpR X (compareOp .NotEq) rNe:=by
 intro qa s σ H x y v u Q I rx ry h;obtain⟨hs,q⟩:=h
 cases x with
 |non=>
  cases rx
  cases y with
  |non=>cases ry;exact PySem.EqNone.ne_none_none (Za9 I q (by simp))
  |bl j=>cases ry;exact PySem.EqNone.ne_none_bool (Za9 I q (by simp))
  |int j=>obtain⟨t',rfl⟩:=ry;exact PySem.EqNone.ne_none_int (Za9 I q (by simp))
  |str j=>obtain⟨t',rfl⟩:=ry;exact PySem.EqNone.ne_none_str (Za9 I q (by simp))
  |_=>exact absurd (show false=true from hs) QaB
 |bl i=>
  cases rx
  cases y with
  |non=>cases ry;exact PySem.EqNone.ne_bool_none (Za9 I q (by simp))
  |bl j=>cases ry;exact ne_bool (Za9 I q (congrArg not Znf))
  |str j=>obtain⟨t',rfl⟩:=ry;exact PySem.EqMixed.ne_bool_str (Za9 I q (by simp))
  |_=>exact absurd (show false=true from hs) QaB
 |int i=>
  obtain⟨t,rfl⟩:=rx
  cases y with
  |non=>cases ry;exact PySem.EqNone.ne_int_none (Za9 I q (by simp))
  |int j=>obtain⟨t',rfl⟩:=ry;exact ne_int (Za9 I q (congrArg not Zj8))
  |str j=>obtain⟨t',rfl⟩:=ry;exact PySem.EqMixed.ne_int_str (Za9 I q (by simp))
  |_=>exact absurd (show false=true from hs) QaB
 |str i=>
  obtain⟨t,rfl⟩:=rx
  cases y with
  |non=>cases ry;exact PySem.EqNone.ne_str_none (Za9 I q (by simp))
  |bl j=>cases ry;exact PySem.EqMixed.ne_str_bool (Za9 I q (by simp))
  |int j=>obtain⟨t',rfl⟩:=ry;exact PySem.EqMixed.ne_str_int (Za9 I q (by simp))
  |str j=>obtain⟨t',rfl⟩:=ry;exact ne_str (Za9 I q (congrArg not Zj9))
  |_=>exact absurd (show false=true from hs) QaB
 |byt i=>
  obtain⟨t,rfl⟩:=rx
  cases y with
  |byt j=>obtain⟨t',rfl⟩:=ry;exact PySem.W.ne_bytes (Za9 I q (congrArg not Zka))
  |_=>exact absurd (show false=true from hs) QaB
 |_=>cases y<;>exact absurd (show false=true from hs) QaB
theorem ZdO:OpR X (compareOp .Lt) (rI0 fun i j=> .bl (decide (i<j))):=ZpS fun _ _ _ _ _ _ _ q=>lt_int q
theorem Ze6:OpR X (compareOp .LtE) (rI0 fun i j=> .bl (decide (i≤j))):=ZpS fun _ _ _ _ _ _ _ q=>le_int q
theorem Zhx:OpR X (compareOp .Gt) (rI0 fun i j=> .bl (decide (j<i))):=ZpS fun _ _ _ _ _ _ _ q=>gt_int q
theorem Zkc:OpR X (compareOp .GtE) (rI0 fun i j=> .bl (decide (j≤i))):=ZpS fun _ _ _ _ _ _ _ q=>ge_int q
theorem ZaH (b:Expr)(h:op≠ .In:=by decide)(h2:op≠ .NotIn:=by decide):behindInMarks op b=false:=by
 have e1:(op==CmpOp.In)=false:=by cases op<;>first|rfl|exact absurd rfl h
 have e2:(op==CmpOp.NotIn)=false:=by cases op<;>first|rfl|exact absurd rfl h2
 cases b<;>simp[behindInMarks,e1,e2]
theorem ZbO {r:R2}(ho:OpR X (compareOp op) r)(ha:PE X a ta)(hb:PE X b tb)(hm:behindInMarks op b=false):PE X (.Compare a [op] [b] pos) (tOp r ta tb):=by
 intro qa s σ H Q I h;exact wpAny_Compare1 (Zp0 ha hb I h fun v u s2 x y H2 I2 rx ry q=>ho qa s2 σ H2 x y v u Q I2 rx ry q) hm
def Za3 (t:TE):TT:=fun σ H Q=>t σ H fun x H'=>∃k,x= .bl k∧Q k H'
theorem ZaI {r:R2}(ho:OpR X (compareOp op) r)(ha:PE X a ta)(hb:PE X b tb)(hm:behindInMarks op b=false):PT X (.Compare a [op] [b] pos) (Za3 (tOp r ta tb)):=by
 intro qa s σ H Q I h
 refine QdS (thn (ha qa s σ H _ I h) fun v s1 ⟨x,H1,I1,r1,q1⟩=>thn (hb qa s1 σ H1 _ I1 q1) fun u s2 ⟨y,H2,I2,r2,q2⟩=>
  thn (ho qa s2 σ H2 x y v u _ I2 r1 r2 q2) fun c s3 ⟨z,H3,I3,r3,k,e,q3⟩=> ?_) hm
 subst e;cases r3;exact Qbi ⟨H3,I3,q3⟩
def Zec (r r':R2)(ta tb tc:TE):TE:=fun σ H Q=>ta σ H fun x H1=>tb σ H1 fun y H2=>r x y H2 fun z H3=>∃k,z= .bl k∧
 (if k=true then tc σ H3 fun w' H4=>r' y w' H4 Q else Q (.bl false) H3)
theorem ZdP {op':CmpOp}{r r':R2}(ho:OpR X (compareOp op) r)(ho':OpR X (compareOp op') r')(ha:PE X a ta)(hb:PE X b tb)(hc:PE X c tc)
  (hm:lastMarks [op,op'] [b,c]=false:=by with_unfolding_all rfl):PT X (.Compare a [op,op'] [b,c] pos) (Za3 (Zec r r' ta tb tc)):=by
 intro qa s σ H Q I h
 refine isTrue_chain (thn (ha qa s σ H _ I h) fun v s1 ⟨x,H1,I1,r1,q1⟩=>test_link (thn (hb qa s1 σ H1 _ I1 q1) fun u s2 ⟨y,H2,I2,r2,q2⟩=>
  thn (ho qa s2 σ H2 x y v u _ I2 r1 r2 q2) fun d s3 ⟨z,H3,I3,r3,k,e,q3⟩=> ?_)) hm
 subst e;cases r3;refine Qbi ?_
 cases k with
 |false=>
  obtain⟨k',e',q'⟩:=q3;cases e';exact ite_ff ⟨H3,I3,q'⟩
 |true=>
  refine ite_tt (test_last (thn (hc qa s3 σ H3 _ I3 q3) fun w' s4 ⟨z',H4,I4,r4,q4⟩=>thn (ho' qa s4 σ H4 y z' u w' _ I4 r2 r4 q4) fun d' s5 ⟨z2,H5,I5,r5,k2,e2,q5⟩=> ?_));subst e2;cases r5;exact Qbi ⟨H5,I5,q5⟩
def ZpT (K:PySem.W.Frag)(x:V)(H:Hp)(k:Bool):Prop:=
 match x with
 | .non=>k=false
 | .bl b=>k=b
 | .int i=>k=(i !=0)
 | .str y=>y.length≤sizeLine∧k=((y.length:Int) !=0)
 | .byt y=>y.size≤sizeLine∧k=((y.size:Int) !=0)
 | .ref p=>(∃xs,SqL K H p xs∧k= !xs.isEmpty)∨(∃xs,SqT K H p xs∧k= !xs.isEmpty)∨∃kvs,H p=some (.dK kvs)∧k= !kvs.isEmpty
 |_=>False
theorem Zjf {κ:Type}{kvs:List (κ×V)}{vs:List (κ×Value)}(r:KV kvs vs):(!vs.isEmpty)= !kvs.isEmpty:=by
 cases r<;>rfl
theorem Zfk {xs:List V}{its:List Value}(r:ZbC xs its):(!its.toArray.isEmpty)= !xs.isEmpty:=by
 cases r<;>simp
theorem Zgq:(sizeLine:Nat)<2^63:=by rw[sizeLine_eq];decide
theorem ZoN:ZqM X (fun x H Q=>∃k,ZpT X.K x H k∧Q k H):=by
 intro qa s σ H x v Q I rx h;obtain⟨k,e,q⟩:=h;have hl:=Zgq;have hs:sizeLine=16777216:=sizeLine_eq
 cases x with
 |non=>
  cases rx;have e':k=false:=e;subst e';exact truthy_none ⟨H,I,q⟩
 |bl b=>
  cases rx;have e':k=b:=e;subst e';exact Qbi ⟨H,I,q⟩
 |int i=>
  obtain⟨t,rfl⟩:=rx;have e':k=(i !=0):=e;subst e';exact PySem.P.truthy_int ⟨H,I,q⟩
 |str y=>
  obtain⟨t,rfl⟩:=rx;obtain⟨hy,e'⟩:y.length≤sizeLine∧k=((y.length:Int) !=0):=e;subst e';exact PySem.P.truthy_str (by omega) ⟨H,I.tok _,q⟩
 |byt y=>
  obtain⟨t,rfl⟩:=rx;obtain⟨hy,e'⟩:y.size≤sizeLine∧k=((y.size:Int) !=0):=e;subst e';exact PySem.W.truthy_bytes (by omega) ⟨H,I.tok _,q⟩
 |ref p=>
  cases rx;have e':(∃xs,SqL X.K H p xs∧k= !xs.isEmpty)∨(∃xs,SqT X.K H p xs∧k= !xs.isEmpty)∨∃kvs,H p=some (.dK kvs)∧k= !kvs.isEmpty:=e;rcases e' with⟨xs,hx,e'⟩|⟨xs,hx,e'⟩|⟨kvs,hx,e'⟩
  ·subst e';obtain⟨its,r,pl,hz⟩:=I.list hx;have hlen:=r.length;exact wpAny_truthy_list pl.isList (by simp only[Qat];omega) ⟨H,I.tok _,by rw[Zfk r];exact q⟩
  ·subst e';obtain⟨its,r,pl,hz⟩:=I.tuple hx;have hlen:=r.length;exact truthy_tuple pl (by simp only[Qat];omega) ⟨H,I.tok _,by rw[Zfk r];exact q⟩
  ·subst e';obtain⟨hz,hS,vs,r,m⟩:kvs.length≤sizeLine∧(p==sysModules)=false∧∃vs,KV kvs vs∧s.heap.DictOf (Zbu X.prog X.w) p vs:=I.hok p _ hx;have hlen:kvs.length=vs.length:=Qdy r;exact wpAny_truthy_dict hS m (by omega) ⟨H,I.tok _,by rw[Zjf r];exact q⟩
 |_=>exact(show False from e).elim
theorem ZfF (ha:PE X a ta)(he:∀jr,isTrue a X.env jr=(do let v←jr;standAt a.pos;holding [v] (truthy v))):
  PT X a (fun σ H Q=>ta σ H fun x H'=>∃k,ZpT X.K x H' k∧Q k H'):=by
 intro qa s σ H Q I h;exact isTrue_plain (thn (ha qa s σ H _ I h) fun v s1 ⟨x,H1,I1,r1,q1⟩=>ZoN qa s1 σ H1 x v Q I1 r1 q1) (he _)
theorem Ze7 {x:V}(r:ZbC [x] us):∃u,us=[u]∧ZbB x u:=by
 cases r with
 |cons r1 r2=>cases r2;exact⟨_,rfl,r1⟩
theorem ZfG {x y:V}(r:ZbC [x,y] us):∃u w',us=[u,w']∧ZbB x u∧ZbB y w':=by
 cases r with
 |cons r1 r2=>
  cases r2 with
  |cons r3 r4=>cases r4;exact⟨_,_,rfl,r1,r3⟩
theorem Ziu:Zc5 X (.builtin "abs") (fun xs H Q=>∃i,xs=[.int i]∧Q (.int (if i<0 then -i else i)) H):=by
 intro qa s σ H xs us Q I r h;obtain⟨i,rfl,q⟩:=h;obtain⟨u,rfl,t,rfl⟩:=Ze7 r;exact call_abs_int fun u tk=>⟨.int (if i<0 then -i else i),H,I.tok _,⟨_,rfl⟩,q⟩
theorem Zca (hc:X.calm=true):Zc5 X (.builtin "max") (fun xs H Q=>∃i j,xs=[.int i,.int j]∧Q (.int (if j>i then j else i)) H):=by
 intro qa s σ H xs us Q I r h;obtain⟨i,j,rfl,q⟩:=h;obtain⟨u,w',rfl,⟨t,rfl⟩,⟨t',rfl⟩⟩:=ZfG r;refine max_two_ints (I.ok.hd hc) fun h' tk k=>⟨_,H,I.kept k,?_,q⟩;by_cases hj:j>i
 ·rw[if_pos hj,if_pos hj];exact⟨_,rfl⟩
 ·rw[if_neg hj,if_neg hj];exact⟨_,rfl⟩
theorem Zbz (hc:X.calm=true):Zc5 X (.builtin "min") (fun xs H Q=>∃i j,xs=[.int i,.int j]∧Q (.int (if j<i then j else i)) H):=by
 intro qa s σ H xs us Q I r h;obtain⟨i,j,rfl,q⟩:=h;obtain⟨u,w',rfl,⟨t,rfl⟩,⟨t',rfl⟩⟩:=ZfG r;refine min_two_ints (I.ok.hd hc) fun h' tk k=>⟨_,H,I.kept k,?_,q⟩;by_cases hj:j<i
 ·rw[if_pos hj,if_pos hj];exact⟨_,rfl⟩
 ·rw[if_neg hj,if_neg hj];exact⟨_,rfl⟩
theorem Zgr:Zc5 X (.type "int") (fun xs H Q=>(∃i,xs=[.int i]∧Q (.int i) H)∨∃k,xs=[.bl k]∧Q (.int (if k then 1 else 0)) H):=by
 intro qa s σ H xs us Q I r h;rcases h with⟨i,rfl,q⟩|⟨k,rfl,q⟩
 ·obtain⟨u,rfl,t,rfl⟩:=Ze7 r;exact call_int_int ⟨.int i,H,I,⟨_,rfl⟩,q⟩
 ·obtain⟨u,rfl,r1⟩:=Ze7 r;cases r1;exact call_int_bool ⟨.int (if k then 1 else 0),H,I.tok _,⟨_,rfl⟩,q⟩
end
structure Zp1 (h:Heap)(x dx C:Addr)(mA:Str→Option Value):Prop where
 obj:h.get? x=some (PySem.W.instObj C dx)
 ns:h.Ns1 dx mA
 ne:dx≠x
theorem Zkd (n:h.Ns1 dx mA):∃od,h.get? dx=some od∧∀name,PySem.W.lookIn name od=some (mA name):=by
 obtain⟨o,es,ep,ho,hd,hk,_,hm⟩:=n;refine⟨o,ho,fun name=> ?_⟩;have e:=hm name;unfold nsFind findBy at e;rw[←Array.find?_toList] at e;unfold PySem.W.lookIn;rw[hd];dsimp only;split
 ·rename_i y q;rw[q] at e;exact congrArg some e
 ·rename_i q;rw[q] at e
  have a:es.toList.any (·.refKey)=false:=by
   rw[List.any_eq_false];intro y hy;obtain⟨z,t,hkey⟩:=hk y (Array.mem_toList_iff.mp hy);simp[DictEntry.refKey,hkey]
  have a':¬es.toList.any (·.refKey)=true:=by rw[a];exact QaB
  rw[if_neg a'];exact congrArg some e
theorem Zp1.look {x:Addr}(I:Zp1 h x dx C mA):∃od,PySem.W.InstAt h x (PySem.W.instObj C dx) C (some od)∧∀name,PySem.W.lookIn name od=some (mA name):=
 let⟨od,ho,hl⟩:=Zkd I.ns
 ⟨od,⟨I.obj,rfl,rfl,ho⟩,hl⟩
theorem Zjc.some_of {v:V}{o:Option Value}(r:Zjc (some v) o):∃u,o=some u∧ZbB v u:=by
 cases o with
 |none=>exact(show False from r).elim
 |some u=>exact⟨u,rfl,r⟩
section
variable {H H':Hp}{fs fs':List (Str×V)}
theorem ZnK (hok:HOk P w H h)(e:H a=some (.ins C dx fs)):∃mA,Zp1 h a dx C mA∧(∀f,Zjc (fs.lookup f) (mA f))∧PySem.Within mA (fs.map (·.1))∧fs.length≤1000∧H dx=some (.own a):=by
 obtain⟨d,z,ne,ob,mA,n,r,q⟩:=(show ZbN P w H h a (.ins C dx fs) from hok a _ e);exact⟨mA,⟨ob,n,ne⟩,r,q,z,d⟩
end
structure Cls (K:PySem.W.Frag)(C:Addr):Prop where
 pg:PySem.W.plainGet K C Str.empty=true
 hd:PySem.W.hasDictIn K C=true
 po:PySem.W.plainOver K C=true
 sa:PySem.W.findIn K (.ref C) "__setattr__" =some (some (.builtin "object.__setattr__"))
theorem Cls.get {K:PySem.W.Frag}(c:Cls K C)(f:Str):PySem.W.plainGet K C f=true:=c.pg
section
variable {X:Cx}{σ:St}{H:Hp}{Q:Value→Shared→Prop}{c:Value}{b:Bool}
inductive Zdw (K:PySem.W.Frag) (H:Hp):V→Value→Prop where
 |non:Zdw K H .non (.type "NoneType")
 |bl (x:Bool):Zdw K H (.bl x) (.type "bool")
 |int (i:Int):Zdw K H (.int i) (.type "int")
 |str (x:Str):Zdw K H (.str x) (.type "str")
 |flt (x:UInt64):Zdw K H (.flt x) (.type "float")
 |lst {a:Addr} {xs:List V} (e:H a=some (.lst xs)):Zdw K H (.ref a) (.type "list")
 |frz {a:Addr} {o:Obj} {xs:List V} (e:H a=some (.frz o (.lst xs))):Zdw K H (.ref a) (.type "list")
 |tup {a:Addr} {xs:List V} (e:H a=some (.tup xs)):Zdw K H (.ref a) (.type "tuple")
 |dK {a:Addr} {kvs:List (Key×V)} (e:H a=some (.dK kvs)):Zdw K H (.ref a) (.type "dict")
 |dT {a:Addr} {kvs:List (List Key×V)} (e:H a=some (.dT kvs)):Zdw K H (.ref a) (.type "dict")
 |ins {a C dx:Addr} {fs:List (Str×V)} (e:H a=some (.ins C dx fs)) (cl:Cls K C) (ha:PySem.W.findIn K (.ref C) "__class__" =some (some (.builtin "object.__class__")))
   (hn:PySem.W.specialIn K (.builtin "object.__class__") "__get__" =some (some (.builtin "getset_descriptor.__get__"))) (htk:PySem.W.takesIn K (.builtin "object.__class__")=some true)
   (hm:PySem.W.mroIn K C (.type "object")=some true):Zdw K H (.ref a) (.ref C)
theorem Zke {x:V}{t:Value}(I:Inv X qa σ H s)(rx:ZbB x u)(ty:Zdw X.K H x t)(e:PySem.W.kitOne X.K t c=some b)(h:∀tk,Q (.bool b) {s with toks:=tk }):
  wpAny (model X.prog X.w) A (call (.builtin "isinstance") [u,c]) Q E s:=by
 cases ty with
 |non=>cases(show u=Value.none from rx);exact Qbd PySem.W.kitx_none I.kIn Qcq e (fun z=>nomatch z) h
 |bl y=>cases(show u=Value.bool y from rx);exact Qbd PySem.W.kitx_bool I.kIn Qcq e (fun z=>nomatch z) h
 |int i=>obtain⟨t,q⟩:=(show∃t,u=Value.int i t from rx);cases q;exact Qbd PySem.W.kitx_int I.kIn Qcq e (fun z=>nomatch z) h
 |str y=>obtain⟨t,q⟩:=(show∃t,u=Value.str y t from rx);cases q;exact Qbd PySem.W.kitx_str I.kIn Qcq e (fun z=>nomatch z) h
 |flt y=>obtain⟨t,q⟩:=(show∃t,u=Value.float y t from rx);cases q;exact Qbd PySem.W.kitx_float I.kIn Qcq e (fun z=>nomatch z) h
 | @lst a xs ea=>
  cases(show u=Value.ref a from rx);obtain⟨_,_,n,_,h1⟩:=(show ZbN X.prog X.w H s.heap a (.lst xs) from I.hok a _ ea);exact Qbd PySem.W.kitx_list I.kIn ⟨_,h1,rfl⟩ e (fun z=>nomatch z) h
 | @frz a ob xs ea=>
  cases(show u=Value.ref a from rx);obtain⟨_,_,_,n,_,h1⟩:=(show ZbN X.prog X.w H s.heap a (.frz ob (.lst xs)) from I.hok a _ ea);exact Qbd PySem.W.kitx_list I.kIn ⟨_,h1,rfl⟩ e (fun z=>nomatch z) h
 | @tup a xs ea=>
  cases(show u=Value.ref a from rx);obtain⟨_,_,_,p⟩:=(show ZbN X.prog X.w H s.heap a (.tup xs) from I.hok a _ ea);obtain⟨o,h1,h2,_⟩:=p;exact Qbd PySem.W.kitx_tuple I.kIn ⟨o,h1,h2⟩ e (fun z=>nomatch z) h
 | @dK a kvs ea=>
  cases(show u=Value.ref a from rx);obtain⟨_,_,vs,_,p⟩:=(show ZbN X.prog X.w H s.heap a (.dK kvs) from I.hok a _ ea);obtain⟨o,es,ep,h1,h2,_⟩:=p;exact Qbd PySem.W.kitx_dict I.kIn ⟨o,h1,h2.1⟩ e (fun z=>nomatch z) h
 | @dT a kvs ea=>
  cases(show u=Value.ref a from rx);obtain⟨_,_,xs,_,o,es,ep,h1,h2,_⟩:=(show ZbN X.prog X.w H s.heap a (.dT kvs) from I.hok a _ ea);exact Qbd PySem.W.kitx_dict I.kIn ⟨o,h1,h2.1⟩ e (fun z=>nomatch z) h
 | @ins a C dx fs ea cl ha hn htk hm=>
  cases(show u=Value.ref a from rx);obtain⟨mA,O,_⟩:=ZnK I.hok ea;obtain⟨od,J,_⟩:=O.look;exact Qbd (PySem.W.kitx_own (cl.get _) cl.hd ha hn htk hm) I.kIn J e (fun z=>nomatch z) h
end
structure Zef (k:Nat)(A:Around):Prop where
 hd:A.handled=none
 dp:A.depth+3*k+5<recursionLimit
 un:A.units+16*k+200<cLine
 gd:A.guards=some []
theorem Zef.mono {k:Nat}(r:Zef k A)(h:j≤k):Zef j A:=⟨r.hd,by have:=r.dp;omega,by have:=r.un;omega,r.gd⟩
theorem Zef.deeper {k:Nat}{A:Around}(r:Zef (k+1) A)(env:Env):Zef k (A.deeper env):=
 ⟨r.hd,by have:=r.dp;show A.depth+1+3*k+5<_;omega,by have:=r.un;show A.units+3+16*k+200<_;omega,r.gd⟩
theorem Zef.depth {k:Nat}{A:Around}(r:Zef k A):A.depth<recursionLimit:=by have:=r.dp;omega
theorem Zef.units {k:Nat}{A:Around}(r:Zef k A):A.units+64<cLine:=by have:=r.un;omega
def Zau:TA:=fun _ H Q=>Q [] H
def Zaa (ta:TE)(tr:TA):TA:=fun σ H Q=>ta σ H fun x H1=>tr σ H1 fun xs H2=>Q (x::xs) H2
section
variable {X:Cx}{te:TE}{t:TA}{pos:PySem.Pos}
theorem Zac:PA X [] Zau:=fun _ _ _ _ H Q I h=>QcA ⟨[],H,I,.nil,h⟩
theorem ZaQ (ha:PE X e te)(hr:PA X es t)(hs:starEach (e::es) X.env=(false,eval e X.env)::starEach es X.env:=by rfl):PA X (e::es) (Zaa te t):=by
 intro pos qa s σ H Q I h;rw[hs];show wpAny _ _ (spliced ((false,eval e X.env)::backTo pos (starEach es X.env))) _ _ s;refine Qb8 (thn (ha qa s σ H _ I h) fun u s1 ⟨x,H1,I1,r1,q1⟩=> ?_);exact thn (hr pos qa s1 σ H1 _ I1 q1) fun us s2 ⟨xs,H2,I2,r2,q2⟩=>⟨x::xs,H2,I2,.cons r1 r2,q2⟩
def ZdM (t:TA):TE:=fun σ H Q=>t σ H fun xs H1=>xs.length≤sizeLine∧∀p,H1 p=none→Q (.ref p) (upd H1 p (.tup xs))
def ZcK (t:TA):TE:=fun σ H Q=>t σ H fun xs H1=>xs.length≤sizeLine∧∀p,H1 p=none→Q (.ref p) (upd H1 p (.lst xs))
theorem Zba {x1}(h:PA X es t):PE X (.Tuple es x1 pos) (ZdM t):=by
 intro qa s σ H Q I hq;refine wpAny_Tuple_spliced (thn (h pos qa s σ H _ I hq) fun us s1 ⟨xs,H1,I1,r,z,q⟩=>⟨by rw[←r.length];exact z,?_⟩);have hf:H1 s1.heap.objs.size=none:=I1.hok.fresh (Qal _);refine⟨.ref s1.heap.objs.size,upd H1 s1.heap.objs.size (.tup xs),I1.laid (t':=s1.toks) (fun b u e=>Qag _ e) (Qal _) ?_,rfl,q _ hf⟩;exact⟨z,us,r,⟨_,Qax _ rfl,rfl,_,rfl⟩⟩
theorem ZaS (h:PA X es t):PE X (.List es pos) (ZcK t):=by
 intro qa s σ H Q I hq;refine wpAny_List_spliced (thn (h pos qa s σ H _ I hq) fun us s1 ⟨xs,H1,I1,r,z,q⟩=>⟨by rw[←r.length];exact z,?_⟩);have hf:H1 s1.heap.objs.size=none:=I1.hok.fresh (Qal _);refine⟨.ref s1.heap.objs.size,upd H1 s1.heap.objs.size (.lst xs),I1.laid (t':=s1.toks) (fun b u e=>Qag _ e) (Qal _) ?_,rfl,q _ hf⟩;exact⟨z,us,0,r,Qax _ rfl⟩
end
abbrev Sp:=List V→Hp→VK→XK→Prop
abbrev CXT:=List Env→Hp→Shared→XK→Value→Shared→Prop
structure ZpU (P:Program)(w:World)(K:PySem.W.Frag)(mg:Str→Option Value)(base:Heap)(A:Around)(outer:List Env)(s:Shared)(H:Hp):Prop where
 frames:A.frames=some outer
 mod:Mod K mg base
 bs:∀b o,base.get? b=some o→s.heap.get? b=some o∧H b=none
 bsz:base.objs.size≤s.heap.objs.size
 funs:s.heap.FunFrames base outer
 frf:∀b∈frs outer,H b=none
 hok:HOk P w H s.heap
 bare:AllBare s.gens
def CE (outer:List Env)(P:Program)(w:World)(H:Hp)(s:Shared)(Q:VK)(u:Value)(s':Shared):Prop:=
 ∃v H',s'.os=s.os∧AllBare s'.gens∧Un (frs outer) [] H H' s.heap s'.heap∧HOk P w H' s'.heap∧ZbB v u∧Q v H'
def CR (CX:CXT)(outer:List Env)(P:Program)(w:World)(H:Hp)(s:Shared)(Q:VK)(E:XK)(r:Result)(s':Shared):Prop:=
 match r with
 | .ok (.ret u)=>CE outer P w H s Q u s'
 | .ok _=>False
 | .error e=>CX outer H s E e s'
structure ZbW (P:Program)(w:World)(K:PySem.W.Frag)(mg:Str→Option Value)(base:Heap)(CX:CXT)(k:Nat)(f:Addr)(fd:FuncData)(ps:List Str)(sp:Sp):Prop where
 len:∀vs H Q E,sp vs H Q E→vs.length=ps.length
 run:∀(A:Around) (outer:List Env) (s:Shared) (H:Hp) (args:Args) (us:List Value) (vs:List V) (Q:VK) (E:XK),Zef k A→ZpU P w K mg base A outer s H→BindsTo s fd args (ps.zip us)→ZbC vs us→sp vs H Q E→
  codeAny (model P w) A (.call (.ref f) args) (CR CX outer P w H s Q E) s
section
variable {X:Cx}{σ:St}{H:Hp}
theorem Inv.env0 (I:Inv X qa σ H s):ZpU X.prog X.w X.K X.mg X.base X.A X.stack s H:=
 ⟨I.ok.frames,I.ok.mod,I.bs,QaD I.ok.bsz I.sz,I.stack,I.stkFree,I.hok,I.bare⟩
theorem Inv.after {Q:VK}(I:Inv X qa σ H s)(h:CE X.stack X.prog X.w H s Q u s'):EP X qa σ Q u s':=by
 obtain⟨v,H',os,bare,un,hok,r,q⟩:=h;obtain⟨hh,g,d,t,os'⟩:=s';obtain rfl:os'=s.os:=os;exact⟨v,H',I.call (h':=hh) (g':=g) (d':=d) (t':=t) (ch:=[]) un hok bare (fun b z=>absurd z (by simp)),r,q⟩
end
def ZaF (sp:Sp)(dvs:List V)(E:XK)(t:TA):TE:=fun σ H Q=>t σ H fun vs H1=>sp (vs++dvs) H1 Q E
def ZfH (K:PySem.W.Frag)(fd:FuncData)(ps:List Str)(ds:List Value):Prop:=
 ∀(s:Shared) (us:List Value),K.In s.heap→(us++ds).length=ps.length→BindsTo s fd ⟨us,[]⟩ (ps.zip (us++ds))
theorem ZfH.all {K:PySem.W.Frag}(h:∀us:List Value,us.length=ps.length→bindArgs fd ⟨us,[]⟩=pure (ps.zip us)):ZfH K fd ps []:=fun s us _ hl=>by
 rw[Qbo] at hl⊢;exact .of_eq (h us hl)
def Zkf (CX:CXT)(X:Cx)(E:XK):Prop:=∀(qa:List (Addr×Obj)) (σ:St) (H:Hp) (s:Shared) (e:Value) (s':Shared),Inv X qa σ H s→CX X.stack H s E e s'→X.xe e s'
section
variable {X:Cx}{CX:CXT}{k:Nat}{f:Addr}{sp:Sp}{dvs:List V}{ds:List Value}{E:XK}{m:Str}{pos jh:PySem.Pos}{o:Expr}{ta:TE}{t:TA}
theorem ZoO {σ:St}{H:Hp}{Q:VK}{vs:List V}(F:ZbW X.prog X.w X.K X.mg X.base CX k f fd ps sp)(hr:Zef k X.A)(hb:ZfH X.K fd ps ds)(hd:ZbC dvs ds)(hx:Zkf CX X E)
  (I:Inv X qa σ H s) (r:ZbC vs us) (h:sp (vs++dvs) H Q E):wpAny (model X.prog X.w) X.A (call (.ref f) us) (EP X qa σ Q) X.xe s:=by
 have r2:ZbC (vs++dvs) (us++ds):=r.append hd;have hl:(us++ds).length=ps.length:=by rw[←r2.length];exact F.len _ _ _ _ h
 refine Qek (Qcr (F.run X.A X.stack s H ⟨us,[]⟩ (us++ds) (vs++dvs) Q E hr I.env0 (hb s us I.kIn hl) r2 h) fun r s' hq=> ?_)
 cases r with
 |error e=>exact hx qa σ H s e s' I hq
 |ok fl=>
  cases fl with
  |ret u=>exact I.after hq
  |next=>exact False.elim hq
  |brk=>exact False.elim hq
  |cont=>exact False.elim hq
theorem ZnL (F:ZbW X.prog X.w X.K X.mg X.base CX k f fd ps sp)(hr:Zef k X.A)(hg:Gl X x)(hm:X.mg x=some (.ref f))(hk:PySem.W.keepIn X.K (.ref f)=true)(hb:ZfH X.K fd ps ds)(hd:ZbC dvs ds)(hx:Zkf CX X E)
  (ha:PA X (e::es) t) (hdb:(x==("__debug__" :Str))=false:=by decide) (he:starEach (e::es) X.env=(false,eval e X.env)::starEach es X.env:=by rfl) (hpl:(backTo pos (starEach es X.env)).any (·.1)=false:=by rfl):
  PE X (.Call (.Name x p) (e::es) [] pos) (ZaF sp dvs E t):=by
 intro qa s σ H Q I h;refine Qbk (ZdY I hg hm ?_ hdb);refine Qdl (h₀:=X.base) I.ok.mod.kin hk (thn (ha pos qa s σ H _ I h) fun us s1 ⟨vs,H1,I1,r,q⟩=>⟨I1.kIn,?_⟩) he hpl;exact ZoO F hr hb hd hx I1 r q
end
structure ZaC (N P:List Str)(sc:Scope):Prop where
 kind:sc.kind= .function
 co:sc.isCoroutine=false
 gen:sc.isGenerator=false
 nd:N.Nodup
 pre:N.take P.length=P
 par:∀x∈P,sc.names.lookup x=some .local∨sc.names.lookup x=some .cell
 nofree:∀y∈sc.names,y.2≠ .free
theorem Zgs {kindOf:Str→Option NameKind}{x:Str}:∀{binds:List (Str×Value)} {m:Str→Option Value},(∀v,(x,v) ∉binds)→bindL kindOf binds m x=m x
 | [],_,_=>rfl
 | (n,v)::r,m,h=>by
  unfold bindL;rw[Zgs fun w hw=>h w (Qab _ hw)];split
  ·have:x≠n:=by rintro rfl;exact h v Qad
   simp[this]
  ·rfl
theorem Zgt {kindOf:Str→Option NameKind}{x:Str}:∀{binds:List (Str×Value)} {m:Str→Option Value},(∀v,(x,v) ∉binds)→bindC kindOf binds m x=m x
 | [],_,_=>rfl
 | (n,v)::r,m,h=>by
  unfold bindC;rw[Zgt fun w hw=>h w (Qab _ hw)];split
  ·rfl
  ·have:x≠n:=by rintro rfl;exact h v Qad
   simp[this]
theorem Zgu {kindOf:Str→Option NameKind}{x:Str}{v:Value}:∀{P:List Str} {vs:List Value} {i:Nat} {m:Str→Option Value},P.Nodup→P[i]?=some x→vs[i]?=some v→kindOf x=some .local→
  bindL kindOf (P.zip vs) m x=some v
 | [],_,_,_,_,h,_,_=>by simp at h
 |_::_,[],_,_,_,_,h,_=>by simp at h
 |p::P,w::vs,0,m,nd,h1,h2,hk=>by
  simp at h1 h2;subst h1;subst h2;show bindL kindOf ((p,w)::P.zip vs) m p=_;unfold bindL;rw[Zgs fun v hv=>(QbN.mp nd).1 (QdT hv).1,if_pos hk];simp
 |p::P,w::vs,i+1,m,nd,h1,h2,hk=>by
  show bindL kindOf ((p,w)::P.zip vs) m x=_;unfold bindL;exact Zgu (i:=i) (QbN.mp nd).2 (by simpa using h1) (by simpa using h2) hk
theorem Zgv {kindOf:Str→Option NameKind}{x:Str}{v:Value}:∀{P:List Str} {vs:List Value} {i:Nat} {m:Str→Option Value},P.Nodup→P[i]?=some x→vs[i]?=some v→kindOf x≠some .local→
  bindC kindOf (P.zip vs) m x=some v
 | [],_,_,_,_,h,_,_=>by simp at h
 |_::_,[],_,_,_,_,h,_=>by simp at h
 |p::P,w::vs,0,m,nd,h1,h2,hk=>by
  simp at h1 h2;subst h1;subst h2;show bindC kindOf ((p,w)::P.zip vs) m p=_;unfold bindC;rw[Zgt fun v hv=>(QbN.mp nd).1 (QdT hv).1,if_neg hk];simp
 |p::P,w::vs,i+1,m,nd,h1,h2,hk=>by
  show bindC kindOf ((p,w)::P.zip vs) m x=_;unfold bindC;exact Zgv (i:=i) (QbN.mp nd).2 (by simpa using h1) (by simpa using h2) hk
def ZfI (N:List Str)(vs:List V):St:=vs.map some++List.replicate (N.length-vs.length) none
def Ze8 (CX:CXT)(P:Program)(w:World)(K:PySem.W.Frag)(mg:Str→Option Value)(base:Heap)(N:List Str)(qr:Str)(scope:Scope)(f:Addr)(cd:Value)(A:Around)(outer:List Env)(s:Shared)(H:Hp)(E:XK):Cx where
 prog:=P
 w:=w
 K:=K
 mg:=mg
 base:=base
 A:=A.deeper (envOfC qr scope s.heap.objs.size f cd)
 N:=N
 s₀:=s
 H₀:=H
 env:=envOfC qr scope s.heap.objs.size f cd
 outer:=outer
 stack:=envOfC qr scope s.heap.objs.size f cd::outer
 ex:=[]
 calm:=true
 fn:=fun _=>true
 pn:=[]
 xe:=fun e s'=>wpAny (model P w) (A.deeper (envOfC qr scope s.heap.objs.size f cd)) (leaving (envOfC qr scope s.heap.objs.size f cd) e) (fun _ s''=>CX outer H s E e s'') (fun e' s''=>CX outer H s E e' s'') s'
theorem Ziv {sc:Scope}(h:sc.names.lookup x=some .cell):∃c,(cellsFrom n sc.names []).lookup x=some c:=by
 have q:=QdO sc.names n [] (.inl h);exact QbY.mp q
theorem Zkg {CX:CXT}{K:PySem.W.Frag}{f:Addr}{cd:Value}{outer:List Env}{s1:Shared}{H:Hp}{E:XK}{vs:List V}
  (S:ZaC N ps scope) (hd:A.handled=none) (e0:ZpU P w K mg base A outer s H) (hl:vs.length=ps.length) (r:ZbC vs us)
  (x:InCallC s s.heap.objs.size (bindL (envOfC qr scope s.heap.objs.size f cd).kindOf (ps.zip us) fun _=>none) (cellsFrom (s.heap.objs.size+1) scope.names []) (bindC (envOfC qr scope s.heap.objs.size f cd).kindOf (ps.zip us) fun _=>none) s1):
  Inv (Ze8 CX P w K mg base N qr scope f cd A outer s H E) [] (ZfI N vs) H s1:=by
 have hpl:ps.length≤N.length:=by have:=congrArg List.length S.pre;rw[Qav] at this;omega
 obtain⟨h1,tk,rfl,hk⟩:=x.done;have noA:∀b:Addr,b∉(Ze8 CX P w K mg base N qr scope f cd A outer s H E).ex:=fun b z=>absurd (show b∈([]:List Addr) from z) (by simp)
 refine⟨⟨e0.mod,S.kind,rfl,rfl,Qal _,fun y z c h1 h2=> ?_,fun y hy=> ?_,fun y c _ h=> ?_,fun _=>hd,Around.frames_deeper e0.frames,.inr ⟨rfl,rfl⟩,fun b z=>absurd z (noA b),e0.bs,e0.bsz,fun b _ _=>noA b,fun b z=>absurd z (noA b),e0.funs,e0.frf⟩,
  rfl,e0.bare,Un.kept hk,⟨_,x.toInCall.ns,fun i y v h1 h2 h3=> ?_⟩,fun y c h=>⟨_,x.cell y c h⟩,e0.hok.fresh (Qal _),fun y c h=> ?_,fun p hp=>absurd (show p∈([]:List (Addr×Obj)) from hp) (by simp),e0.hok.kept hk,?_⟩
 ·exact name_of_addr x.apart (Qbs h1) (Qbs h2)
 ·have hy:scope.names.lookup y=some .cell∨scope.names.lookup y=some .free:=hy;rcases hy with hy|hy
  ·exact Ziv hy
  ·exact absurd rfl (S.nofree _ (Qbs hy))
 ·exact Qcc (x.above y c (Qbs h))
 ·have hi:i<vs.length:=by
   unfold ZfI at h2;by_cases hi:i<vs.length
   ·exact hi
   ·rw[QaF (by simpa using hi)] at h2;rw[Qcv] at h2;split at h2<;>cases h2
  have ha:vs[i]?=some v:=by
   unfold ZfI at h2;rw[QaK (by simpa using hi),Qaq] at h2
   cases e:vs[i]? with
   |none=>rw[e] at h2;cases h2
   |some a=>rw[e] at h2;cases h2;rfl
  obtain⟨u,hu,rv⟩:=r.get ha
  have hp:ps[i]?=some y:=by
   rw[←S.pre,List.getElem?_take_of_lt (by omega)];exact h1
  have ndP:ps.Nodup:=by rw[←S.pre];exact S.nd.sublist (List.take_sublist _ _)
  refine⟨u,rv,?_⟩;rcases S.par y (Qau hp) with k|k
  ·exact .inl ⟨k,Zgu ndP hp hu k⟩
  ·obtain⟨c,e⟩:=Ziv (n:=s.heap.objs.size+1) k;refine .inr ⟨.inl k,c,e,?_⟩;have q:=x.cell y c e;rw[Zgv ndP hp hu (by show scope.names.lookup y≠_;rw[k];decide)] at q;exact q
 ·exact e0.hok.fresh (Qcc (x.above y c (Qbs h)))
 ·unfold ZfI;show _=N.length;rw[Qae,Qac,Qbc];omega
theorem ZoP {CX:CXT}{K:PySem.W.Frag}{k:Nat}{f:Addr}{name:Str}{params:Arguments}{dV kV doc pm cdv ct oc:Value}{an od:Option Addr}
  {osl:Array (Option Value)} {N ps:List Str} {sp:Sp} (lk:K.lookup f=some ⟨oc,od,.func (PySem.W.fnOf name qr params body scope dV kV doc pm an cdv ct),osl⟩) (hcd:PySem.W.codeIn K cdv qr=true) (S:ZaC N ps scope)
  (len:∀vs H Q E,sp vs H Q E→vs.length=ps.length)
  (hbody:∀(A:Around) (outer:List Env) (s:Shared) (H:Hp) (vs:List V) (Q:VK) (E:XK),Zef k (A.deeper (envOfC qr scope s.heap.objs.size f cdv))→sp vs H Q E→
   ∃t,PSs (Ze8 CX P w K mg base N qr scope f cdv A outer s H E) body t∧t {nx:=fun _ H'=>Q .non H',rt:=Q } (ZfI N vs) H):
  ZbW P w K mg base CX (k+1) f (PySem.W.fnOf name qr params body scope dV kV doc pm an cdv ct) ps sp:=by
 refine⟨len,fun A outer s H args us vs Q E hr e0 hb r hsp=> ?_⟩;have hl:=len _ _ _ _ hsp;have KX:K.In s.heap:=e0.mod.kin.keeps fun b o e=>(e0.bs b o e).1;have lim:s.heap.NoLimit:=e0.mod.nolimit.keeps fun b o e=>(e0.bs b o e).1
 have je:∀y∈ps.zip us,scope.names.lookup y.1=some .local∨(scope.names.lookup y.1=some .cell∧((cellsFrom (s.heap.objs.size+1) scope.names []).lookup y.1).isSome=true):=fun⟨n,v⟩ hy=>by
  rcases S.par n (QdT hy).1 with q|q
  ·exact .inl q
  ·exact .inr ⟨q,QdO _ _ _ (.inl q)⟩
 refine codeAny_call_function hr.depth (KX _ _ lk) rfl S.co S.gen rfl (PySem.W.codeRec_of KX hcd) (hb _ _ _ _ ?_);refine wpAny_newFunctionEnv_cells S.kind je fun env he s1 x=> ?_;subst he;refine⟨lim.keeps x.toInCall.keep,codeAny_func ?_⟩;obtain⟨t,ht,hq⟩:=hbody A outer s H vs Q E (hr.deeper _) hsp;have I:Inv (Ze8 CX P w K mg base N qr scope f cdv A outer s H E) [] (ZfI N vs) H s1:=Zkg S hr.hd e0 hl r x;refine Qbh (ht [] s1 (ZfI N vs) H _ I hq) (fun fl s' hs=> ?_) fun e s' hs=>hs
 have fin:∀{σ':St} {H':Hp} {v:V} {u:Value},Inv (Ze8 CX P w K mg base N qr scope f cdv A outer s H E) [] σ' H' s'→ZbB v u→Q v H'→CE outer P w H s Q u s':=
  fun{σ' H' v u} J rv q=>⟨v,H',J.os,J.bare,J.base,J.hok,rv,q⟩
 cases fl with
 |ret u=>
  obtain⟨v,σ',H',J,rv,q⟩:=hs;exact fin J rv q
 |next=>
  obtain⟨σ',H',J,q⟩:=hs;exact fin (v:=V.non) (u:=Value.none) J rfl q
 |brk=>
  obtain⟨_,_,_,q⟩:=hs;exact False.elim q
 |cont=>
  obtain⟨_,_,_,q⟩:=hs;exact False.elim q
section
variable {X:Cx}{pos:PySem.Pos}{t:TA}{id T:String}{r:List V→Hp→VK→Prop}
def tCB (r:List V→Hp→VK→Prop)(t:TA):TE:=fun σ H Q=>t σ H fun vs H1=>r vs H1 Q
theorem Zap (hc:Zc5 X (.builtin id) r)(hg:Gl X x)(hm:X.mg x=none)(hv:bootBuiltins x=some (.builtin id))(ha:PA X (e::es) t)(hn:x≠ "__name__" :=by decide)(hdb:(x==("__debug__" :Str))=false:=by decide)
  (he:starEach (e::es) X.env=(false,eval e X.env)::starEach es X.env:=by rfl) (hpl:(backTo pos (starEach es X.env)).any (·.1)=false:=by rfl):PE X (.Call (.Name x p) (e::es) [] pos) (tCB r t):=by
 intro qa s σ H Q I h;refine Qbk (Zea I hg hm hv ?_ hn hdb);exact QcH (thn (ha pos qa s σ H _ I h) fun us s1 ⟨vs,H1,I1,r1,q1⟩=>hc qa s1 σ H1 vs us Q I1 r1 q1) he hpl
theorem Zbf (hc:Zc5 X (.type T) r)(hg:Gl X x)(hm:X.mg x=none)(hv:bootBuiltins x=some (.type T))(ha:PA X (e::es) t)(hn:x≠ "__name__" :=by decide)(hdb:(x==("__debug__" :Str))=false:=by decide)
  (he:starEach (e::es) X.env=(false,eval e X.env)::starEach es X.env:=by rfl) (hpl:(backTo pos (starEach es X.env)).any (·.1)=false:=by rfl):PE X (.Call (.Name x p) (e::es) [] pos) (tCB r t):=by
 intro qa s σ H Q I h;refine Qbk (Zea I hg hm hv ?_ hn hdb);exact Qbw (thn (ha pos qa s σ H _ I h) fun us s1 ⟨vs,H1,I1,r1,q1⟩=>hc qa s1 σ H1 vs us Q I1 r1 q1) he hpl
end
end L2
namespace HT
open PySem PyProof.Rows
variable {sl:Addr}{vl vu:Value}{lo hi:Option Int}
section
variable {prog:Program}{w:World}{A:Around}{E:Value→Shared→Prop}{s:Shared}
def sIx (n d:Nat):Option Int→Nat
 |none=>d
 |some v=>if v<0 then(v+(n:Int)).toNat else min v.toNat n
theorem sIx_none (n d:Nat):sIx n d none=d:=rfl
theorem sIx_nat (n d k:Nat):sIx n d (some (k:Int))=min k n:=by
 show(if(k:Int)<0 then((k:Int)+(n:Int)).toNat else min (k:Int).toNat n)=min k n;rw[if_neg (by omega),QbZ]
theorem ZoQ (n d:Nat)(hd:d≤n)(o:Option Int):sIx n d o≤n:=by
 cases o with
 |none=>exact hd
 |some v=>
  show(if v<0 then(v+(n:Int)).toNat else min v.toNat n)≤n;by_cases hv:v<0
  ·rw[if_pos hv];omega
  ·rw[if_neg hv];exact Nat.min_le_right _ _
theorem Zkh (v:Int)(n d:Nat):(if v<0 then max (v+(n:Int)) 0 else min v (n:Int))=((sIx n d (some v):Nat):Int):=by
 show(if v<0 then max (v+(n:Int)) 0 else min v (n:Int))=(((if v<0 then(v+(n:Int)).toNat else min v.toNat n):Nat):Int);by_cases hv:v<0
 ·simp only[if_pos hv];omega
 ·simp only[if_neg hv];omega
theorem Zjg (lo hi:Option Int)(n:Nat):Builtin.Slice.sliceAdjust lo hi 1 (n:Int)=(((sIx n 0 lo:Nat):Int),((sIx n n hi:Nat):Int)):=by
 have h1:¬((1:Int)<0):=by omega
 unfold Builtin.Slice.sliceAdjust;simp only[h1,QdA];refine Prod.ext ?_ ?_
 ·cases lo with
  |none=>rfl
  |some v=>exact Zkh v n 0
 ·cases hi with
  |none=>rfl
  |some v=>exact Zkh v n n
theorem Zjh (i j:Nat):Builtin.Slice.slicePlaces (i:Int) (j:Int) 1=j-i:=by
 unfold Builtin.Slice.slicePlaces;have h1:(1:Int)>0:=by omega
 simp only[h1,QdB,Int.ediv_one];split<;>omega
theorem Zfl {v:Value}{o:Option Int}{Q:Option Int→Shared→Prop}(p:IsPart v o)(h:Q o s):wpAny (model prog w) A (Builtin.Slice.slicePartIndex v) Q E s:=by
 cases p with
 |none=>exact slicePart_none h
 |int i t=>exact slicePart_int h
theorem Zeg {n:Nat}{Q:Int×Int×Nat→Shared→Prop}(hs:s.heap.IsSliceOf sl vl vu .none)(pl:IsPart vl lo)(pu:IsPart vu hi)
  (h:Q (((sIx n 0 lo:Nat):Int),1,sIx n n hi-sIx n 0 lo) s):wpAny (model prog w) A (Builtin.Slice.sliceApplied (.ref sl) (pure (n:Int))) Q E s:=by
 obtain⟨os,hos,hcs,hds⟩:=id hs;unfold Builtin.Slice.sliceApplied Builtin.Slice.sliceFields;refine Qaa (Qaa (Qbx hos hds (x:=vl) rfl (Qaa (Qbx hos hds (x:=vu) rfl (Qaa (Qbx hos hds (x:=.none) rfl (Qaj ?_)))))));refine Qaa (slicePart_none ?_);show wpAny _ _ (if((1:Int)==0)=true then _ else _) _ _ s;rw[if_neg (by decide)];refine Qaa (Zfl pl (Qaa (Zfl pu (Qaa (Qaj ?_)))));show wpAny _ _ (match Builtin.Slice.sliceAdjust lo hi 1 (n:Int) with|(lo,hi)=>pure (lo,(1:Int),Builtin.Slice.slicePlaces lo hi 1)) _ _ s;rw[Zjg lo hi n];show wpAny _ _ (pure (((sIx n 0 lo:Nat):Int),(1:Int),Builtin.Slice.slicePlaces ((sIx n 0 lo:Nat):Int) ((sIx n n hi:Nat):Int) 1)) _ _ s;rw[Zjh];exact Qaj h
theorem Zmc (xs:Array Value)(i k:Nat):((List.range k).filterMap fun(m:Nat)=>xs[((i:Int)+(m:Int)*1).toNat]?).toArray=((xs.toList.drop i).take k).toArray:=by
 have e:(fun(m:Nat)=>xs[((i:Int)+(m:Int)*1).toNat]?)=fun m=>xs[i+m]?:=by
  funext m
  have:((i:Int)+(m:Int)*1).toNat=i+m:=by omega
  rw[this]
 rw[e]
 have:=pick_run xs i k;rw[List.filterMap_map] at this;have e2:((fun x=>xs[x]?) ∘ fun x=>i+x)=fun m=>xs[i+m]?:=rfl;rw[e2] at this;rw[this]
theorem getItem_tuple_cut {t:Addr}{qk:Array Value}{Q:Value→Shared→Prop}(ht:IsTup s.heap t qk)(hs:s.heap.IsSliceOf sl vl vu .none)(pl:IsPart vl lo)(pu:IsPart vu hi)
  (hw:¬(sIx qk.size 0 lo=0∧sIx qk.size qk.size hi=qk.size))
  (h:Q (.ref s.heap.objs.size) {s with heap:=s.heap.push {cls:=.type "tuple",data:=.seq ((qk.toList.drop (sIx qk.size 0 lo)).take (sIx qk.size qk.size hi-sIx qk.size 0 lo)).toArray } })
  (hsz:qk.size≤sizeLine):wpAny (model prog w) A (getItem (.ref t) (.ref sl)) Q E s:=by
 have htake:sizeOk (.seq ((qk.toList.drop (sIx qk.size 0 lo)).take (sIx qk.size qk.size hi-sIx qk.size 0 lo)).toArray):=by
  show((qk.toList.drop (sIx qk.size 0 lo)).take (sIx qk.size qk.size hi-sIx qk.size 0 lo)).toArray.size≤sizeLine;rw[Qat,Qav,QaW,Qa0];omega
 have hj:sIx qk.size qk.size hi≤qk.size:=ZoQ _ _ (Qal _) hi;obtain⟨os,hos,hcs,hds⟩:=id hs;have hTs:s.TypeIs (.ref sl) "slice" :=⟨os,hos,hcs⟩;unfold getItem
 try with_reducible refine QbI ?_
 first|refine Qaa (Qaj ?_)|skip
 refine Qaa (wpAny_sequenceKey ht.typeIs (by decide) ?_)
 refine Qaa (Qby (name:=Str.ofString "__getitem__") ht.typeIs QcB
  (Qbq QcB ht.typeIs entry_tuple_getitem ?_ (args_tuple_getitem _ _)))
 show wpAny _ _ (Builtin.Tuple.tupleItemsOf (.ref t)>>=_) _ _ s;refine Qaa (tupleItemsOf_ ht ?_);refine Qaa (Qem hTs ?_);rw[if_pos (by decide)];refine Qaa (Zeg hs pl pu ?_)
 have hno:¬((((sIx qk.size 0 lo:Nat):Int)==0 && (1:Int)==1 && (sIx qk.size qk.size hi-sIx qk.size 0 lo)==qk.size)=true):=by
  intro q;rw[QaY,QaY] at q;have q1:((sIx qk.size 0 lo:Nat):Int)=0:=eq_of_beq q.1.1;have q2:sIx qk.size qk.size hi-sIx qk.size 0 lo=qk.size:=eq_of_beq q.2;exact hw ⟨by omega,by omega⟩
 show wpAny _ _ (if(((sIx qk.size 0 lo:Nat):Int)==0 && (1:Int)==1 && (sIx qk.size qk.size hi-sIx qk.size 0 lo)==qk.size)=true then _ else _) _ _ s;rw[if_neg hno,Zmc]
 first
  |exact Qaa (m:=Builtin.Tuple.tupleExact _) (Qa1 (Qaj ⟨_,rfl,Qaj h⟩) htake)
  |exact Qaa (m:=Builtin.Tuple.tupleExact _) (Qa1 (Qaa (Qaj (Qaj ⟨_,rfl,Qaj h⟩))) htake)
  |exact Qaa (Qaa (m:=Builtin.Tuple.tupleExact _) (Qa1 (Qaj (Qaj ⟨_,rfl,Qaj h⟩)) htake))
  |exact Qaa (Qaa (m:=Builtin.Tuple.tupleExact _) (Qa1 (Qaj ⟨_,rfl,Qaj h⟩) htake))
end
end HT
namespace L2
open PySem PySem.Spec PyProof.Rows
variable {X:Cx}{n j t':Nat}{s:Shared}{qa:List (Addr×Obj)}{σ:St}{H:Hp}{its its':List Value}{e:Expr}{i:Int}{u v:Value}{T:String}
abbrev TO:=St→Hp→(Option Int→Hp→Prop)→Prop
def PO (X:Cx)(e:Option Expr)(t:TO):Prop:=
 ∀(qa:List (Addr×Obj)) (s:Shared) (σ:St) (H:Hp) (Q:Option Int→Hp→Prop),Inv X qa σ H s→t σ H Q→
  wpAny (model X.prog X.w) X.A (evalPart e X.env) (fun u s'=>∃o H',Inv X qa σ H' s'∧IsPart u o∧Q o H') X.xe s
def ZbZ:TO:=fun _ H Q=>Q none H
def ZdG (t:TE):TO:=fun σ H Q=>t σ H fun x H1=>∃i,x= .int i∧Q (some i) H1
theorem Zji {ns:List Int}:∀{us:List Value},ZbC (ns.map V.int) us→IntsAre us ns:=by
 induction ns with
 |nil=>intro us r;rw[Qen] at r;cases r;exact .nil
 |cons n ns ih=>
  intro us r;rw[Qbz] at r
  cases r with
  |cons r1 r2=>
   obtain⟨t,e⟩:=r1;subst e;exact .cons n t (ih r2)
section
variable {te:TE}{lo hi:Option Expr}{tl th:TO}{pos p2:PySem.Pos}
theorem Zb0:PO X none ZbZ:=by
 intro qa s σ H Q I h;rw[Qei];exact Qaj ⟨none,H,I,.none,h⟩
theorem ZbP (h:PE X e te):PO X (some e) (ZdG te):=by
 intro qa s σ H Q I hw;rw[evalPart_some];refine thn (h qa s σ H _ I hw) fun u s1 ⟨x,H1,I1,r1,q1⟩=> ?_;obtain⟨i,rfl,q⟩:=q1;obtain⟨t,rfl⟩:=r1;exact⟨some i,H1,I1,.int i t,q⟩
def SlR (X:Cx)(r:V→Option Int→Option Int→Hp→VK→Prop):Prop:=
 ∀(qa:List (Addr×Obj)) (s:Shared) (σ:St) (H:Hp) (x:V) (v vl vu:Value) (lo hi:Option Int) (sl:Addr) (Q:VK),Inv X qa σ H s→ZbB x v→s.heap.IsSliceOf sl vl vu .none→IsPart vl lo→IsPart vu hi→r x lo hi H Q→
  ∃T id,typeLookup (.type T) "__getitem__" =pure (some (.builtin id))∧s.TypeIs v T∧wpAny (model X.prog X.w) X.A (getItem v (.ref sl)) (EP X qa σ Q) X.xe s
def tSl (r:V→Option Int→Option Int→Hp→VK→Prop)(te:TE)(tl th:TO):TE:=fun σ H Q=>te σ H fun x H1=>tl σ H1 fun l H2=>th σ H2 fun u H3=>r x l u H3 Q
theorem Zbl {r:V→Option Int→Option Int→Hp→VK→Prop}(hr:SlR X r)(he:PE X e te)(hl:PO X lo tl)(hu:PO X hi th):PE X (.Subscript e (.Slice lo hi none p2) pos) (tSl r te tl th):=by
 intro qa s σ H Q I h;refine Qel (thn (he qa s σ H _ I h) fun v s1 ⟨x,H1,I1,r1,q1⟩=> ?_);refine wpAny_Slice (thn (hl qa s1 σ H1 _ I1 q1) fun vl s2 ⟨l,H2,I2,pl,q2⟩=>thn (hu qa s2 σ H2 _ I2 q2) fun vu s3 ⟨u,H3,I3,pu,q3⟩=> ?_);rw[Qei];refine Qaj ?_;have I4:Inv X qa σ H3 {s3 with heap:=s3.heap.push {cls:=.type "slice",data:=.fields #[vl,vu,.none] } }:=I3.kept (t':=s3.toks) fun b ob q=>Qag _ q;obtain⟨T,id,hT,ht,hg⟩:=hr qa {s3 with heap:=s3.heap.push {cls:=.type "slice",data:=.fields #[vl,vu,.none] } } σ H3 x v vl vu l u s3.heap.objs.size Q I4 r1 (Heap.IsSliceOf.new ..) pl pu q3;show wpAny (model X.prog X.w) X.A (subscriptTail e (.Slice lo hi none p2) v (.ref s3.heap.objs.size)) (EP X qa σ Q) X.xe {s3 with heap:=s3.heap.push {cls:=.type "slice",data:=.fields #[vl,vu,.none] } };exact tail_any (ops:=[.ref s3.heap.objs.size,v]) ht hT hg (by with_unfolding_all rfl)
def Ze9 (xs:List V)(lo hi:Option Int):List V:=(xs.drop (HT.sIx xs.length 0 lo)).take (HT.sIx xs.length xs.length hi-HT.sIx xs.length 0 lo)
theorem ZeB (xs:List V)(lo hi:Option Int):(Ze9 xs lo hi).length≤xs.length:=by
 unfold Ze9;rw[Qav,QaW];omega
def ZoR (K:PySem.W.Frag):V→Option Int→Option Int→Hp→VK→Prop:=fun x lo hi H Q=>∃a xs,x= .ref a∧SqT K H a xs∧
 ¬(HT.sIx xs.length 0 lo=0∧HT.sIx xs.length xs.length hi=xs.length)∧∀p,H p=none→Q (.ref p) (upd H p (.tup (Ze9 xs lo hi)))
theorem ZoS:SlR X (ZoR X.K):=by
 intro qa s σ H x v vl vu lo hi sl Q I rx hs pl pu h;obtain⟨a,xs,rfl,hx,hw,q⟩:=h;cases rx;obtain⟨its,r,ht,hz⟩:=I.tuple hx;have hlen:its.toArray.size=xs.length:=by rw[Qat];exact r.length.symm
 refine⟨"tuple",_,PyProof.Rows.slot_tuple_getitem.lookup,ht.typeIs,?_⟩;refine HT.getItem_tuple_cut ht hs pl pu (by rw[hlen];exact hw) ?_ (by rw[hlen];exact hz);rw[hlen];refine⟨.ref s.heap.objs.size,_,I.laid (t':=s.toks) (o:=.tup (Ze9 xs lo hi)) (fun b ob q=>Qag _ q) (Qal _) ?_,rfl,q _ (I.hok.fresh (Qal _))⟩;exact⟨QaD (ZeB xs lo hi) hz,_,(r.drop (HT.sIx xs.length 0 lo)).take (HT.sIx xs.length xs.length hi-HT.sIx xs.length 0 lo),IsTup.new _ _⟩
end
def ixN (n:Nat)(i:Int):Option Nat:=if 0≤i then(if i<n then some i.toNat else none) else if -(n:Int)≤i then some (i+n).toNat else none
def atI {α:Type}(xs:List α)(i:Int):Option α:=(ixN xs.length i).bind fun j=>xs[j]?
theorem Zki (h:ixN n i=some j):seqIndex? i n=some j∧j<n∧-(n:Int)≤i∧i<n:=by
 unfold ixN at h;by_cases h0:0≤i
 ·rw[if_pos h0] at h;by_cases h1:i<n
  ·rw[if_pos h1] at h;have e:i.toNat=j:=Qbn h;exact⟨by rw[seqIndex_of h0 h1,e],by omega,by omega,h1⟩
  ·rw[if_neg h1] at h;cases h
 ·rw[if_neg h0] at h;by_cases h1: -(n:Int)≤i
  ·rw[if_pos h1] at h;have e:(i+n).toNat=j:=Qbn h;exact⟨by rw[Qeo (by omega) h1,e],by omega,h1,by omega⟩
  ·rw[if_neg h1] at h;cases h
theorem Zkj {α:Type}{xs:List α}{v:α}(h:atI xs i=some v):∃j,seqIndex? i xs.length=some j∧xs[j]?=some v∧j<xs.length∧-(xs.length:Int)≤i∧i<xs.length:=by
 unfold atI at h
 cases e:ixN xs.length i with
 |none=>rw[e] at h;cases h
 |some j=>
  rw[e] at h;obtain⟨h1,h2,h3,h4⟩:=Zki e;exact⟨j,h1,h,h2,h3,h4⟩
theorem Zcb {α:Type}{xs:List α}{v:α}(h:xs[j]?=some v):atI xs (j:Int)=some v:=by
 have hj:j<xs.length:=(Qaf.mp h).1
 have e:ixN xs.length (j:Int)=some j:=by
  unfold ixN;rw[if_pos (by omega),if_pos (by omega)];simp
 unfold atI;rw[e];exact h
theorem Zep {α:Type}(xs:List α)(v:α):atI (xs++ [v]) (-1)=some v:=by
 have hl:(xs++ [v]).length=xs.length+1:=by simp
 have e:ixN (xs++ [v]).length (-1)=some xs.length:=by
  unfold ixN;rw[hl,if_neg (by decide),if_pos (by omega)];congr 1;omega
 unfold atI;rw[e];show(xs++ [v])[xs.length]?=some v;simp
def ZnM (b:Expr):Prop:=∀o i,subscripted b false o i=operate [o,i] (getItem o i)
def IxR (X:Cx)(r:R2):Prop:=
 ∀(value jf:Expr) (qa:List (Addr×Obj)) (s:Shared) (σ:St) (H:Hp) (x y:V) (v u:Value) (Q:VK),Inv X qa σ H s→ZbB x v→ZbB y u→r x y H Q→
  subscripted jf false v u=operate [v,u] (getItem v u)→wpAny (model X.prog X.w) X.A (subscriptTail value jf v u) (EP X qa σ Q) X.xe s
def MtR (X:Cx)(id:String)(r:V→List V→Hp→VK→Prop):Prop:=
 ∀(qa:List (Addr×Obj)) (s:Shared) (σ:St) (H:Hp) (x:V) (xs:List V) (v:Value) (us:List Value) (Q:VK),Inv X qa σ H s→ZbB x v→ZbC xs us→r x xs H Q→
  wpAny (model X.prog X.w) X.A (call (.builtin id) (v::us)) (EP X qa σ Q) X.xe s
section
variable {a b:Expr}{ta tb:TE}{pos:PySem.Pos}
theorem ZaA {r:R2}(hr:IxR X r)(ha:PE X a ta)(hb:PE X b tb)(hs:ZnM b):PE X (.Subscript a b pos) (tOp r ta tb):=by
 intro qa s σ H Q I h;exact Qel (Zp0 ha hb I h fun v u s2 x y H2 I2 rx ry q=>hr a b qa s2 σ H2 x y v u Q I2 rx ry q (hs _ _))
def ZdA (K:PySem.W.Frag):R2:=fun x y H Q=>∃p xs i v,x= .ref p∧y= .int i∧SqL K H p xs∧atI xs i=some v∧Q v H
def Zby (K:PySem.W.Frag):R2:=fun x y H Q=>∃p xs i v,x= .ref p∧y= .int i∧SqT K H p xs∧atI xs i=some v∧Q v H
theorem ZnN:IxR X (ZdA X.K):=by
 intro value jf qa s σ H x y v u Q I rx ry h hs;obtain⟨p,xs,i,z,rfl,rfl,hq,he,q⟩:=h;cases rx;obtain⟨t,rfl⟩:=ry;obtain⟨its,r,pl,hz⟩:=I.list hq;obtain⟨j,h1,h2,h3,h4,h5⟩:=Zkj he;obtain⟨w,ew,rw'⟩:=r.get h2;have hl:=r.length;have hn:=Zgq;have fin:EP X qa σ Q w s:=⟨z,H,I,rw',q⟩;by_cases h0:0≤i
 ·have hj:i.toNat=j:=by
   rw[seqIndex_of h0 h5] at h1;exact Qbn h1
  exact item_listR pl.isList h0 (by omega) (by rw[hj];simpa using ew) fin hs
 ·have hj:(i+(its.toArray.size:Int)).toNat=j:=by
   rw[Qeo (by omega) h4] at h1;rw[Qat,←hl];exact Qbn h1
  exact QdP (x:=w) pl.isList.typeIs slot_list_getitem.lookup
   (wpAny_getItem_list_neg (Q:=fun r s'=>r=w∧EP X qa σ Q r s') pl.isList (by omega) (by rw[Qat]<;>omega) (by omega) (by rw[hj];simpa using ew) ⟨rfl,fin⟩) hs
theorem ZoT:IxR X (Zby X.K):=by
 intro value jf qa s σ H x y v u Q I rx ry h hs;obtain⟨p,xs,i,z,rfl,rfl,hq,he,q⟩:=h;cases rx;obtain⟨t,rfl⟩:=ry;obtain⟨its,r,pl,hz⟩:=I.tuple hq;obtain⟨j,h1,h2,h3,h4,h5⟩:=Zkj he;obtain⟨w,ew,rw'⟩:=r.get h2;have hl:=r.length;have hn:=Zgq;have fin:EP X qa σ Q w s:=⟨z,H,I,rw',q⟩
 exact QdP (x:=w) pl.typeIs slot_tuple_getitem.lookup
  (getItem_tuple (j:=j) (Q:=fun r s'=>r=w∧EP X qa σ Q r s') pl (by omega) (by omega) (by rw[Qat,←hl];exact h1) (by simpa using ew) ⟨rfl,fin⟩) hs
theorem Zjj (its:List Value)(n j:Nat)(u:Value):Obj.mapSeq (·.setIfInBounds j u) {cls:=.type "list",data:=.seq its.toArray n }={cls:=.type "list",data:=.seq (its.set j u).toArray n }:=by
 simp[Obj.mapSeq]
theorem Inv.lst {qa:List (Addr×Obj)}{σ:St}{H:Hp}{s:Shared}{p:Addr}{xs:List V}(I:Inv X qa σ H s)(h:H p=some (.lst xs)):
  ∃(its:List Value) (n:Nat),ZbC xs its∧s.heap.get? p=some {cls:=.type "list",data:=.seq its.toArray n }∧xs.length≤sizeLine:=by
 obtain⟨z,its,n,r,e⟩:=I.hok p _ h;exact⟨its,n,r,e,z⟩
theorem Inv.lstUpd {p:Addr}{xs ys:List V}{n':Nat}{f:Obj→Obj}(I:Inv X qa σ H s)(h:H p=some (.lst xs))
  (ho:s.heap.get? p=some {cls:=.type "list",data:=.seq its.toArray n }) (hf:f {cls:=.type "list",data:=.seq its.toArray n }={cls:=.type "list",data:=.seq its'.toArray n' }) (r:ZbC ys its') (hz:ys.length≤sizeLine) (t:Nat):
  Inv X qa σ (upd H p (.lst ys)) {s with heap:=s.heap.update p f,toks:=t }:=by
 have e:(s.heap.update p f).get? p=some {cls:=.type "list",data:=.seq its'.toArray n' }:=by
  rw[QbR f ho (by rw[hf]<;>rfl),hf]
 refine I.write (x:=p) (e:=p) (by rw[h];trivial) (.inl rfl) (fun b u hb q=>(Qb7 _ _ (Ne.symm hb)).trans q) ⟨_,e⟩ ?_;exact⟨hz,its',n',r,e⟩
def Zjk:V→V→V→Hp→(Hp→Prop)→Prop:=fun o i v H Q=>∃p xs k j,o= .ref p∧i= .int k∧H p=some (.lst xs)∧ixN xs.length k=some j∧Q (upd H p (.lst (xs.set j v)))
theorem Zeq:Zqt X Zjk:=by
 intro qa s σ H o i v ov iv u Q I ro ri rv h;obtain⟨p,xs,k,j,rfl,rfl,hp,hj,q⟩:=h;cases ro;obtain⟨t,rfl⟩:=ri;obtain⟨its,n,r,ho,hz⟩:=I.lst hp;obtain⟨h1,h2,h3,h4⟩:=Zki hj;have hl:=r.length;have hn:=Zgq
 have I':Inv X qa σ (upd H p (.lst (xs.set j v))) {s with heap:=s.heap.update p (Obj.mapSeq (·.setIfInBounds j u)) }:=
  I.lstUpd hp ho (Zjj its n j u) (r.set rv j) (by rw[List.length_set];exact hz) s.toks
 by_cases h0:0≤k
 ·have hk:k.toNat=j:=by
   rw[seqIndex_of h0 h4] at h1;exact Qbn h1
  exact PySem.W.ki_setAt ho h0 (by omega) (by rw[Qat,←hl];exact h4) (by rw[hk];exact⟨_,I',q⟩)
 ·have hk:(k+(its.toArray.size:Int)).toNat=j:=by
   rw[Qeo (by omega) h3] at h1;rw[Qat,←hl];exact Qbn h1
  exact PySem.W.ki_setBack ho (by omega) (by rw[Qat,←hl];exact h3) (by omega) (by rw[hk];exact⟨_,I',q⟩)
theorem Zgw (lo hi:Option Int)(n:Nat):(sliceBounds lo hi none n).1=((HT.sIx n 0 lo:Nat):Int)∧(sliceBounds lo hi none n).2.1=((HT.sIx n n hi:Nat):Int)∧(sliceBounds lo hi none n).2.2=1:=by
 refine⟨?_,?_,rfl⟩
 ·cases lo with
  |none=>simp[sliceBounds,HT.sIx]
  |some i=>
   simp only[sliceBounds,HT.sIx,Option.getD_none,show(1:Int)>0 by decide,QdB];by_cases h:i<0
   ·simp only[h,QdB]<;>omega
   ·simp only[h,QdA]<;>omega
 ·cases hi with
  |none=>simp[sliceBounds,HT.sIx]
  |some i=>
   simp only[sliceBounds,HT.sIx,Option.getD_none,show(1:Int)>0 by decide,QdB];by_cases h:i<0
   ·simp only[h,QdB]<;>omega
   ·simp only[h,QdA]<;>omega
theorem ZfJ (its:List Value)(lo hi:Option Int):slicePick its.toArray lo hi none=((its.drop (HT.sIx its.length 0 lo)).take (HT.sIx its.length its.length hi-HT.sIx its.length 0 lo)).toArray:=by
 obtain⟨h1,h2,h3⟩:=Zgw lo hi its.toArray.size;unfold slicePick;rw[h1,h2,h3];simp only[sliceRange_one,pick_run,Qat]<;>rfl
def ZjX (K:PySem.W.Frag):V→Option Int→Option Int→Hp→VK→Prop:=fun x lo hi H Q=>∃a xs,x= .ref a∧SqL K H a xs∧∀p,H p=none→Q (.ref p) (upd H p (.lst (Ze9 xs lo hi)))
theorem Zcv:SlR X (ZjX X.K):=by
 intro qa s σ H x v vl vu lo hi sl Q I rx hs pl pu h;obtain⟨a,xs,rfl,hx,q⟩:=h;cases rx;obtain⟨its,r,ht,hz⟩:=I.list hx;have hlen:=r.length;refine⟨"list",_,slot_list_getitem.lookup,ht.isList.typeIs,?_⟩;refine Qdu ht.isList hs pl pu .none (by simp) ?_ (by rw[Qat]<;>omega);rw[ZfJ,←hlen];refine⟨.ref s.heap.objs.size,_,I.laid (t':=s.toks) (o:=.lst (Ze9 xs lo hi)) (fun b ob q=>Qag _ q) (Qal _) ?_,rfl,q _ (I.hok.fresh (Qal _))⟩;exact⟨QaD (ZeB xs lo hi) hz,_,0,(r.drop (HT.sIx xs.length 0 lo)).take (HT.sIx xs.length xs.length hi-HT.sIx xs.length 0 lo),Qax _ rfl⟩
def Zgx:V→Bool
 | .non=>true
 | .bl _=>true
 | .int _=>true
 | .str _=>true
 |_=>false
def eqV:V→V→Bool
 | .non,.non=>true
 | .bl a,.bl b=>a==b
 | .bl a,.int b=>(if a then 1 else 0)==b
 | .int a,.bl b=>a==(if b then 1 else 0)
 | .int a,.int b=>a==b
 | .str a,.str b=>a==b
 |_,_=>false
theorem ZoU {A:Around}{y x:V}(ry:ZbB y u)(rx:ZbB x v)(fy:Zgx y=true)(fx:Zgx x=true):SeqAt.EqAt A s u v (eqV y x):=by
 cases y with
 |non=>
  cases ry
  cases x with
  |non=>cases rx;exact SeqAt.EqAt.same _
  |bl b=>cases rx;exact SeqAt.EqAt.none_bool b
  |int b=>obtain⟨t,rfl⟩:=rx;exact SeqAt.EqAt.none_int b t
  |str b=>obtain⟨t,rfl⟩:=rx;exact SeqAt.EqAt.none_str b t
  |_=>exact absurd (show false=true from fx) QaB
 |bl a=>
  cases ry
  cases x with
  |non=>cases rx;exact SeqAt.EqAt.bool_none a
  |bl b=>cases rx;exact SeqAt.EqAt.bool_bool a b
  |int b=>obtain⟨t,rfl⟩:=rx;exact SeqAt.EqAt.bool_int a b t
  |str b=>obtain⟨t,rfl⟩:=rx;exact SeqAt.EqAt.bool_str a b t
  |_=>exact absurd (show false=true from fx) QaB
 |int a=>
  obtain⟨t',rfl⟩:=ry
  cases x with
  |non=>cases rx;exact SeqAt.EqAt.int_none a t'
  |bl b=>cases rx;exact SeqAt.EqAt.int_bool a t' b
  |int b=>obtain⟨t,rfl⟩:=rx;exact SeqAt.EqAt.int_int a t' b t
  |str b=>obtain⟨t,rfl⟩:=rx;exact SeqAt.EqAt.int_str a t' b t
  |_=>exact absurd (show false=true from fx) QaB
 |str a=>
  obtain⟨t',rfl⟩:=ry
  cases x with
  |non=>cases rx;exact SeqAt.EqAt.str_none a t'
  |bl b=>cases rx;exact SeqAt.EqAt.str_bool a t' b
  |int b=>obtain⟨t,rfl⟩:=rx;exact SeqAt.EqAt.str_int a t' b t
  |str b=>obtain⟨t,rfl⟩:=rx;exact SeqAt.EqAt.str_str a t' b t
  |_=>exact absurd (show false=true from fx) QaB
 |_=>exact absurd (show false=true from fy) QaB
def eqU (x:V)(u:Value):Bool:=match u with
 | .none=>eqV .non x
 | .bool b=>eqV (.bl b) x
 | .int i _=>eqV (.int i) x
 | .str z _=>eqV (.str z) x
 |_=>false
theorem Zng {x y:V}(r:ZbB y u)(f:Zgx y=true):eqU x u=eqV y x:=by
 cases y with
 |non=>cases r;rfl
 |bl b=>cases r;rfl
 |int i=>obtain⟨t,rfl⟩:=r;rfl
 |str z=>obtain⟨t,rfl⟩:=r;rfl
 |_=>exact absurd (show false=true from f) QaB
theorem ZeC {x:V}:∀{xs:List V} {us:List Value},ZbC xs us→xs.all Zgx=true→us.any (eqU x)=xs.any fun y=>eqV y x
 |_,_,.nil,_=>rfl
 |y::xs,u::us,.cons r t,f=>by
  rw[QdC,QaY] at f;rw[QcZ,QcZ,Zng r f.1,ZeC t f.2]
theorem ZdQ {A:Around}{s:Shared}{x:V}{v:Value}(rx:ZbB x v)(fx:Zgx x=true):∀{xs:List V} {us:List Value},ZbC xs us→xs.all Zgx=true→∀u∈us,SeqAt.EqAt A s u v (eqU x u)
 |_,_,.nil,_=>fun u hu=>by cases hu
 |y::xs,u::us,.cons r t,f=>fun u' hu=>by
  rw[QdC,QaY] at f;rcases Qas.mp hu with rfl|hu
  ·rw[Zng r f.1];exact ZoU r rx f.1 fx
  ·exact ZdQ rx fx t f.2 u' hu
def inV (x:V)(xs:List V):Bool:=xs.any fun y=>eqV y x
def rIn (K:PySem.W.Frag)(neg:Bool):R2:=fun x y H Q=>∃p xs,y= .ref p∧(SqL K H p xs∨SqT K H p xs)∧Zgx x=true∧xs.all Zgx=true∧Q (.bl (if neg then !inV x xs else inV x xs)) H
theorem Zkk:OpR X (compareOp .In) (rIn X.K false):=by
 intro qa s σ H x y v u Q I rx ry h;obtain⟨p,xs,rfl,hq,fx,fs,q⟩:=h;cases ry;rcases hq with hq|hq
 ·obtain⟨its,r,pl,hz⟩:=I.list hq;refine SeqAt.in_listAt (eqU x) pl.isList (fun w hw=>ZdQ rx fx r fs w (by simpa using hw)) ⟨.bl _,H,I,rfl,?_⟩;rw[show its.toArray.any (eqU x)=its.any (eqU x) by simp,ZeC r fs];exact q
 ·obtain⟨its,r,pl,hz⟩:=I.tuple hq;refine SeqAt.in_tupleAt (eqU x) pl (fun w hw=>ZdQ rx fx r fs w (by simpa using hw)) ⟨.bl _,H,I,rfl,?_⟩;rw[show its.toArray.any (eqU x)=its.any (eqU x) by simp,ZeC r fs];exact q
theorem Zgy:OpR X (compareOp .NotIn) (rIn X.K true):=by
 intro qa s σ H x y v u Q I rx ry h;obtain⟨p,xs,rfl,hq,fx,fs,q⟩:=h;cases ry;rcases hq with hq|hq
 ·obtain⟨its,r,pl,hz⟩:=I.list hq;refine SeqAt.notIn_listAt (eqU x) pl.isList (fun w hw=>ZdQ rx fx r fs w (by simpa using hw)) ⟨.bl _,H,I,rfl,?_⟩;rw[show its.toArray.any (eqU x)=its.any (eqU x) by simp,ZeC r fs];exact q
 ·obtain⟨its,r,pl,hz⟩:=I.tuple hq;refine SeqAt.notIn_tupleAt (eqU x) pl (fun w hw=>ZdQ rx fx r fs w (by simpa using hw)) ⟨.bl _,H,I,rfl,?_⟩;rw[show its.toArray.any (eqU x)=its.any (eqU x) by simp,ZeC r fs];exact q
theorem Zgz:Zc5 X (.builtin "len") (fun xs H Q=>∃p ys,xs=[.ref p]∧(SqL X.K H p ys∨SqT X.K H p ys)∧Q (.int ys.length) H):=by
 intro qa s σ H xs us Q I r h;obtain⟨p,ys,rfl,hq,q⟩:=h;obtain⟨u,rfl,rx⟩:=Ze7 r;cases rx;have hn:=Zgq;rcases hq with hq|hq
 ·obtain⟨its,r',pl,hz⟩:=I.list hq;have hlen:=r'.length;exact Calls.call_len_list pl.isList (by simp only[Qat]<;>omega) ⟨.int ys.length,H,I.tok _,⟨s.toks+1,by rw[Qat,hlen]⟩,q⟩
 ·obtain⟨its,r',pl,hz⟩:=I.tuple hq;have hlen:=r'.length;exact len_tuple pl (by simp only[Qat]<;>omega) ⟨.int ys.length,H,I.tok _,⟨s.toks+1,by rw[Qat,hlen]⟩,q⟩
theorem Zb4:Zc5 X (.type "list") (fun xs H Q=>∃p ys,xs=[.ref p]∧(SqL X.K H p ys∨SqT X.K H p ys)∧∀l,H l=none→Q (.ref l) (upd H l (.lst ys))):=by
 intro qa s σ H xs us Q I r h;obtain⟨p,ys,rfl,hq,q⟩:=h;obtain⟨u,rfl,rx⟩:=Ze7 r;cases rx
 have fin:∀(its:List Value),ZbC ys its→ys.length≤sizeLine→∀(h':Heap) (c':Nat),(∀b o',s.heap.get? b=some o'→h'.get? b=some o')→
   h'.get? s.heap.objs.size=some {cls:=.type "list",dict:=none,data:=.seq its.toArray c',slots:=#[] }→EP X qa σ Q (.ref s.heap.objs.size) {s with heap:=h' }:=fun its r' hz h' c' kp e=>
  ⟨.ref s.heap.objs.size,_,I.laid (t':=s.toks) kp (Qal _) (show ZbN X.prog X.w _ h' _ (.lst ys) from⟨hz,its,c',r',e⟩),rfl,q _ (I.hok.fresh (Qal _))⟩
 rcases hq with hq|hq
 ·obtain⟨its,r',pl,hz⟩:=I.list hq;have hlen:=r'.length;obtain⟨o,ho,hc,n,hd⟩:=pl.isList;exact call_list_seq p (.inl rfl) ho hc hd (fun h' c' kp e=>fin its r' hz h' c' kp e) (by simp only[Qat]<;>omega)
 ·obtain⟨its,r',pl,hz⟩:=I.tuple hq;have hlen:=r'.length;obtain⟨o,ho,hc,n,hd⟩:=pl;exact call_list_seq p (.inr rfl) ho hc hd (fun h' c' kp e=>fin its r' hz h' c' kp e) (by simp only[Qat]<;>omega)
theorem ZbD:Zc5 X (.type "tuple") (fun xs H Q=>∃p ys,xs=[.ref p]∧((SqL X.K H p ys∧∀l,H l=none→Q (.ref l) (upd H l (.tup ys)))∨(SqT X.K H p ys∧Q (.ref p) H))):=by
 intro qa s σ H xs us Q I r h;obtain⟨p,ys,rfl,h⟩:=h;obtain⟨u,rfl,rx⟩:=Ze7 r;cases rx;rcases h with⟨hq,q⟩|⟨hq,q⟩
 ·obtain⟨its,r',pl,hz⟩:=I.list hq;have hlen:=r'.length;refine call_tuple_list pl.isList (fun h' kp=> ?_) (by simp only[Qat]<;>omega);have I1:Inv X qa σ H {s with heap:=h' }:=I.kept (t':=s.toks) kp
  have I2:Inv X qa σ (upd H h'.objs.size (.tup ys)) {s with heap:=h'.push {cls:=.type "tuple",data:=.seq its.toArray } }:=
   I1.laid (t':=s.toks) (fun b o e=>Qag _ e) (Qal _) (show ZbN X.prog X.w _ _ _ (.tup ys) from⟨hz,its,r',IsTup.new _ _⟩)
  exact⟨.ref h'.objs.size,_,I2,rfl,q _ (I1.hok.fresh (Qal _))⟩
 ·obtain⟨its,r',pl,hz⟩:=I.tuple hq;exact call_tuple_same pl ⟨.ref p,H,I,rfl,q⟩
def tyV (K:PySem.W.Frag)(T:String)(x:V)(H:Hp):Prop:=match x with
 | .str _=>T= "str"
 | .int _=>T= "int"
 | .ref p=>(T= "list" ∧∃xs,SqL K H p xs)∨(T= "tuple" ∧∃o,K.lookup p=some o∧o.cls= .type "tuple" ∧o.dict=none)∨
   (T= "dict" ∧((∃kvs,H p=some (.dK kvs))∨∃kvs,H p=some (.dT kvs)))∨(T= "set" ∧∃S n,H p=some (.set S n))
 |_=>False
theorem ZoV {x:V}(I:Inv X qa σ H s)(r:ZbB x v)(ty:tyV X.K T x H):
  s.TypeIs v T∧∀a,v= .ref a→∃ob,s.heap.get? a=some ob∧ob.dict=none:=by
 cases x with
 |str z=>
  obtain⟨t,rfl⟩:=r;cases(show T= "str" from ty);exact⟨typeIs_str s z t,fun _ e=>nomatch e⟩
 |int i=>
  obtain⟨t,rfl⟩:=r;cases(show T= "int" from ty);exact⟨typeIs_int s i t,fun _ e=>nomatch e⟩
 |ref p=>
  cases r;rcases ty with⟨rfl,xs,hq⟩|⟨rfl,o,hk,hc,hd⟩|⟨rfl,hk⟩|⟨rfl,S,n,hk⟩
  ·obtain⟨its,_,pl,_⟩:=I.list hq;refine⟨pl.isList.typeIs,fun a e=> ?_⟩;cases e;obtain⟨o,n,e,c,hd,_⟩:=pl;exact⟨o,e,hd⟩
  ·refine⟨⟨o,I.kIn p o hk,hc⟩,fun a e=> ?_⟩;cases e;exact⟨o,I.kIn _ o hk,hd⟩
  ·have z:∃o,s.heap.get? p=some o∧o.ExactDict:=by
    rcases hk with⟨kvs,hk⟩|⟨kvs,hk⟩
    ·obtain⟨_,_,_,_,o,_,_,e,ex,_⟩:=I.hok p _ hk;exact⟨o,e,ex⟩
    ·obtain⟨_,_,_,_,o,_,_,e,ex,_⟩:=I.hok p _ hk;exact⟨o,e,ex⟩
   obtain⟨o,e,ex⟩:=z;refine⟨⟨o,e,ex.1⟩,fun a e2=> ?_⟩;cases e2;exact⟨o,e,ex.2.1⟩
  ·obtain⟨o,_,_,_,e,ex,_⟩:=I.hok p _ hk;refine⟨⟨o,e,ex.1⟩,fun a e2=> ?_⟩;cases e2;exact⟨o,e,ex.2.1⟩
 |_=>exact False.elim ty
def tBM (K:PySem.W.Frag)(T:String)(r:V→List V→Hp→VK→Prop)(to:TE)(t:TA):TE:=fun σ H Q=>to σ H fun x H1=>tyV K T x H1∧t σ H1 fun xs H2=>r x xs H2 Q
variable {o:Expr}{es:List Expr}{to:TE}{t:TA}{name:Str}{jh qE:PySem.Pos}{id:String}{r:V→List V→Hp→VK→Prop}
theorem Zc6 (pa:PlainAttrs T)(slot:Slot T name id)(hty:typeOf (.builtin id)=pure (.type "method_descriptor"))(hm:MtR X id r)(ho:PE X o to)(ha:PA X (e::es) t)
  (hbase:attributeBase o name X.env (eval o X.env)=eval o X.env:=by rfl)
  (hfew:((backTo qE (starEach (e::es) X.env)).all (fun x=> !x.1) && (backToKw qE (keywordEach [] X.env)).all (fun x=>x.1.isSome)
   && decide ((e::es).length+([]:List Keyword).length+(if([]:List Keyword).isEmpty then 0 else 1)<30))=true:=by rfl)
  (hline:(jh.endLine==qE.line)=true:=by rfl) (hs:starEach (e::es) X.env=(false,eval e X.env)::starEach es X.env:=by rfl) (hplain:(backTo qE (starEach es X.env)).any (·.1)=false:=by rfl):
  PE X (.Call (.Attribute o name jh) (e::es) [] qE) (tBM X.K T r to t):=by
 intro qa s σ H Q I h;refine wpAny_Call_method_late hbase hfew hline rfl (thn (ho qa s σ H _ I h) fun v s1 ⟨x,H1,I1,r1,ty,q1⟩=> ?_);obtain⟨h1,h2⟩:=ZoV I1 r1 ty;refine⟨T,id,pa,slot,hty,h1,h2,?_⟩;have hA:=ha qE qa s1 σ H1 _ I1 q1;rw[hs] at hA⊢;refine Qcy (by show(false ||(backTo qE (starEach es X.env)).any (·.1))=false;rw[hplain]<;>rfl) (QcT ?_);exact thn hA fun us s2 ⟨vs,H2,I2,r2,q2⟩=>hm qa s2 σ H2 x vs v us Q I2 r1 r2 q2
end
def MtM (X:Cx)(id:String)(r:V→List V→Hp→VK→Prop):Prop:=
 ∀(qa:List (Addr×Obj)) (s:Shared) (σ:St) (H:Hp) (x:V) (xs:List V) (v:Value) (us:List Value) (Q:VK),Inv X qa σ H s→ZbB x v→ZbC xs us→r x xs H Q→
  wpAny (model X.prog X.w) X.A (call (.builtin id) (v::us)) (EP X qa σ Q) X.xe s
theorem ZbC.one:∀{x:V} {us:List Value},ZbC [x] us→∃u,us=[u]∧ZbB x u
 |_,_,.cons r .nil=>⟨_,rfl,r⟩
section
variable {l b:Addr}{xs ys zs:List V}
theorem Inv.lset {f:Array Value→Array Value}(I:Inv X qa σ H s)(hH:H l=some (.lst xs))
  (e:s.heap.get? l=some {cls:=.type "list",data:=.seq its.toArray n }) (hf:f its.toArray=its'.toArray) (hv:ZbC ys its') (hz:ys.length≤sizeLine):
  Inv X qa σ (upd H l (.lst ys)) {s with heap:=s.heap.update l (Obj.mapSeq f),toks:=t' }:=by
 have q:=PySem.IsL.update e f;rw[hf] at q;refine I.write (x:=l) (e:=l) (by rw[hH];exact trivial) (.inl rfl) (fun b' u hb hu=>(Qb7 s.heap (Obj.mapSeq f) (Ne.symm hb)).trans hu) ⟨_,q⟩ ?_;exact⟨hz,its',_,hv,q⟩
theorem Inv.lnew (I:Inv X qa σ H s)(hv:ZbC ys its)(hz:ys.length≤sizeLine):
  Inv X qa σ (upd H s.heap.objs.size (.lst ys)) {s with heap:=s.heap.push {cls:=.type "list",data:=.seq its.toArray },toks:=t' }:=
 I.laid (fun _ _ q=>Qag _ q) (Qal _) ⟨hz,its,0,hv,Qax _ rfl⟩
theorem Inv.fresh (I:Inv X qa σ H s):H s.heap.objs.size=none:=I.hok.fresh (Qal _)
theorem Inv.lstM (I:Inv X qa σ H s)(hH:H l=some (.lst xs)):xs.length≤sizeLine∧∃(its:List Value) (n:Nat),ZbC xs its∧xs.length=its.length∧s.heap.get? l=some {cls:=.type "list",data:=.seq its.toArray n }:=by
 obtain⟨z,its,n,r,e⟩:=I.hok l _ hH;exact⟨z,its,n,r,r.length,e⟩
theorem Ziw (h:n≤sizeLine):Builtin.List.listTooLong n=false:=by
 unfold Builtin.List.listTooLong;exact QaN (by omega)
end
def Zcc:V→List V→Hp→VK→Prop:=fun x vs H Q=>∃l xs y,x= .ref l∧vs=[y]∧H l=some (.lst xs)∧xs.length<sizeLine∧Q .non (upd H l (.lst (xs++ [y])))
theorem Za6:MtM X "list.append" Zcc:=by
 intro qa s σ H x vs v us Q I rx rv h;obtain⟨l,xs,y,rfl,rfl,hH,hz,q⟩:=h;cases rx;obtain⟨u,rfl,ru⟩:=rv.one;obtain⟨z,its,n,r,hl,e⟩:=I.lstM hH;refine call_meets F.slot_list_append ⟨_,e,rfl⟩ F.entry_list_append (F.args_list_append_2 _ _) (PySem.list_append l its.toArray n u (by rw[Qat];omega)) ⟨e,?_⟩;refine⟨.non,_,I.lset (its':=its++ [u]) hH e (by simp) (r.append (.cons ru .nil)) ?_,rfl,q⟩;rw[Qae,Qa3];omega
def ZfK:V→List V→Hp→VK→Prop:=fun x vs H Q=>∃l b xs zs,x= .ref l∧vs=[.ref b]∧H l=some (.lst xs)∧H b=some (.lst zs)∧xs.length+zs.length≤sizeLine∧Q .non (upd H l (.lst (xs++zs)))
theorem ZgA:MtM X "list.extend" ZfK:=by
 intro qa s σ H x vs v us Q I rx rv h;obtain⟨l,b,xs,zs,rfl,rfl,hH,hB,hz,q⟩:=h;cases rx;obtain⟨u,rfl,ru⟩:=rv.one;cases ru;obtain⟨z,its,n,r,hl,e⟩:=I.lstM hH;obtain⟨z2,its2,n2,r2,hl2,e2⟩:=I.lstM hB;have hsz:its.toArray.size+its2.toArray.size≤sizeLine:=by rw[Qat,Qat];omega
 have hlong:¬(!its.toArray.isEmpty && Builtin.List.listTooLong (its.toArray.size+its2.toArray.size))=true:=by
  rw[Ziw hsz,Bool.and_false];exact QaB
 refine call_meets F.slot_list_extend ⟨_,e,rfl⟩ F.entry_list_extend (F.args_list_extend_2 _ _)
  (AutoSeq1.list_extend_list_list_0 l its.toArray n b its2.toArray n2 hlong (by rw[Qat];omega) (by omega)) ⟨e,e2,?_⟩
 refine⟨.non,_,I.lset (its':=its++its2) hH e (by simp) (r.append r2) ?_,rfl,q⟩;rw[Qae];omega
def Zfm:R2:=fun x y H Q=>∃l b xs zs,x= .ref l∧y= .ref b∧H l=some (.lst xs)∧H b=some (.lst zs)∧xs.length+zs.length≤sizeLine∧∀p,H p=none→Q (.ref p) (upd H p (.lst (xs++zs)))
theorem Zb5:OpR X (binaryOp .Add) Zfm:=by
 intro qa s σ H x y v u Q I rx ry h;obtain⟨l,b,xs,zs,rfl,rfl,hH,hB,hz,q⟩:=h;cases rx;cases ry;obtain⟨z,its,n,r,hl,e⟩:=I.lstM hH;obtain⟨z2,its2,n2,r2,hl2,e2⟩:=I.lstM hB;refine PySem.P.add_list e e2 ?_ (by rw[Qat,Qat];omega);have ea:its.toArray++its2.toArray=(its++its2).toArray:=by simp
 rw[ea];exact⟨.ref _,_,I.lnew (t':=s.toks) (r.append r2) (by rw[Qae];omega),rfl,q _ I.fresh⟩
end L2
namespace Att
open PySem PySem.W PySem.Calls PyProof.Rows
variable {P:Params}{h:Heap}{l:OpenLaw}{n:Nat}
theorem ZeD :∀(ns:List Int) (vs:List Value),WellAll P h vs (ns.map WData.int)→IntsAre vs ns:=by
 intro ns
 induction ns with
 |nil=>
  intro vs w;rw[Qen] at w;cases w;exact .nil
 |cons n ns ih=>
  intro vs w;rw[Qbz] at w
  cases w with
  |cons a b=>
   cases a;exact .cons _ _ (ih _ b)
theorem Zkl (hn:l.most=some n){args:List WData}{vals:List Value}
  (qu:l.row.toRowW.claim.pre args=true) (hwl:WellAll P h vals args):
  ∃a vs ns,vals=[Value.ref a]∧args=[WData.list (ns.map WData.int)]∧h.get? a=some {cls:=.type "list",data:=.seq vs.toArray }∧IntsAre vs ns∧ns.length≤n:=by
 have hsh:WShape.hasAll [] args [.list .int]=true:=(pre_splitW qu).1;have hc:l.pre.holds [] {args:=args }=true:=(pre_splitW qu).2;obtain⟨d,r,rfl,h1,h2⟩:=hasAllW_cons hsh;obtain rfl:=hasAllW_nil h2;obtain⟨xs,rfl,h3⟩:=hasW_list h1;obtain⟨ns,rfl⟩:=items_int h3
 have hlen:ns.length≤n:=by
  unfold OpenLaw.pre at hc
  have h4:(WTm.not (.lt (.lit (.int (n:Int))) (.len (.arg 0)))).holds [] {args:=[.list (ns.map .int)] }=true:=by
   have h4:=(holds_andW hc).1;rw[hn] at h4;exact h4
  have h5:=condW_of h4 (w_not (w_lt w_lit (w_len_list (w_arg rfl))));rw[Qac] at h5;refine Nat.le_of_not_lt fun q=> ?_;have q':(n:Int)<((ns.length:Nat):Int):=by omega
  first
   | (rw[Qar q'] at h5;exact absurd h5 (by decide))
   | (simp at h5;omega)
 cases hwl with
 |cons w1 w2=>
  cases w2
  cases w1 with
  |list ho hall=>exact⟨_,_,ns,rfl,rfl,ho,ZeD ns _ hall,hlen⟩
theorem Zkm (l:OpenLaw)(args:List WData):l.row.toRowW.claim.post args (.bool true) args=true:=
 postW_of (r:=l.row.toRowW) (X:=(true==true))
  (show WShape.has [] (.bool true) .bool=true by first|rfl|decide|simp[WShape.has,WShape.arms,WShape.armsAll])
  (show(WTm.eq .res (.lit (.bool true))).value [] {args:=args,res:=some (.bool true),after:=args }=some (.bool (true==true)) from w_eq_bool (w_res rfl) w_lit) rfl
theorem attach_call {q:Program}{ju:List Str}{XP:(Str→Option Value)→Heap→Prop}{YP:World→Heap→Prop}{d:DefRec}
  (hn:l.most=some n) (hdf:d.params.defaults=[])
  (call:∀(w:World) (s₀ s₁:Shared) (mg mb:Str→Option Value) (fa:Addr) (o:Obj) (pm cd doc:Value) (a:Addr) (vs:List Value) (ns:List Int),
   Ground q ju [] XP w s₀ mg mb s₁.heap→YP w s₁.heap→
   s₁.heap.get? fa=some o→o.data= .func (docDef d.name d.params d.body d.scope pm cd doc)→s₁.heap.CodeRec cd d.name→mg d.name=some (.ref fa)→
   s₁.heap.get? a=some {cls:=.type "list",data:=.seq vs.toArray }→IntsAre vs ns→ns.length≤n→s₁.gens= #[]→
   codeAny (model l.prog w) callerA (.call (.ref fa) ⟨[.ref a],[]⟩) (fun r s'=>r= .ok (.ret (.bool true))∧OldK s₁.heap s'.heap∧s'.os=s₁.os∧AllBare s'.gens) s₁):
  WalkO q ju XP YP l.row.toRowW d [] (fun f vs=>PySem.call f vs):=by
 intro w s₀ s₁ mg mb G Y fa o pm cd doc dV kV ho hd hcd hD hmg hg args vals as qu hlay hrd hwl hlo;obtain rfl:dV= .none:=Dflts.none hD hdf;obtain rfl:kV= .none:=Dflts.noKw hD;obtain⟨a,vs,ns,rfl,rfl,hobj,hints,hlen⟩:=Zkl hn qu hwl;refine enter_call (Qcr (call w s₀ s₁ mg mb fa o pm cd doc a vs ns G Y ho (fd_plain hd) hcd hmg hobj hints hlen hg) fun r s' hq=> ?_);obtain⟨rfl,h2,h3,h4⟩:=hq;exact⟨.inl ⟨.bool true,.bool true,[],rfl,fun _=>rfl,.bool true,Zkm l _,fun _=>⟨List.Pairwise.nil,fun _ hm=>(nomatch hm)⟩⟩,h2,h3,h4⟩
end Att
namespace L2
open PySem PySem.Spec PyProof.Rows
variable {X:Cx}{H H' H1 H2:Hp}{w:World}{p p2:PySem.Pos}{t:SetTable}{a f S I:Addr}{L acc:List (Int×List Int)}{x qr:Str}{s:Shared}{te t1 t2 t3:TE}{A:Around}{prog P:Program}{e:Int×List Int}{i n ep t' j slot:Nat}{ns:List Int}{σ:St}{g g2:TG}{tt:TT}{es ifs l:List Expr}{scope:Scope}{env:Env}{led:Bool}{E:Value→Shared→Prop}{elt tg qz b e1 e3:Expr}{o:Obj}{fd:FuncData}{B:Prop}{qa:List (Addr×Obj)}{xs Nb ps:List Str}{wi:TI}{Q:VK}{h' h:Heap}{mg:Str→Option Value}{sp:Sp}{T:String}{names:List (Str×NameKind)}{R:Result→Shared→Prop}{ch:List Addr}
theorem ZdR:∀{vs:List Value} {ns:List Int},IntsAre vs ns→ZbC (ns.map V.int) vs
 |_,_,.nil=> .nil
 |_,_,.cons n t h=> .cons ⟨t,rfl⟩ (ZdR h)
def Zp2 (H:Hp):Prop:=∀b,H b=none∨∃o xs,H b=some (.frz o (.lst xs))
theorem Zmd {K:PySem.W.Frag}{mb:Str→Option Value}{CX:CXT}{k:Nat}{fa:Addr}{s₁:Shared}{vs:List Value}
  (KX:K.In s₁.heap) (hns:s₁.heap.Ns mainGlobals mg) (hb:s₁.heap.Ns builtinsNs mb) (hbb:∀x:Str,x≠ "__name__" →mb x=bootBuiltins x) (hlim:s₁.heap.NoLimit) (hg:s₁.gens= #[])
  (ha:s₁.heap.get? a=some {cls:=.type "list",data:=.seq vs.toArray }) (hi:IntsAre vs ns) (hl:ns.length≤sizeLine) (hr:Zef k callerA)
  (F:∀base:Heap,K.In base→base.Ns mainGlobals mg→ZbW P w K mg base CX k fa fd [x] sp) (hbind:∀(s:Shared) (u:Value),BindsTo s fd ⟨[u],[]⟩ [(x,u)])
  (hsp:∀H:Hp,Zp2 H→SqL K H a (ns.map V.int)→sp [.ref a] H (fun v _=>v= .bl true) fun _ _ _=>False)
  (hCX:∀H e s',CX [] H s₁ (fun _ _ _=>False) e s'→False):
  codeAny (model P w) callerA (.call (.ref fa) ⟨[.ref a],[]⟩) (fun r s'=>r= .ok (.ret (.bool true))∧OldK s₁.heap s'.heap∧s'.os=s₁.os∧AllBare s'.gens) s₁:=by
 have rv:=ZdR hi;have lenV:=hi.length
 have core:∀H:Hp,Zp2 H→SqL K H a (ns.map V.int)→HOk P w H s₁.heap→(∀b,H b≠none→b=a)→(H a≠none→K.lookup a=none)→
   codeAny (model P w) callerA (.call (.ref fa) ⟨[.ref a],[]⟩) (fun r s'=>r= .ok (.ret (.bool true))∧OldK s₁.heap s'.heap∧s'.os=s₁.os∧AllBare s'.gens) s₁:=by
  intro H hO hS hok hA hK;have base_of:∀{b:Addr} {o:Obj},s₁.heap.get? b=some o→H b=none→(Zl4 s₁.heap H).get? b=some o:=fun e n=>Zl5 e n
  have noA:∀{b:Addr} {o:Obj} {es:Array DictEntry} {ep:Nat},s₁.heap.get? b=some o→o.data= .dict es ep→H b=none:=fun{b o es ep} e d=>by
   cases q:H b with
   |none=>rfl
   |some u=>
    have e':b=a:=hA b (by rw[q];simp);subst e';rw[ha] at e;cases e;have d':Data.seq vs.toArray _=Data.dict es ep:=d;cases d'
  have nsK:∀{b:Addr} {m:Str→Option Value},s₁.heap.Ns b m→(Zl4 s₁.heap H).Ns b m:=fun{b m} ⟨o,es,ep,e,d,r⟩=>⟨o,es,ep,base_of e (noA e d),d,r⟩
  have hKb:K.In (Zl4 s₁.heap H):=fun b o e=>base_of (KX b o e) (by
   cases q:H b with
   |none=>rfl
   |some u=>
    have e':b=a:=hA b (by rw[q];simp)
    subst e'
    rw[hK (by rw[q];simp)] at e;cases e)
  have hM:Mod K mg (Zl4 s₁.heap H):=⟨hKb,nsK hns,⟨mb,nsK hb,hbb⟩,let⟨mc,h1,h2⟩:=hlim;⟨mc,nsK h1,h2⟩⟩;have e0:ZpU P w K mg (Zl4 s₁.heap H) callerA [] s₁ H:=⟨rfl,hM,fun b o e=>ZnG e,Nat.le_of_eq (Zj1 _ _),trivial,fun b hb=>absurd (show b∈([]:List Addr) from hb) (by simp),hok,.of_eq hg⟩;refine Qcr ((F _ hKb (nsK hns)).run callerA [] s₁ H ⟨[.ref a],[]⟩ [.ref a] [.ref a] _ _ hr e0 (hbind s₁ (.ref a)) (.cons rfl .nil) (hsp H hO hS)) fun r s' h=> ?_
  cases r with
  |error e=>exact(hCX H e s' h).elim
  |ok fl=>
   cases fl with
   |next=>exact False.elim h
   |brk=>exact False.elim h
   |cont=>exact False.elim h
   |ret u=>
    obtain⟨v,H',os,bare,un,hok',r',q⟩:=h;have q':v= .bl true:=q;subst q';obtain rfl:u=Value.bool true:=r';refine⟨rfl,OldK.of_keep fun b o e=> ?_,os,bare⟩
    cases q:H b with
    |none=>exact un.keep b o e q (by intro z;exact absurd (show b∈([]:List Addr) from z) (by simp)) (by simp)
    |some u=>
     rcases hO b with z|⟨ob,xs,z⟩
     ·rw[q] at z;cases z
     ·have z2:=un.frzs b ob _ z;obtain⟨e1,_⟩:=hok b _ z;obtain⟨e2,_⟩:=hok' b _ z2;rw[e] at e1;cases e1;exact e2
 cases hk:K.lookup a with
 |some o=>
  have e:=KX a o hk;rw[ha] at e;cases e;refine core (fun _=>none) (fun _=> .inl rfl) (.inr ⟨_,vs.toArray,_,hk,rfl,rfl,rfl,by rw[Qat,lenV];exact hl,by simpa using rv⟩) (fun b u z=>by have z':(none:Option HO)=some u:=z;cases z') (fun b z=>absurd rfl z) fun z=>absurd rfl z
 |none=>
  refine core (fun b=>if b=a then some (.frz {cls:=.type "list",data:=.seq vs.toArray } (.lst (ns.map V.int))) else none) (fun b=> ?_) (.inl (.inr ⟨{cls:=.type "list",data:=.seq vs.toArray },if_pos rfl⟩)) (fun b u z=> ?_) (fun b z=> ?_) fun _=>hk
  ·by_cases hb:b=a
   ·exact .inr ⟨_,_,if_pos hb⟩
   ·exact .inl (if_neg hb)
  ·by_cases hb:b=a
   ·have z':=(if_pos hb).symm.trans z;cases z';subst hb;exact⟨ha,by rw[Qac];exact hl,vs,_,rv,ha⟩
   ·have z':=(if_neg hb).symm.trans z;cases z'
  ·by_cases hb:b=a
   ·exact hb
   ·exact absurd (if_neg hb) z
theorem walk_of {l:PySem.W.OpenLaw}{k:Nat}{q:Program}{ju:List Str}{XP:(Str→Option Value)→Heap→Prop}{YP:World→Heap→Prop}{d:DefRec}{K:Params→PySem.W.Frag}{CX:World→CXT}{sp:World→Sp}
  (hn:l.most=some n) (hn2:n≤sizeLine) (hdf:d.params.defaults=[]) (hr:Zef k callerA)
  (hY:∀(w:World) (h:Heap),YP w h→(K w.params).In h)
  (F:∀(w:World) (mg:Str→Option Value) (fa:Addr) (h:Heap),(K w.params).In h→h.Ns mainGlobals mg→mg d.name=some (.ref fa)→
   ∃fd:FuncData,(∀(s:Shared) (u:Value),BindsTo s fd ⟨[u],[]⟩ [(x,u)])∧
    ∀base:Heap,(K w.params).In base→base.Ns mainGlobals mg→ZbW l.prog w (K w.params) mg base (CX w) k fa fd [x] (sp w))
  (hsp:∀(w:World) (H:Hp) (a:Addr) (ns:List Int),ns.length≤n→Zp2 H→SqL (K w.params) H a (ns.map V.int)→sp w [.ref a] H (fun v _=>v= .bl true) fun _ _ _=>False)
  (hCX:∀(w:World) (H:Hp) (s:Shared) (e:Value) (s':Shared),CX w [] H s (fun _ _ _=>False) e s'→False):
  PySem.W.WalkO q ju XP YP l.row.toRowW d [] (fun f vs=>PySem.call f vs):=by
 refine Att.attach_call hn hdf fun w s₀ s₁ mg mb fa o pm cd doc a vs ns G Y ho hd hcd hmg hobj hints hlen hg=> ?_;have KX:=hY w _ Y;obtain⟨fd,hb,hF⟩:=F w mg fa _ KX G.T.g hmg;exact Zmd KX G.T.g G.T.b G.T.builtins G.T.nolimit hg hobj hints (QaD hlen hn2) hr hF hb (fun H hO hS=>hsp w H a ns hlen hO hS) fun H e s'=>hCX w H s₁ e s'
def ZaB (s:Stmt):Arguments:=match s with
 | .FunctionDef _ a _ _ _ _ _ _ _ _=>a
 |_=>{posonlyargs:=[],args:=[],vararg:=none,kwonlyargs:=[],kw_defaults:=[],kwarg:=none,defaults:=[] }
def Zay (s:Stmt):List Stmt:=match s with
 | .FunctionDef _ _ b _ _ _ _ _ _ _=>b
 |_=>[]
def Zag (s:Stmt):Scope:=match s with
 | .FunctionDef _ _ _ _ _ _ sc _ _ _=>sc
 |_=>{kind:=.function,names:=[],isGenerator:=false,isCoroutine:=false }
abbrev CX0:CXT:=fun _ _ _ _ _ _=>False
abbrev E0:XK:=fun _ _ _=>False
theorem Zp3 :Zkf CX0 X E0:=fun _ _ _ _ _ _ _ h=>h.elim
structure Fun (K:PySem.W.Frag)(x qr:Str)(st:Stmt)(f:Addr)(fd:FuncData):Prop where
 ex:∃(oc:Value) (od:Option Addr) (kV doc pm:Value) (an:Option Addr) (cdv ct:Value) (osl:Array (Option Value)),
  fd=PySem.W.fnOf x qr (ZaB st) (Zay st) (Zag st) .none kV doc pm an cdv ct∧K.lookup f=some ⟨oc,od,.func fd,osl⟩∧PySem.W.codeIn K cdv qr=true
 kp:PySem.W.keepIn K (.ref f)=true
section
variable {K:PySem.W.Frag}{base:Heap}
theorem Fun.ok {st:Stmt}{N:List Str}{k:Nat}(F:Fun K x qr st f fd)(S:ZaC N ps (Zag st))(len:∀vs H Q E,sp vs H Q E→vs.length=ps.length)
  (hbody:∀(cdv:Value) (A:Around) (outer:List Env) (s:Shared) (H:Hp) (vs:List V) (Q:VK) (E:XK),Zef k (A.deeper (envOfC qr (Zag st) s.heap.objs.size f cdv))→sp vs H Q E→
   ∃t,PSs (Ze8 CX0 P w K mg base N qr (Zag st) f cdv A outer s H E).nox (Zay st) t∧t {nx:=fun _ H'=>Q .non H',rt:=Q } (ZfI N vs) H):ZbW P w K mg base CX0 (k+1) f fd ps sp:=by
 obtain⟨oc,od,kV,doc,pm,an,cdv,ct,osl,rfl,lk,hcd⟩:=F.ex;refine ZoP lk hcd S len fun A outer s H vs Q E hr hsp=> ?_;obtain⟨t,h,q⟩:=hbody cdv A outer s H vs Q E hr hsp;exact⟨t,h.nox,q⟩
theorem Fun.binds {st:Stmt}(F:Fun K x qr st f fd)
  (h:∀(kV doc pm:Value) (an:Option Addr) (cdv ct:Value) (us:List Value),us.length=ps.length→bindArgs (PySem.W.fnOf x qr (ZaB st) (Zay st) (Zag st) .none kV doc pm an cdv ct) ⟨us,[]⟩=pure (ps.zip us)):ZfH K fd ps []:=by
 obtain⟨oc,od,kV,doc,pm,an,cdv,ct,osl,rfl,lk,hcd⟩:=F.ex;exact .all (h kV doc pm an cdv ct)
theorem ZaN {st:Stmt}{oc:Value}{od an:Option Addr}{osl:Array (Option Value)}{kV doc pm cdv ct:Value}(l:K.lookup f=some ⟨oc,od,.func (PySem.W.fnOf x qr (ZaB st) (Zay st) (Zag st) .none kV doc pm an cdv ct),osl⟩)
  (c:PySem.W.codeIn K cdv qr=true) (k:PySem.W.keepIn K (.ref f)=true):Fun K x qr st f (PySem.W.fnOf x qr (ZaB st) (Zay st) (Zag st) .none kV doc pm an cdv ct):=⟨⟨oc,od,kV,doc,pm,an,cdv,ct,osl,rfl,l,c⟩,k⟩
end
theorem Zeh {k:Nat}(hr:Zef k A):A.units+1<cLine:=QaG (Nat.add_le_add_left (by decide:1≤64) _) hr.units
theorem Za7 (h:n≤1000):n<sizeLine:=QaG h (by decide)
theorem pv (i:Nat){pos:PySem.Pos}(hN:X.N[i]?=some x:=by rfl)(hv:Vis X.env.scope x:=by first|exact Or.inl rfl|exact Or.inr (Or.inl rfl)|exact Or.inr (Or.inr rfl))(hd:(x==("__debug__" :Str))=false:=by decide)
  (hcd:(x==("__classdict__" :Str))=false:=by decide):PE X (.Name x pos) (Zah i):=ZoJ hN hv hd hcd
theorem Zcu {A:Prop}(h:B):if false=true then A else B:=by
 rw[if_neg QaB];exact h
theorem Zc7 {A:Prop}(h:A):if true=true then A else B:=by
 rw[if_pos rfl];exact h
theorem Zda {c A:Prop} [Decidable c](h1:c→A)(h2:¬c→B):if c then A else B:=by
 by_cases h:c
 ·rw[if_pos h];exact h1 h
 ·rw[if_neg h];exact h2 h
def Zak (H H':Hp):Prop:=∀b o,H b=some o→H' b=some o
theorem Zak.refl (H:Hp):Zak H H:=fun _ _ h=>h
theorem Zak.trans (a:Zak H H1)(b:Zak H1 H2):Zak H H2:=fun c o h=>b c o (a c o h)
theorem Zak.free (e:Zak H H'){l:Addr}(h:H' l=Option.none):H l=Option.none:=by
 cases q:H l with
 |none=>rfl
 |some o=>
  rw[e l o q] at h;cases h
theorem Zak.seq {K:PySem.W.Frag}{xs:List V}(e:Zak H H')(h:SqL K H a xs):SqL K H' a xs:=by
 rcases h with(h|⟨o,h⟩)|h
 ·exact .inl (.inl (e _ _ h))
 ·exact .inl (.inr ⟨o,e _ _ h⟩)
 ·exact .inr h
def ZcJ (i j:Int):Prop:=0<j∧j.natAbs.log2<9000
theorem Zbm:OpR X (binaryOp .FloorDiv) (rI ZcJ fun i j=> .int (i/j)):=opI fun i j _ _ _ _ _ hc q=>by
 have h1:(0:Int)<j:=hc.1;exact floordiv_int (by omega) (by rw[Qdd i (by omega)];exact q) (.inl (Qdv hc.2))
theorem Zhy :Zc5 X (.builtin "isinstance") (fun xs H Q=>∃x t b,xs=[x,.ty T]∧Zdw X.K H x t∧PySem.W.kitOne X.K t (.type T)=some b∧Q (.bl b) H):=by
 intro qa s σ H xs us Q I r h;obtain⟨x,t,b,rfl,ty,e,q⟩:=h;obtain⟨u,w',rfl,r1,r2⟩:=ZfG r;cases(show w'= .type T from r2);exact Zke I r1 ty e fun tk=>⟨.bl b,H,I.tok _,rfl,q⟩
theorem ZoW {K:PySem.W.Frag}:PySem.W.kitOne K (.type "int") (.type "bool")=some false:=by with_unfolding_all rfl
theorem ZoX {K:PySem.W.Frag}:PySem.W.kitOne K (.type "bool") (.type "bool")=some true:=by rfl
theorem ZoY {K:PySem.W.Frag}:PySem.W.kitOne K (.type "int") (.type "int")=some true:=by rfl
theorem Zhz (env:Env):∀(names:List (Str×NameKind)) (acc:List (Str×Addr)),(∀y∈names,y.2= .free→∃c,env.cells.lookup y.1=some c)→(∀y c,acc.lookup y=some c→env.cells.lookup y=some c)→
  ∃cl,(forIn names acc fun(x:Str×NameKind) (r:List (Str×Addr))=>if(x.2==NameKind.free)=true then(do let c←cellOf env x.1;pure (ForInStep.yield ((x.1,c)::r))) else pure (ForInStep.yield r):Sem _)=pure cl∧
   (∀y c,cl.lookup y=some c→env.cells.lookup y=some c)∧(∀y,(y,NameKind.free)∈names→(cl.lookup y).isSome=true)∧(∀y,(acc.lookup y).isSome=true→(cl.lookup y).isSome=true)
 | [],acc,_,h=>⟨acc,by simp,h,fun y z=>absurd z (by simp),fun _ z=>z⟩
 | (n,k)::r,acc,hf,h=>by
  by_cases hk:k= .free
  ·subst hk;obtain⟨c,hc⟩:=hf (n,.free) Qad rfl
   obtain⟨cl,e,h1,h2,h3⟩:=Zhz env r ((n,c)::acc) (fun y hy=>hf y (Qab _ hy)) (fun y d hd=>by
    rw[QbQ] at hd
    cases z:y==n with
    |true=>
     rw[z] at hd
     have:y=n:=by simpa using z
     subst this
     cases hd
     exact hc
    |false=>rw[z] at hd;exact h y d hd)
   have hin:∀y,(((n,c)::acc).lookup y).isSome=true∨True:=fun _=> .inr trivial;refine⟨cl,?_,h1,fun y hy=> ?_,fun y hy=>h3 y ?_⟩
   ·rw[Qc5];have e0:cellOf env n=pure c:=by unfold cellOf;rw[hc]
    simp only[beq_self_eq_true,QdB,e0,pure_bind];exact e
   ·rcases Qas.mp hy with z|z
    ·cases z;exact h3 _ (by rw[QbQ];simp)
    ·exact h2 y z
   ·rw[QbQ]
    cases y==n with
    |true=>rfl
    |false=>exact hy
  ·obtain⟨cl,e,h1,h2,h3⟩:=Zhz env r acc (fun y hy=>hf y (Qab _ hy)) h;refine⟨cl,?_,h1,fun y hy=> ?_,h3⟩
   ·rw[Qc5];have hb:(k==NameKind.free)=false:=by simpa using hk
    simp only[hb,Qb9,QdA,pure_bind];exact e
   ·rcases Qas.mp hy with z|z
    ·cases z;exact absurd rfl hk
    ·exact h2 y z
theorem ZnO (hf:∀y∈scope.names,y.2= .free→∃c,env.cells.lookup y.1=some c):∃cl,closureFor scope env=pure cl∧(∀y c,cl.lookup y=some c→env.cells.lookup y=some c)∧(∀y,(y,NameKind.free)∈scope.names→(cl.lookup y).isSome=true):=by
 obtain⟨cl,e,h1,h2,_⟩:=Zhz env scope.names [] hf (fun y c h=>by cases h);refine⟨cl,?_,h1,h2⟩;unfold closureFor;simp only[bind_pure];exact e
def Ze3:TT:=fun _ H Q=>Q true H
def PIf (X:Cx)(ifs:List Expr)(t:TT):Prop:=
 ∀(qa:List (Addr×Obj)) (s:Shared) (σ:St) (H:Hp) (Q:Bool→Hp→Prop),Inv X qa σ H s→t σ H Q→
  wpAny (model X.prog X.w) X.A (forIn ifs true fun c r=>if r=true then do let ok←isTrue c X.env (eval c X.env);pure (ForInStep.yield ok) else pure (ForInStep.yield r)) (TP X qa σ Q) X.xe s
theorem Zcw:PIf X [] Ze3:=fun qa s σ H Q I h=>wpAny_tests_nil ⟨H,I,h⟩
theorem Zd0 {c:Expr}{t:TT}(hc:PT X c t):PIf X [c] t:=fun qa s σ H Q I h=>wpAny_tests_one (hc qa s σ H Q I h)
theorem Zdb {k:NameKind}(hc:∀y∈names,y.2≠ .cell)(h:(names.map fun(n,k)=>if(k==NameKind.free && env.scope.kind== .function && env.kindOf n==some .cell) then(n,NameKind.cell) else(n,k)).lookup x=some k):
  (k= .cell∨k= .free)→names.lookup x=some .free∧(k= .cell→env.kindOf x=some .cell):=by
 induction names with
 |nil=>cases h
 |cons p r ih=>
  obtain⟨n,k0⟩:=p;intro hk;have h:List.lookup x ((if(k0==NameKind.free && env.scope.kind== .function && env.kindOf n==some .cell)=true then(n,NameKind.cell) else(n,k0))::_)=some k:=h;by_cases c:(k0==NameKind.free && env.scope.kind== .function && env.kindOf n==some .cell)=true
  ·rw[if_pos c] at h;rw[QbQ] at h⊢
   cases z:x==n with
   |true=>
    have e:x=n:=by simpa using z
    subst e;simp only[QaY,beq_iff_eq] at c;exact⟨by rw[c.1.1],fun _=>c.2⟩
   |false=>rw[z] at h;exact ih (fun y hy=>hc y (Qab _ hy)) h hk
  ·rw[if_neg c] at h;rw[QbQ] at h⊢
   cases z:x==n with
   |true=>
    rw[z] at h;have e:k0=k:=Qbn h;subst e;rcases hk with rfl|rfl
    ·exact absurd rfl (hc (n,.cell) Qad)
    ·exact⟨rfl,fun z=>by cases z⟩
   |false=>rw[z] at h;exact ih (fun y hy=>hc y (Qab _ hy)) h hk
theorem ZfL (h:(names.map fun(n,k)=>if(k==NameKind.free && env.scope.kind== .function && env.kindOf n==some .cell) then(n,NameKind.cell) else(n,k)).lookup x=some .local):
  names.lookup x=some .local:=by
 induction names with
 |nil=>cases h
 |cons p r ih=>
  obtain⟨n,k0⟩:=p;have h:List.lookup x ((if(k0==NameKind.free && env.scope.kind== .function && env.kindOf n==some .cell)=true then(n,NameKind.cell) else(n,k0))::_)=some .local:=h;by_cases c:(k0==NameKind.free && env.scope.kind== .function && env.kindOf n==some .cell)=true
  ·rw[if_pos c] at h;rw[QbQ] at h⊢
   cases z:x==n with
   |true=>rw[z] at h;cases h
   |false=>rw[z] at h;exact ih h
  ·rw[if_neg c] at h;rw[QbQ] at h⊢
   cases z:x==n with
   |true=>rw[z] at h;exact h
   |false=>rw[z] at h;exact ih h
inductive DI (K:PySem.W.Frag) (H:Hp):V→PyData→Prop where
 |non:DI K H .non .none
 |bl (b:Bool):DI K H (.bl b) (.bool b)
 |int (i:Int):DI K H (.int i) (.int i)
 |str (x:Str):DI K H (.str x) (.str x)
 |tup {a:Addr} {xs:List V} {ds:List PyData}:SqT K H a xs→xs.length=ds.length→(∀(i:Nat) (x:V) (d:PyData),xs[i]?=some x→ds[i]?=some d→DI K H x d)→DI K H (.ref a) (.tuple ds)
 |lst {a:Addr} {xs:List V} {ds:List PyData}:SqL K H a xs→xs.length=ds.length→(∀(i:Nat) (x:V) (d:PyData),xs[i]?=some x→ds[i]?=some d→DI K H x d)→DI K H (.ref a) (.list ds)
theorem ZdH:∀{us:List Value} {ds:List PyData} {xs:List V},ZbC xs us→xs.length=ds.length→(∀(i:Nat) (x:V) (d:PyData) (u:Value),xs[i]?=some x→ds[i]?=some d→ZbB x u→∃as,Reads s.heap u d as)→∃as,ReadsAll s.heap us ds as
 |_,ds,_,.nil,hl,_=>by
  cases ds with
  |nil=>exact⟨_,.nil⟩
  |cons d r=>cases hl
 |_,ds,_,.cons (a:=x) r t,hl,h=>by
  cases ds with
  |nil=>cases hl
  |cons d rest=>
   obtain⟨as,ra⟩:=h 0 x d _ rfl rfl r;obtain⟨bs,rb⟩:=ZdH t (by simpa using hl) (fun i y e u h1 h2 h3=>h (i+1) y e u (by simpa using h1) (by simpa using h2) h3);exact⟨_,.cons ra rb⟩
theorem DI.reads (I:Inv X qa σ H s){x:V}{d:PyData}(h:DI X.K H x d):∀{u:Value},ZbB x u→∃as,Reads s.heap u d as:=by
 induction h with
 |non=>intro u r;cases r;exact⟨_,.none⟩
 |bl b=>intro u r;cases r;exact⟨_,.bool b⟩
 |int i=>intro u r;obtain⟨t,rfl⟩:=r;exact⟨_,.int i t⟩
 |str x=>intro u r;obtain⟨t,rfl⟩:=r;exact⟨_,.str x t⟩
 |tup hq hl _ ih=>
  intro u r;cases r;obtain⟨its,rv,⟨o,e,c,n,hd⟩,_⟩:=I.tuple hq;obtain⟨as,ra⟩:=ZdH (s:=s) rv hl (fun i y d u h1 h2 h3=>ih i y d h1 h2 h3);exact⟨_,.tuple e c hd (by simpa using ra)⟩
 |lst hq hl _ ih=>
  intro u r;cases r;obtain⟨its,rv,pl,_⟩:=I.list hq;obtain⟨o,e,c,n,hd⟩:=pl.isList;obtain⟨as,ra⟩:=ZdH (s:=s) rv hl (fun i y d u h1 h2 h3=>ih i y d h1 h2 h3);exact⟨_,.list e c hd (by simpa using ra)⟩
def Zjl (K:PySem.W.Frag)(g:Bool→Bool):R2:=fun x y H Q=>∃dx dy,DI K H x dx∧DI K H y dy∧dx.canLay0=true∧dy.canLay0=true∧dx.depth≤60∧Q (.bl (g (PyData.eqv dx dy))) H
theorem Zkn {k:Nat}(hr:Zef k X.A):OpR X (compareOp .Eq) (Zjl X.K fun b=>b):=by
 intro qa s σ H x y v u Q I rx ry h;obtain⟨dx,dy,hx,hy,cx,cy,hd,q⟩:=h;obtain⟨as,ra⟩:=hx.reads I rx;obtain⟨bs,rb⟩:=hy.reads I ry;have hu:=hr.units;exact QdU ra rb cx cy (by omega) ⟨.bl _,H,I,rfl,q⟩
theorem Zix {k:Nat}(hr:Zef k X.A):OpR X (compareOp .NotEq) (Zjl X.K fun b=> !b):=by
 intro qa s σ H x y v u Q I rx ry h;obtain⟨dx,dy,hx,hy,cx,cy,hd,q⟩:=h;obtain⟨as,ra⟩:=hx.reads I rx;obtain⟨bs,rb⟩:=hy.reads I ry;have hu:=hr.units;exact SeqAt.compareNe_reads ra rb cx cy (by omega) ⟨.bl _,H,I,rfl,q⟩
theorem ZfM (bs:List Bool):(List.range bs.length).all (fun i=>bs.getD i true)=bs.all id:=by
 induction bs with
 |nil=>rfl
 |cons b r ih=>
  rw[Qbb,List.range_succ_eq_map,QdC,Qep,QdC]
  have:(List.range r.length).all ((fun i=>(b::r).getD i true) ∘ Nat.succ)=(List.range r.length).all (fun i=>r.getD i true):=by
   congr 1
  rw[this,ih];rfl
theorem Zer (hc:X.calm=true):Zc5 X (.builtin "all") (fun xs H Q=>∃(p:Addr) (bs:List Bool),xs=[.ref p]∧SqL X.K H p (bs.map V.bl)∧Q (.bl (bs.all id)) H):=by
 intro qa s σ H xs us Q I r h;obtain⟨p,bs,rfl,hq,q⟩:=h;obtain⟨u,rfl,rx⟩:=Ze7 r;cases rx;obtain⟨its,rv,pl,hz⟩:=I.list hq
 have hlt:p<s.heap.objs.size:=by
  obtain⟨o,e,_⟩:=pl.isList;exact Qap e
 have hlen:its.length=bs.length:=by have:=rv.length;rw[Qac] at this;exact this.symm
 refine call_all_walk (Qcz pl.isList ?_);refine⟨_,_,_,_,_,_,fun i=>bs.getD i true,rfl,Walks.list (A:=X.A.in1) (I.ok.hd hc) s.heap.objs.size p (QaL hlt) its.toArray,?_,?_,fun h' tk hk=> ?_⟩
 ·exact⟨⟨_,Qax _ rfl,rfl,rfl⟩,(let⟨o,e,c⟩:=pl.isList;⟨o,Qag _ e,c⟩)⟩
 ·intro i v s' Q' E' hP hQ;have hv:its[i]?=some v:=by simpa using hP
  have hil:i<bs.length:=by rw[←hlen];exact(Qaf.mp hv).1
  obtain⟨u,e,ru⟩:=rv.get (x:=V.bl (bs.getD i true)) (i:=i) (by rw[Qaq,Qah hil,Qam,Qah hil];rfl);rw[hv] at e;cases e;cases ru;exact Qbi hQ
 ·have e:(List.range its.toArray.size).all (fun i=>bs.getD i true)=bs.all id:=by
   rw[Qat,hlen];exact ZfM bs
  rw[e];refine⟨.bl _,H,?_,rfl,q⟩;exact I.kept fun b o eb=>hk b o (by simp;exact QaL (Qap eb)) (Qag _ eb)
theorem Ziy {K:PySem.W.Frag}:PySem.W.kitOne K (.type "tuple") (.type "tuple")=some true:=by rfl
theorem Zko {K:PySem.W.Frag}:PySem.W.kitOne K (.type "list") (.type "list")=some true:=by rfl
theorem ZaT {K:PySem.W.Frag}(hK:X.K=K:=by rfl):Zc5 X (.builtin "isinstance") (fun xs H Q=>∃x t b,xs=[x,.ty T]∧Zdw K H x t∧PySem.W.kitOne K t (.type T)=some b∧Q (.bl b) H):=by
 subst hK;exact Zhy
theorem ZaK {K:PySem.W.Frag}(hK:X.K=K:=by rfl):IxR X (ZdA K):=by subst hK;exact ZnN
theorem Zao {K:PySem.W.Frag}(hK:X.K=K:=by rfl):IxR X (Zby K):=by subst hK;exact ZoT
theorem ZbS {K:PySem.W.Frag}(hK:X.K=K:=by rfl):Zc5 X (.builtin "len") (fun xs H Q=>∃p ys,xs=[.ref p]∧(SqL K H p ys∨SqT K H p ys)∧Q (.int ys.length) H):=by subst hK;exact Zgz
theorem Zjm {pos:PySem.Pos}{it acc:Value}{EE:Value→Shared→Prop}(hE:EE=notedBy (model prog w) A env fun e s'=>R (.error e) s')(I:Nat→Shared→Prop)
  (turn:∀n s,I n s→wpAny (model prog w) A (pyNext it) (fun r z1=>match r with
   |none=>R (.ok .next) z1
   |some v=>wpAny (model prog w) A (letOwnedTupleGo tg it v) (fun _ y1=>wpAny (model prog w) A (assign tg env v) (fun _ z2=>
     wpAny (model prog w) A (forIn ifs true fun c r=>if r=true then do let ok←isTrue c env (eval c env);pure (ForInStep.yield ok) else pure (ForInStep.yield r)) (fun ok z3=>
      if ok=true then wpAny (model prog w) A (eval elt env) (fun x z4=>wpAny (model prog w) A (call (.builtin "list.append") [acc,x]) (fun _ z5=>∃m,m<n∧I m z5) EE z4) EE z3 else∃m,m<n∧I m z3) EE z2) EE y1) EE z1) EE s)
  (n:Nat) (h:I n s):codeAny (model prog w) A (.compLoop (.ListComp elt [⟨tg,qz,ifs,0⟩] scope pos) 0 it acc env) R s:=by
 subst hE;refine codeAny_loop rfl I (fun n s hI=> ?_) n h;show wpAny _ A ((compTurn (.ListComp elt [⟨tg,qz,ifs,0⟩] scope pos) 0 it acc env).onRaise (fun x=>do noteFrame x env;theTreesLotGoes x)) _ _ s;refine wpAny_noted ?_;rw[compTurn_list];refine Qaa (Qeh (Qaa (Qbh (turn n s hI) (fun r z1 q1=> ?_) fun _ _ z=>z)))
 cases r with
 |none=>exact Qaj q1
 |some v=>
  refine Qaa (Qbh q1 (fun _ y1 q1=> ?_) fun _ _ z=>z);refine Qaa (Qbh q1 (fun _ z2 q2=>Qaa (Qbh q2 (fun ok z3 q3=> ?_) fun _ _ z=>z)) fun _ _ z=>z)
  cases ok with
  |false=>exact Qaj ⟨rfl,q3⟩
  |true=>exact Qaa (Qaa (Qbh q3 (fun x z4 q4=>Qaa (Qbh q4 (fun _ z5 q5=>Qaj (Qaj ⟨rfl,q5⟩)) fun _ _ z=>z)) fun _ _ z=>z))
def cxC (X:Cx)(xs Nb:List Str)(scope:Scope)(cl:List (Str×Addr))(C:Addr)(s₂:Shared)(H₂:Hp)(fp:List Addr):Cx:=
 {X with N:=xs++Nb,s₀:=s₂,H₀:=H₂,env:=compEnvC scope cl C X.env,outer:=X.stack,stack:=X.stack,ex:=fp,fn:=fun _=>false,pn:=[],xe:=fun _ _=>False }
def InB (X:Cx)(xs Nb:List Str)(scope:Scope)(φ:Cx→Prop):Prop:=∀(cl:List (Str×Addr)) (C:Addr) (s₂:Shared) (H₂:Hp) (fp:List Addr),φ (cxC X xs Nb scope cl C s₂ H₂ fp)
def CGo (k:Nat)(J:It)(g:TG)(tt:TT)(te:TE)(Q:VK)(σ:St)(H1:Hp):Prop:=∃W:Nat→Nat→List V→Hp→Prop,(∃m,W 0 m [] H1)∧∀i m ys H,W i m ys H→
 (J.stop i H∧∀D,H D=none→Q (.ref D) (upd H D (.lst ys)))∨(J.go i H∧ys.length<sizeLine∧∃N:List V→Hp→Prop,(∀zs H',N zs H'→∃m',m'<m∧W (i+1) m' zs H')∧∀v H' (pre:St),pre.length=k→J.yld i H v H'→g v (pre++σ) H' fun σ' H2=>(∃pre':St,σ'=pre'++σ∧pre'.length=k)∧tt σ' H2 fun ok H3=>if ok=true then te σ' H3 fun y H4=>N (ys++ [y]) H4 else N ys H3)
def ZbT (k:Nat)(wi:TI)(g:TG)(tt:TT)(te:TE):TE:=fun σ H Q=>wi σ H fun J H1=>CGo k J g tt te Q σ H1
theorem ZgB {pos:PySem.Pos}
  (hc:X.calm=true) (hi:PI X tg qz wi) (hlen:Nb.length=X.N.length) (hNb:∀p∈Nb.zip X.N,p.1=p.2∨scope.names.lookup p.1=none) (hxN:∀y∈Nb,scope.names.lookup y≠some .local)
  (hg:InB X xs Nb scope fun Y=>PG Y tg g) (ht:InB X xs Nb scope fun Y=>PIf Y ifs tt) (he:InB X xs Nb scope fun Y=>PE Y elt te)
  (qQ:∀y∈scope.names,y.2≠ .cell) (je:scope.kind= .function) (js:∀y∈scope.names,y.2= .local→scope.names.lookup y.1=some .local)
  (jd:∀y∈scope.names,y.2= .free→X.env.kindOf y.1=some .cell)
  (hs:∀x,foldedSetIterable qz X.env x=pure x) {pos2:PySem.Pos} {use:Option (Value→Sem Unit)} {QQ:Value→Shared→Prop} {qa:List (Addr×Obj)} {s:Shared} {σ:St} {H:Hp} {Q:VK} (I:Inv X qa σ H s) (h:ZbT xs.length wi g tt te σ H Q)
  (post:∀(s2 s4:Shared) (H2 H4:Hp) (C D:Addr) (m4:Str→Option Value),Inv X qa σ H2 s2→s2.heap.objs.size≤C→s4.heap.Ns C m4→H4 C=none→(∀h',Heap.SameBut C s4.heap h'→Inv X qa σ H4 {s4 with heap:=h' })→Q (.ref D) H4→compPost (model X.prog X.w) X.A X.xe use QQ (.ref D) C (.ok .next) s4):
  wpAny (model X.prog X.w) X.A (comprehension (.ListComp elt [⟨tg,qz,ifs,0⟩] scope pos) scope X.env pos2 (newList []) false (eval qz X.env) use) QQ X.xe s:=by
 obtain⟨cl,hcl,cl1,cl2⟩:=ZnO (scope:=scope) (env:=X.env) (fun y hy hf=>I.ok.has y.1 (.inl (jd y hy hf)));refine wpAny_comprehension_free rfl hs hcl je js (thn (hi qa s σ H _ I h) fun v s1 h1=>thn h1 fun itv s2 h2=> ?_);obtain⟨it,fp,tn,J,H2,e,I2,T,st2,f2,W,⟨m0,w0⟩,turn⟩:=h2;subst e;refine Qa1 (wpAny_newFunctionEnv qQ (by intro y hy;simp at hy) (fun h₁ hns₁ hsb₁=> ?_) je);dsimp only at hns₁ hsb₁⊢;generalize hHp:s2.heap.push {cls:=.type "list",dict:=none,data:=.seq ([]:List Value).toArray }=Hp2 at hns₁ hsb₁⊢;have hC:Hp2.objs.size=s2.heap.objs.size+1:=by rw[←hHp,Qa6]
 have hDC:s2.heap.objs.size≠Hp2.objs.size:=by rw[hC];exact QaL (QcN _)
 have below:∀b,b<s2.heap.objs.size→b≠Hp2.objs.size∧b≠s2.heap.objs.size:=fun b hb=>⟨by rw[hC];exact QaL (QbL hb),QaL hb⟩;have old:∀b o,s2.heap.get? b=some o→h₁.get? b=some o:=fun b o e=>hsb₁.extBut b o (below b (Qap e)).1 (Qag _ (hHp ▸ Qag _ e));have hacc:h₁.PlainList s2.heap.objs.size #[]:=⟨_,hsb₁.extBut _ _ hDC (Qag _ (hHp ▸ Qax _ rfl))⟩;generalize hY:cxC X xs Nb scope cl Hp2.objs.size s2 H2 fp=Y;have Yprog:Y.prog=X.prog:=by rw[←hY];rfl
 have fpLt:∀b∈fp,b<s2.heap.objs.size:=fun b hb=>by
  obtain⟨o,e,_⟩:=T.obj _ _ st2 b hb;exact Qap e
 have cellLt:∀y c,cl.lookup y=some c→c<s2.heap.objs.size:=fun y c hc=>by
  obtain⟨v,q⟩:=I2.cell y c (cl1 y c hc);exact q.lt
 have frSub:∀b∈frs X.stack,b<s2.heap.objs.size:=fun b hb=>by
  rcases Qas.mp (I2.stkSub b hb) with z|z
  ·rw[z];exact I2.lt
  ·by_cases hlt:b<s2.heap.objs.size
   ·exact hlt
   ·exact absurd z (I2.nofs (Nat.le_of_not_lt hlt))
 have ok:(cxC X xs Nb scope cl Hp2.objs.size s2 H2 fp).Ok:=by
  refine⟨I2.ok.mod,je,I2.ok.glob,I2.ok.blt,(by show s2.heap.objs.size≤Hp2.objs.size;omega),fun y z c h1 h2=>I2.ok.inj y z c (cl1 y c h1) (cl1 z c h2),fun y hy=> ?_,fun y c hf _=>absurd hf (by intro z;cases z),I2.ok.hd,I2.ok.frames,.inl rfl,fun b hb=>⟨?_,fun y c h1 h2=> ?_⟩,I2.bs,QaD I2.ok.bsz I2.sz,fun b o e hb=> ?_,fun b hb hm=> ?_,I2.stack,I2.stkFree⟩
  ·have hy:(scope.names.map fun(n,k)=>if(k==NameKind.free && X.env.scope.kind== .function && X.env.kindOf n==some .cell) then(n,NameKind.cell) else(n,k)).lookup y=some .cell∨(scope.names.map fun(n,k)=>if(k==NameKind.free && X.env.scope.kind== .function && X.env.kindOf n==some .cell) then(n,NameKind.cell) else(n,k)).lookup y=some .free:=hy
   have q:scope.names.lookup y=some .free:=by
    rcases hy with z|z
    ·exact(Zdb qQ z (.inl rfl)).1
    ·exact(Zdb qQ z (.inr rfl)).1
   exact QbY.mp (cl2 y (Qbs q))
  ·exact(below b (fpLt b hb)).1
  ·exact(f2 b hb).2.2.2.2.1 y c (cl1 y c h1) h2
  ·rcases(f2 b hb).2.2.2.1 with z|z
   ·exact I2.ok.noex b o e z
   ·exact absurd (QaC (Qap e) (QaD I2.ok.bsz z)) (Qbp _)
  ·rcases Qas.mp (I2.stkSub b hm) with z|z
   ·exact(f2 b hb).2.1 z
   ·exact(f2 b hb).2.2.1 z
 have fpY:∀{H':Hp} {pl:List (Addr×Obj)},(∀b∈fp,H' b=none)→(∀p∈pl,p.1=s2.heap.objs.size)→∀b∈fp,Zl9 Y pl H' b:=fun{H' pl} hn hp b hb=>by
  rw[←hY];refine⟨hn b hb,(below b (fpLt b hb)).1,fun hm=> ?_,.inl hb,fun y c h1 h2=>(f2 b hb).2.2.2.2.1 y c (cl1 y c h1) h2,fun p hm z=> ?_⟩
  ·rcases Qas.mp (I2.stkSub b hm) with z|z
   ·exact(f2 b hb).2.1 z
   ·exact(f2 b hb).2.2.1 z
  ·have hm:p∈pl:=hm;rw[hp p hm] at z;exact(below b (fpLt b hb)).2 z.symm
 have HD:H2 s2.heap.objs.size=none:=I2.hok.fresh (Qal _);have HC:H2 Hp2.objs.size=none:=I2.hok.fresh (by omega);obtain⟨m2,hns2,hloc2⟩:=I2.loc
 have IY:∀tk,Inv (cxC X xs Nb scope cl Hp2.objs.size s2 H2 fp) [] (List.replicate xs.length none++σ) H2 {s2 with heap:=h₁,toks:=tk }:=fun tk=>by
  refine⟨ok,rfl,I2.bare,Un.kept old,⟨_,hns₁,fun i y v h1 h2 h3=> ?_⟩,fun y c h1=> ?_,HC,fun y c h1=>I2.freeC y c (cl1 y c h1),fun p hp=>absurd (show p∈([]:List (Addr×Obj)) from hp) (by simp),I2.hok.kept old,(by show(List.replicate xs.length (none:Option V)++σ).length=(xs++Nb).length;rw[Qae,Qae,Qbc,hlen,I2.len])⟩
  ·have h1:(xs++Nb)[i]?=some y:=h1;by_cases hik:i<xs.length
   ·rw[QaK (by rw[Qbc];exact hik),Qcv,if_pos hik] at h2;cases h2
   ·rw[QaF (by omega)] at h1;rw[QaF (by rw[Qbc];omega),Qbc] at h2;generalize i-xs.length=i at h1 h2;have h3:Vis (relabel scope X.env) y:=h3
    have key:∀k,(k=NameKind.cell∨k=NameKind.free)→(relabel scope X.env).names.lookup y=some k→∃u,ZbB v u∧Zqs (compEnvC scope cl Hp2.objs.size X.env) h₁ (fun x=>([]:List (Str×Value)).reverse.lookup x) y u:=fun k hk hl=>by
     obtain⟨q1,_⟩:=Zdb qQ hl hk;have q2:=jd (y,.free) (Qbs q1) rfl
     have h1':X.N[i]?=some y:=by
      have hi':i<X.N.length:=by rw[←hlen];exact(Qaf.mp h1).1
      have hz:(Nb.zip X.N)[i]?=some (y,X.N[i]):=by rw[Qdp];exact⟨h1,Qah hi'⟩
      rcases hNb _ (Qau hz) with z|z
      ·have z:y=X.N[i]:=z;rw[z];exact Qah hi'
      ·have z:scope.names.lookup y=none:=z;rw[q1] at z;cases z
     obtain⟨u,r,l⟩:=hloc2 i y v h1' h2 (.inr (.inl q2));refine⟨u,r,.inr ⟨?_,?_⟩⟩
     ·rcases hk with rfl|rfl
      ·exact .inl hl
      ·exact .inr hl
     ·rcases l with⟨k1,_⟩|⟨_,c,e1,z⟩
      ·rw[q2] at k1;cases k1
      ·obtain⟨c',e2⟩:=QbY.mp (cl2 y (Qbs q1));have e3:=cl1 y c' e2;rw[e1] at e3;cases e3;obtain⟨o,ho,hd⟩:=z;exact⟨c,e2,o,old c o ho,hd⟩
    rcases h3 with h3|h3|h3
    ·
     exfalso;exact hxN y (Qau h1) (ZfL h3)
    ·exact key _ (.inl rfl) h3
    ·exact key _ (.inr rfl) h3
  ·obtain⟨v,o,ho,hd⟩:=I2.cell y c (cl1 y c h1);exact⟨v,o,old c o ho,hd⟩
 have noErr:∀{α:Type} {m:Sem α} {G:α→Shared→Prop} {E':Value→Shared→Prop} {s':Shared},wpAny (model X.prog X.w) X.A m G (fun _ _=>False) s'→wpAny (model X.prog X.w) X.A m G E' s':=fun h=>Qbh h (fun _ _ q=>q) fun _ _ q=>q.elim
 have loop:∀(tk:Nat) (R:Result→Shared→Prop),R=compPost (model X.prog X.w) X.A X.xe use QQ (.ref s2.heap.objs.size) Hp2.objs.size→
   codeAny (model X.prog X.w) X.A (.compLoop (.ListComp elt [⟨tg,qz,ifs,0⟩] scope pos) 0 (.ref it) (.ref s2.heap.objs.size) (compEnvC scope cl Hp2.objs.size X.env)) R {s2 with heap:=h₁,toks:=tk }:=by
  rintro tk R rfl
  refine Zjm rfl (fun n s'=>∃i σv H' ys its,σv.length=xs.length∧Inv Y [] (σv++σ) H' s'∧tn i s'.heap∧(∀b∈fp,H' b=none)∧ZbC ys its∧ys.length≤sizeLine∧s'.heap.PlainList s2.heap.objs.size its.toArray∧H' s2.heap.objs.size=none∧W i n ys H') ?_ m0
   ⟨0,List.replicate xs.length none,H2,[],[],Qbc,hY ▸ IY tk,T.keep _ _ _ st2 fun b _ o e=>old b o e,fun b hb=>(f2 b hb).1,.nil,QaV _,hacc,HD,w0⟩
  rintro n s3 ⟨i,σv,H3,ys,its,lv,I3,st3,fr3,rv,hz,⟨nn,pl3⟩,HD3,w3⟩
  have I3p:Inv Y [(s2.heap.objs.size,{cls:=.type "list",data:=.seq its.toArray nn })] (σv++σ) H3 s3:=I3.pins_of fun p hp=>by
   rw[Qan] at hp;subst hp;refine⟨pl3,HD3,?_,fun hm=> ?_,fun v z=>by cases z⟩
   ·rw[←hY];exact hDC
   ·rw[←hY] at hm;exact absurd (frSub _ hm) (Qbp _)
  have pinD:∀p∈[((s2.heap.objs.size:Addr),({cls:=.type "list",data:=.seq its.toArray nn }:Obj))],p.1=s2.heap.objs.size:=fun p hp=>by
   rw[Qan] at hp;rw[hp]
  subst hY;rcases turn i n ys H3 w3 with⟨stop,qn⟩|⟨go,hlt,NN,hNN,step⟩
  ·refine noErr (thn (T.done (cxC X xs Nb scope cl Hp2.objs.size s2 H2 fp) rfl rfl rfl hc i _ s3 _ H3 (fun _ _=>False) I3p (fpY fr3 pinD) st3 stop) fun r s4 ⟨hr,I4⟩=> ?_);subst hr;obtain⟨m4,hns4,_⟩:=I4.loc;refine post s2 s4 H2 (upd H3 s2.heap.objs.size (.lst ys)) Hp2.objs.size s2.heap.objs.size m4 I2 (by omega) hns4 (by rw[Zax (Ne.symm hDC)];exact I4.free) (fun h' sb=> ?_) (qn _ HD3);have pl4:=(I4.pin _ (QaA _ Qad)).1;have up:∀b o,b≠Hp2.objs.size→s4.heap.get? b=some o→h'.get? b=some o:=fun b o hb e=>sb.extBut b o hb e;have base:=I4.base;have HC4:H3 Hp2.objs.size=none:=I4.free;have neC:∀b o,s2.heap.get? b=some o→b≠Hp2.objs.size:=fun b o e=>(below b (Qap e)).1;have neD:∀b o,s2.heap.get? b=some o→b≠s2.heap.objs.size:=fun b o e=>(below b (Qap e)).2
   have hokN:HOk X.prog X.w (upd H3 s2.heap.objs.size (.lst ys)) h':=fun b u e=>by
    by_cases hb:b=s2.heap.objs.size
    ·subst hb;rw[Zad] at e;cases e;exact⟨hz,its,nn,rv,up _ _ hDC pl4⟩
    ·rw[Zax hb] at e;refine(I4.hok b u e).stay (fun c v hc q=>up c v ?_ q) (fun c q=>by rw[Zax (Zav q HD3)];exact q) fun c xs q=>by rw[Zax (Zav q HD3)];exact q
     rcases hc with z|z
     ·rw[z];exact Zav e HC4
     ·exact Zav z HC4
   refine I2.call' (s':={s4 with heap:=h' }) (ch:=fp) I4.os ⟨fun b o e n hb hx'=>up b o (neC b o e) (base.keep b o e n hb hx'),fun b o e n hb hx'=> ?_,fun b o e n hx'=> ?_,fun b o e hx'=> ?_,fun b xs e=> ?_,fun b o u e=> ?_,fun b ps e=> ?_⟩ hokN I4.bare (fun b hb=> ?_)
   ·obtain⟨sl,q⟩:=base.slot b o e n hb hx';exact⟨sl,up b _ (neC b o e) q⟩
   ·rw[Zax (neD b o e)];exact base.free b o e n hx'
   ·obtain⟨o',q⟩:=base.there b o e hx';exact⟨o',up b o' (neC b o e) q⟩
   ·have q:=base.tups b xs e;rw[Zax (Zav q HD3)];exact q
   ·have q:=base.frzs b o u e;rw[Zax (Zav q HD3)];exact q
   ·obtain⟨more,q⟩:=base.tbls b ps e;exact⟨more,by rw[Zax (Zav q HD3)];exact q⟩
   ·obtain⟨_,g1,_,g3,g4,g5⟩:=f2 b hb;exact⟨g3,g1,g4,g5⟩
  ·refine noErr (thn (T.item (cxC X xs Nb scope cl Hp2.objs.size s2 H2 fp) rfl rfl rfl hc i _ s3 _ H3 (fun _ _=>False) I3p (fpY fr3 pinD) st3 go) fun r s4 ⟨u,hr,h4⟩=> ?_);subst hr;refine noErr (thn h4 fun _ s5 ⟨v,H5,I5,r5,y5,st5,fr5⟩=> ?_);have I5':=I5.pinned (fpY fr5 pinD) (T.obj _ _ st5);have stp:=step v H5 σv lv y5;refine noErr (thn (hg cl Hp2.objs.size s2 H2 fp _ s5 _ H5 v u _ I5' r5 stp) fun _ s6 ⟨σ6,H6,I6,⟨pre',e6,l6⟩,stp⟩=> ?_);subst e6
   have again:∀{s7 s8:Shared} {H7:Hp} {zs:List V} {ws:List Value} {m':Nat},Inv (cxC X xs Nb scope cl Hp2.objs.size s2 H2 fp) ([((s2.heap.objs.size:Addr),({cls:=.type "list",data:=.seq its.toArray nn }:Obj))]++Zgo fp s5.heap) (pre'++σ) H7 s7→
     (∃h',s8={s7 with heap:=h' }∧(∀b o,b≠s2.heap.objs.size→s7.heap.get? b=some o→h'.get? b=some o)∧h'.PlainList s2.heap.objs.size ws.toArray)→ZbC zs ws→zs.length≤sizeLine→m'<n→W (i+1) m' zs H7→
     ∃m,m<n∧∃i σv H' ys its,σv.length=xs.length∧Inv (cxC X xs Nb scope cl Hp2.objs.size s2 H2 fp) [] (σv++σ) H' s8∧tn i s8.heap∧(∀b∈fp,H' b=none)∧ZbC ys its∧ys.length≤sizeLine∧s8.heap.PlainList s2.heap.objs.size its.toArray∧H' s2.heap.objs.size=none∧W i m ys H':=by
    rintro s7 s8 H7 zs ws m' I7 ⟨h',rfl,up,plw⟩ rz hzz hm w7;have HD7:H7 s2.heap.objs.size=none:=(I7.pin _ (QaA _ (QaM _ Qad))).2.1
    have fr7:∀b∈fp,H7 b=none:=fun b hb=>by
     obtain⟨o,e,d⟩:=T.obj _ _ st5 b hb;exact(I7.pin (b,o) (QaA _ (QaA _ (Zdi hb e)))).2.1
    have I7':Inv (cxC X xs Nb scope cl Hp2.objs.size s2 H2 fp) [] (pre'++σ) H7 s7:=I7.pins_of fun p hp=>absurd hp (by simp);refine⟨m',hm,i+1,pre',H7,zs,ws,l6,?_,?_,fr7,rz,hzz,plw,HD7,w7⟩
    ·have:=I7'.turned (it:=s2.heap.objs.size) (h':=h') (t':=s7.toks) up HD7 hDC (.inr (Qal _)) (fun y c h1 h2=>absurd (cellLt y c h1) (by rw[h2];exact Qbp _)) (fun p hp=>absurd (show p∈([]:List (Addr×Obj)) from hp) (by simp));exact this
    ·refine T.keep _ _ _ st5 fun b hb o e=>up b o (below b (fpLt b hb)).2 ?_;exact(I7.pin (b,o) (QaA _ (QaA _ (Zdi hb e)))).1
   refine noErr (thn (ht cl Hp2.objs.size s2 H2 fp _ s6 _ H6 _ I6 stp) fun okb s7 ⟨H7,I7,q7⟩=> ?_);have pl7:=(I7.pin _ (QaA _ (QaM _ Qad))).1
   cases okb with
   |false=>
    rw[if_neg QaB] at q7⊢;obtain⟨m',hm,w7⟩:=hNN _ _ q7;exact again I7 ⟨s7.heap,rfl,fun _ _ _ e=>e,nn,pl7⟩ rv hz hm w7
   |true=>
    rw[if_pos rfl] at q7⊢;refine noErr (thn (he cl Hp2.objs.size s2 H2 fp _ s7 _ H7 _ I7 q7) fun w' s8 ⟨y,H8,I8,r8,q8⟩=> ?_);obtain⟨m',hm,w8⟩:=hNN _ _ q8;have pl8:=(I8.pin _ (QaA _ (QaM _ Qad))).1;refine wpAny_list_append_plain (hsz:=by have:=rv.length;simp only[Qat];omega) ⟨nn,pl8⟩ fun h9 pl9 sb9=> ?_;refine again I8 ⟨h9,rfl,fun b o hb e=>sb9.extBut b o hb e,?_⟩ (rv.append (.cons r8 .nil)) (by rw[Qae,Qa3];omega) hm w8;have e9:its.toArray.push w'=(its++ [w']).toArray:=by simp
    rw[←e9];exact pl9
 refine codeAny_compStart_list (loop _ _ rfl) (noErr (T.self _ 0 _ _ _ (T.keep _ _ _ st2 fun b _ o e=>old b o e) (loop _ _ rfl)))
theorem Zbg {pos:PySem.Pos}
  (hc:X.calm=true) (hi:PI X tg qz wi) (hlen:Nb.length=X.N.length) (hNb:∀p∈Nb.zip X.N,p.1=p.2∨scope.names.lookup p.1=none) (hxN:∀y∈Nb,scope.names.lookup y≠some .local)
  (hg:InB X xs Nb scope fun Y=>PG Y tg g) (ht:InB X xs Nb scope fun Y=>PIf Y ifs tt) (he:InB X xs Nb scope fun Y=>PE Y elt te)
  (qQ:∀y∈scope.names,y.2≠ .cell) (je:scope.kind= .function) (js:∀y∈scope.names,y.2= .local→scope.names.lookup y.1=some .local)
  (jd:∀y∈scope.names,y.2= .free→X.env.kindOf y.1=some .cell)
  (hs:∀x,foldedSetIterable qz X.env x=pure x:=by intro _;rfl):
  PE X (.ListComp elt [⟨tg,qz,ifs,0⟩] scope pos) (ZbT xs.length wi g tt te):=by
 intro qa s σ H Q I h;rw[eval_ListComp];exact ZgB (use:=none) (QQ:=EP X qa σ Q) hc hi hlen hNb hxN hg ht he qQ je js jd hs I h fun s2 s4 H2 H4 C D m4 _ _ hn _ IX q=>⟨m4,hn,fun h' sb=>⟨.ref D,H4,IX h' sb,rfl,q⟩⟩
theorem Zme {pos spos py:PySem.Pos}{y:Str}
  (hg2:PG X (.Name y py) g2) (hsw:swapsWith (.ListComp elt [⟨tg,qz,ifs,0⟩] scope pos) (some (.Name y py)) spos.line X.env=pure true)
  (hc:X.calm=true) (hi:PI X tg qz wi) (hlen:Nb.length=X.N.length) (hNb:∀p∈Nb.zip X.N,p.1=p.2∨scope.names.lookup p.1=none) (hxN:∀y∈Nb,scope.names.lookup y≠some .local)
  (hg:InB X xs Nb scope fun Y=>PG Y tg g) (ht:InB X xs Nb scope fun Y=>PIf Y ifs tt) (he:InB X xs Nb scope fun Y=>PE Y elt te)
  (qQ:∀y∈scope.names,y.2≠ .cell) (je:scope.kind= .function) (js:∀y∈scope.names,y.2= .local→scope.names.lookup y.1=some .local)
  (jd:∀y∈scope.names,y.2= .free→X.env.kindOf y.1=some .cell)
  (hs:∀x,foldedSetIterable qz X.env x=pure x:=by intro _;rfl):
  PS X (.Assign [.Name y py] (.ListComp elt [⟨tg,qz,ifs,0⟩] scope pos) spos) (ZaY (ZbT xs.length wi g tt te) g2):=by
 intro qa s σ H D I h;rw[exec_Assign_Name_used _ _ _ _ hsw];refine Qaa (Qeh (Qaa ?_));show wpAny (model X.prog X.w) X.A (comprehension (.ListComp elt [⟨tg,qz,ifs,0⟩] scope pos) scope X.env _ (newList []) false (eval qz X.env) (some (assign (.Name y py) X.env))>>=fun _=>pure ()) _ _ s;refine Qaa (Qbh (ZgB (use:=some (assign (.Name y py) X.env)) (QQ:=fun _ s'=>SP X qa D .next s') hc hi hlen hNb hxN hg ht he qQ je js jd hs I h ?_) (fun _ s' hq=>Qaj (Qaj hq)) fun _ _ e=>e);intro s2 s4 H2 H4 C R m4 I2 hC hn HC IX q;have I4:Inv X qa σ H4 s4:=IX s4.heap (Heap.SameBut.refl _ _);obtain⟨o,es,ep,ho,hd,hn'⟩:=id hn;have hLC:C≠X.env.locals:=fun z=>absurd (QaC I2.lt hC) (by rw[z];exact Qbp _);have hfsC:C∉X.fs:=I2.nofs hC
 have I4p:Inv X ((C,o)::qa) σ H4 s4:=I4.pins_of fun p hp=>by
  rcases Qas.mp hp with rfl|z
  ·exact⟨ho,HC,hLC,hfsC,fun v z=>by rw[hd] at z;cases z⟩
  ·exact I4.pin p (QaA _ z)
 show wpAny _ X.A (assign (.Name y py) X.env (.ref R)) _ _ s4;refine thn (hg2 _ s4 σ H4 (.ref R) (.ref R) _ I4p rfl q) fun _ s5 ⟨σ5,H5,I5,q5⟩=> ?_;have pC:=I5.pin (C,o) (QaA _ Qad);refine⟨m4,⟨o,es,ep,pC.1,hd,hn'⟩,fun h' sb=>⟨σ5,H5,?_,q5⟩⟩;have I6:Inv X qa σ5 H5 s5:=I5.pins_of fun p hp=>I5.pin p (QaA _ (Qab _ hp))
 exact I6.turned (it:=C) (h':=h') (t':=s5.toks) (fun b o hb e=>sb.extBut b o hb e) pC.2.1 hLC (.inr (QaD I2.sz hC)) (fun y c e z=>by
   obtain⟨v,qq⟩:=I2.cell y c e
   exact absurd (QaC qq.lt hC) (by rw[z];exact Qbp _)) (fun p hp z=>by
   exact absurd (QaC (Qap (I2.pin p hp).1) hC) (by rw[z];exact Qbp _))
theorem ZgC {K:PySem.W.Frag}{k:Nat}{xs:List V}(Pv:Nat→List V→Hp→Prop)(h0:Pv 0 [] H)(hb:xs.length≤1000)(hz:∀i ys H,Pv i ys H→ys.length≤i)(hl:∀i ys H,i≤xs.length→Pv i ys H→SqL K H a xs)
  (hs:∀i x ys H (pre:St),pre.length=k→xs[i]?=some x→Pv i ys H→g x (pre++σ) H fun σ' H2=>(∃pre':St,σ'=pre'++σ∧pre'.length=k)∧tt σ' H2 fun ok H3=>if ok=true then te σ' H3 fun y H4=>Pv (i+1) (ys++ [y]) H4 else Pv (i+1) ys H3) (hd:∀ys H,Pv xs.length ys H→∀D,H D=none→Q (.ref D) (upd H D (.lst ys))):CGo k (Itl K a) g tt te Q σ H:=by
 refine⟨fun i m ys H=>m=xs.length-i∧i≤xs.length∧Pv i ys H,⟨xs.length,by simp,QaV _,h0⟩,?_⟩;rintro i m ys H ⟨rfl,hi,p⟩;have q:=hl i ys H hi p;by_cases hlt:i<xs.length
 ·refine .inr ⟨⟨xs,xs[i],q,by simp[hlt]⟩,QaG (hz i ys H p) (Za7 (by omega)),Pv (i+1),fun zs H' p'=>⟨xs.length-(i+1),by omega,rfl,hlt,p'⟩,fun x H' pre hp y=> ?_⟩;obtain⟨e,y⟩:=y;subst e;exact hs i x ys _ pre hp (y xs q) p
 ·have e:i=xs.length:=by omega
  subst e;exact .inl ⟨⟨xs,q,Qal _⟩,hd ys H p⟩
theorem Zp4 {K:PySem.W.Frag}{k:Nat}{xs:List V}(Pv:Nat→List V→Hp→Prop)(h0:Pv 0 [] H)(hb:xs.length≤1000)(hz:∀i ys H,Pv i ys H→ys.length≤i)(hl:∀i ys H,i≤xs.length→Pv i ys H→SqT K H a xs)
  (hs:∀i x ys H (pre:St),pre.length=k→xs[i]?=some x→Pv i ys H→g x (pre++σ) H fun σ' H2=>(∃pre':St,σ'=pre'++σ∧pre'.length=k)∧tt σ' H2 fun ok H3=>if ok=true then te σ' H3 fun y H4=>Pv (i+1) (ys++ [y]) H4 else Pv (i+1) ys H3) (hd:∀ys H,Pv xs.length ys H→∀D,H D=none→Q (.ref D) (upd H D (.lst ys))):CGo k (Itt K a) g tt te Q σ H:=by
 refine⟨fun i m ys H=>m=xs.length-i∧i≤xs.length∧Pv i ys H,⟨xs.length,by simp,QaV _,h0⟩,?_⟩;rintro i m ys H ⟨rfl,hi,p⟩;have q:=hl i ys H hi p;by_cases hlt:i<xs.length
 ·refine .inr ⟨⟨xs,xs[i],q,by simp[hlt]⟩,QaG (hz i ys H p) (Za7 (by omega)),Pv (i+1),fun zs H' p'=>⟨xs.length-(i+1),by omega,rfl,hlt,p'⟩,fun x H' pre hp y=> ?_⟩;obtain⟨e,y⟩:=y;subst e;exact hs i x ys _ pre hp (y xs q) p
 ·have e:i=xs.length:=by omega
  subst e;exact .inl ⟨⟨xs,q,Qal _⟩,hd ys H p⟩
theorem ZoZ {k:Nat}{lo:Int}(Pv:Nat→List V→Hp→Prop)(h0:Pv 0 [] H)(hb:n≤1000)(hz:∀i ys H,Pv i ys H→ys.length≤i)
  (hs:∀(i:Nat) ys H (pre:St),pre.length=k→i<n→Pv i ys H→g (.int (lo+i)) (pre++σ) H fun σ' H2=>(∃pre':St,σ'=pre'++σ∧pre'.length=k)∧tt σ' H2 fun ok H3=>if ok=true then te σ' H3 fun y H4=>Pv (i+1) (ys++ [y]) H4 else Pv (i+1) ys H3) (hd:∀ys H,Pv n ys H→∀D,H D=none→Q (.ref D) (upd H D (.lst ys))):CGo k (Itr lo n) g tt te Q σ H:=by
 refine⟨fun i m ys H=>m=n-i∧i≤n∧Pv i ys H,⟨n,by simp,QaV _,h0⟩,?_⟩;rintro i m ys H ⟨rfl,hi,p⟩;by_cases hlt:i<n
 ·refine .inr ⟨hlt,QaG (hz i ys H p) (Za7 (by omega)),Pv (i+1),fun zs H' p'=>⟨n-(i+1),by omega,rfl,hlt,p'⟩,fun x H' pre hp y=> ?_⟩;obtain⟨e,y⟩:=y;subst e y;exact hs i ys _ pre hp hlt p
 ·have e:i=n:=by omega
  subst e;exact .inl ⟨Qal _,hd ys H p⟩
theorem ZeE {K:PySem.W.Frag}{k:Nat}{t:TGs}{pos:PySem.Pos}(hc:X.calm=true)(h:PGs X es t)(hK:X.K=K:=by rfl)
  (hn:(assignEach es X.env).length=n:=by rfl) (hst:(assignEach es X.env).findIdx? (·.1)=none:=by rfl):PG X (.Tuple es k pos) (Ze4 K n t):=by
 subst hK;exact ZbR hc h hn hst
def dT (ns:List Int):PyData:=.tuple (ns.map .int)
def dE (e:Int×List Int):PyData:=.tuple [.int e.1,dT e.2]
def dL (L:List (Int×List Int)):PyData:=.list (L.map dE)
theorem ZeF:∀ns ms:List Int,PyData.eqvAll (ns.map .int) (ms.map .int)=decide (ns=ms)
 | [],[]=>rfl
 | [],_::_=>rfl
 |_::_,[]=>rfl
 |n::ns,m::ms=>by
  show(PyData.eqv (.int n) (.int m) && PyData.eqvAll (ns.map .int) (ms.map .int))=_;rw[ZeF ns ms];show((n==m) && _)=_;by_cases h:n=m
  ·subst h;by_cases h2:ns=ms<;>simp[h2]
  ·simp[h]
theorem Ziz (ns ms:List Int):PyData.eqv (dT ns) (dT ms)=decide (ns=ms):=ZeF ns ms
theorem Zo0 (a b:Int×List Int):PyData.eqv (dE a) (dE b)=decide (a=b):=by
 show((a.1==b.1) && (PyData.eqv (dT a.2) (dT b.2) && true))=_;rw[Ziz];obtain⟨a1,a2⟩:=a;obtain⟨b1,b2⟩:=b;by_cases h:a1=b1
 ·subst h;by_cases h2:a2=b2<;>simp[h2]
 ·simp[h]
theorem ZgD:∀L M:List (Int×List Int),PyData.eqvAll (L.map dE) (M.map dE)=decide (L=M)
 | [],[]=>rfl
 | [],_::_=>rfl
 |_::_,[]=>rfl
 |a::L,b::M=>by
  show(PyData.eqv (dE a) (dE b) && PyData.eqvAll (L.map dE) (M.map dE))=_;rw[ZgD L M,Zo0];by_cases h:a=b
  ·subst h;by_cases h2:L=M<;>simp[h2]
  ·simp[h]
theorem Znh (L M:List (Int×List Int)):PyData.eqv (dL L) (dL M)=decide (L=M):=ZgD L M
theorem ZiA:∀ns:List Int,PyData.canLayAll0 (ns.map .int)=true
 | []=>rfl
 |_::ns=>by show(true && _)=true;rw[ZiA ns];rfl
theorem Zed (ns:List Int):(dT ns).canLay0=true:=ZiA ns
theorem Zo1 (e:Int×List Int):(dE e).canLay0=true:=by show(true && ((dT e.2).canLay0 && true))=true;rw[Zed];rfl
theorem Zkp:∀L:List (Int×List Int),PyData.canLayAll0 (L.map dE)=true
 | []=>rfl
 |e::L=>by show((dE e).canLay0 && _)=true;rw[Zo1,Zkp L];rfl
theorem ZgE (L:List (Int×List Int)):(dL L).canLay0=true:=Zkp L
theorem ZiB:∀ns:List Int,PyData.depthAll (ns.map .int)=0
 | []=>rfl
 |_::ns=>by show max 0 _=0;rw[ZiB ns];rfl
theorem ZgF (ns:List Int):(dT ns).depth=1:=by show PyData.depthAll _+1=1;rw[ZiB]
theorem Zo2 (e:Int×List Int):(dE e).depth=2:=by show max 0 (max (dT e.2).depth 0)+1=2;rw[ZgF];rfl
theorem ZfN:∀L:List (Int×List Int),PyData.depthAll (L.map dE)≤2
 | []=>QaV _
 |e::L=>by show max (dE e).depth _≤2;rw[Zo2];have:=ZfN L;omega
theorem Zni (L:List (Int×List Int)):(dL L).depth≤60:=by show PyData.depthAll _+1≤60;have:=ZfN L;omega
def Zbd (H H':Hp):Prop:=∀b ys,H b=some (.tup ys)→H' b=some (.tup ys)
theorem Zbd.refl (H:Hp):Zbd H H:=fun _ _ h=>h
theorem Zbd.trans (a:Zbd H H1)(b:Zbd H1 H2):Zbd H H2:=fun c y h=>b c y (a c y h)
theorem Zbd.new {p:Addr}{o:HO}(a:Zbd H H1)(h:H1 p=none):Zbd H (upd H1 p o):=fun c y e=>by
 have:=a c y e;rw[Zax (Zav this h)];exact this
theorem Zbd.lst {H H1:Hp}{p:Addr}{xs ys:List V}(a:Zbd H H1)(h:H1 p=some (.lst xs)):Zbd H (upd H1 p (.lst ys)):=fun c y e=>by
 have:=a c y e;have hn:c≠p:=fun z=>by rw[z,h] at this;cases this
 rw[Zax hn];exact this
theorem Zak.tups (s:Zak H H'):Zbd H H':=fun b ys e=>s b _ e
def Sh (H:Hp)(x:V)(e:Int×List Int):Prop:=∃p w,x= .ref p∧H p=some (.tup [.int e.1,.ref w])∧H w=some (.tup (e.2.map V.int))
def Wg (H:Hp)(xs:List V)(L:List (Int×List Int)):Prop:=xs.length=L.length∧∀(i:Nat) (x:V) (e:Int×List Int),xs[i]?=some x→L[i]?=some e→Sh H x e
theorem Sh.up {x:V}(h:Sh H x e)(t:Zbd H H'):Sh H' x e:=by
 obtain⟨p,w,rfl,h1,h2⟩:=h;exact⟨p,w,rfl,t _ _ h1,t _ _ h2⟩
theorem Wg.up {H H':Hp}{xs:List V}{L:List (Int×List Int)}(h:Wg H xs L)(t:Zbd H H'):Wg H' xs L:=⟨h.1,fun i x e h1 h2=>(h.2 i x e h1 h2).up t⟩
theorem Wg.nil (H:Hp):Wg H [] []:=⟨rfl,fun i x e h _=>by cases h⟩
theorem Wg.snoc {xs:List V}{x:V}(h:Wg H xs L)(s:Sh H x e):Wg H (xs++ [x]) (L++ [e]):=by
 refine⟨by simp[h.1],fun i y d h1 h2=> ?_⟩;by_cases hi:i<xs.length
 ·rw[QaK hi] at h1;rw[QaK (by rw[←h.1];exact hi)] at h2;exact h.2 i y d h1 h2
 ·have hl:i<(xs++ [x]).length:=(Qaf.mp h1).1;rw[Qae,Qa3] at hl;have e0:i=xs.length:=by omega
  subst e0;rw[QaF (Qal _),QdV] at h1;rw[QaF (by rw[h.1];exact Qal _),h.1,QdV] at h2;cases h1;cases h2;exact s
theorem Wg.get {xs:List V}(h:Wg H xs L)(he:L[i]?=some e):∃x,xs[i]?=some x∧Sh H x e:=by
 have hi:i<xs.length:=by rw[h.1];exact(Qaf.mp he).1
 exact⟨xs[i],Qah hi,h.2 i _ e (Qah hi) he⟩
theorem Wg.at' {xs:List V}{x:V}(h:Wg H xs L)(he:xs[i]?=some x):∃e,L[i]?=some e∧Sh H x e:=by
 have hi:i<L.length:=by rw[←h.1];exact(Qaf.mp he).1
 exact⟨L[i],Qah hi,h.2 i _ _ he (Qah hi)⟩
theorem Wg.pop {xs:List V}(h:Wg H xs L):Wg H xs.dropLast L.dropLast:=by
 refine⟨by rw[QbB,QbB,h.1],fun i x e h1 h2=> ?_⟩;rw[List.getElem?_dropLast] at h1 h2;split at h1
 ·split at h2
  ·exact h.2 i x e h1 h2
  ·cases h2
 ·cases h1
theorem Zdc {K:PySem.W.Frag}{w:Addr}(h:H w=some (.tup (ns.map V.int))):DI K H (.ref w) (dT ns):=by
 refine .tup (SqT.of h) (by simp) fun i x d h1 h2=> ?_;rw[Qaq] at h1 h2
 cases z:ns[i]? with
 |none=>rw[z] at h1;cases h1
 |some n=>
  rw[z] at h1 h2;cases h1;cases h2;exact .int _
theorem Sh.di {K:PySem.W.Frag}{x:V}(h:Sh H x e):DI K H x (dE e):=by
 obtain⟨p,w,rfl,h1,h2⟩:=h;refine .tup (SqT.of h1) rfl fun i y d a b=> ?_;rcases i with _|_|i
 ·cases a;cases b;exact .int _
 ·cases a;cases b;exact Zdc h2
 ·cases a
theorem Wg.di {K:PySem.W.Frag}{H:Hp}{a:Addr}{xs:List V}{L:List (Int×List Int)}(h:Wg H xs L)(ha:SqL K H a xs):DI K H (.ref a) (dL L):=by
 refine .lst ha (by rw[Qac];exact h.1) fun i x d h1 h2=> ?_;rw[Qaq] at h2
 cases z:L[i]? with
 |none=>rw[z] at h2;cases h2
 |some e=>
  rw[z] at h2;cases h2;exact(h.2 i x e h1 z).di
theorem Znj {K:PySem.W.Frag}(ha:SqL K H a []):DI K H (.ref a) (dL []):=.lst ha rfl fun i x d h1 _=>by cases h1
def ZaW (acc:List (Int×List Int))(e:Int×List Int):List (Int×List Int):=
 if 0<e.1 then match acc.getLast? with
  |some l=>if l.2=e.2 then acc.dropLast++ [(e.1+l.1,e.2)] else acc++ [e]
  |none=>acc++ [e]
 else acc
def ZaM (L:List (Int×List Int)):List (Int×List Int):=L.foldl ZaW []
def tot (L:List (Int×List Int)):Int:=(L.map (·.1)).sum
theorem Zaw:tot []=0:=rfl
theorem Zat (e:Int×List Int)(L:List (Int×List Int)):tot (e::L)=e.1+tot L:=by unfold tot;simp
theorem ZaV (L M:List (Int×List Int)):tot (L++M)=tot L+tot M:=by unfold tot;simp
theorem ZaJ {α:Type}{L:List α}{e:α}(h:L[i]?=some e):L.take (i+1)=L.take i++ [e]:=by
 rw[List.take_add_one,h];rfl
theorem Zcq (h:L[i]?=some e):tot (L.take (i+1))=tot (L.take i)+e.1:=by
 rw[ZaJ h,ZaV,Zat,Zaw];omega
theorem ZbE (h:L[i]?=some e):ZaM (L.take (i+1))=ZaW (ZaM (L.take i)) e:=by
 unfold ZaM;rw[ZaJ h,List.foldl_append];rfl
theorem Zcr {α:Type}{L:List α}{l:α}(h:L.getLast?=some l):L=L.dropLast++ [l]:=by
 have hne:L≠ []:=by intro z;rw[z] at h;cases h
 rw[QcO hne] at h;cases h;exact(List.dropLast_concat_getLast hne).symm
theorem Zmf (h:∀e∈L,0<e.1):∀{i j:Nat},i≤j→tot (L.take i)≤tot (L.take j):=by
 intro i j hij
 induction hij with
 |refl=>exact QaX _
 |step _ ih=>
  rename_i m _
  cases z:L[m]? with
  |none=>
   rw[Qba (QaD (Qa7.mp z) (Qc6 m))];rw[Qba (Qa7.mp z)] at ih;exact ih
  |some e=>
   rw[Zcq z]
   have:=h e (Qau z);omega
theorem Zjn (h:∀e∈L,0<e.1)(i:Nat):0≤tot (L.take i):=by
 have:=Zmf h (QaV i);rw[Qa8,Zaw] at this;exact this
theorem ZeG (ns:List Int):∀n,preSum (fun i=>ns.getD i 0) n=(ns.take n).sum
 |0=>rfl
 |n+1=>by
  show preSum _ n+ns.getD n 0=_;rw[ZeG ns n,List.take_add_one,Qam]
  cases ns[n]? with
  |none=>simp
  |some z=>simp
theorem Zmg (hc:X.calm=true):Zc5 X (.builtin "sum") (fun xs H Q=>∃(p:Addr) (ns:List Int),xs=[.ref p]∧SqL X.K H p (ns.map V.int)∧Q (.int ns.sum) H):=by
 intro qa s σ H xs us Q I r h;obtain⟨p,ns,rfl,hq,q⟩:=h;obtain⟨u,rfl,rx⟩:=Ze7 r;cases rx;obtain⟨its,rv,pl,hz⟩:=I.list hq
 have hlt:p<s.heap.objs.size:=by
  obtain⟨o,e,_⟩:=pl.isList;exact Qap e
 have hlen:its.length=ns.length:=by have:=rv.length;rw[Qac] at this;exact this.symm
 refine call_sum_walkAnyS (Qcz pl.isList ?_);refine⟨_,_,_,_,_,_,_,fun i=>ns.getD i 0,rfl,(Walks.list (A:=X.A.in1) (I.ok.hd hc) s.heap.objs.size p (QaL hlt) its.toArray).toS,?_,?_,?_,fun s' t' hm=> ?_⟩
 ·exact⟨⟨_,Qax _ rfl,rfl,rfl⟩,(let⟨o,e,c⟩:=pl.isList;⟨o,Qag _ e,c⟩)⟩
 ·intro b hb;simp at hb;rcases hb with rfl|rfl
  ·simp[Qa6]
  ·rw[Qa6];exact QbL hlt
 ·intro i v hP;have hv:its[i]?=some v:=by simpa using hP
  have hil:i<ns.length:=by rw[←hlen];exact(Qaf.mp hv).1
  obtain⟨u,e,ru⟩:=rv.get (x:=V.int (ns.getD i 0)) (i:=i) (by rw[Qaq,Qah hil,Qam,Qah hil];rfl);rw[hv] at e;cases e;exact ru
 ·have e:preSum (fun i=>ns.getD i 0) its.toArray.size=ns.sum:=by
   rw[Qat,hlen,ZeG,QaO]
  rw[e];obtain⟨hk,hg,hd,ho,ht⟩:=hm;refine⟨.int _,H,?_,⟨t',rfl⟩,q⟩
  have es:s'={s with heap:=s'.heap,toks:=s'.toks }:=by
   cases s';simp_all
  rw[es];exact I.kept fun b o eb=>hk b o (by simp;exact QaL (Qap eb)) (Qag _ eb)
def Zcd:List (Int×List Int)→Prop
 | []=>True
 | [e]=>0<e.1
 |e::d::r=>0<e.1∧e.2≠d.2∧Zcd (d::r)
theorem Zcd.snoc:∀{L:List (Int×List Int)} {e:Int×List Int},Zcd L→0<e.1→(∀l,L.getLast?=some l→l.2≠e.2)→Zcd (L++ [e])
 | [],e,_,h,_=>h
 | [d],e,hd,h,k=>⟨hd,k d rfl,h⟩
 |d::d'::r,e,hd,h,k=>by
  refine⟨hd.1,hd.2.1,?_⟩;exact Zcd.snoc (L:=d'::r) hd.2.2 h fun l hl=>k l (by rw[QdD];exact hl)
theorem Zcd.init:∀{L:List (Int×List Int)} {e:Int×List Int},Zcd (L++ [e])→Zcd L∧0<e.1∧∀l,L.getLast?=some l→l.2≠e.2
 | [],e,h=>⟨trivial,h,fun l z=>by cases z⟩
 | [d],e,h=>⟨h.1,h.2.2,fun l z=>by cases z;exact h.2.1⟩
 |d::d'::r,e,h=>by
  obtain⟨a,b,c⟩:=Zcd.init (L:=d'::r) h.2.2;exact⟨⟨h.1,h.2.1,a⟩,b,fun l z=>c l (by rw[QdD] at z;exact z)⟩
theorem Zcd.pos:∀{L:List (Int×List Int)},Zcd L→∀e∈L,0<e.1
 | [],_,e,h=>by cases h
 | [d],hd,e,h=>by rw[Qan] at h;subst h;exact hd
 |d::d'::r,hd,e,h=>by
  rcases Qas.mp h with z|z
  ·subst z;exact hd.1
  ·exact Zcd.pos (L:=d'::r) hd.2.2 e z
theorem ZhA (h:Zcd acc):Zcd (ZaW acc e):=by
 unfold ZaW;split
 ·rename_i hp;split
  ·rename_i l hl;have e0:=Zcr hl;split
   ·rename_i he;rw[e0] at h;obtain⟨a,b,c⟩:=h.init;refine a.snoc (by show 0<e.1+l.1;omega) fun d hd=> ?_
    have:=c d hd;rw[he] at this;exact this
   ·rename_i he;exact h.snoc hp fun d hd=>by rw[hl] at hd;cases hd;exact he
  ·rename_i hl;exact h.snoc hp fun d hd=>by rw[hl] at hd;cases hd
 ·exact h
theorem ZbF (L:List (Int×List Int)):Zcd (ZaM L):=by
 have key:∀(L acc:List (Int×List Int)),Zcd acc→Zcd (L.foldl ZaW acc):=by
  intro L
  induction L with
  |nil=>intro acc h;exact h
  |cons e L ih=>intro acc h;rw[QbA];exact ih _ (ZhA h)
 exact key L [] trivial
theorem ZfO (h:Zcd L):ZaM L=L:=by
 have key:∀n,n≤L.length→ZaM (L.take n)=L.take n∧Zcd (L.take n):=by
  have dec:∀m,m≤L.length→Zcd (L.take (L.length-m)):=by
   intro m
   induction m with
   |zero=>intro _;rw[QdW,QaO];exact h
   |succ m ih=>
    intro hm;have h1:=ih (by omega);have e:L.length-m=(L.length-(m+1))+1:=by omega
    rw[e,ZaJ (Qah (by omega:L.length-(m+1)<L.length))] at h1;exact h1.init.1
  intro n hn;have nm:Zcd (L.take n):=by have:=dec (L.length-n) (by omega);rwa [show L.length-(L.length-n)=n by omega] at this
  refine⟨?_,nm⟩
  induction n with
  |zero=>rfl
  |succ n ih=>
   have hlt:n<L.length:=by omega
   have e1:=Qah hlt;have nm2:=nm;rw[ZaJ e1] at nm2;obtain⟨a,b,c⟩:=nm2.init;rw[ZbE e1,ih (by omega) a,ZaJ e1];unfold ZaW;rw[if_pos b]
   cases hl:(L.take n).getLast? with
   |none=>rfl
   |some l=>dsimp only;rw[if_neg (c l hl)]
 have:=(key L.length (Qal _)).1;rw[QaO] at this;exact this
theorem Zjo (h:0≤e.1):tot (ZaW acc e)=tot acc+e.1:=by
 have snoc:tot (acc++ [e])=tot acc+e.1:=by rw[ZaV,Zat,Zaw];omega
 unfold ZaW;split
 ·split
  ·rename_i l hl;split
   ·have e0:=Zcr hl
    have:tot acc=tot acc.dropLast+l.1:=by rw[e0,ZaV,Zat,Zaw];simp
    rw[ZaV,Zat,Zaw,this];show tot acc.dropLast+(e.1+l.1+0)=_;omega
   ·exact snoc
  ·exact snoc
 ·rename_i hn
  have:e.1=0:=by omega
  omega
theorem Zkq (h:∀e∈L,0≤e.1):tot (ZaM L)=tot L:=by
 have key:∀(L acc:List (Int×List Int)),(∀e∈L,0≤e.1)→tot (L.foldl ZaW acc)=tot acc+tot L:=by
  intro L
  induction L with
  |nil=>intro acc _;rw[Zaw];simp
  |cons e L ih=>
   intro acc h;rw[QbA,ih _ fun d hd=>h d (Qab _ hd),Zjo (h e Qad),Zat];omega
 have:=key L [] h;rw[Zaw] at this;unfold ZaM;omega
theorem ZcL {α:Type}{L:List α}{l v:α}(h:L.getLast?=some l):L.set (L.length-1) v=L.dropLast++ [v]:=by
 have e:=Zcr h;have hl:L.length-1=L.dropLast.length:=by rw[QbB]
 rw[hl]
 conv=>lhs;rw[e]
 rw[List.dropLast_concat,List.set_append_right _ _ (Qal _),QdV];rfl
theorem ZbC.rev {xs:List V}{us:List Value}(r:ZbC xs us):ZbC xs.reverse us.reverse:=by
 induction r with
 |nil=>exact .nil
 |cons a b ih=>rw[Qdw,Qdw];exact ih.append (.cons a .nil)
def ZqN (K:PySem.W.Frag)(te:TE)(tk:TO):TE:=fun σ H Q=>te σ H fun x H1=>tk σ H1 fun k H2=>k=some (-1)∧∃a xs,x= .ref a∧SqL K H2 a xs∧∀p,H2 p=none→Q (.ref p) (upd H2 p (.lst xs.reverse))
theorem Zo3 {e:Expr}{st:Option Expr}{tk:TO}{pos:PySem.Pos}(he:PE X e te)(hk:PO X st tk)(hsub:∀a b:Addr,subscripted (.Slice none none st p2) false (.ref a) (.ref b)=operate [.ref a,.ref b] (getItem (.ref a) (.ref b)):=by intro _ _;with_unfolding_all rfl):PE X (.Subscript e (.Slice none none st p2) pos) (ZqN X.K te tk):=by
 intro qa s σ H Q I h;refine Qel (thn (he qa s σ H _ I h) fun v s1 ⟨x,H1,I1,r1,q1⟩=> ?_);refine wpAny_Slice ?_;rw[Qei];refine Qaj (Qaj (thn (hk qa s1 σ H1 _ I1 q1) fun vk s3 ⟨k,H3,I3,pk,q3⟩=> ?_));obtain⟨rfl,a,xs,rfl,hx,q⟩:=q3;cases r1;have I4:Inv X qa σ H3 {s3 with heap:=s3.heap.push {cls:=.type "slice",data:=.fields #[.none,.none,vk] } }:=I3.kept (t':=s3.toks) fun b ob z=>Qag _ z;obtain⟨its,r,ht,hz⟩:=I4.list hx;have hlen:=r.length;show wpAny (model X.prog X.w) X.A (subscriptTail e (.Slice none none st p2) (.ref a) (.ref s3.heap.objs.size)) (EP X qa σ Q) X.xe {s3 with heap:=s3.heap.push {cls:=.type "slice",data:=.fields #[.none,.none,vk] } };refine tail_any (ops:=[.ref a,.ref s3.heap.objs.size]) ht.isList.typeIs slot_list_getitem.lookup ?_ (hsub _ _);refine Qdu ht.isList (Heap.IsSliceOf.new ..) .none .none pk (by simp) ?_ (by rw[Qat]<;>omega);rw[PySem.W.krv_pick];refine⟨.ref _,_,I4.laid (t':=s3.toks) (o:=.lst xs.reverse) (fun b ob z=>Qag _ z) (Qal _) ?_,rfl,q _ (I4.hok.fresh (Qal _))⟩;exact⟨by rw[Qb2];exact hz,its.reverse,0,ZbC.rev r,Qax _ rfl⟩
abbrev WL:=List (Int×List Int)
def mn (i j:Int):Int:=if j<i then j else i
def mx (i j:Int):Int:=if j>i then j else i
theorem ZfP (i j:Int):mn i j≤i∧mn i j≤j∧(mn i j=i∨mn i j=j):=by unfold mn;split<;>omega
theorem Zo4 (i j:Int):i≤mx i j∧j≤mx i j∧(mx i j=i∨mx i j=j):=by unfold mx;split<;>omega
def Zcy (b e o m:Int)(w:List Int):WL:=if o<e∧b<o+m then [(mn (o+m) e-mx o b,w)] else []
def Zcz (b e:Int):Int→WL→WL
 |_,[]=>[]
 |o,x::r=>Zcy b e o x.1 x.2++Zcz b e (o+x.1) r
def Zbw:Int→WL→WL
 |_,[]=>[]
 |rm,x::r=>(if 0<rm then [(mn x.1 rm,x.2)] else [])++Zbw (rm-mn x.1 rm) r
def Zbp:Int→WL→WL
 |_,[]=>[]
 |a,x::r=>if a≤0 then x::r else if a<x.1 then(x.1-a,x.2)::r else Zbp (a-x.1) r
def Pos (L:WL):Prop:=∀e∈L,0<e.1
theorem Pos.tail {x:Int×List Int}{r:WL}(h:Pos (x::r)):0<x.1∧Pos r:=⟨h x Qad,fun e he=>h e (Qab _ he)⟩
theorem ZgG (b e:Int):∀(M:WL) (o:Int) (x:Int×List Int),Zcz b e o (M++ [x])=Zcz b e o M++Zcy b e (o+tot M) x.1 x.2
 | [],o,x=>by
  show Zcy b e o x.1 x.2++ []=[]++Zcy b e (o+tot []) x.1 x.2;rw[Zaw,Qbe,Qbo,Qcd]
 |y::M,o,x=>by
  show Zcy b e o y.1 y.2++Zcz b e (o+y.1) (M++ [x])=(Zcy b e o y.1 y.2++Zcz b e (o+y.1) M)++Zcy b e (o+tot (y::M)) x.1 x.2;rw[ZgG b e M (o+y.1) x,Zat,Qa2,Int.add_assoc]
theorem Zkr (b e o m:Int)(w:List Int):(Zcy b e o m w).length≤1:=by unfold Zcy;split<;>simp
theorem ZcY (b e:Int):∀(L:WL) (o:Int),(Zcz b e o L).length≤L.length
 | [],_=>Qal _
 |x::r,o=>by
  show(Zcy b e o x.1 x.2++Zcz b e (o+x.1) r).length≤r.length+1;rw[Qae]
  have:=Zkr b e o x.1 x.2
  have:=ZcY b e r (o+x.1);omega
theorem ZbU:∀{R:WL} {rm:Int},Pos R→rm≤0→Zbw rm R=[]
 | [],_,_,_=>rfl
 |x::r,rm,h,h0=>by
  obtain⟨hx,hr⟩:=h.tail;show(if 0<rm then [(mn x.1 rm,x.2)] else [])++Zbw (rm-mn x.1 rm) r=[];rw[if_neg (by omega),Qcd]
  have:=ZfP x.1 rm;exact ZbU hr (by omega)
theorem ZeH {b e:Int}:∀{R:WL} {o:Int},Pos R→b≤o→Zcz b e o R=Zbw (e-o) R
 | [],_,_,_=>rfl
 |x::r,o,h,hb=>by
  obtain⟨hx,hr⟩:=h.tail;show Zcy b e o x.1 x.2++Zcz b e (o+x.1) r=(if 0<e-o then [(mn x.1 (e-o),x.2)] else [])++Zbw (e-o-mn x.1 (e-o)) r;rw[ZeH hr (by omega)];unfold Zcy mn mx;by_cases h1:o<e
  ·rw[if_pos (show o<e∧b<o+x.1 from⟨h1,by omega⟩),if_pos (show 0<e-o by omega),if_neg (show ¬b>o by omega)];by_cases h2:e<o+x.1
   ·rw[if_pos h2,if_pos (show e-o<x.1 by omega),ZbU hr (by omega),ZbU hr (by omega)]
   ·rw[if_neg h2,if_neg (show ¬e-o<x.1 by omega)];rw[show o+x.1-o=x.1 by omega,show e-(o+x.1)=e-o-x.1 by omega]
  ·rw[if_neg (show ¬(o<e∧b<o+x.1) by omega),if_neg (show ¬0<e-o by omega),if_pos (show e-o<x.1 by omega),ZbU hr (by omega),ZbU hr (by omega)]
def Zks (e:Int×List Int):Bool:=decide (0<e.1)
theorem ZeI:∀{R:WL} {rm:Int},Pos R→Pos (Zbw rm R)
 | [],_,_=>fun e he=>by cases he
 |x::r,rm,h=>by
  obtain⟨hx,hr⟩:=h.tail;intro e he;have he:e∈(if 0<rm then [(mn x.1 rm,x.2)] else [])++Zbw (rm-mn x.1 rm) r:=he;rcases Qaz.mp he with z|z
  ·split at z
   ·rw[Qan] at z;subst z
    have:=ZfP x.1 rm;show 0<mn x.1 rm;omega
   ·cases z
  ·exact ZeI hr e z
theorem Zfn {L:WL}(h:Pos L):L.filter Zks=L:=List.filter_eq_self.mpr fun e he=>Qar (h e he)
theorem ZgH {b e:Int}(hbe:b≤e):∀{R:WL} {o:Int},Pos R→o≤b→(Zcz b e o R).filter Zks=Zbw (e-b) (Zbp (b-o) R)
 | [],_,_,_=>rfl
 |x::r,o,h,hb=>by
  obtain⟨hx,hr⟩:=h.tail;by_cases h0:o=b
  ·subst h0;rw[ZeH h (QaX _),Zfn (ZeI h)];show _=Zbw (e-o) (if o-o≤0 then x::r else _);rw[if_pos (by omega)]
  ·show(Zcy b e o x.1 x.2++Zcz b e (o+x.1) r).filter Zks=Zbw (e-b) (if b-o≤0 then x::r else if b-o<x.1 then(x.1-(b-o),x.2)::r else Zbp (b-o-x.1) r);rw[if_neg (by omega)];by_cases h1:b-o<x.1
   ·rw[if_pos h1,Qcw,ZeH hr (by omega),Zfn (ZeI hr)];show _=(if 0<e-b then [(mn (x.1-(b-o)) (e-b),x.2)] else [])++Zbw (e-b-mn (x.1-(b-o)) (e-b)) r;unfold Zcy mn mx;rw[if_pos (show o<e∧b<o+x.1 from⟨by omega,by omega⟩),if_pos (show b>o by omega)];by_cases h2:b<e
    ·rw[if_pos (show 0<e-b by omega)];by_cases h3:e<o+x.1
     ·rw[if_pos h3,if_pos (show e-b<x.1-(b-o) by omega),ZbU hr (by omega),ZbU hr (by omega)];rw[Qcx (by unfold Zks;exact Qar (by show 0<e-b;omega))];rfl
     ·rw[if_neg h3,if_neg (show ¬e-b<x.1-(b-o) by omega)];rw[Qcx (by unfold Zks;exact Qar (by show 0<o+x.1-b;omega))];rw[show o+x.1-b=x.1-(b-o) by omega,show e-(o+x.1)=e-b-(x.1-(b-o)) by omega];rfl
    ·rw[if_neg (show ¬0<e-b by omega),if_pos (show e<o+x.1 by omega),if_pos (show e-b<x.1-(b-o) by omega),ZbU hr (by omega),ZbU hr (by omega)];rw[QdE (by unfold Zks;simp;omega)];rfl
   ·rw[if_neg h1];have hp:Zcy b e o x.1 x.2=[]:=by unfold Zcy;rw[if_neg (by omega)]
    rw[hp,Qcd,ZgH hbe hr (by omega),show b-(o+x.1)=b-o-x.1 by omega]
theorem ZgI (L:WL):ZaM (L.filter Zks)=ZaM L:=by
 have key:∀(L acc:WL),(L.filter Zks).foldl ZaW acc=L.foldl ZaW acc:=by
  intro L
  induction L with
  |nil=>intro acc;rfl
  |cons x L ih=>
   intro acc;by_cases h:0<x.1
   ·rw[Qcx (p:=Zks) (Qar h),QbA,QbA,ih]
   ·rw[QdE (p:=Zks) (by unfold Zks;simpa using h),QbA,ih]
    have:ZaW acc x=acc:=by unfold ZaW;rw[if_neg h]
    rw[this]
 exact key L []
theorem Zcd.tl {x:Int×List Int}{r:WL}(h:Zcd (x::r)):0<x.1∧Zcd r∧∀y r',r=y::r'→x.2≠y.2:=by
 cases r with
 |nil=>exact⟨h,trivial,fun y r' z=>by cases z⟩
 |cons y r=>exact⟨h.1,h.2.2,fun z r' e=>by cases e;exact h.2.1⟩
theorem Zcd.mk {x:Int×List Int}{r:WL}(h0:0<x.1)(h1:Zcd r)(h2:∀y r',r=y::r'→x.2≠y.2):Zcd (x::r):=by
 cases r with
 |nil=>exact h0
 |cons y r=>exact⟨h0,h2 y r rfl,h1⟩
theorem Zb6:∀{L:WL} {a:Int},Zcd L→Zcd (Zbp a L)
 | [],_,_=>trivial
 |x::r,a,h=>by
  show Zcd (if a≤0 then x::r else if a<x.1 then(x.1-a,x.2)::r else Zbp (a-x.1) r);obtain⟨h0,h1,h2⟩:=h.tl;split
  ·exact h
  ·split
   ·exact Zcd.mk (by show 0<x.1-a;omega) h1 h2
   ·exact Zb6 h1
theorem Zjp {R:WL}{rm:Int}{y:Int×List Int}{t:WL}(hp:Pos R)(h:Zbw rm R=y::t):∃x r,R=x::r∧x.2=y.2:=by
 cases R with
 |nil=>cases h
 |cons x r=>
  obtain⟨hx,hr⟩:=hp.tail;refine⟨x,r,rfl,?_⟩;have h:(if 0<rm then [(mn x.1 rm,x.2)] else [])++Zbw (rm-mn x.1 rm) r=y::t:=h;by_cases h0:0<rm
  ·rw[if_pos h0] at h;cases h;rfl
  ·have:=ZfP x.1 rm;rw[if_neg h0,Qcd,ZbU hr (by omega)] at h;cases h
theorem ZcR:∀{R:WL} {rm:Int},Zcd R→Zcd (Zbw rm R)
 | [],_,_=>trivial
 |x::r,rm,h=>by
  obtain⟨h0,h1,h2⟩:=h.tl;have hp:Pos r:=h1.pos;show Zcd ((if 0<rm then [(mn x.1 rm,x.2)] else [])++Zbw (rm-mn x.1 rm) r);by_cases h3:0<rm
  ·rw[if_pos h3]
   have:=ZfP x.1 rm;refine Zcd.mk (x:=(mn x.1 rm,x.2)) (r:=Zbw (rm-mn x.1 rm) r) (by show 0<mn x.1 rm;omega) (ZcR h1) fun y t e=> ?_;obtain⟨x',r',e1,e2⟩:=Zjp hp e
   have:=h2 x' r' e1;rw[e2] at this;exact this
  ·rw[if_neg h3];exact ZcR h1
theorem ZfQ {L:WL}{b e:Int}(h:Zcd L)(h0:0≤b)(hbe:b≤e):ZaM (Zcz b e 0 L)=Zbw (e-b) (Zbp b L):=by
 rw[←ZgI,ZgH hbe h.pos h0,Qce];exact ZfO (ZcR (Zb6 h))
theorem ZgJ:∀{L:WL},Pos L→Zbw (tot L) L=L
 | [],_=>rfl
 |x::r,h=>by
  obtain⟨hx,hr⟩:=h.tail;have ht:0≤tot r:=by have:=Zjn hr r.length;rw[QaO] at this;exact this
  show(if 0<tot (x::r) then [(mn x.1 (tot (x::r)),x.2)] else [])++Zbw (tot (x::r)-mn x.1 (tot (x::r))) r=x::r;rw[Zat];unfold mn;rw[if_pos (by omega),if_neg (by omega),show x.1+tot r-x.1=tot r by omega,ZgJ hr];rfl
theorem Zkt {b e:Int}(hbe:b≤e):∀{L:WL} {o:Int},Pos L→∀d∈Zcz b e o L,0≤d.1
 | [],_,_,d,hd=>by cases hd
 |x::r,o,h,d,hd=>by
  obtain⟨hx,hr⟩:=h.tail;have hd:d∈Zcy b e o x.1 x.2++Zcz b e (o+x.1) r:=hd;rcases Qaz.mp hd with z|z
  ·unfold Zcy at z;split at z
   ·rename_i hc;rw[Qan] at z;subst z
    have:=ZfP (o+x.1) e
    have:=Zo4 o b;show 0≤mn (o+x.1) e-mx o b;omega
   ·cases z
  ·exact Zkt hbe hr d z
theorem ZfR {p:List Int→Prop}{b e:Int}:∀{L:WL} {o:Int},(∀d∈L,p d.2)→∀d∈Zcz b e o L,p d.2
 | [],_,_,d,hd=>by cases hd
 |x::r,o,h,d,hd=>by
  have hd:d∈Zcy b e o x.1 x.2++Zcz b e (o+x.1) r:=hd;rcases Qaz.mp hd with z|z
  ·unfold Zcy at z;split at z
   ·rw[Qan] at z;subst z;exact h x Qad
   ·cases z
  ·exact ZfR (fun d hd=>h d (Qab _ hd)) d z
def isInt:PyData→Bool
 | .int _| .bool _=>true
 |_=>false
section
variable {t:TA}
theorem Zas {c:Const}(ha:PE X (.Constant c j p) te)(hr:PA X es t):PA X (.Constant c j p::es) (Zaa te t):=ZaQ ha hr rfl
theorem Zab (ha:PE X (.Name x p) te)(hr:PA X es t):PA X (.Name x p::es) (Zaa te t):=ZaQ ha hr rfl
theorem ZbG {k:Nat}(ha:PE X (.Tuple l k p) te)(hr:PA X es t):PA X (.Tuple l k p::es) (Zaa te t):=ZaQ ha hr rfl
theorem ZnP (ha:PE X (.List l p) te)(hr:PA X es t):PA X (.List l p::es) (Zaa te t):=ZaQ ha hr rfl
theorem Zjq {o:UnaryOp}{e:Expr}(ha:PE X (.UnaryOp o e p) te)(hr:PA X es t):PA X (.UnaryOp o e p::es) (Zaa te t):=ZaQ ha hr rfl
theorem ZaL {a:Expr}{o:Operator}(ha:PE X (.BinOp a o b p) te)(hr:PA X es t):PA X (.BinOp a o b p::es) (Zaa te t):=ZaQ ha hr rfl
theorem Zaz {a:Expr}(ha:PE X (.Subscript a b p) te)(hr:PA X es t):PA X (.Subscript a b p::es) (Zaa te t):=ZaQ ha hr rfl
theorem Zbe {f:Expr}{kw:List Keyword}(ha:PE X (.Call f l kw p) te)(hr:PA X es t):PA X (.Call f l kw p::es) (Zaa te t):=ZaQ ha hr rfl
end
theorem Zdd {e2:Expr}{t:TA}(h1:PE X e1 t1)(h2:PE X e2 t2)(hr:PA X es t)(s1:∀l,starEach (e1::l) X.env=(false,eval e1 X.env)::starEach l X.env:=by intro _;rfl)(s2:∀l,starEach (e2::l) X.env=(false,eval e2 X.env)::starEach l X.env:=by intro _;rfl):PA X (e1::e2::es) (Zaa t1 (Zaa t2 t)):=(ZaQ h1 (ZaQ h2 hr (s2 _)) (s1 _))
theorem Zei {e2:Expr}{t:TA}(h1:PE X e1 t1)(h2:PE X e2 t2)(h3:PE X e3 t3)(hr:PA X es t)(s1:∀l,starEach (e1::l) X.env=(false,eval e1 X.env)::starEach l X.env:=by intro _;rfl)(s2:∀l,starEach (e2::l) X.env=(false,eval e2 X.env)::starEach l X.env:=by intro _;rfl)(s3:∀l,starEach (e3::l) X.env=(false,eval e3 X.env)::starEach l X.env:=by intro _;rfl):PA X (e1::e2::e3::es) (Zaa t1 (Zaa t2 (Zaa t3 t))):=(ZaQ h1 (ZaQ h2 (ZaQ h3 hr (s3 _)) (s2 _)) (s1 _))
theorem Zdx {e2 e4:Expr}{t4:TE}{t:TA}(h1:PE X e1 t1)(h2:PE X e2 t2)(h3:PE X e3 t3)(h4:PE X e4 t4)(hr:PA X es t)(s1:∀l,starEach (e1::l) X.env=(false,eval e1 X.env)::starEach l X.env:=by intro _;rfl)(s2:∀l,starEach (e2::l) X.env=(false,eval e2 X.env)::starEach l X.env:=by intro _;rfl)(s3:∀l,starEach (e3::l) X.env=(false,eval e3 X.env)::starEach l X.env:=by intro _;rfl)(s4:∀l,starEach (e4::l) X.env=(false,eval e4 X.env)::starEach l X.env:=by intro _;rfl):PA X (e1::e2::e3::e4::es) (Zaa t1 (Zaa t2 (Zaa t3 (Zaa t4 t)))):=(ZaQ h1 (ZaQ h2 (ZaQ h3 (ZaQ h4 hr (s4 _)) (s3 _)) (s2 _)) (s1 _))
theorem ZdS {a:Expr}{t:Option Expr}{l:Nat}:swapsWith (.Subscript a b p) t l env=pure false:=rfl
theorem Inv.turnedNew {p:Addr}{xs:List V}(I:Inv X qa σ H s)(k:∀b o,b∉ch→s.heap.get? b=some o→h'.get? b=some o)(hf:∀b∈ch,Zl9 X qa H b)(hp:s.heap.objs.size≤p)
  (new:ZbN X.prog X.w (upd H p (.tup xs)) h' p (.tup xs)):Inv X qa σ (upd H p (.tup xs)) {s with heap:=h',toks:=t' }:=by
 have hn:H p=none:=I.hok.fresh hp;have nit:∀b u,H b=some u→b∉ch:=fun b u e z=>by rw[(hf b z).1] at e;cases e
 have nL:X.env.locals∉ch:=fun z=>(hf _ z).2.1 rfl
 refine I.step (g':=s.gens) (d':=s.drawn) (ch:=ch) (fun b hb=> ?_) (fun b o _ _ hc e _=>k b o hc e) (fun b o _ _ hc e _=>⟨o.slots,k b o hc e⟩) (fun b o _ e n=> ?_)
  (fun b o hc e=>⟨o,k b o hc e⟩) (fun b xs e=> ?_) (fun b o u e=> ?_) (fun b ps e=>⟨#[],?_⟩) (fun m hm=> ?_) (fun b u e=> ?_) I.bare
 ·obtain⟨f0,f1,f2,f3,f4,f5⟩:=hf b hb;exact⟨f3,f1,f4,f5⟩
 ·rw[Zax (fun z=>by rw[z] at e;exact absurd (QaC (Qap e) hp) (Qbp _))];exact n
 ·rw[Zax (Zav e hn)];exact e
 ·rw[Zax (Zav e hn)];exact e
 ·rw[Zax (Zav e hn),e];simp
 ·obtain⟨o,es,ep,ho,r⟩:=hm;exact⟨o,es,ep,k _ o nL ho,r⟩
 ·by_cases hb:b=p
  ·subst hb;rw[Zad] at e;cases e;exact new
  ·rw[Zax hb] at e;refine(I.hok b u e).stay (fun c v hc q=>k c v ?_ q) (fun c q=>by rw[Zax (Zav q hn)];exact q) fun c xs q=>by rw[Zax (Zav q hn)];exact q
   rcases hc with z|z
   ·rw[z];exact nit b u e
   ·exact nit c _ z
theorem Inv.turnedL (I:Inv X qa σ H s)(k:∀b o,b∉ch→s.heap.get? b=some o→h'.get? b=some o)(hf:∀b∈ch,Zl9 X qa H b):Inv X qa σ H {s with heap:=h',toks:=t' }:=by
 have nit:∀b u,H b=some u→b∉ch:=fun b u e z=>by rw[(hf b z).1] at e;cases e
 have nL:X.env.locals∉ch:=fun z=>(hf _ z).2.1 rfl
 refine I.step (g':=s.gens) (d':=s.drawn) (ch:=ch) (fun b hb=> ?_) (fun b o _ _ hc e _=>k b o hc e) (fun b o _ _ hc e _=>⟨o.slots,k b o hc e⟩) (fun b o _ e n=>n)
  (fun b o hc e=>⟨o,k b o hc e⟩) (fun b xs e=>e) (fun b o u e=>e) (fun b ps e=>⟨#[],by rw[e];simp⟩) (fun m hm=> ?_) (fun b u e=> ?_) I.bare
 ·obtain⟨f0,f1,f2,f3,f4,f5⟩:=hf b hb;exact⟨f3,f1,f4,f5⟩
 ·obtain⟨o,es,ep,ho,r⟩:=hm;exact⟨o,es,ep,k _ o nL ho,r⟩
 ·refine(I.hok b u e).stay (fun c v hc q=>k c v ?_ q) (fun _ q=>q) fun _ _ q=>q;rcases hc with z|z
  ·rw[z];exact nit b u e
  ·exact nit c _ z
def Itz (K:PySem.W.Frag)(a b:Addr):It:=
 ⟨fun i H=>∃xs ys x y,SqL K H a xs∧SqL K H b ys∧xs[i]?=some x∧ys[i]?=some y,
  fun i H v H'=>∃p x y,v= .ref p∧H p=none∧H'=upd H p (.tup [x,y])∧(∀xs,SqL K H a xs→xs[i]?=some x)∧(∀ys,SqL K H b ys→ys[i]?=some y),
  fun i H=>∃xs ys,SqL K H a xs∧SqL K H b ys∧(xs[i]?=none∨ys[i]?=none)⟩
def Zp5 (z TI TO i1 i2 a b:Addr)(i:Nat)(h:Heap):Prop:=IsZip h z TI TO .none∧IsPair h TI (.ref i1) (.ref i2)∧(∃u v,IsPair h TO u v)∧h.IsListIter i1 a i∧h.IsListIter i2 b i
theorem Zmh {K:PySem.W.Frag}{k:Nat}{pos:PySem.Pos}(a b z TI TO i1 i2:Addr)(D:ZipApart z TI TO i1 i2 a b):ZoC P w K (.Tuple es k pos) (Itz K a b) [z,TI,TO,i1,i2] z (Zp5 z TI TO i1 i2 a b) where
 mem:=by simp
 obj:=fun i h st c hc=>by
  obtain⟨hz,hTI,⟨u,v,hTO⟩,⟨o1,e1,c1,d1⟩,⟨o2,e2,c2,d2⟩⟩:=st;simp only[Qas,QaZ,Qca] at hc;rcases hc with rfl|rfl|rfl|rfl|rfl
  ·exact⟨_,hz,fun v q=>by cases q⟩
  ·exact⟨_,hTI,fun v q=>by cases q⟩
  ·exact⟨_,hTO,fun v q=>by cases q⟩
  ·exact⟨o1,e1,fun v q=>by rw[d1] at q;cases q⟩
  ·exact⟨o2,e2,fun v q=>by rw[d2] at q;cases q⟩
 keep:=fun i h h' st q=>by
  obtain⟨hz,hTI,⟨u,v,hTO⟩,l1,l2⟩:=st;exact⟨q _ (by simp) _ hz,q _ (by simp) _ hTI,⟨u,v,q _ (by simp) _ hTO⟩,l1.at fun o e=>q _ (by simp) o e,l2.at fun o e=>q _ (by simp) o e⟩
 item:=by
  intro X hP hw hK hc i qa s σ H E I hf st hg;subst hP hw hK;obtain⟨xs,ys,x,y,hq1,hq2,hx,hy⟩:=hg;obtain⟨hz,hTI,⟨u,v,hTO⟩,l1,l2⟩:=st;obtain⟨its1,rv1,p1,_⟩:=I.list hq1;obtain⟨its2,rv2,p2,_⟩:=I.list hq2;obtain⟨ux,hux,rux⟩:=rv1.get hx;obtain⟨uy,huy,ruy⟩:=rv2.get hy;refine wpAny_pyNext_zip_item D hz hTI hTO l1 l2 p1.isList p2.isList (x:=ux) (y:=uy) (by simpa using hux) (by simpa using huy) fun h' z1 TO1 j1 j2 T1 sz kp=> ?_;refine⟨_,rfl,Qdq z1 fun h2 z2 sb=> ?_⟩;have hzlt:z<s.heap.objs.size:=Qap hz;have hpz:s.heap.objs.size≠z:=Qbj hzlt;have T2:IsPair h2 s.heap.objs.size ux uy:=sb.extBut _ _ hpz T1
  have kp2:∀c o,c∉ [z,TI,TO,i1,i2]→s.heap.get? c=some o→h2.get? c=some o:=fun c o hc e=>by
   simp only[Qas,QaZ,Qca,not_or] at hc;exact sb.extBut _ _ hc.1 (kp c o hc.1 hc.2.2.1 hc.2.2.2.1 hc.2.2.2.2 e)
  have I2:Inv X qa σ (upd H s.heap.objs.size (.tup [x,y])) {s with heap:=h2,toks:=s.toks }:=I.turnedNew kp2 hf (Qal _) ⟨by show 2≤sizeLine;decide,[ux,uy],.cons rux (.cons ruy .nil),⟨_,T2,rfl,_,rfl⟩⟩;refine⟨.ref s.heap.objs.size,_,I2,rfl,⟨_,x,y,rfl,I.hok.fresh (Qal _),rfl,fun xs' h=> ?_,fun ys' h=> ?_⟩,⟨z2,?_,⟨ux,uy,?_⟩,?_,?_⟩,fun c hc=> ?_⟩
  ·rw[I.list_inj h hq1];exact hx
  ·rw[I.list_inj h hq2];exact hy
  ·exact sb.extBut _ _ D.TIz (kp _ _ D.TIz D.TITO D.TIi1 D.TIi2 hTI)
  ·exact sb.extBut _ _ D.TOz TO1
  ·exact j1.at fun o e=>sb.extBut _ _ D.i1z e
  ·exact j2.at fun o e=>sb.extBut _ _ D.i2z e
  ·have hlt:c<s.heap.objs.size:=by
    simp only[Qas,QaZ,Qca] at hc;rcases hc with rfl|rfl|rfl|rfl|rfl
    ·exact hzlt
    ·exact Qap hTI
    ·exact Qap hTO
    ·obtain⟨_,e,_⟩:=l1;exact Qap e
    ·obtain⟨_,e,_⟩:=l2;exact Qap e
   rw[Zax (QaL hlt)];exact(hf c hc).1
 done:=by
  intro X hP hw hK hc i qa s σ H E I hf st hg;subst hP hw hK;obtain⟨xs,ys,hq1,hq2,hend⟩:=hg;obtain⟨hz,hTI,⟨u,v,hTO⟩,l1,l2⟩:=st;obtain⟨its1,rv1,p1,_⟩:=I.list hq1;obtain⟨its2,rv2,p2,_⟩:=I.list hq2;have e1:=rv1.length;have e2:=rv2.length;refine wpAny_pyNext_zip_end (I.ok.hd hc) D hz hTI hTO l1 l2 p1.isList p2.isList (hend.imp (fun q=> ?_) (fun q=> ?_)) fun h' kp=>⟨rfl,I.turnedL (t':=s.toks) (ch:=[z,TI,TO,i1,i2]) (fun c o hc e=> ?_) hf⟩
  ·rw[Qa7] at q;simp;omega
  ·rw[Qa7] at q;simp;omega
  ·simp only[Qas,QaZ,Qca,not_or] at hc;exact kp c o hc.1 hc.2.2.1 hc.2.2.2.1 hc.2.2.2.2 e
 self:=fun _ _ _ _ _ st h=>QcP st.1 h
def ZqO (K:PySem.W.Frag)(ta:TA):TI:=fun σ H R=>ta σ H fun vs H1=>∃a b,vs=[.ref a,.ref b]∧(∃xs,SqL K H1 a xs)∧(∃ys,SqL K H1 b ys)∧R (Itz K a b) H1
theorem Zo5 {tes:List Expr}{tk:Nat}{tpos pos:PySem.Pos}{a:Expr}{ta:TA}(hg:Gl X "zip")(hm:X.mg "zip" =none)(ha:PA X [a,b] ta)
  (hs:starEach [a,b] X.env=[(false,eval a X.env),(false,eval b X.env)]:=by rfl) (hs2:starEach [b] X.env=[(false,eval b X.env)]:=by rfl):PI X (.Tuple tes tk tpos) (.Call (.Name "zip" p) [a,b] [] pos) (ZqO X.K ta):=by
 intro qa s σ H R I h;refine Qbk (Zea I hg hm boot_zip ?_);refine Qbw (thn (ha pos qa s σ H _ I h) fun us s1 ⟨vs,H1,I1,r1,l1,l2,e,⟨xs,hx⟩,⟨ys,hy⟩,q⟩=> ?_) (by rw[hs,hs2]) (by rw[hs2];rfl);subst e;obtain⟨u1,u2,rfl,rfl,rfl⟩:=ZfG r1;obtain⟨its1,rv1,p1,_⟩:=I1.list hx;obtain⟨its2,rv2,p2,_⟩:=I1.list hy;have a1:l1<s1.heap.objs.size:=by obtain⟨_,e,_⟩:=p1.isList;exact Qap e
 have a2:l2<s1.heap.objs.size:=by obtain⟨_,e,_⟩:=p2.isList;exact Qap e
 refine call_zip_2 p1.isList p2.isList fun h' hz hTI hTO hi1 hi2 sz kp=> ?_;refine QcP hz ?_;refine⟨_,[_,_,_,_,_],_,_,H1,rfl,I1.kept (t':=s1.toks) kp,Zmh l1 l2 _ _ _ _ _ (zipApart_new a1 a2),⟨hz,hTI,⟨_,_,hTO⟩,hi1,hi2⟩,fun c hc=> ?_,q⟩
 have hge:s1.heap.objs.size≤c:=by
  simp only[Qas,QaZ,Qca] at hc;rcases hc with rfl|rfl|rfl|rfl|rfl
  ·exact Qbr _ _
  ·exact Qbr _ _
  ·exact Qbr _ _
  ·exact Qal _
  ·exact Qbr _ _
 exact I1.fpOk hge (I1.hok.fresh hge)
structure TB (t:SetTable)(led:Bool):Prop where
 led:t.led=led
 dum:t.dummies= #[]
 up:t.place.toList.Pairwise (· < ·)
theorem Zmi {xs:Array Nat}(h:xs.toList.Pairwise (· < ·))(j:Nat):∀(qW lo hi:Nat),hi≤xs.size→lo≤hi→hi-lo≤qW→(∀i,i<lo→xs.getD i 0<j)→(∀i,hi≤i→i<xs.size→j≤xs.getD i 0)→
  SetTable.below.go xs j qW lo hi≤xs.size∧(∀i,i<SetTable.below.go xs j qW lo hi→xs.getD i 0<j)∧(∀i,SetTable.below.go xs j qW lo hi≤i→i<xs.size→j≤xs.getD i 0):=by
 have inc:∀a b,a≤b→b<xs.size→xs.getD a 0≤xs.getD b 0:=fun a b hab hb=>by
  rcases Qdm hab with z|z
  ·have:=QbV.mp h a b (by simpa using Qcf z hb) (by simpa using hb) z;simp only[QcU] at this;rw[QaS,QaS,QaH (Qcf z hb),QaH hb];exact Qcc this
  ·rw[z];exact Qal _
 intro qW
 induction qW with
 |zero=>
  intro lo hi h1 h2 h3 h4 h5;have e:lo=hi:=by omega
  subst e;exact⟨h1,h4,h5⟩
 |succ qW ih=>
  intro lo hi h1 h2 h3 h4 h5;unfold SetTable.below.go;by_cases hlt:lo<hi
  ·rw[if_pos hlt];have hm:(lo+hi)/2<hi:=by omega
   have hm0:lo≤(lo+hi)/2:=by omega
   have hms:(lo+hi)/2<xs.size:=by omega
   have eg:xs.getD ((lo+hi)/2) j=xs.getD ((lo+hi)/2) 0:=by
    rw[QaS,QaS,QaH hms];rfl
   dsimp only;rw[eg];by_cases hc:xs.getD ((lo+hi)/2) 0<j
   ·rw[if_pos hc];refine ih _ _ h1 (by omega) (by omega) (fun i hi'=> ?_) h5;exact QaG (inc i _ (by omega) hms) hc
   ·rw[if_neg hc];refine ih _ _ (by omega) (by omega) (by omega) h4 (fun i hi' hs=> ?_);exact QaD (Nat.not_lt.mp hc) (inc _ i hi' hs)
  ·rw[if_neg hlt];have e:lo=hi:=by omega
   subst e;exact⟨h1,h4,h5⟩
theorem ZiC {xs:Array Nat}(h:xs.toList.Pairwise (· < ·))(j:Nat):SetTable.below xs j≤xs.size∧(∀i,i<SetTable.below xs j→xs.getD i 0<j)∧(∀i,SetTable.below xs j≤i→i<xs.size→j≤xs.getD i 0):=
 Zmi h j xs.size 0 xs.size (Qal _) (QaV _) (Qal _) (fun i hi=>by omega) (fun i h1 h2=>by omega)
theorem Zjr {xs:Array Nat}(h:xs.toList.Pairwise (· < ·))(hi:i≤xs.size){s:Nat}(hs:s=if i=0 then 0 else xs.getD (i-1) 0+1):SetTable.below xs s=i:=by
 obtain⟨b1,b2,b3⟩:=ZiC h s
 have lt:∀a b,a<b→b<xs.size→xs.getD a 0<xs.getD b 0:=fun a b hab hb=>by
  have:=QbV.mp h a b (by simpa using Qcf hab hb) (by simpa using hb) hab;simp only[QcU] at this;rw[QaS,QaS,QaH (Qcf hab hb),QaH hb];exact this
 rcases Nat.lt_trichotomy (SetTable.below xs s) i with z|z|z
 ·exfalso;have i0:i≠0:=by omega
  rw[if_neg i0] at hs;have h1:=b3 (i-1) (by omega) (by omega);omega
 ·exact z
 ·exfalso;have h1:=b2 i z;by_cases i0:i=0
  ·rw[if_pos i0] at hs;omega
  ·rw[if_neg i0] at hs;have h2:=lt (i-1) i (by omega) (by omega);omega
theorem Zo6 (h:TB t led)(he:t.slot j= .empty):TB (t.put j).1 led:=by
 have hd:SetTable.has t.dummies j=false:=by rw[h.dum];rfl
 refine⟨h.led,?_,?_⟩
 ·show(if SetTable.has t.dummies j=true then _ else t.dummies)= #[];rw[hd];exact h.dum
 ·show(SetTable.insertAt t.place (SetTable.below t.place j) j).toList.Pairwise (· < ·);rw[SetTable.toList_insertAt];obtain⟨b1,b2,b3⟩:=ZiC h.up j
  have hne:t.place[SetTable.below t.place j]?≠some j:=fun z=>by
   unfold SetTable.slot at he;dsimp only at he;rw[z] at he;simp at he
  rw[List.pairwise_append];refine⟨h.up.sublist (List.take_sublist _ _),?_,?_⟩
  ·rw[Qbl];refine⟨fun b hb=> ?_,h.up.sublist (List.drop_sublist _ _)⟩;obtain⟨i,hi⟩:=Qbu.mp hb;rw[Qcb,Qbf] at hi;obtain⟨hlt,hg⟩:=Qde.mp hi;have h1:=b3 _ (Qbr _ i) hlt;rw[QaS,hi] at h1;rcases Qdm h1 with z|z
   ·exact z
   ·exfalso;have z:j=b:=z
    cases i with
    |zero=>exact hne (by rw[←z] at hi;simpa using hi)
    |succ i=>
     have hlt0:SetTable.below t.place j<t.place.size:=by omega
     have h2:=b3 _ (Qal _) hlt0;have h3:=QbV.mp h.up (SetTable.below t.place j) (SetTable.below t.place j+(i+1)) (by simpa using hlt0) (by simpa using hlt) (by omega);simp only[QcU] at h3;rw[QaS,QaH hlt0] at h2;have h2:j≤t.place[SetTable.below t.place j]:=h2;omega
  ·intro a ha b hb
   have haj:a<j:=by
    obtain⟨i,hi⟩:=Qbu.mp ha;rw[List.getElem?_take] at hi;split at hi
    ·rename_i hir;rw[Qbf] at hi
     have:=b2 i hir;rw[QaS,hi] at this;exact this
    ·cases hi
   rcases Qas.mp hb with rfl|hb
   ·exact haj
   ·obtain⟨i,hi⟩:=Qbu.mp hb;rw[Qcb,Qbf] at hi;obtain⟨hlt,hg⟩:=Qde.mp hi;have h1:=b3 _ (Qbr _ i) hlt;rw[QaS,hi] at h1;exact QaC haj h1
theorem Zmj (hd:t.dummies= #[]){f:Nat→Int}{h:Int}:∀(qW:Nat) (p:SetTable.Probe),p.dummy=none→∀{j:Nat} {d:Option Nat},SetTable.probe.go t f h qW p=some (.empty j d)→t.slot j= .empty∧d=none:=by
 have nd:∀j,t.slot j≠ .dummy:=fun j z=>by
  unfold SetTable.slot at z;dsimp only at z;rw[hd] at z;split at z
  ·cases z
  ·have e:SetTable.has #[] j=false:=rfl;rw[e] at z;cases z
 intro qW
 induction qW with
 |zero=>intro p _ j d e;unfold SetTable.probe.go at e;cases e
 |succ qW ih=>
  intro p hp j d e;unfold SetTable.probe.go at e
  cases hs:t.slot p.j with
  |empty=>rw[hs] at e;cases e;exact⟨hs,hp⟩
  |dummy=>exact absurd hs (nd _)
  |live i=>
   rw[hs] at e;dsimp only at e;split at e
   ·cases e
   ·refine ih _ ?_ e;unfold SetTable.advance;split<;>exact hp
theorem Zjs (hd:t.dummies= #[]){h:Int}{wd:Bool}(e:t.freeSlot h=some (slot,wd)):t.slot slot= .empty:=by
 unfold SetTable.freeSlot at e
 cases hp:t.probe (fun _=>h+1) h (t.probeStart h) with
 |none=>rw[hp] at e;cases e
 |some m=>
  cases m with
  |empty j d=>
   rw[hp] at e;obtain⟨h1,h2⟩:=Zmj hd _ _ rfl hp;subst h2;cases e;exact h1
  |candidate a b c=>rw[hp] at e;cases e
theorem Zdj (h:t.led=led)(n:Nat):TB (t.standIn n) led:=by
 refine⟨h,rfl,?_⟩;show(Array.range n).toList.Pairwise (· < ·);rw[Array.toList_range];exact List.pairwise_lt_range
theorem Zku (h:TB t led)(es:Array (Int×Value))(hh:Int)(x:Value):TB (layNew t es hh x).2.1 led:=by
 unfold layNew;split
 ·rename_i slot wd e;have p:=Zo6 h (Zjs h.dum e);dsimp only;unfold SetTable.orStandIn;split
  ·exact p
  ·exact Zdj p.led _
 ·exact Zdj h.led _
theorem Zd1 {α β:Type}(f:α→Option β):∀l:List α,((l.filterMap fun j=>(f j).map (j,·)).map (·.1))=l.filter fun j=>(f j).isSome
 | []=>rfl
 |a::l=>by
  cases h:f a with
  |none=>simp[h,Zd1 f l]
  |some b=>simp[h,Zd1 f l]
theorem ZhB (h:TB t led)(es:Array (Int×Value))(wanted:Nat):TB (relayAll t es wanted).2.1 led:=by
 unfold relayAll;split
 ·rename_i t' order e;dsimp only;split
  ·unfold SetTable.relaid SetTable.laid at e;simp only[Option.bind_eq_bind,Option.bind_eq_some_iff,Option.pure_def,Option.some.injEq,Prod.mk.injEq] at e;obtain⟨owner,_,e1,_⟩:=e;subst e1;refine⟨h.led,rfl,?_⟩;show((((List.range _).filterMap fun j=>(owner.getD j none).map (j,·)).map (·.1)).toArray).toList.Pairwise (· < ·);rw[Zd1 (fun j=>owner.getD j none)];exact List.pairwise_lt_range.sublist List.filter_sublist
  ·exact Zdj h.led _
 ·exact Zdj h.led _
def ZgK (prog:Program)(w:World)(h:Heap)(a:Addr)(ns:List Int):Prop:=
 ∃o es ep t,h.get? a=some o∧o.ExactSet∧o.data= .set es ep t∧ElemsOf (intKind prog w) es.toList∧(∃ms,IntsAre (es.toList.map (·.2)) ms∧ms.Perm ns)∧es.size<scanBound∧t.fits es.size=true∧TB t (!w.params.followText "set-order")
theorem ZgK.size {prog:Program}{w:World}{o:Obj}{es:Array (Int×Value)}{ns:List Int}(h:∃ms,IntsAre (es.toList.map (·.2)) ms∧ms.Perm ns):es.size=ns.length:=by
 obtain⟨ms,h1,h2⟩:=h
 have:=h1.length;rw[Qac,Qa0] at this;rw[this,h2.length_eq]
theorem ZeJ:∀{us:List Value} {ms:List Int},IntsAre us ms→∀k:Int,k∈ms↔∃u∈us,u.isInt k=true
 |_,_,.nil,k=>by simp
 |_,_,.cons n t h,k=>by
  have ih:=ZeJ h k;constructor
  ·intro hk;rcases Qas.mp hk with rfl|hk
   ·exact⟨_,Qad,by simp[Value.isInt]⟩
   ·obtain⟨u,hu,e⟩:=ih.mp hk;exact⟨u,Qab _ hu,e⟩
  ·rintro⟨u,hu,e⟩;rcases Qas.mp hu with rfl|hu
   ·simp[Value.isInt] at e;rw[e];exact Qad
   ·exact Qab _ (ih.mpr ⟨u,hu,e⟩)
theorem Zde:∀{us vs:List Value},us.Perm vs→∀{ms:List Int},IntsAre vs ms→∃ms',IntsAre us ms'∧ms'.Perm ms:=by
 intro us vs p
 induction p with
 |nil=>intro ms h;exact⟨ms,h,.refl _⟩
 |cons x _ ih=>
  intro ms h
  cases h with
  |cons n t h=>obtain⟨m,h1,h2⟩:=ih h;exact⟨_,.cons n t h1,h2.cons n⟩
 |swap x y l=>
  intro ms h
  cases h with
  |cons n t h=>cases h with|cons n' t' h=>exact⟨_,.cons n' t' (.cons n t h),.swap ..⟩
 |trans _ _ ih1 ih2=>
  intro ms h;obtain⟨m2,h3,h4⟩:=ih2 h;obtain⟨m1,h1,h2⟩:=ih1 h3;exact⟨m1,h1,h2.trans h4⟩
theorem ZdB:∀{us vs:List Value} {ms ns:List Int},IntsAre us ms→IntsAre vs ns→IntsAre (us++vs) (ms++ns)
 |_,_,_,_,.nil,h=>h
 |_,_,_,_,.cons n t h,k=> .cons n t (ZdB h k)
theorem ZgL {es:Array (Int×Value)}(ho:h.get? a=some o)(hd:o.data= .set es ep t)(es':Array (Int×Value))(t':SetTable):
  (h.update a (Obj.putSet es' t')).get? a=some {o with data:=.set es' (ep+1) t' }:=by
 have z:=QbR (Obj.putSet es' t') ho (by rw[putSet_of es' t' hd];rfl);rw[putSet_of es' t' hd] at z;exact z
theorem Zkv {g:Bool→Sem Unit}(hg:∀(b:Bool) (s1:Shared) (R:Unit→Shared→Prop),R () s1→wpAny (model prog w) A (g b) R E s1){es:Array (Int×Value)}
  (ho:s.heap.get? a=some o) (hx:o.ExactSet) (hd:o.data= .set es ep t) {es1:Array (Int×Value)} {t2:SetTable} {ns:List Int} (he:ElemsOf (intKind prog w) es1.toList) (hi:∃ms,IntsAre (es1.toList.map (·.2)) ms∧ms.Perm ns)
  (hb:es1.size<scanBound) (hf:t2.fits es1.size=true) (tb:TB t2 (!w.params.followText "set-order")) {wd:Bool} {R:Option Bool→Shared→Prop} (h:∀h',Heap.SameBut a s.heap h'→ZgK prog w h' a ns→R (some true) {s with heap:=h' }):
  wpAny (model prog w) A (do
    storeSet a es1 t2
    if(!wd && t2.tooFull)=true then do
      g (relayAll t2 es1 (SetTable.grown es1.size)).2.2
      storeSet a (relayAll t2 es1 (SetTable.grown es1.size)).1 (relayAll t2 es1 (SetTable.grown es1.size)).2.1
      pure (some true)
     else pure (some true)) R E s:=by
 refine Qaa (wpAny_storeSet_of ho hd ?_ (QcC hb));have o1:=ZgL ho hd es1 t2;have b1:=Qcn s.heap a (Obj.putSet es1 t2);split
 ·have q1:=relayAll_perm t2 es1 (SetTable.grown es1.size);have q2:=relayAll_fits t2 es1 (SetTable.grown es1.size);have q3:=ZhB tb es1 (SetTable.grown es1.size);generalize relayAll t2 es1 (SetTable.grown es1.size)=Z at q1 q2 q3⊢;obtain⟨es2,t3,gv⟩:=Z;dsimp only at q1 q2 q3⊢;have sz:es2.size=es1.size:=by rw[←Qa0,q1.length_eq,Qa0]
  refine Qaa (hg _ _ _ (Qaa (wpAny_storeSet_of o1 rfl (Qaj (h _ (b1.trans (Qcn _ a _)) ?_)) (QcC (by rw[sz];exact hb)))));obtain⟨ms,i1,i2⟩:=hi;obtain⟨ms',i3,i4⟩:=Zde (q1.map (·.2)) i1;exact⟨_,es2,_,t3,ZgL o1 rfl es2 t3,hx,rfl,he.perm q1,⟨ms',i3,i4.trans i2⟩,by rw[sz];exact hb,q2,q3⟩
 ·exact Qaj (h _ b1 ⟨_,es1,_,t2,o1,hx,rfl,he,hi,hb,hf,tb⟩)
theorem Zmk (h:TB t led):TB {t with plain:=false } led:=⟨h.led,h.dum,h.up⟩
theorem Zml {k:Int}{tk:Tok}{Q:Bool→Shared→Prop}(hS:ZgK prog w s.heap a ns)(hroom:ns.length+1<scanBound)
  (h:∀h',Heap.SameBut a s.heap h'→ZgK prog w h' a (if k∈ns then ns else ns++ [k])→Q (!decide (k∈ns)) {s with heap:=h' }):wpAny (model prog w) A (setAddHashed a (.int k tk) ((intKind prog w).hash k)) Q E s:=by
 have hkey:=intKind_is prog w k tk;have hsc:(Value.int k tk).scannable=true:=rfl;obtain⟨o,es,ep,t,ho,hx,hd,he,hi,hb,hf,tb⟩:=id hS;have hn:=ZgK.size (prog:=prog) (w:=w) (o:=o) hi
 have hmem:k∈ns↔∃e∈es.toList,(intKind prog w).is k e.2=true:=by
  obtain⟨ms,i1,i2⟩:=hi;rw[←i2.mem_iff,ZeJ i1 k];constructor
  ·rintro⟨u,hu,e⟩;obtain⟨z,hz,rfl⟩:=Qbm.mp hu;exact⟨z,hz,e⟩
  ·rintro⟨z,hz,e⟩;exact⟨z.2,Qbm.mpr ⟨z,hz,rfl⟩,e⟩
 unfold setAddHashed setAddHashedIn;refine QbI (Qaa (Qcg ho hd hf ?_));dsimp only;rw[byScan_of hsc hb he];simp only[↓reduceIte];unfold setAddByScan;refine Qaa (Qaa (QcD (Qaa (wpAny_setScan_of hkey ho hd hf he ?_))))
 cases hr:List.findIdx? (fun e=>(intKind prog w).is k e.2) es.toList with
 |some j=>
  dsimp only;obtain⟨hj,hpj,_⟩:=List.findIdx?_eq_some_iff_getElem.mp hr;have hk:k∈ns:=hmem.mpr ⟨es.toList[j],Qcl hj,hpj⟩;refine Qaj (Qaj ?_);have z:=h s.heap (Heap.SameBut.refl a s.heap) (by rw[if_pos hk];exact hS);rw[Qar hk] at z;exact z
 |none=>
  dsimp only
  have hk:¬k∈ns:=fun hk=>by
   obtain⟨e,hee,hp⟩:=hmem.mp hk;have z:=List.findIdx?_eq_none_iff.mp hr e hee;rw[hp] at z;exact Bool.noConfusion z
  have hgw:∀(b:Bool) {s1:Shared} {R:Unit→Shared→Prop},R () s1→wpAny (model prog w) A (match b with|true=>rule "set.scan.the-table-gave-way" |false=>pure ()) R E s1:=
   fun b s1 R hq=>by cases b<;>first|exact Qaj hq|exact QcD hq
  have q1:=layNew_perm t es ((intKind prog w).hash k) (.int k tk);have q2:=layNew_fits t es ((intKind prog w).hash k) (.int k tk);have q3:=Zku tb es ((intKind prog w).hash k) (.int k tk);generalize layNew t es ((intKind prog w).hash k) (.int k tk)=Z at q1 q2 q3⊢;obtain⟨es1,t1,wd,gv⟩:=Z;dsimp only at q1 q2 q3⊢;rw[Array.toList_push] at q1;have he1:ElemsOf (intKind prog w) es1.toList:=(he.push hkey hsc).perm q1;have sz:es1.size=es.size+1:=by rw[←Qa0,q1.length_eq,Qae,Qa0];rfl
  have hb1:es1.size<scanBound:=by rw[sz,hn];exact hroom
  have hi1:∃ms,IntsAre (es1.toList.map (·.2)) ms∧ms.Perm (ns++ [k]):=by
   obtain⟨ms,i1,i2⟩:=hi
   have i5:IntsAre ((es.toList++ [((intKind prog w).hash k,Value.int k tk)]).map (·.2)) (ms++ [k]):=by
    rw[Qaw];exact ZdB i1 (.cons k tk .nil)
   obtain⟨ms',i3,i4⟩:=Zde (q1.map (·.2)) i5;exact⟨ms',i3,i4.trans (i2.append_right _)⟩
  refine Qaa (hgw _ ?_)
  have fin:∀h',Heap.SameBut a s.heap h'→ZgK prog w h' a (ns++ [k])→Q true {s with heap:=h' }:=fun h' sb j=>by
   have z:=h h' sb (by rw[if_neg hk];exact j);rw[QaN hk] at z;exact z
  split
  ·refine Qaa ?_;rw[hashByValue_scannable 8 hsc];refine Qaj (Zkv ?_ ho hx hd he1 hi1 hb1 ?_ ?_ ?_)
   ·intro b s1 R hq;cases b<;>first|exact Qaj hq|exact QcD hq
   ·split
    ·exact q2
    ·exact SetTable.fits_plain_off q2
   ·split
    ·exact q3
    ·exact Zmk q3
   ·intro h' sb j;dsimp only;exact Qaj (fin h' sb j)
  ·refine Qaa (Qaj ?_);simp only[↓reduceIte];refine Zkv ?_ ho hx hd he1 hi1 hb1 q2 q3 ?_
   ·intro b s1 R hq;cases b<;>first|exact Qaj hq|exact QcD hq
   ·intro h' sb j;dsimp only;exact Qaj (fin h' sb j)
def ZcM (acc:List Int)(k:Int):List Int:=if k∈acc then acc else acc++ [k]
def dd (ns:List Int):List Int:=ns.foldl ZcM []
theorem ZnQ (ns:List Int)(k:Int):dd (ns++ [k])=ZcM (dd ns) k:=by unfold dd;rw[List.foldl_append];rfl
theorem ZgM:∀ns:List Int,(dd ns).length≤ns.length:=by
 have:∀(ns acc:List Int),(ns.foldl ZcM acc).length≤acc.length+ns.length:=by
  intro ns
  induction ns with
  |nil=>intro acc;exact Qal _
  |cons k ns ih=>
   intro acc;have h:=ih (ZcM acc k);have h2:(ZcM acc k).length≤acc.length+1:=by unfold ZcM;split<;>simp
   show(ns.foldl ZcM (ZcM acc k)).length≤acc.length+(ns.length+1);omega
 intro ns
 have:=this ns [];unfold dd;simpa using this
theorem Znk (ns:List Int)(k:Int):k∈dd ns↔k∈ns:=by
 have:∀(ns acc:List Int),k∈ns.foldl ZcM acc↔k∈acc∨k∈ns:=by
  intro ns
  induction ns with
  |nil=>intro acc;simp
  |cons j ns ih=>
   intro acc;show k∈ns.foldl ZcM (ZcM acc j)↔_;rw[ih];unfold ZcM;split
   ·rename_i h;constructor
    ·rintro(z|z)
     ·exact .inl z
     ·exact .inr (Qab _ z)
    ·rintro(z|z)
     ·exact .inl z
     ·rcases Qas.mp z with rfl|z
      ·exact .inl h
      ·exact .inr z
   ·simp[or_assoc]
 have:=this ns [];unfold dd;simpa using this
theorem ZiD (ns:List Int):(dd ns).Nodup:=by
 have:∀(ns acc:List Int),acc.Nodup→(ns.foldl ZcM acc).Nodup:=by
  intro ns
  induction ns with
  |nil=>intro acc h;exact h
  |cons j ns ih=>
   intro acc h;refine ih _ ?_;unfold ZcM;split
   ·exact h
   ·rename_i hj;rw[List.nodup_append];exact⟨h,by simp,fun a ha b hb z=>hj (by rw[←Qan.mp hb,←z];exact ha)⟩
 exact this ns [] List.nodup_nil
theorem ZgK.keep (x:ZgK prog w h a ns)(k:∀o,h.get? a=some o→h'.get? a=some o):ZgK prog w h' a ns:=by
 obtain⟨o,es,ep,t,ho,r⟩:=x;exact⟨o,es,ep,t,k o ho,r⟩
section
variable {J:Addr}{fp wr:List Addr}{G:Array GenState→Array GenState→Prop}{P:Nat→Value→Prop}{St:Nat→Shared→Prop}
theorem Zmm (Wk:WalksS prog w A.in1 J fp wr G n P St)(S:Addr)(hS:S∉fp)(ns:List Int)(hns:ns.length=n)(hv:∀i v,P i v→∃t,v= .int (ns.getD i 0) t)(hb:n+1<scanBound):
  ∀(c i:Nat) (s:Shared),n-i=c→i≤n→St i s→ZgK prog w s.heap S (dd (ns.take i))→(∀s',Moved (S::wr) G s s'→ZgK prog w s'.heap S (dd ns)→R (.ok (.ret .none)) s')→
   codeAny (model prog w) A (.builtin "set.update.loop" ⟨[.ref S,.ref J],[]⟩) R s:=by
 have nw:S∉wr:=fun h=>hS (Wk.sub _ h);have sub:∀b∈wr,b∈S::wr:=fun b hb=>Qab _ hb;intro c
 induction c with
 |zero=>
  intro i s hc hi st hj hR;have e:i=n:=by omega
  subst e;refine QbG Qck ?_;rw[QbC QbJ _];show wpAny _ A.in1 (pyNext (.ref J)>>=_) _ _ s;refine Qaa (Wk.done s _ _ st fun s' hm=> ?_);show wpAny _ A.in1 (ret Value.none) _ _ s';rw[←hns,QaO] at hj;exact Qaj (hR s' (hm.mono sub) (hj.keep fun o ho=>hm.heap S _ nw ho))
 |succ c ih=>
  intro i s hc hi st hj hR;have lt:i<n:=by omega
  refine QbG Qck ?_;rw[QbC QbJ _];show wpAny _ A.in1 (pyNext (.ref J)>>=_) _ _ s;refine Qaa (Wk.item i s _ _ lt st fun v s' hP st' hm=> ?_);obtain⟨t,rfl⟩:=hv i v hP;have hj':ZgK prog w s'.heap S (dd (ns.take i)):=hj.keep fun o ho=>hm.heap S _ nw ho;have hlen:(dd (ns.take i)).length≤i:=QaD (ZgM _) (by rw[Qav];omega);have gi:ns[i]?=some (ns.getD i 0):=by rw[Qam,Qah (by omega)];rfl
  show wpAny _ A.in1 (holding [Value.int (ns.getD i 0) t] (setAdd S (.int (ns.getD i 0) t))>>=_) _ _ s';refine Qaa (QbI ?_);unfold setAdd;refine QbI (Qaa ((intKind prog w).pyHash (k:=ns.getD i 0) (intKind_is _ _ _ _) ?_));refine Zml (s:={s' with toks:=s'.toks+1 }) hj' (by omega) fun h2 sb j2=> ?_
  have j3:ZgK prog w h2 S (dd (ns.take (i+1))):=by
   rw[ZaJ gi,ZnQ];exact j2
  refine Qaj ⟨Qc0 QbJ _,ih (i+1) _ (by omega) lt (Wk.frame _ s' _ _ st' (Qc6 _) fun b hb o e=> ?_) j3 fun s3 hm3 hj3=> ?_⟩
  ·rw[sb.2 b (fun z:b=S=>hS (by rw[←z];exact hb))];exact e
  ·refine hR s3 (Moved.trans Wk.gtrans ((hm.mono sub).then_heap (Qc6 _) fun b o hb e=> ?_) hm3) hj3;rw[sb.2 b (fun z:b=S=>hb (by rw[z];exact Qad))];exact e
end
theorem Zkw (a:Value){Q1:Value→Shared→Prop}(h:Q1 (.ref s.heap.objs.size) {s with heap:=s.heap.push {cls:=.type "set",dict:=none,data:=.set #[] 0 (.fresh 0 0 (!w.params.followText "set-order")) } }):
  codeAny (model prog w) A (.call (.builtin "set.__new__") ⟨[.type "set",a],[]⟩) (wants Q1 E) s:=by
 refine codeAny_of_tree ?_;show wpAny _ A.in1 (do checkBuiltinCall "set.__new__" ⟨[.type "set",a],[]⟩;again (.builtin "set.__new__" ⟨[.type "set",a],[]⟩)) _ _ s;refine Qaa (Qef (PySem.F.newCall_set_1 a) (Qaj ⟨Qc0 QdX _,QbG PySem.F.entry_set_new ?_⟩));rw[QbC QdX _];unfold Builtin.«set.__new__» Builtin.Frozenset.newClass;have hsub:=sub_set_self;obtain⟨hp,g,d,tk,os⟩:=s;dsimp only
 wp_walk
 refine Qcm (Qaj ?_);dsimp only;simp only[newObj];exact Qaa (wpAny_alloc (Qaj (Qaj h)))
theorem ZnR (ho:h.get? a=some {cls:=.type "set",dict:=none,data:=.set #[] 0 (.fresh 0 0 (!w.params.followText "set-order")) }):ZgK prog w h a []:=
 ⟨_,#[],0,_,ho,⟨rfl,rfl,rfl⟩,rfl,fun e he=>by simp at he,⟨[],.nil,.refl _⟩,by decide,by rfl,⟨rfl,rfl,List.Pairwise.nil⟩⟩
theorem ZhC {l:Addr}{its:Array Value}{Q:Value→Shared→Prop}(hh:A.handled=none)(hl:s.heap.IsList l its)(hi:IntsAre its.toList ns)(hb:its.size+1<scanBound)
  (h:∀(h':Heap) (tk:Nat),ZgK prog w h' s.heap.objs.size (dd ns)→(∀b o,b<s.heap.objs.size→s.heap.get? b=some o→h'.get? b=some o)→Q (.ref s.heap.objs.size) {s with heap:=h',toks:=tk }):
  wpAny (model prog w) A (call (.type "set") [.ref l]) Q E s:=by
 obtain⟨c,tl,hmro⟩:=PySem.F.called_set.mro;have hmade:=PySem.F.called_set.made;have hsub:=PySem.F.called_set.sub;refine Qek (codeAny_of_tree ?_);show wpAny _ _ (callAny (.type "set") _) _ _ _;refine Qaj ⟨Code.quiet_builtin _ (by decide +kernel),QbG PySem.F.entry_type_call ?_⟩;rw[Around.under_plain (weight_type_call_type "set" [.ref l] []) rfl];have x1:=PySem.F.called_set.notType;have x2:=PySem.F.called_set.canCreate;have x3:=PySem.F.typeCall_set_1 (.ref l)
 repeat (any_goals (first|assumption|wp_step))
 refine Qcr (Zkw (.ref l) (E:=E) (Q1:=fun ob s1=>ob= .ref s.heap.objs.size∧s1={s with heap:=s.heap.push {cls:=.type "set",dict:=none,data:=.set #[] 0 (.fresh 0 0 (!w.params.followText "set-order")) } }) ⟨rfl,rfl⟩) fun r s1 hr=> ?_
 cases r with
 |error e=>exact hr
 |ok fl=>
  cases fl with
  |ret ob=>
   obtain⟨rfl,rfl⟩:=hr;generalize hled:(!w.params.followText "set-order")=led;have hS:(s.heap.push {cls:=.type "set",dict:=none,data:=.set #[] 0 (.fresh 0 0 led) }).get? s.heap.objs.size=some {cls:=.type "set",dict:=none,data:=.set #[] 0 (.fresh 0 0 led) }:=Qax _ rfl;have hT:Shared.TypeIs {s with heap:=s.heap.push {cls:=.type "set",dict:=none,data:=.set #[] 0 (.fresh 0 0 led) } } (.ref s.heap.objs.size) "set" :=⟨_,hS,rfl⟩;have y1:=PySem.F.called_set.init.lookup;have y2:=PySem.F.called_set.init.bind (.ref s.heap.objs.size)
   repeat (any_goals (first|assumption|wp_step))
   refine Qcr (QcV (R:=wants (fun r s2=>r= .none∧∃h' tk,s2={s with heap:=h',toks:=tk }∧ZgK prog w h' s.heap.objs.size (dd ns)∧(∀b o,b<s.heap.objs.size→s.heap.get? b=some o→h'.get? b=some o)) E)
    PySem.F.called_set.init.plain PySem.F.entry_set_init (check_set_init_1 hT ?_)) fun r2 s2 hr2=> ?_
   ·obtain⟨ol,hol,hcl,nl,hdl⟩:=hl;obtain⟨ocls,odict,odata,oslots⟩:=ol;simp only at hcl hdl;subst hcl;subst hdl;have hol':(s.heap.push {cls:=.type "set",dict:=none,data:=.set #[] 0 (.fresh 0 0 led) }).get? l=some {cls:=.type "list",dict:=odict,data:=.seq its nl,slots:=oslots }:=Qag _ hol;have v1:=PySem.F.sub_list_set;have v2:=PySem.F.sub_list_frozenset;have v3:(Value.type "list" ==Value.type "dict")=false:=by decide
    have hl1:(s.heap.push {cls:=.type "set",dict:=none,data:=.set #[] 0 (.fresh 0 0 led) }).IsList l its:=⟨_,hol',rfl,nl,rfl⟩;unfold Builtin.«set.__init__» noKeywords Builtin.Frozenset.updateFrom;generalize hPI:pyIter=PI
    wp_walk
    subst hPI;refine Qcz (l:=l) hl1 ?_;refine Qaa (m:=runValue _) (Qea ?_);have ll:l<s.heap.objs.size:=Qap hol;have h3:A.in1.in1.in1.handled=none:=by simp[hh]
    have n1:l≠(s.heap.push {cls:=.type "set",dict:=none,data:=.set #[] 0 (.fresh 0 0 led) }).objs.size:=by rw[Qa6];exact QaL (QbL ll)
    have n2:s.heap.objs.size∉ [(s.heap.push {cls:=.type "set",dict:=none,data:=.set #[] 0 (.fresh 0 0 led) }).objs.size,l]:=by
     rw[Qa6];simp only[Qas,Qan,QaZ,Qca,not_or];exact⟨QaL (QcN _),Qbj ll⟩
    have hln:ns.length=its.size:=by rw[←hi.length,Qa0]
    refine Zmm ((Walks.list h3 _ l n1 its).toS) s.heap.objs.size n2 ns hln (fun i v hv=>IntsAre.int_at hi i v (by rw[Qbf];exact hv)) hb (its.size-0) 0 _ (by omega) (QaV _) ⟨⟨_,Qax _ rfl,rfl,rfl⟩,(hl1.push _)⟩ ?_ ?_
    ·exact ZnR (by rw[hled];exact Qag _ hS)
    ·intro s' hm hj;obtain⟨h',g',d',tk',os'⟩:=s';have eg:g'=s.gens:=hm.gens;have ed:d'=s.drawn:=hm.drawn;have eo:os'=s.os:=hm.os;subst eg;subst ed;subst eo;show wpAny _ _ _ _ _ _;refine Qaj ?_;show wpAny _ _ (ret Value.none) _ _ _;refine Qaj ⟨rfl,h',tk',rfl,hj,fun b o hb e=> ?_⟩;have b1:b≠s.heap.objs.size:=QaL hb;have b2:b≠(s.heap.push {cls:=.type "set",dict:=none,data:=.set #[] 0 (.fresh 0 0 led) }).objs.size:=by rw[Qa6];exact QaL (QbL hb)
     exact hm.heap b o (by simp only[Qas,Qan,QaZ,Qca,not_or];exact⟨b1,b2⟩) (Qag _ (Qag _ e))
   ·cases r2 with
    |error e=>exact hr2
    |ok f2=>
     cases f2 with
     |ret r=>
      obtain⟨rfl,h',tk,rfl,hj,hk⟩:=hr2
      repeat (any_goals (first|assumption|wp_step))
      exact h _ _ hj hk
     |_=>exact hr2.elim
  |_=>exact hr.elim
theorem ZgN:Manifest.owners.lookup (String.ofList ['r','o','t','a','r','e','t','i','_','t','e','s'].reverse)=some Manifest.sig_set_iterator:=by kernel_rfl
theorem ZdT:Slot "set_iterator" "__next__" "set_iterator.__next__" := .of (owner:= "set_iterator") (n:= "__next__") (by rw[typeLookup_type,QdY];kernel_rfl) (by decide +kernel) (by decide +kernel) (by decide +kernel) (by first|exact .inl (by decide +kernel)|exact .inr (by decide +kernel)) (by rw[Qeb];kernel_rfl)
theorem Zkx:entryFor table "set_iterator.__next__" =some Builtin.«set_iterator.__next__»:=entryFor_of_tree (by kernel_rfl)
theorem Zmn (a:Value):argsOk "set_iterator.__next__" ⟨[a],[]⟩:=by
 unfold argsOk;rw[signature?_of (id:= "set_iterator.__next__") (n:=['_','_','t','x','e','n','_','_']) (o:=['r','o','t','a','r','e','t','i','_','t','e','s']) (by kernel_rfl) ZgN]
 kernel_rfl
theorem ZiE:Slot "set_iterator" "__iter__" "set_iterator.__iter__" := .of (owner:= "set_iterator") (n:= "__iter__") (by rw[typeLookup_type,QdY];kernel_rfl) (by decide +kernel) (by decide +kernel) (by decide +kernel) (by first|exact .inl (by decide +kernel)|exact .inr (by decide +kernel)) (by rw[Qeb];kernel_rfl)
theorem Zky (a:Value):argsOk "set_iterator.__iter__" ⟨[a],[]⟩:=by
 unfold argsOk;rw[signature?_of (id:= "set_iterator.__iter__") (n:=['_','_','r','e','t','i','_','_']) (o:=['r','o','t','a','r','e','t','i','_','t','e','s']) (by kernel_rfl) ZgN]
 kernel_rfl
theorem Zjt:entryFor table "set_iterator.__iter__" =some Builtin.«dict_keyiterator.__iter__» :=
 entryFor_alias (id':= "dict_keyiterator.__iter__") (by kernel_rfl) (by first|rfl|decide +kernel|(unfold String.splitOn;simp +decide [String.splitOnAux])) (by decide +kernel) (by kernel_rfl)
theorem Zkz:entryFor table "set.__iter__" =some Builtin.«frozenset.__iter__»:=entryFor_alias (id':= "frozenset.__iter__") (by kernel_rfl) rfl (by decide +kernel) (by kernel_rfl)
theorem Zd2 {α:Type}:∀{l:List α} {i:Nat} (hi:i<l.length),(l[i]::l.eraseIdx i).Perm l
 | [],i,hi=>by simp at hi
 |a::l,0,hi=> .refl _
 |a::l,i+1,hi=>by
  have hi':i<l.length:=by simpa using hi
  have:=Zd2 hi';show(l[i]::a::l.eraseIdx i).Perm (a::l);exact(List.Perm.swap ..).trans (this.cons a)
theorem Zju {src:Source}{Q:Nat→Shared→Prop}(hn:n≠0)(h:∀i d',i<n→Q i {s with drawn:=d' }):wpAny (model prog w) A (choose src n) Q E s:=fun Γ p _=>by
 show Sem.wp _ _ (.choose src n .pure) _ _ _ _;rw[Sem.wp];refine⟨hn,?_⟩;rw[Sem.wp];exact h _ _ (Nat.mod_lt _ (by omega))
theorem ZdC {α:Type}:∀(n:Nat) (xs:List α) (s:Shared) {Q:List α→Shared→Prop},xs.length=n→(∀ys d',ys.Perm xs→Q ys {s with drawn:=d' })→wpAny (model prog w) A (drawOrder n xs) Q E s
 |0,xs,s,Q,hl,h=>by
  have:xs=[]:=Qb5 hl;subst this;unfold drawOrder;exact Qaj (h [] s.drawn (.refl _))
 |n+1,[],s,Q,hl,h=>by simp at hl
 |n+1,x::xs,s,Q,hl,h=>by
  unfold drawOrder;refine Qaa (Zju (by simp) fun i d' hi=> ?_);have e:(x::xs)[i]?=some (x::xs)[i]:=Qah hi;rw[e];dsimp only;refine Qaa (ZdC n _ _ (by rw[Qdf hi];omega) fun ys d2 hp=>Qaj (h _ d2 ?_));have hq:((x::xs)[i]::(x::xs).eraseIdx i).Perm (x::xs):=(Zd2 hi);exact(hp.cons _).trans hq
theorem ZkA {α:Type}(next:Nat→Nat):∀(qW k:Nat) (left:List α) (out:Array α),left.length=qW→(pickOrder.go next qW k left out).toList.Perm (out.toList++left)
 |0,k,left,out,h=>by
  have:left=[]:=Qb5 h;subst this;unfold pickOrder.go;simp
 |qW+1,k,left,out,h=>by
  unfold pickOrder.go;have hi:next k%left.length<left.length:=Nat.mod_lt _ (by omega);rw[Qah hi];dsimp only;refine(ZkA next qW (k+1) _ _ (by rw[Qdf hi];omega)).trans ?_;rw[Array.toList_push,Qa2];exact(Zd2 hi).append_left _
theorem ZkB {α:Type}(next:Nat→Nat)(xs:Array α):(pickOrder next xs).toList.Perm xs.toList:=by
 unfold pickOrder
 have:=ZkA next xs.size 0 xs.toList #[] (by simp);simpa using this
def ZnS (S:Addr)(first:Value)(i n ep:Nat):Obj:={cls:=.type "set_iterator",data:=.fields #[first,rawInt i,.ref S,rawInt n,rawInt ep] }
structure Zjv (w:World)(S:Addr)(es:Array (Int×Value))(ep:Nat)(t:SetTable)(T:Addr) where
 ord:List Value
 first:Nat→Value
 tup:Option (Array Value)
 perm:ord.Perm (es.toList.map (·.2))
 how:(w.params.followText "set-order" =true∧tup=none∧(∀i,first i=rawInt 0)∧ord=(pickOrder (w.params.setOrder S ep) es).toList.map (·.2))∨
  (w.params.followText "set-order" =false∧(!t.plain && decide (es.size>1))=false∧tup=none∧(∀i,first i=rawInt ((if i=0 then 0 else t.place.getD (i-1) 0+1:Nat):Int))∧ord=es.toList.map (·.2))∨
  (w.params.followText "set-order" =false∧∃ps:List Nat,tup=some (ps.map fun(i:Nat)=>rawInt i).toArray∧ps.Perm (List.range es.size)∧(∀i,first i= .ref T)∧ord=ps.filterMap fun i=>(es[i]?).map (·.2))
def StI (S I T:Addr)(o:Obj)(n ep:Nat)(first:Nat→Value)(tup:Option (Array Value))(i:Nat)(h:Heap):Prop:=
 h.get? S=some o∧h.get? I=some (ZnS S (first i) i n ep)∧∀ps,tup=some ps→h.get? T=some {cls:=.type "tuple",data:=.seq ps }
section
variable {T:Addr}{es:Array (Int×Value)}
theorem ZkC {given:Nat}{Q:Option (Value×Nat)→Shared→Prop}(O:Zjv w S es ep t T)(hnt:O.tup=none)(ho:s.heap.get? S=some o)(hd:o.data= .set es ep t)(hf:t.fits es.size=true)(tb:TB t (!w.params.followText "set-order"))
  (hsl:O.first given=rawInt slot) (hg:given≤es.size)
  (h:∀x,O.ord[given]?=some x→∀nx:Nat,O.first (given+1)=rawInt nx→Q (some (x,nx)) s) (h2:O.ord[given]?=none→Q none s):wpAny (model prog w) A (setNext S slot given ep) Q E s:=by
 unfold setNext;refine Qaa (Qcg ho hd hf ?_);dsimp only;unfold setsByText;refine Qaa (Qaa (Qcm (Qaj ?_)));show wpAny _ _ (if w.params.followText "set-order" =true then _ else _) _ _ _;rcases O.how with⟨bt,_,hfi,hor⟩|⟨bt,dr,_,hfi,hor⟩|⟨bt,ps,ht,_⟩
 ·rw[if_pos bt,if_neg (by simp)]
  have e0:slot=0:=by
   have:=hfi given;rw[hsl] at this;simp[rawInt] at this;omega
  subst e0;refine Qaa ?_;unfold setWalk;refine Qaa (Qcg ho hd hf ?_);dsimp only;unfold setsByText;refine Qaa (Qaa (Qcm (Qaj ?_)));show wpAny _ _ (if w.params.followText "set-order" =true then _ else _) _ _ _;rw[if_pos bt];refine Qaa (Qcm (Qaj (Qaj ?_)));show Q (Option.map (fun e=>(e.snd,0)) (pickOrder (w.params.setOrder S ep) es)[given]?) s;have eo:O.ord[given]?=Option.map (·.2) (pickOrder (w.params.setOrder S ep) es)[given]?:=by rw[hor,Qaq,Qbf]
  cases hp:(pickOrder (w.params.setOrder S ep) es)[given]? with
  |none=>rw[hp] at eo;exact h2 eo
  |some x=>rw[hp] at eo;exact h _ eo 0 (hfi _)
 ·rw[if_neg (by rw[bt];decide)];show wpAny _ _ (if(!t.plain && decide (es.size>1))=true then _ else _) _ _ _;rw[if_neg (by rw[dr];decide)];have hled:t.led=true:=by rw[tb.led,bt];rfl
  refine Qaa ?_;show wpAny _ _ (if(!t.led && !es.isEmpty)=true then _ else _) _ _ _;rw[if_neg (by rw[hled];simp)];refine Qaj (Qaj ?_)
  have psz:t.place.size=es.size:=by
   unfold SetTable.fits at hf;simp at hf;exact hf.1
  have hs2:slot=if given=0 then 0 else t.place.getD (given-1) 0+1:=by
   have z:=hfi given;rw[hsl] at z;exact Int.ofNat.inj (Value.int.inj z).1
  have hbl:SetTable.below t.place slot=given:=Zjr tb.up (by omega) hs2;rw[hbl];have eo:O.ord[given]?=Option.map (·.2) es[given]?:=by rw[hor,Qaq,Qbf]
  by_cases hlt:given<es.size
  ·rw[QaH hlt] at eo⊢;rw[QaH (by omega:given<t.place.size)];refine h _ eo _ ?_;rw[hfi];simp only[Nat.add_one_sub_one,Nat.add_eq_zero_iff,Nat.one_ne_zero,and_false,QdA];rw[QaS,QaH (by omega:given<t.place.size)];rfl
  ·rw[Array.getElem?_eq_none (by omega)] at eo⊢;exact h2 eo
 ·rw[hnt] at ht;cases ht
theorem Znl {α:Type}{R:α→Shared→Prop}{Ex:Value→Shared→Prop}(hh:A.handled=none)(h:∀e h',(∀b ob,s.heap.get? b=some ob→h'.get? b=some ob)→(∃ob,h'.get? e=some ob∧ob.cls= .type "StopIteration")→Ex (.ref e) {s with heap:=h' }):
  wpAny (model prog w) A (newExc (.type "StopIteration") []>>=fun e=>(raiseNew e:Sem α)) R Ex s:=by
 refine Qaa ?_;simp only[newExc,newTuple];refine Qaa (Qa1 ?_ (by size_fits));refine Qaa (m:=firstArgMember _ _) (Qef (a:=Value.none) (by first|rfl|(simp only[firstArgMember];rfl)) ?_);refine Qa1 ?_ (by size_fits);simp only[raiseNew];refine Qaa (wpAny_handled ?_);rw[hh];exact Qaa (Qaj (wpAny_throw (h _ _ (fun b ob z=>Qag _ (Qag _ z)) ⟨_,Qax _ rfl,rfl⟩)))
theorem Znm (O:Zjv w S es ep t T)(hIS:I≠S)(hIT:I≠T)(hh:A.handled=none)(hd:o.data= .set es ep t)(hf:t.fits es.size=true)(tb:TB t (!w.params.followText "set-order"))(hi:i≤es.size)
  (st:StI S I T o es.size ep O.first O.tup i s.heap) {Q:Option Value→Shared→Prop}
  (h:∀x h',O.ord[i]?=some x→StI S I T o es.size ep O.first O.tup (i+1) h'→(∀b ob,b≠I→s.heap.get? b=some ob→h'.get? b=some ob)→Q (some x) {s with heap:=h' })
  (h2:∀h',O.ord[i]?=none→(∀b ob,b≠I→s.heap.get? b=some ob→h'.get? b=some ob)→Q none {s with heap:=h' }):wpAny (model prog w) A (pyNext (.ref I)) Q E s:=by
 obtain⟨ho,hit,htp⟩:=st;have hT:s.TypeIs (.ref I) "set_iterator" :=⟨_,hit,rfl⟩;unfold pyNext;refine Qaa (Qej (Qby (name:=Str.ofString "__next__") hT ZdT (Qbq ZdT hT Zkx ?_ (Zmn _))));unfold Builtin.«set_iterator.__next__»;refine Qaa (Qef (a:=(Value.ref I,[])) rfl ?_)
 try dsimp only
 refine Qaa (wpAny_fieldsOf hit rfl ?_);show wpAny _ _ (setEntries S>>=_) _ _ _;refine Qaa (wpAny_setEntries_of ho hd hf ?_);show wpAny _ _ (if(((es.size:Nat):Int) !=((es.size:Nat):Int))=true then _ else _) _ _ _;rw[if_neg (by simp)]
 cases hfst:O.tup with
 |none=>
  have hcase:∃slot:Nat,O.first i=rawInt slot:=by
   rcases O.how with⟨_,_,hfi,_⟩|⟨_,_,_,hfi,_⟩|⟨_,ps,ht,_⟩
   ·exact⟨0,hfi i⟩
   ·exact⟨_,hfi i⟩
   ·rw[hfst] at ht;cases ht
  obtain⟨slot,hsl⟩:=hcase;rw[hsl] at hit⊢;show wpAny _ _ (setNext S slot i ep>>=_) _ _ _;refine Qaa (ZkC O hfst ho hd hf tb hsl hi (fun x hx nx hnx=> ?_) (fun hx=> ?_))
  ·show wpAny _ _ (setField (Value.ref I) 0 (rawInt nx)>>=fun _=>setField (Value.ref I) 1 (rawInt ((i:Int)+1))>>=fun _=>ret x) _ _ _;refine Qaa (Qa4 hit (by simp) fun h1 e1 b1=>Qaa (Qa4 (s:={s with heap:=h1 }) e1 (by simp) fun h3 e3 b3=>Qaj ⟨_,rfl,Qaj ?_⟩));have kp:∀b ob,b≠I→s.heap.get? b=some ob→h3.get? b=some ob:=fun b ob hb z=>b3.extBut b ob hb (b1.extBut b ob hb z);refine h x h3 hx ⟨kp S _ (Ne.symm hIS) ho,?_,fun ps hp=>by rw[hfst] at hp;cases hp⟩ kp;rw[e3,hnx];simp[ZnS]
  ·show wpAny _ _ (setField (Value.ref I) 2 Value.none>>=fun _=>newExc (Value.type "StopIteration") []>>=fun e=>raiseNew e) _ _ _;refine Qaa (Qa4 hit (by simp) fun h1 e1 b1=>Znl (s:={s with heap:=h1 }) hh fun e h3 kp ⟨ob,hob,hc⟩=> ?_);refine Qaa (QcQ (T:= "StopIteration") (b:=true) ⟨ob,hob,hc⟩ Qec (Qaj ?_));exact h2 h3 hx fun b ob hb z=>kp b ob (b1.extBut b ob hb z)
 |some ps=>
  have hcase:O.first i= .ref T:=by
   rcases O.how with⟨_,ht,_⟩|⟨_,_,ht,_⟩|⟨_,qs,ht,_,hfi,_⟩
   ·rw[hfst] at ht;cases ht
   ·rw[hfst] at ht;cases ht
   ·exact hfi i
  rw[hcase] at hit⊢;have hTo:=htp ps hfst
  obtain⟨qs,eps,hqp,hfi,hor⟩:∃qs:List Nat,ps=(qs.map fun(i:Nat)=>rawInt i).toArray∧qs.Perm (List.range es.size)∧(∀i,O.first i= .ref T)∧O.ord=qs.filterMap fun i=>(es[i]?).map (·.2):=by
   rcases O.how with⟨_,ht,_⟩|⟨_,_,ht,_⟩|⟨_,qs,ht,h3,h4,h5⟩
   ·rw[hfst] at ht;cases ht
   ·rw[hfst] at ht;cases ht
   ·rw[hfst] at ht;cases ht;exact⟨qs,rfl,h3,h4,h5⟩
  have qin:∀q∈qs,q<es.size:=fun q hq=>Qd9.mp (hqp.mem_iff.mp hq)
  have ogt:∀n:Nat,O.ord[n]?=(qs[n]?).bind fun q=>(es[q]?).map (·.2):=by
   rw[hor];clear hor eps hqp hTo hfst
   induction qs with
   |nil=>intro n;simp
   |cons q qs ih=>
    intro n;have hq:=qin q Qad;rw[List.filterMap_cons_some (b:=es[q].2) (by rw[QaH hq];rfl)]
    cases n with
    |zero=>simp[QaH hq]
    |succ n=>simpa using ih (fun z hz=>qin z (Qab _ hz)) n
  show wpAny _ _ (seqItems? (Value.ref T)>>=_) _ _ _;refine Qaa (QbK hTo rfl ?_);have epi:ps[((i:Nat):Int).toNat]?=(qs[i]?).map fun(q:Nat)=>rawInt q:=by rw[eps];simp
  show wpAny _ _ (match ps[((i:Nat):Int).toNat]? with|some (Value.int place tok)=>_|some val=>_|none=>_) _ _ _;rw[epi]
  cases hqi:qs[i]? with
  |some q=>
   have hql:=qin q (Qau hqi);show wpAny _ _ (setNextDrawn S q ep>>=fun x=>setField (Value.ref I) 1 (rawInt ((i:Int)+1))>>=fun _=>ret x) _ _ _;refine Qaa ?_;unfold setNextDrawn;refine Qaa (Qcg ho hd hf ?_);dsimp only;rw[if_neg (by simp)];refine Qaa (Qaj ?_);rw[QaH hql];refine Qaj ?_;show wpAny _ _ (setField (Value.ref I) 1 (rawInt ((i:Int)+1))>>=fun _=>ret es[q].2) _ _ _;refine Qaa (Qa4 hit (by simp) fun h3 e3 b3=>Qaj ⟨_,rfl,Qaj ?_⟩);refine h _ h3 (by rw[ogt,hqi];simp[QaH hql]) ⟨b3.extBut S _ (Ne.symm hIS) ho,?_,fun qs' hp=>b3.extBut T _ (Ne.symm hIT) (htp qs' hp)⟩ fun b ob hb z=>b3.extBut b ob hb z;rw[e3,hfi];simp[ZnS]
  |none=>
   show wpAny _ _ (setField (Value.ref I) 0 (rawInt 0)>>=fun _=>setField (Value.ref I) 2 Value.none>>=fun _=>newExc (Value.type "StopIteration") []>>=fun e=>raiseNew e) _ _ _;refine Qaa (Qa4 hit (by simp) fun h0 e0 b0=>Qaa (Qa4 (s:={s with heap:=h0 }) e0 (by simp) fun h1 e1 b1=>Znl (s:={s with heap:=h1 }) hh fun e h3 kp ⟨ob,hob,hc⟩=> ?_));refine Qaa (QcQ (T:= "StopIteration") (b:=true) ⟨ob,hob,hc⟩ Qec (Qaj ?_));exact h2 h3 (by rw[ogt,hqi];rfl) fun b ob hb z=>kp b ob (b1.extBut b ob hb (b0.extBut b ob hb z))
theorem ZeK (O:Zjv w S es ep t T):O.ord.length=es.size:=by rw[O.perm.length_eq];simp
theorem ZnT (O:Zjv w S es ep t T)(hIS:I≠S)(hIT:I≠T)(hh:A.handled=none)(hd:o.data= .set es ep t)(hf:t.fits es.size=true)(tb:TB t (!w.params.followText "set-order")):
  Walks prog w A I [I,S,T] [I] es.size (fun i v=>O.ord[i]?=some v) (fun i h=>i≤es.size∧StI S I T o es.size ep O.first O.tup i h) where
 sub:=fun b hb=>by rw[Qan.mp hb];simp
 frame:=fun i h h' x k=>⟨x.1,k S (by simp) _ x.2.1,k I (by simp) _ x.2.2.1,fun ps hp=>k T (by simp) _ (x.2.2.2 ps hp)⟩
 item:=fun i s Q E hi x hQ=>Znm O hIS hIT hh hd hf tb x.1 x.2 (fun v h' hv st kp=>hQ v h' s.toks hv ⟨hi,st⟩ fun b ob hb z=>kp b ob (by simpa using hb) z) (fun h' hn _=>by
  rw[Qa7,ZeK O] at hn
  omega)
 done:=fun s Q E x hQ=>Znm O hIS hIT hh hd hf tb x.1 x.2 (fun v h' hv _ _=>by
  have:=(Qaf.mp hv).1
  rw[ZeK O] at this
  omega) (fun h' _ kp=>hQ h' s.toks fun b ob hb z=>kp b ob (by simpa using hb) z)
 self:=fun i s Q E x hQ=>by
  have hT:s.TypeIs (.ref I) "set_iterator" :=⟨_,x.2.2.1,rfl⟩;refine wpAny_pyIter_slot hT ZiE (Qbq ZiE hT Zjt ?_ (Zky _));show wpAny _ _ (ret (.ref I)) _ _ s;exact Qaj ⟨_,rfl, "set_iterator",_,hT,ZdT.lookup,hQ⟩
end
section
variable {T:Addr}{es:Array (Int×Value)}
theorem Zo7 {Q:Value→Shared→Prop}(ho:s.heap.get? S=some o)(hx:o.ExactSet)(hd:o.data= .set es ep t)(hf:t.fits es.size=true)(hb:es.size<scanBound)
  (h:∀(T I:Addr) (O:Zjv w S es ep t T) h' d',I≠S→I≠T→s.heap.objs.size≤I→(T=S∨s.heap.objs.size≤T)→StI S I T o es.size ep O.first O.tup 0 h'→(∀b ob,s.heap.get? b=some ob→h'.get? b=some ob)→Q (.ref I) {s with heap:=h',drawn:=d' }):
  wpAny (model prog w) A (pyIter (.ref S)) Q E s:=by
 have hT:s.TypeIs (.ref S) "set" :=⟨o,ho,hx.1⟩;have hSl:S<s.heap.objs.size:=Qap ho;refine wpAny_pyIter_slot hT QdZ (Qbq QdZ hT Zkz ?_ (PySem.F.args_set_iter_1 _));unfold Builtin.«frozenset.__iter__» Builtin.Frozenset.slot0 slotArgs;simp only[List.isEmpty_nil,Bool.not_true,Qb9,↓reduceIte,bind_assoc,Qd0,bne_self_eq_false];unfold Builtin.Frozenset.addrOf Builtin.Frozenset.sizeOf;refine Qaa (Qaj ?_)
 try dsimp only
 refine Qaa (Qaj ?_);refine Qaa (Qaa (wpAny_setEntries_of ho hd hf (Qaj ?_)));unfold setDrawn;refine Qaa (Qaa (Qcg ho hd hf ?_));dsimp only;unfold setsByText;refine Qaa (Qaa (Qcm (Qaj (Qaj ?_))));show wpAny _ _ (if(!w.params.followText "set-order" && (!t.plain && decide (es.size>1)))=true then _ else _) _ _ _
 have easy:∀(O:Zjv w S es ep t S),O.tup=none→O.first 0=rawInt 0→wpAny (model prog w) A.in1 (do
   let first←pure (rawInt 0)
   let e←setEpoch S
   let z←newFields "set_iterator" [first,rawInt 0,Value.ref S,rawInt es.size,rawInt e]
   ret z) (fun fin s'=>∃v,fin=Fin.done (Flow.ret v)∧∃T' r,s'.TypeIs v T'∧typeLookup (Value.type T') (Str.ofString "__next__")=pure (some r)∧Q v s') E s:=fun O ht hf0=>by
  refine Qaa (Qaj (Qaa (wpAny_setEpoch_of ho hd hf ?_)));unfold newFields;refine Qaa (Qa1 (Qaj ⟨_,rfl, "set_iterator",_,⟨_,Qax _ rfl,rfl⟩,ZdT.lookup,?_⟩));refine h S _ O _ s.drawn (Qbj hSl) (Qbj hSl) (Qal _) (.inl rfl) ⟨Qag _ ho,?_,fun ps hp=>by rw[ht] at hp;cases hp⟩ (fun b ob z=>Qag _ z);rw[hf0];exact Qax _ rfl
 cases bt:w.params.followText "set-order" with
 |true=>
  rw[if_neg (by simp)];exact easy ⟨_,fun _=>rawInt 0,none,(ZkB _ es).map _,.inl ⟨bt,rfl,fun _=>rfl,rfl⟩⟩ rfl rfl
 |false=>
  cases dr:(!t.plain && decide (es.size>1)) with
  |false=>
   rw[if_neg (by simp)];exact easy ⟨_,fun i=>rawInt ((if i=0 then 0 else t.place.getD (i-1) 0+1:Nat):Int),none,.refl _,.inr (.inl ⟨bt,dr,rfl,fun _=>rfl,rfl⟩)⟩ rfl rfl
  |true=>
   rw[if_pos (by simp)];refine Qaa (ZdC es.size _ s (by simp) fun ps d' hp=> ?_);refine Qaa (wpAny_newTuple (Qaa (wpAny_setEpoch_of (Qag _ ho) hd hf ?_)) (hsz:=by rw[Qac,hp.length_eq,QcE];exact QcC hb));unfold newFields;refine Qaa (Qa1 (Qaj ⟨_,rfl, "set_iterator",_,⟨_,Qax _ rfl,rfl⟩,ZdT.lookup,?_⟩))
   have hpm:(ps.filterMap fun i=>(es[i]?).map (·.2)).Perm (es.toList.map (·.2)):=by
    have e1:=hp.filterMap fun i=>(es[i]?).map (·.2)
    have e2:(List.range es.size).filterMap (fun i=>(es[i]?).map (·.2))=es.toList.map (·.2):=by
     rw[←List.map_filterMap,filterMap_getElem?_range]
    rw[e2] at e1;exact e1
   refine h s.heap.objs.size _ ⟨_,fun _=> .ref s.heap.objs.size,some (ps.map fun(i:Nat)=>rawInt i).toArray,hpm,.inr (.inr ⟨bt,ps,rfl,hp,fun _=>rfl,rfl⟩)⟩ _ d' ?_ ?_ ?_ (.inr (Qal _)) ⟨Qag _ (Qag _ ho),Qax _ rfl,fun qs hq=> ?_⟩ (fun b ob z=>Qag _ (Qag _ z))
   ·rw[Qa6];exact Qbj (QbL hSl)
   ·rw[Qa6];exact Qbj (QcN _)
   ·rw[Qa6];exact Qc6 _
   ·cases hq;exact Qag _ (Qax _ rfl)
theorem ZhD {R:List Value→Shared→Prop}(hh:A.handled=none)(ho:s.heap.get? S=some o)(hx:o.ExactSet)(hd:o.data= .set es ep t)(hf:t.fits es.size=true)(hb:es.size<scanBound)(tb:TB t (!w.params.followText "set-order"))
  (hR:∀(vs:List Value) (h':Heap) (tk:Nat) (d':Drawn),vs.Perm (es.toList.map (·.2))→(∀b ob,s.heap.get? b=some ob→h'.get? b=some ob)→R vs {s with heap:=h',toks:=tk,drawn:=d' }):wpAny (model prog w) A (collect (.ref S)) R E s:=by
 have hSl:S<s.heap.objs.size:=Qap ho;unfold collect;refine Qaa (Qea (QbG Qc7 ?_));rw[QbC Qc8 _];show wpAny _ A.in1 (newList []>>=fun q=>again (.builtin "list.__iadd__" ⟨[q,.ref S],[]⟩)) _ _ s;refine Qaa (Qa1 (Qaj ⟨Qc0 Qb3 _,QbG QdF ?_⟩));rw[QbC Qb3 _];have g2:(s.heap.push {cls:=.type "list",data:=.seq ([]:List Value).toArray }).get? s.heap.objs.size=some {cls:=.type "list",data:=.seq ([]:List Value).toArray }:=Qax _ rfl;have ho1:(s.heap.push {cls:=.type "list",data:=.seq ([]:List Value).toArray }).get? S=some o:=Qag _ ho;have g3:Builtin.List.listSameRef (.ref s.heap.objs.size) (.ref S)=false:=by simp[Builtin.List.listSameRef,Qbj hSl]
 show wpAny _ A.in1 (Builtin.List.listExtendWith (.ref s.heap.objs.size) (.ref S) (.ref s.heap.objs.size)) _ _ _;unfold Builtin.List.listExtendWith;refine Qaa (Qem (T:= "set") ⟨o,ho1,hx.1⟩ ?_);rw[if_neg (by rw[g3];decide)];refine Qaa (Zo7 ho1 hx hd hf hb fun T I O h1 d1 hIS hIT hIs hTs st kp=> ?_);refine Qaa (QbI ?_);unfold Builtin.List.listLengthHint;refine Qaa (wpAny_specialOf (T:= "set") ⟨o,kp _ _ ho1,hx.1⟩ PySem.F.slot_set_len.lookup ?_);generalize hid:("set.__len__" :String)=id0
 wp_delta
 rw[show splitId id0=some ("set", "__len__") from by subst hid;decide +kernel];subst hid;refine Qaa (QcQ (T:= "set") (b:=true) ⟨o,kp _ _ ho1,hx.1⟩ (by rw[Qeb];kernel_rfl) ?_);refine Qd1 (fun z=>absurd z (by decide)) (fun _=> ?_);refine Qd1 (fun _=> ?_) (fun z=>absurd (by decide +kernel) z);refine Qaa (Qem (T:= "set") ⟨o,kp _ _ ho1,hx.1⟩ (Qaj ?_));refine Qd1 (fun _=> ?_) (fun z=>absurd (by decide +kernel) z);refine Qaa (QcD (Qaa ?_));have hIs':s.heap.objs.size<I:=by rw[Qa6] at hIs;exact hIs
 have hI0:I≠s.heap.objs.size:=Qbj hIs'
 have hT0:T≠s.heap.objs.size:=by
  rcases hTs with z|z
  ·rw[z];exact QaL hSl
  ·rw[Qa6] at z;exact Qbj z
 have hS0:S≠s.heap.objs.size:=QaL hSl;have gl:=kp _ _ g2;show wpAny _ _ (updateSeq s.heap.objs.size (·.push .none)>>=fun _=>updateSeq s.heap.objs.size (·.pop)) _ _ _;refine Qaa (Qd2 gl rfl ?_);have gl2:=QbR (Obj.mapSeq (·.push Value.none)) gl rfl;refine Qd2 (hz:=by seq_fits) gl2 rfl ?_;have gl3:=QbR (Obj.mapSeq (·.pop)) gl2 rfl
 have oth:∀b ob,b≠s.heap.objs.size→h1.get? b=some ob→((h1.update s.heap.objs.size (Obj.mapSeq (·.push Value.none))).update s.heap.objs.size (Obj.mapSeq (·.pop))).get? b=some ob:=fun b ob hb z=>
  (Qb7 _ _ (Ne.symm hb)).trans ((Qb7 _ _ (Ne.symm hb)).trans z)
 have Wk:=(ZnT (prog:=prog) (A:=A.in1) O hIS hIT hh hd hf tb).toS
 refine Qaj ⟨Qc0 PySem.F.plain_extend_loop _,codeAny_extend_loopS Wk (QcC hb) s.heap.objs.size (by simp[Ne.symm hI0,Ne.symm hT0,Ne.symm hS0]) _ es.size 0 _ #[] _ rfl (QaV _)
  ⟨QaV _,oth _ _ hS0 st.1,oth _ _ hI0 st.2.1,fun ps hp=>oth _ _ hT0 (st.2.2 ps hp)⟩ gl3 (ItemsOf.nil _) fun s' acc' c' hm hS' hacc=> ?_⟩
 show wpAny _ A (load s.heap.objs.size>>=_) _ _ s';refine Qaa (wpAny_load hS' (Qaj ?_))
 have ea:acc'.toList=O.ord:=by
  apply QcF;intro i;by_cases hi:i<es.size
  ·have hl:i<acc'.size:=by rw[hacc.1];exact hi
   rw[Qbf,QaH hl];exact(hacc.2 i _ (QaH hl)).symm
  ·rw[Qay (by rw[Qa0,hacc.1];omega),Qay (by rw[ZeK O];omega)]
 rw[ea]
 have:=hR O.ord s'.heap s'.toks s'.drawn O.perm fun b ob z=> ?_
 ·obtain⟨h9,g9,d9,t9,o9⟩:=s';have eg:g9=s.gens:=hm.gens;have eo:o9=s.os:=hm.os;subst eg eo;exact this
 ·have hb0:b<s.heap.objs.size:=Qap z;refine hm.heap b ob ?_ (oth b ob (QaL hb0) (kp b ob (Qag _ z)));simp only[Qas,QaZ,Qca,not_or];exact⟨QaL hb0,QaL (Qcf hb0 hIs')⟩
theorem Zjw {Q:Value→Shared→Prop}(hh:A.handled=none)(hj:ZgK prog w s.heap S ns)(h64:ns.length<64)
  (h:∀(out:Array Value) (ms:List Int) (h1 h':Heap) (tk:Nat) (d':Drawn) (e:Nat),(∀b ob,s.heap.get? b=some ob→h1.get? b=some ob)→(∀b ob,h1.get? b=some ob→h'.get? b=some ob)→IntsAre out.toList ms→ms.Perm ns→ms.Pairwise (· ≤ ·)→h'.get? h1.objs.size=some (seqObj "list" out e)→Q (.ref h1.objs.size) {s with heap:=h',toks:=tk,drawn:=d' }):
  wpAny (model prog w) A (call (.builtin "sorted") [.ref S]) Q E s:=by
 obtain⟨o,es,ep,t,ho,hx,hd,_,⟨ms0,hi,hp⟩,hb,hf,tb⟩:=hj;refine Qdr kind_sorted plain_sorted entry_sorted (args_sorted1 _) ?_;unfold Builtin.«sorted»;refine Qaa (m:=checkCount "sorted" 1 1 _) (Qaj (Qaa (ZhD hh ho hx hd hf hb tb fun vs h1 tk d' hpv kp=> ?_)));obtain⟨ms,hI,hpm⟩:=Zde hpv hi;have hl:vs.length<64:=by rw[hI.length,hpm.length_eq,hp.length_eq];exact h64
 refine Qaa (wpAny_newList ?_);have hoL:(h1.push {cls:=.type "list",data:=.seq vs.toArray }).get? h1.objs.size=some (seqObj "list" vs.toArray 0):=Qax _ rfl;refine Qaa (QbI (Qbq slot_list_sort ⟨_,hoL,rfl⟩ entry_list_sort (list_sort_tree (s:={s with heap:=h1.push {cls:=.type "list",data:=.seq vs.toArray },toks:=tk,drawn:=d' }) hoL hI hl fun out ms' a1 a2 a3=>⟨_,rfl,?_⟩) (args_list_sort _)));obtain⟨e,he⟩:=sortedHeap_at (out:=out) hoL;refine Qaj ⟨_,rfl,h out ms' h1 _ tk d' e kp (fun b ob z=> ?_) a1 ((a2.trans hpm).trans hp) a3 he⟩;have hlt:b<h1.objs.size:=Qap z;rw[sortedHeap_old (QaL hlt) (by rw[Qa6];exact QbL hlt)];exact Qag _ z
end
theorem Inv.keptD {d':Drawn}(I:Inv X qa σ H s)(k:∀b u,s.heap.get? b=some u→h'.get? b=some u):Inv X qa σ H {s with heap:=h',toks:=t',drawn:=d' }:=
 I.step (g':=s.gens) (d':=d') (ch:=[]) (fun _ z=>nomatch z) (fun b o _ _ _ e _=>k b o e) (fun b o _ _ _ e _=>⟨o.slots,k b o e⟩) (fun _ _ _ _ n=>n) (fun b o _ e=>⟨o,k b o e⟩) (fun _ _ e=>e) (fun _ _ _ e=>e) (fun b ps e=>⟨#[],by rw[e];simp⟩)
  (fun m hm=>by obtain⟨o,es,ep,ho,r⟩:=hm;exact⟨o,es,ep,k _ o ho,r⟩) (I.hok.kept k) I.bare
theorem Zmo:bootBuiltins "set" =some (.type "set"):=by decide +kernel
theorem ZgO:bootBuiltins "sorted" =some (.builtin "sorted"):=by decide +kernel
theorem ZgP {a:Expr}{ta:TE}{pos pos2:PySem.Pos}(hc:X.calm=true)(ha:PE X a ta)(hg:Gl X "sorted")(hm:X.mg "sorted" =none)(hg2:Gl X "set")(hm2:X.mg "set" =none)(hsa:starEach [a] X.env=[(false,eval a X.env)]:=by rfl):
  PE X (.Call (.Name "sorted" p) [.Call (.Name "set" p2) [a] [] pos2] [] pos) (fun σ H Q=>ta σ H fun x H1=>∃(l:Addr) (ns:List Int),x= .ref l∧SqL X.K H1 l (ns.map V.int)∧ns.length<64∧
   ∀(q:Addr) (ms:List Int),H1 q=none→ms.Perm (dd ns)→ms.Pairwise (· ≤ ·)→Q (.ref q) (upd H1 q (.lst (ms.map V.int)))):=by
 intro qa s σ H Q I h;refine Qbk (Zea I hg hm ZgO ?_);refine QcH (rest:=[]) ?_ rfl rfl;show wpAny _ _ (spliced ((false,eval (.Call (.Name "set" p2) [a] [] pos2) X.env):: [])) _ _ s;refine Qb8 (Qbk (Zea I hg2 hm2 Zmo ?_));refine Qbw (rest:=[]) ?_ hsa rfl;rw[hsa];show wpAny _ _ (spliced ((false,eval a X.env):: [])) _ _ s;refine Qb8 (thn (ha qa s σ H _ I h) fun u s1 ⟨y,H1,I1,r1,l,ns,ey,hq,h64,q⟩=>QcA ?_);subst ey;cases r1;obtain⟨its,r,pl,hz⟩:=I1.list hq;have hi:=Zji r;have hln:its.length=ns.length:=hi.length;refine ZhC (I1.ok.hd hc) pl.isList (by simpa using hi) (by simp[hln,scanBound];omega) fun h2 tk hj hk=>QcA ?_;have I2:Inv X qa σ H1 {s1 with heap:=h2,toks:=tk }:=I1.kept fun b ob z=>hk b ob (Qap z) z;refine Zjw (s:={s1 with heap:=h2,toks:=tk }) (I1.ok.hd hc) hj (QaG (ZgM ns) h64) fun out ms h3 h4 tk4 d4 e kp3 kp4 hI hp hs he=> ?_;have I3:Inv X qa σ H1 {s1 with heap:=h3,toks:=tk,drawn:=d4 }:=I2.keptD kp3;have hml:ms.length≤63:=by rw[hp.length_eq];have:=ZgM ns;omega
 refine⟨.ref h3.objs.size,_,I3.laid (t':=tk4) (o:=.lst (ms.map V.int)) kp4 (Qal _) ⟨?_,out.toList,e,ZdR hI,?_⟩,rfl,q _ ms (I3.hok.fresh (Qal _)) hp hs⟩
 ·rw[Qac];exact Qcc (Za7 (by omega))
 ·rw[he]
def Zp6 (te:TE)(g1 g2 g3:TG):TS:=fun D σ H=>te σ H fun x H1=>g1 x σ H1 fun σ1 H2=>g2 x σ1 H2 fun σ2 H3=>g3 x σ2 H3 D.nx
theorem ZnU {t1 t2 t3 e:Expr}{g1 g3:TG}{pos:PySem.Pos}(he:PE X e te)(h1:PG X t1 g1)(h2:PG X t2 g2)(h3:PG X t3 g3)
  (ha:(assignEach [t1,t2,t3] X.env).map (·.2)=[assign t1 X.env,assign t2 X.env,assign t3 X.env]:=by rfl) (hw:swappedStores [t1,t2,t3] e X.env=pure none:=by rfl):
  PS X (.Assign [t1,t2,t3] e pos) (Zp6 te g1 g2 g3):=by
 intro qa s σ H D I h;refine wpAny_Assign_three (thn (he qa s σ H _ I h) fun v s1 ⟨x,G1,I1,r1,q1⟩=> ?_) ha hw;refine thn (h1 qa s1 σ G1 x v _ I1 r1 q1) fun _ s2 ⟨σ2,G2,I2,q2⟩=> ?_;refine thn (h2 qa s2 σ2 G2 x v _ I2 r1 q2) fun _ s3 ⟨σ3,G3,I3,q3⟩=> ?_;exact thn (h3 qa s3 σ3 G3 x v _ I3 r1 q3) fun _ s4 q=>q
end L2
namespace Toy
open PySem L2 PyProof.Rows
variable {p a:Int}{e:Int×List Int}{u:List Int}
abbrev Wl:=List (Int×List Int)
def Adj:List (List Int)→Prop
 |a::b::r=>a≠b∧Adj (b::r)
 |_=>True
theorem Zjx {L:Wl}(he:0≤e.1):tot (ZaW L e)=tot L+e.1:=by
 unfold ZaW;split
 ·split
  ·rename_i l hl;split
   ·have e0:=Zcr hl
    have:tot L=tot L.dropLast+l.1:=by
     rw[congrArg tot e0,ZaV,Zat,Zaw];omega
    rw[this,ZaV,Zat,Zaw];show _+(e.1+l.1+0)=_;omega
   ·rw[ZaV,Zat,Zaw];omega
  ·rw[ZaV,Zat,Zaw];omega
 ·omega
theorem shape_tot {L:Wl}(h:∀e∈L,0≤e.1):tot (ZaM L)=tot L:=by
 have key:∀(L acc:Wl),(∀e∈L,0≤e.1)→tot (L.foldl ZaW acc)=tot acc+tot L:=by
  intro L
  induction L with
  |nil=>intro acc _;rw[List.foldl_nil,Zaw];omega
  |cons x L ih=>
   intro acc hL;rw[QbA,ih _ (fun e he=>hL e (Qab _ he)),Zjx (hL x Qad),Zat];omega
 have:=key L [] h;rw[Zaw] at this;unfold ZaM;omega
theorem ZdI {L:Wl}(h:∀e∈L,1≤e.1)(n:Nat):tot (L.take n)≤tot L:=by
 have e:tot L=tot (L.take n)+tot (L.drop n):=by rw[←ZaV,QcI]
 have q:∀M:Wl,(∀e∈M,1≤e.1)→0≤tot M:=by
  intro M
  induction M with
  |nil=>intro _;rw[Zaw];exact QaX _
  |cons x M ih=>
   intro hM;rw[Zat]
   have:=hM x Qad
   have:=ih fun e he=>hM e (Qab _ he);omega
 have:=q (L.drop n) fun e he=>h e (List.mem_of_mem_drop he);omega
theorem ZhE {M:Wl}(hM:∀e∈M,1≤e.1):0≤tot M:=by
 have:=ZdI hM 0;rw[Qa8,Zaw] at this;exact this
theorem tot_ge {L:Wl}(h:∀e∈L,1≤e.1)(he:e∈L):e.1≤tot L:=by
 obtain⟨i,hi⟩:=Qbu.mp he;have a:=ZdI h (i+1);rw[Zcq hi] at a;have b:=ZhE (M:=L.take i) fun e he=>h e (Qcj he);omega
def atW:Wl→Int→List Int
 | [],_=>[]
 | (a,u)::L,p=>if p<a then u else atW L (p-a)
theorem atW_lt {L:Wl}(h:p<a):atW ((a,u)::L) p=u:=by unfold atW;rw[if_pos h]
theorem atW_ge {L:Wl}(h:a≤p):atW ((a,u)::L) p=atW L (p-a):=by
 conv=>lhs;unfold atW
 rw[if_neg (by omega)]
theorem tot_pos0:∀{M:Wl},(∀e∈M,0≤e.1)→0≤tot M
 | [],_=>by rw[Zaw];exact QaX _
 |x::M,h=>by
  rw[Zat]
  have:=h x Qad
  have:=tot_pos0 (M:=M) fun e he=>h e (Qab _ he);omega
theorem ZcN:∀{A:Wl} {B:Wl} {p:Int},(∀e∈A,0≤e.1)→0≤p→p<tot A→atW (A++B) p=atW A p
 | [],B,p,h,h0,hp=>by rw[Zaw] at hp;omega
 | (a,u)::A,B,p,h,h0,hp=>by
  rw[Zat] at hp;by_cases z:p<a
  ·rw[QcR,atW_lt z,atW_lt z]
  ·rw[QcR,atW_ge (by omega),atW_ge (by omega)];exact ZcN (fun e he=>h e (Qab _ he)) (by omega) (by have hp:p<a+tot A:=hp;omega)
theorem Zce:∀{A:Wl} {B:Wl} {p:Int},(∀e∈A,0≤e.1)→tot A≤p→atW (A++B) p=atW B (p-tot A)
 | [],B,p,h,hp=>by rw[Zaw,Qcd,Qce]
 | (a,u)::A,B,p,h,hp=>by
  rw[Zat] at hp⊢;have hp:a+tot A≤p:=hp
  have:=tot_pos0 (M:=A) fun e he=>h e (Qab _ he);rw[QcR,atW_ge (by omega),Zce (fun e he=>h e (Qab _ he)) (by omega)];show atW B (p-a-tot A)=atW B (p-(a+tot A));rw[Int.sub_sub]
theorem ZkD:∀{A B:Wl},(∀e∈A,1≤e.1)→(∀e∈B,1≤e.1)→Adj (A.map (·.2))→Adj (B.map (·.2))→tot A=tot B→(∀p,0≤p→p<tot A→atW A p=atW B p)→A=B
 | [],[],_,_,_,_,_,_=>rfl
 | [],(b,v)::B,_,hB,_,_,ht,_=>by
  rw[Zaw,Zat] at ht
  have:=hB _ Qad
  have:=tot_pos0 (M:=B) fun e he=>by have:=hB e (Qab _ he);omega
  have ht:0=b+tot B:=ht;have h1:1≤b:=hB (b,v) Qad;omega
 | (a,u)::A,[],hA,_,_,_,ht,_=>by
  rw[Zaw,Zat] at ht
  have:=tot_pos0 (M:=A) fun e he=>by have:=hA e (Qab _ he);omega
  have ht:a+tot A=0:=ht;have h1:1≤a:=hA (a,u) Qad;omega
 | (a,u)::A,(b,v)::B,hA,hB,aA,aB,ht,hp=>by
  have a1:1≤a:=hA (a,u) Qad;have b1:1≤b:=hB (b,v) Qad;have pA:=tot_pos0 (M:=A) fun e he=>by have:=hA e (Qab _ he);omega
  have pB:=tot_pos0 (M:=B) fun e he=>by have:=hB e (Qab _ he);omega
  rw[Zat,Zat] at ht;have ht:a+tot A=b+tot B:=ht;have tA:tot ((a,u)::A)=a+tot A:=Zat _ _;have e0:=hp 0 (by omega) (by omega);rw[atW_lt (by omega),atW_lt (by omega)] at e0;subst e0
  have key:∀{c d:Int} {w:List Int} {C D:Wl},1≤c→c<d→(∀e∈C,1≤e.1)→c+tot C=d+tot D→0≤tot D→Adj (((c,w)::C).map (·.2))→(∀p,0≤p→p<c+tot C→atW ((c,w)::C) p=atW ((d,w)::D) p)→False:=by
   intro c d w C D c1 cd hC hcd pD aC hq
   cases C with
   |nil=>rw[Zaw] at hcd;omega
   |cons y C=>
    have y1:=hC y Qad;have q:=hq c (by omega) (by omega);rw[atW_ge (QaX _),atW_lt cd,Int.sub_self] at q;obtain⟨m,z⟩:=y;have y1:1≤m:=y1;rw[atW_lt (by omega)] at q;exact aC.1 q.symm
  have hab:a=b:=by
   rcases Int.lt_trichotomy a b with z|z|z
   ·exact(key a1 z (fun e he=>hA e (Qab _ he)) ht pB aA fun p p0 p1=>hp p p0 (by omega)).elim
   ·exact z
   ·exact(key b1 z (fun e he=>hB e (Qab _ he)) ht.symm pA aB fun p p0 p1=>(hp p p0 (by omega)).symm).elim
  subst hab
  have tl:∀{x:List Int} {C:List (List Int)},Adj (x::C)→Adj C:=by
   intro x C h
   cases C with
   |nil=>trivial
   |cons y C=>exact h.2
  have:=ZkD (A:=A) (B:=B) (fun e he=>hA e (Qab _ he)) (fun e he=>hB e (Qab _ he)) (tl aA) (tl aB) (by omega) fun p p0 p1=>by
   have q:=hp (a+p) (by omega) (by omega);rw[atW_ge (by omega),atW_ge (by omega),show a+p-a=p by omega] at q;exact q
  rw[this]
theorem ZkE {acc:Wl}{L:Wl}(ha:∀x∈acc,0≤x.1)(he:0≤e.1)(h0:0≤p):atW (ZaW acc e++L) p=atW (acc++e::L) p:=by
 obtain⟨m,w⟩:=e;have he:0≤m:=he
 have two:∀{l:Int} {q:Int},0≤l→atW ((m+l,w)::L) q=atW ((l,w)::(m,w)::L) q:=by
  intro l q hl;by_cases z:q<l
  ·rw[atW_lt (by omega),atW_lt z]
  ·rw[atW_ge (L:=(m,w)::L) (by omega)];by_cases z2:q-l<m
   ·rw[atW_lt (by omega),atW_lt z2]
   ·rw[atW_ge (by omega),atW_ge (by omega),show q-(m+l)=q-l-m by omega]
 have same:∀{A B C:Wl},(∀x∈A,0≤x.1)→(∀q,0≤q→atW B q=atW C q)→atW (A++B) p=atW (A++C) p:=by
  intro A B C hA hq;by_cases z:p<tot A
  ·rw[ZcN hA h0 z,ZcN hA h0 z]
  ·rw[Zce hA (by omega),Zce hA (by omega)];exact hq _ (by omega)
 unfold ZaW;split
 ·split
  ·rename_i l hl;split
   ·rename_i hw;have e0:=Zcr hl;have hl0:0≤l.1:=ha l (QcW hl);obtain⟨l1,l2⟩:=l;have hw:l2=w:=hw;subst hw;rw[congrArg (fun z=>z++(m,l2)::L) e0,Qa2,Qa2];exact same (fun x hx=>ha x (QbW _ hx)) fun q _=>two hl0
   ·rw[Qa2];rfl
  ·rw[Qa2];rfl
 ·rename_i hn;have m0:m=0:=by have:¬0<m:=hn;omega
  subst m0;refine same ha fun q hq=> ?_;rw[atW_ge (by omega),Qce]
theorem Zes {L:Wl}(h:∀e∈L,0≤e.1)(h0:0≤p):atW (ZaM L) p=atW L p:=by
 have pos:∀{acc:Wl} {e:Int×List Int},(∀x∈acc,0≤x.1)→0≤e.1→∀x∈ZaW acc e,0≤x.1:=by
  intro acc e ha he x hx;unfold ZaW at hx;split at hx
  ·split at hx
   ·rename_i l hl;split at hx
    ·rcases Qaz.mp hx with z|z
     ·exact ha x (QbW _ z)
     ·rw[Qan.mp z]
      have:=ha l (QcW hl);show 0≤e.1+l.1;omega
    ·rcases Qaz.mp hx with z|z
     ·exact ha x z
     ·rw[Qan.mp z];exact he
   ·rcases Qaz.mp hx with z|z
    ·exact ha x z
    ·rw[Qan.mp z];exact he
  ·exact ha x hx
 have key:∀(L acc:Wl),(∀e∈L,0≤e.1)→(∀x∈acc,0≤x.1)→atW (L.foldl ZaW acc) p=atW (acc++L) p:=by
  intro L
  induction L with
  |nil=>intro acc _ _;rw[List.foldl_nil,Qbo]
  |cons x L ih=>
   intro acc hL ha;have hx:=hL x Qad;rw[QbA,ih _ (fun e he=>hL e (Qab _ he)) (pos ha hx)];exact ZkE ha hx h0
 exact key L [] h fun x hx=>(by cases hx)
end Toy
namespace L2
open PySem PySem.Spec PyProof.Rows
variable {l1 l2 z i1 i2 it t a b:Addr}{xs ys its:Array Value}{Q E:Value→Shared→Prop}{n1 n2 i n:Nat}{u v x y:Value}{w:World}{prog:Program}{A:Around}{s:Shared}{g:TG}{σ:St}{H:Hp}
theorem nxT (st:s.heap.IsTupleIter it t i)(ht:s.heap.IsTuple t its)(hx:its[i]?=some x)
  (k:∀h',h'.IsTupleIter it t (i+1)→Heap.SameBut it s.heap h'→Q x {s with heap:=h' }):wpAny (model prog w) A (Builtin.SmallTypes.nextOf (.ref it)) Q E s:=by
 obtain⟨o,e,c,d⟩:=id st;obtain⟨ot,et,_,m,dt⟩:=ht;unfold Builtin.SmallTypes.nextOf;refine Qaa (Qby (name:=Str.ofString "__next__") st.typeIs F.slot_tuple_iterator_next (Qbq F.slot_tuple_iterator_next st.typeIs F.entry_tuple_iterator_next (show wpAny _ _ (field (.ref it) 0>>=_) _ _ s from Qaa (Qbx e d (x:=.ref t) rfl ?_)) (F.args_tuple_iterator_next_1 _)));show wpAny _ _ (if(Value.ref t==Value.none)=true then _ else _) _ _ s;rw[if_neg (show ¬(Value.ref t==Value.none)=true by intro z;exact QaB z)];refine(show wpAny _ _ (field (.ref it) 1>>=_) _ _ s from Qaa (Qbx e d (x:=.int i 0) rfl (show wpAny _ _ (seqItems? (.ref t)>>=_) _ _ s from Qaa (QbK et dt ?_))));simp only[QbZ,hx];refine Qaa (wpAny_setField e d (by simp) (Qaj ⟨x,rfl,Qaj (k _ ⟨_,QbR _ e (Obj.isFreed_of_fields (Obj.data_mapFields d _)),(Obj.cls_mapFields ..).trans c,?_⟩ (Qcn ..))⟩));rw[Obj.data_mapFields d];simp[rawInt]
theorem Zqx (hh:A.handled=none)(st:s.heap.IsTupleIter it t i)(ht:s.heap.IsTuple t its)(hx:its[i]?=none)
  (k:∀h' e,Heap.ExtBut it s.heap h'→(∃o,h'.get? e=some o∧o.cls= .type "StopIteration")→E (.ref e) {s with heap:=h' }):wpAny (model prog w) A (Builtin.SmallTypes.nextOf (.ref it)) Q E s:=by
 obtain⟨o,e,c,d⟩:=id st;obtain⟨ot,et,_,m,dt⟩:=ht;unfold Builtin.SmallTypes.nextOf;refine Qaa (Qby (name:=Str.ofString "__next__") st.typeIs F.slot_tuple_iterator_next (Qbq F.slot_tuple_iterator_next st.typeIs F.entry_tuple_iterator_next (show wpAny _ _ (field (.ref it) 0>>=_) _ _ s from Qaa (Qbx e d (x:=.ref t) rfl ?_)) (F.args_tuple_iterator_next_1 _)));show wpAny _ _ (if(Value.ref t==Value.none)=true then _ else _) _ _ s;rw[if_neg (show ¬(Value.ref t==Value.none)=true by intro z;exact QaB z)];refine(show wpAny _ _ (field (.ref it) 1>>=_) _ _ s from Qaa (Qbx e d (x:=.int i 0) rfl (show wpAny _ _ (seqItems? (.ref t)>>=_) _ _ s from Qaa (QbK et dt ?_))));simp only[QbZ,hx];refine Qaa (QcD (Qaa (wpAny_setField e d (by simp) (show wpAny _ _ (newExc (.type "StopIteration") []>>=_) _ _ _ from Qaa ?_))));simp only[newExc,newTuple];refine Qaa (Qa1 (Qaa (m:=firstArgMember _ _) (Qef (a:=Value.none) (by first|rfl|(simp only[firstArgMember];rfl)) (Qa1 ?_ (by size_fits)))) (by size_fits));simp only[raiseNew];refine Qaa (wpAny_handled ?_)
 first|rw[show A.in1.handled=none from hh]|rw[hh]
 exact Qaa (Qaj (wpAny_throw (k _ _ (((Qcn ..).extBut.push _).push _) ⟨_,Qax _ rfl,rfl⟩)))
theorem ZnV {TI TO:Addr}(D:ZipApart z TI TO i1 i2 l1 l2)(hz:IsZip s.heap z TI TO .none)(hI:IsPair s.heap TI (.ref i1) (.ref i2))(hO:IsPair s.heap TO u v)
  (s1:s.heap.IsTupleIter i1 l1 n1) (s2:s.heap.IsTupleIter i2 l2 n2) (t1:s.heap.IsTuple l1 xs) (t2:s.heap.IsTuple l2 ys) (ex:xs[n1]?=some x) (ey:ys[n2]?=some y)
  (k:∀h',IsZip h' z TI TO (rawInt s.heap.objs.size)→IsPair h' TO x y→h'.IsTupleIter i1 l1 (n1+1)→h'.IsTupleIter i2 l2 (n2+1)→IsPair h' s.heap.objs.size x y→h'.objs.size=s.heap.objs.size+1→(∀c o,c≠z→c≠TO→c≠i1→c≠i2→s.heap.get? c=some o→h'.get? c=some o)→Q (.ref s.heap.objs.size) {s with heap:=h' }):
  wpAny (model prog w) A (Builtin.«zip.__next__» ⟨[.ref z],[]⟩) (fun fin s'=>∃r,fin= .done (.ret r)∧Q r s') E s:=by
 refine(show wpAny _ _ (field (.ref z) 2>>=_) _ _ _ from Qaa (Qbx hz rfl (x:=.bool false) rfl (show wpAny _ _ (field (.ref z) 3>>=_) _ _ _ from Qaa (Qbx hz rfl (x:=.ref TI) rfl (Qaa (QbK hI rfl ?_))))));refine(show wpAny _ _ (Builtin.SmallTypes.ownedTupleIsFree (.ref z)>>=_) _ _ _ from Qaa ?_);unfold Builtin.SmallTypes.ownedTupleIsFree;refine Qaa (Qbx hz rfl (x:=.none) rfl (Qaj ?_));simp only[QdB];refine Qaa (QcD (Qaa (Qbx hz rfl (x:=.ref TO) rfl (Qaa (Qa4 hz (by simp) fun ha (za:IsZip ha z TI TO .ellipsis) ba=>Qaa ?_)))));simp only[List.zipIdx_cons,List.zipIdx_nil,Qc5,List.forIn_nil];refine Qaa (Qaa (QdG (show wpAny _ _ (Builtin.SmallTypes.nextOf (.ref i1)>>=_) _ _ _ from Qaa (nxT (s1.extBut ba.extBut D.i1z) (t1.extBut ba.extBut D.l1z) ex fun hb sb bb=>Qaj ?_))));have Ob:IsPair hb TO u v:=bb.extBut _ _ D.TOi1 (ba.extBut _ _ D.TOz hO);refine Qaa (QbK Ob rfl (Qaa (QcX Ob fun hc (Oc:IsPair hc TO x v) bc=>Qaa (wpAny_letGo (Qaj ?_)))));refine Qaa (Qaa (QdG (show wpAny _ _ (Builtin.SmallTypes.nextOf (.ref i2)>>=_) _ _ _ from Qaa (nxT (((s2.extBut ba.extBut D.i2z).extBut bb.extBut D.i12.symm).extBut bc.extBut D.TOi2.symm) (((t2.extBut ba.extBut D.l2z).extBut bb.extBut D.l2i1).extBut bc.extBut D.l2TO) ey fun hd sd bd=>Qaj ?_))));have Od:IsPair hd TO x v:=bd.extBut _ _ D.TOi2 Oc;refine Qaa (QbK Od rfl (Qaa (QcX Od fun he (Oe:IsPair he TO x y) be=>Qaa (wpAny_letGo (Qaj (Qaj (Qaa (QbK Oe rfl (Qaa (wpAny_newTuple ?_))))))))));have size:he.objs.size=s.heap.objs.size:=be.1.trans (bd.1.trans (bc.1.trans (bb.1.trans ba.1)));have ze:IsZip he z TI TO .ellipsis:=be.extBut _ _ D.TOz.symm (bd.extBut _ _ D.i2z.symm (bc.extBut _ _ D.TOz.symm (bb.extBut _ _ D.i1z.symm za)));have keep:∀c o,c≠z→c≠TO→c≠i1→c≠i2→s.heap.get? c=some o→he.get? c=some o:=fun c o q1 q2 q3 q4 e=>be.extBut _ _ q2 (bd.extBut _ _ q4 (bc.extBut _ _ q2 (bb.extBut _ _ q3 (ba.extBut _ _ q1 e))));have r1:he.IsTupleIter i1 l1 (n1+1):=((sb.extBut bc.extBut D.TOi1.symm).extBut bd.extBut D.i12).extBut be.extBut D.TOi1.symm;have r2:he.IsTupleIter i2 l2 (n2+1):=sd.extBut be.extBut D.TOi2.symm;have zlt:z<he.objs.size:=Qap ze;refine(show wpAny _ _ (Builtin.SmallTypes.ownedTupleHandOut (.ref z) (.ref he.objs.size)>>=_) _ _ _ from Qaa ?_);unfold Builtin.SmallTypes.ownedTupleHandOut;have zf:IsZip (he.push {cls:=.type "tuple",data:=.seq #[x,y] }) z TI TO .ellipsis:=Qag _ ze;refine Qaa (Qa4 zf (by simp) fun hg (zg:IsZip hg z TI TO (rawInt he.objs.size)) bg=>Qa4 zg (by simp) fun hk (zk:IsZip hk z TI TO (rawInt he.objs.size)) bk=> ?_);have up:∀c o,c≠z→he.get? c=some o→hk.get? c=some o:=fun c o q e=>bk.extBut _ _ q (bg.extBut _ _ q (Qag _ e));have Tk:IsPair hk he.objs.size x y:=bk.extBut _ _ (Qbj zlt) (bg.extBut _ _ (Qbj zlt) (Qax _ rfl));have sk:hk.objs.size=he.objs.size+1:=by rw[bk.1,bg.1,Qa6]
 rw[size] at zk Tk sk;refine Qaj ⟨_,rfl,(show Q (.ref he.objs.size) _ from ?_)⟩;rw[size];exact k hk zk (up _ _ D.TOz Oe) (r1.at fun o e=>up _ o D.i1z e) (r2.at fun o e=>up _ o D.i2z e) Tk sk fun c o q1 q2 q3 q4 e=>up c o q1 (keep c o q1 q2 q3 q4 e)
theorem Zo8 {TI TO:Addr}{Q:Fin→Shared→Prop}(hh:A.handled=none)(D:ZipApart z TI TO i1 i2 l1 l2)(hz:IsZip s.heap z TI TO .none)(hI:IsPair s.heap TI (.ref i1) (.ref i2))(hO:IsPair s.heap TO u v)
  (s1:s.heap.IsTupleIter i1 l1 n1) (s2:s.heap.IsTupleIter i2 l2 n2) (t1:s.heap.IsTuple l1 xs) (t2:s.heap.IsTuple l2 ys) (fin:xs[n1]?=none∨ys[n2]?=none)
  (k:∀h' e,(∀c o,c≠z→c≠TO→c≠i1→c≠i2→s.heap.get? c=some o→h'.get? c=some o)→(∃o,h'.get? e=some o∧o.cls= .type "StopIteration")→E (.ref e) {s with heap:=h' }):
  wpAny (model prog w) A (Builtin.«zip.__next__» ⟨[.ref z],[]⟩) Q E s:=by
 refine(show wpAny _ _ (field (.ref z) 2>>=_) _ _ _ from Qaa (Qbx hz rfl (x:=.bool false) rfl (show wpAny _ _ (field (.ref z) 3>>=_) _ _ _ from Qaa (Qbx hz rfl (x:=.ref TI) rfl (Qaa (QbK hI rfl ?_))))));refine(show wpAny _ _ (Builtin.SmallTypes.ownedTupleIsFree (.ref z)>>=_) _ _ _ from Qaa ?_);unfold Builtin.SmallTypes.ownedTupleIsFree;refine Qaa (Qbx hz rfl (x:=.none) rfl (Qaj ?_));simp only[QdB];refine Qaa (QcD (Qaa (Qbx hz rfl (x:=.ref TO) rfl (Qaa (Qa4 hz (by simp) fun ha (za:IsZip ha z TI TO .ellipsis) ba=>Qaa ?_)))));simp only[List.zipIdx_cons,List.zipIdx_nil,Qc5,List.forIn_nil];refine Qaa (Qaa (QdG (show wpAny _ _ (Builtin.SmallTypes.nextOf (.ref i1)>>=_) _ _ _ from ?_)))
 cases ex:xs[n1]? with
 |none=>
  refine Qaa (Zqx hh (s1.extBut ba.extBut D.i1z) (t1.extBut ba.extBut D.l1z) ex fun hb e bb ⟨oe,ge,ce⟩=> ?_);have zb:IsZip hb z TI TO .ellipsis:=bb _ _ D.i1z.symm za;have ne:e≠z:=fun q=>by subst q;rw[zb] at ge;cases ge;simp at ce
  exact Qa4 zb (by simp) fun hc _ bc=>k hc e (fun c o q1 _ q3 _ g=>bc.extBut _ _ q1 (bb _ _ q3 (ba.extBut _ _ q1 g))) ⟨oe,bc.extBut _ _ ne ge,ce⟩
 |some x=>
  have ey:ys[n2]?=none:=fin.resolve_left (by rw[ex];exact fun q=>by cases q);refine Qaa (nxT (s1.extBut ba.extBut D.i1z) (t1.extBut ba.extBut D.l1z) ex fun hb sb bb=>Qaj ?_);have Ob:IsPair hb TO u v:=bb.extBut _ _ D.TOi1 (ba.extBut _ _ D.TOz hO);refine Qaa (QbK Ob rfl (Qaa (QcX Ob fun hc Oc bc=>Qaa (wpAny_letGo (Qaj (Qaa (Qaa (QdG (show wpAny _ _ (Builtin.SmallTypes.nextOf (.ref i2)>>=_) _ _ _ from Qaa ?_)))))))));refine Zqx hh (((s2.extBut ba.extBut D.i2z).extBut bb.extBut D.i12.symm).extBut bc.extBut D.TOi2.symm) (((t2.extBut ba.extBut D.l2z).extBut bb.extBut D.l2i1).extBut bc.extBut D.l2TO) ey fun hd e bd ⟨oe,ge,ce⟩=> ?_;have zd:IsZip hd z TI TO .ellipsis:=bd _ _ D.i2z.symm (bc.extBut _ _ D.TOz.symm (bb.extBut _ _ D.i1z.symm za));have ne:e≠z:=fun q=>by subst q;rw[zd] at ge;cases ge;simp at ce
  exact Qa4 zd (by simp) fun hf _ bf=>k hf e (fun c o q1 q2 q3 q4 g=>bf.extBut _ _ q1 (bd _ _ q4 (bc.extBut _ _ q2 (bb.extBut _ _ q3 (ba.extBut _ _ q1 g))))) ⟨oe,bf.extBut _ _ ne ge,ce⟩
theorem Zo9 {TI TO:Addr}{Q:Option Value→Shared→Prop}(D:ZipApart z TI TO i1 i2 l1 l2)(hz:IsZip s.heap z TI TO .none)(hI:IsPair s.heap TI (.ref i1) (.ref i2))(hO:IsPair s.heap TO u v)
  (s1:s.heap.IsTupleIter i1 l1 n1) (s2:s.heap.IsTupleIter i2 l2 n2) (t1:s.heap.IsTuple l1 xs) (t2:s.heap.IsTuple l2 ys) (ex:xs[n1]?=some x) (ey:ys[n2]?=some y)
  (k:∀h',IsZip h' z TI TO (rawInt s.heap.objs.size)→IsPair h' TO x y→h'.IsTupleIter i1 l1 (n1+1)→h'.IsTupleIter i2 l2 (n2+1)→IsPair h' s.heap.objs.size x y→h'.objs.size=s.heap.objs.size+1→(∀c o,c≠z→c≠TO→c≠i1→c≠i2→s.heap.get? c=some o→h'.get? c=some o)→Q (some (.ref s.heap.objs.size)) {s with heap:=h' }):
  wpAny (model prog w) A (pyNext (.ref z)) Q E s:=by
 have ty:s.TypeIs (.ref z) "zip" :=⟨_,hz,rfl⟩;unfold pyNext;exact Qaa (Qej (Qby (name:=Str.ofString "__next__") ty F.slot_zip_next (Qbq F.slot_zip_next ty F.entry_zip_next (ZnV D hz hI hO s1 s2 t1 t2 ex ey fun h' b1 b2 b3 b4 b5 b6 b7=>Qaj (k h' b1 b2 b3 b4 b5 b6 b7)) (F.args_zip_next_1 _))))
theorem ZnW {TI TO:Addr}{Q:Option Value→Shared→Prop}(hh:A.handled=none)(D:ZipApart z TI TO i1 i2 l1 l2)(hz:IsZip s.heap z TI TO .none)(hI:IsPair s.heap TI (.ref i1) (.ref i2))(hO:IsPair s.heap TO u v)
  (s1:s.heap.IsTupleIter i1 l1 n1) (s2:s.heap.IsTupleIter i2 l2 n2) (t1:s.heap.IsTuple l1 xs) (t2:s.heap.IsTuple l2 ys) (fin:xs[n1]?=none∨ys[n2]?=none)
  (k:∀h',(∀c o,c≠z→c≠TO→c≠i1→c≠i2→s.heap.get? c=some o→h'.get? c=some o)→Q none {s with heap:=h' }):wpAny (model prog w) A (pyNext (.ref z)) Q E s:=by
 have ty:s.TypeIs (.ref z) "zip" :=⟨_,hz,rfl⟩;unfold pyNext;refine Qaa (Qej (Qby (name:=Str.ofString "__next__") ty F.slot_zip_next (Qbq F.slot_zip_next ty F.entry_zip_next (Zo8 hh D hz hI hO s1 s2 t1 t2 fin fun h' e kp ⟨o,g,c⟩=> ?_) (F.args_zip_next_1 _))));exact Qaa (QcQ (T:= "StopIteration") (b:=true) ⟨o,g,c⟩ Qec (Qaj (k _ kp)))
def zh (h:Heap)(l1 l2:Addr):Heap:=(((((h.push {cls:=.type "tuple_iterator",data:=.fields #[.ref l1,.int 0 0] }).push {cls:=.type "tuple_iterator",data:=.fields #[.ref l2,.int 0 0] }).push {cls:=.type "tuple",data:=.seq #[.ref h.objs.size,.ref (h.objs.size+1)] }).push {cls:=.type "tuple",data:=.seq #[.none,.none] }).push {cls:=.type "zip",data:=.fields #[.none,.bool false,.bool false,.ref (h.objs.size+2),.ref (h.objs.size+3)] })
theorem Zp7 (l1 l2:Addr)(xs ys:Array Value):
  Meets (Builtin.«zip.__new__» ⟨[.type "zip",.ref l1,.ref l2],[]⟩) (fun _ R s=>s.heap.IsTuple l1 xs∧s.heap.IsTuple l2 ys∧R (.ok (.ret (.ref (s.heap.objs.size+4)))) {s with heap:=zh s.heap l1 l2 }):=
 .of_wp fun prog w A R s h=>by
  obtain⟨hp,g,d,tk,os⟩:=s;obtain⟨t1,t2,h⟩:=h;have hsub:=sub_zip;have T1:Heap.IsTuple (Shared.heap ⟨hp,g,d,tk,os⟩) l1 xs:=t1;have T2:Heap.IsTuple (Shared.heap ⟨hp.push {cls:=.type "tuple_iterator",data:=.fields #[.ref l1,.int 0 0] },g,d,tk,os⟩) l2 ys:=Heap.IsTuple.push t2 _
  wp_walk using Qdj T1,Qdj T2
  refine⟨_,rfl,?_⟩;simp only[Qa6];exact h
theorem Zpa (t1:s.heap.IsTuple l1 xs)(t2:s.heap.IsTuple l2 ys)
  (k:∀h',IsZip h' (s.heap.objs.size+4) (s.heap.objs.size+2) (s.heap.objs.size+3) .none→IsPair h' (s.heap.objs.size+2) (.ref s.heap.objs.size) (.ref (s.heap.objs.size+1))→IsPair h' (s.heap.objs.size+3) .none .none→h'.IsTupleIter s.heap.objs.size l1 0→h'.IsTupleIter (s.heap.objs.size+1) l2 0→(∀c o,s.heap.get? c=some o→h'.get? c=some o)→Q (.ref (s.heap.objs.size+4)) {s with heap:=h' }):
  wpAny (model prog w) A (call (.type "zip") [.ref l1,.ref l2]) Q E s:=by
 refine callType_new F.called_zip (by decide) (F.typeCall_zip_2 _ _) (F.newCall_zip_2 _ _) (fun obj=>F.args_object_init_3 obj _ _) F.entry_zip_new (Zp7 l1 l2 xs ys) ⟨t1,t2,?_⟩;have ps:∀{c:Addr} {o p:Obj} {h:Heap},h.get? c=some o→(h.push p).get? c=some o:=fun e=>Qag _ e;have sz1:∀(h:Heap) (p:Obj),(h.push p).objs.size=h.objs.size+1:=fun h p=>Qa6 ..;have at0:∀(h:Heap) (p:Obj) (n:Nat),h.objs.size=n→p.isFreed=false→(h.push p).get? n=some p:=fun h p n e f=>by subst e;exact Qax _ f
 have z5:(zh s.heap l1 l2).get? (s.heap.objs.size+4)=some _:=at0 _ _ _ (by simp only[sz1]) rfl;have z4:(zh s.heap l1 l2).get? (s.heap.objs.size+3)=some _:=ps (at0 _ _ _ (by simp only[sz1]) rfl);have z3:(zh s.heap l1 l2).get? (s.heap.objs.size+2)=some _:=ps (ps (at0 _ _ _ (by simp only[sz1]) rfl));have z2:(zh s.heap l1 l2).get? (s.heap.objs.size+1)=some _:=ps (ps (ps (at0 _ _ _ (by simp only[sz1]) rfl)));have z1:(zh s.heap l1 l2).get? s.heap.objs.size=some _:=ps (ps (ps (ps (at0 _ _ _ rfl rfl))));exact⟨⟨_,z5,rfl⟩,k _ z5 z3 z4 ⟨_,z1,rfl,rfl⟩ ⟨_,z2,rfl,rfl⟩ fun c o e=>ps (ps (ps (ps (ps e))))⟩
def Zp8 (K:PySem.W.Frag)(a b:Addr):It:=
 ⟨fun i H=>∃xs ys x y,SqT K H a xs∧SqT K H b ys∧xs[i]?=some x∧ys[i]?=some y,
  fun i H v H'=>∃p x y,v= .ref p∧H p=none∧H'=upd H p (.tup [x,y])∧(∀xs,SqT K H a xs→xs[i]?=some x)∧(∀ys,SqT K H b ys→ys[i]?=some y),
  fun i H=>∃xs ys,SqT K H a xs∧SqT K H b ys∧(xs[i]?=none∨ys[i]?=none)⟩
def Zpb (z TI TO i1 i2 a b:Addr)(i:Nat)(h:Heap):Prop:=IsZip h z TI TO .none∧IsPair h TI (.ref i1) (.ref i2)∧(∃u v,IsPair h TO u v)∧h.IsTupleIter i1 a i∧h.IsTupleIter i2 b i
theorem ZkF {P:Program}{K:PySem.W.Frag}{es:List Expr}{k:Nat}{pos:PySem.Pos}(a b z TI TO i1 i2:Addr)(D:ZipApart z TI TO i1 i2 a b):ZoC P w K (.Tuple es k pos) (Zp8 K a b) [z,TI,TO,i1,i2] z (Zpb z TI TO i1 i2 a b) where
 mem:=by simp
 obj:=fun i h st c hc=>by
  obtain⟨hz,hTI,⟨u,v,hTO⟩,⟨o1,e1,c1,d1⟩,⟨o2,e2,c2,d2⟩⟩:=st;simp only[Qas,QaZ,Qca] at hc;rcases hc with rfl|rfl|rfl|rfl|rfl
  ·exact⟨_,hz,fun v q=>by cases q⟩
  ·exact⟨_,hTI,fun v q=>by cases q⟩
  ·exact⟨_,hTO,fun v q=>by cases q⟩
  ·exact⟨o1,e1,fun v q=>by rw[d1] at q;cases q⟩
  ·exact⟨o2,e2,fun v q=>by rw[d2] at q;cases q⟩
 keep:=fun i h h' st q=>by
  obtain⟨hz,hTI,⟨u,v,hTO⟩,l1,l2⟩:=st;exact⟨q _ (by simp) _ hz,q _ (by simp) _ hTI,⟨u,v,q _ (by simp) _ hTO⟩,l1.at fun o e=>q _ (by simp) o e,l2.at fun o e=>q _ (by simp) o e⟩
 item:=by
  intro X hP hw hK hc i qa s σ H E I hf st hg;subst hP hw hK;obtain⟨xs,ys,x,y,hq1,hq2,hx,hy⟩:=hg;obtain⟨hz,hTI,⟨u,v,hTO⟩,l1,l2⟩:=st;obtain⟨its1,rv1,p1,_⟩:=I.tuple hq1;obtain⟨its2,rv2,p2,_⟩:=I.tuple hq2;obtain⟨ux,hux,rux⟩:=rv1.get hx;obtain⟨uy,huy,ruy⟩:=rv2.get hy;refine Zo9 D hz hTI hTO l1 l2 p1 p2 (x:=ux) (y:=uy) (by simpa using hux) (by simpa using huy) fun h' z1 TO1 j1 j2 T1 sz kp=> ?_;refine⟨_,rfl,Qdq z1 fun h2 z2 sb=> ?_⟩;have hzlt:z<s.heap.objs.size:=Qap hz;have hpz:s.heap.objs.size≠z:=Qbj hzlt;have T2:IsPair h2 s.heap.objs.size ux uy:=sb.extBut _ _ hpz T1
  have kp2:∀c o,c∉ [z,TI,TO,i1,i2]→s.heap.get? c=some o→h2.get? c=some o:=fun c o hc e=>by
   simp only[Qas,QaZ,Qca,not_or] at hc;exact sb.extBut _ _ hc.1 (kp c o hc.1 hc.2.2.1 hc.2.2.2.1 hc.2.2.2.2 e)
  have I2:Inv X qa σ (upd H s.heap.objs.size (.tup [x,y])) {s with heap:=h2,toks:=s.toks }:=I.turnedNew kp2 hf (Qal _) ⟨by show 2≤sizeLine;decide,[ux,uy],.cons rux (.cons ruy .nil),⟨_,T2,rfl,_,rfl⟩⟩;refine⟨.ref s.heap.objs.size,_,I2,rfl,⟨_,x,y,rfl,I.hok.fresh (Qal _),rfl,fun xs' h=> ?_,fun ys' h=> ?_⟩,⟨z2,?_,⟨ux,uy,?_⟩,?_,?_⟩,fun c hc=> ?_⟩
  ·rw[I.tuple_inj h hq1];exact hx
  ·rw[I.tuple_inj h hq2];exact hy
  ·exact sb.extBut _ _ D.TIz (kp _ _ D.TIz D.TITO D.TIi1 D.TIi2 hTI)
  ·exact sb.extBut _ _ D.TOz TO1
  ·exact j1.at fun o e=>sb.extBut _ _ D.i1z e
  ·exact j2.at fun o e=>sb.extBut _ _ D.i2z e
  ·have hlt:c<s.heap.objs.size:=by
    simp only[Qas,QaZ,Qca] at hc;rcases hc with rfl|rfl|rfl|rfl|rfl
    ·exact hzlt
    ·exact Qap hTI
    ·exact Qap hTO
    ·obtain⟨_,e,_⟩:=l1;exact Qap e
    ·obtain⟨_,e,_⟩:=l2;exact Qap e
   rw[Zax (QaL hlt)];exact(hf c hc).1
 done:=by
  intro X hP hw hK hc i qa s σ H E I hf st hg;subst hP hw hK;obtain⟨xs,ys,hq1,hq2,hend⟩:=hg;obtain⟨hz,hTI,⟨u,v,hTO⟩,l1,l2⟩:=st;obtain⟨its1,rv1,p1,_⟩:=I.tuple hq1;obtain⟨its2,rv2,p2,_⟩:=I.tuple hq2;have e1:=rv1.length;have e2:=rv2.length;refine ZnW (I.ok.hd hc) D hz hTI hTO l1 l2 p1 p2 (hend.imp (fun q=> ?_) (fun q=> ?_)) fun h' kp=>⟨rfl,I.turnedL (t':=s.toks) (ch:=[z,TI,TO,i1,i2]) (fun c o hc e=> ?_) hf⟩
  ·rw[Qa7] at q;simp;omega
  ·rw[Qa7] at q;simp;omega
  ·simp only[Qas,QaZ,Qca,not_or] at hc;exact kp c o hc.1 hc.2.2.1 hc.2.2.2.1 hc.2.2.2.2 e
 self:=fun _ _ _ _ _ st h=>QcP st.1 h
section
variable {X:Cx}
def Zmp (K:PySem.W.Frag)(ta:TA):TI:=fun σ H R=>ta σ H fun vs H1=>∃a b,vs=[.ref a,.ref b]∧(∃xs,SqT K H1 a xs)∧(∃ys,SqT K H1 b ys)∧R (Zp8 K a b) H1
theorem ZfS {tes:List Expr}{tk:Nat}{tpos p pos:PySem.Pos}{a b:Expr}{ta:TA}(hg:Gl X "zip")(hm:X.mg "zip" =none)(ha:PA X [a,b] ta)
  (hs:starEach [a,b] X.env=[(false,eval a X.env),(false,eval b X.env)]:=by rfl) (hs2:starEach [b] X.env=[(false,eval b X.env)]:=by rfl):PI X (.Tuple tes tk tpos) (.Call (.Name "zip" p) [a,b] [] pos) (Zmp X.K ta):=by
 intro qa s σ H R I h;refine Qbk (Zea I hg hm boot_zip ?_);refine Qbw (thn (ha pos qa s σ H _ I h) fun us s1 ⟨vs,H1,I1,r1,l1,l2,e,⟨xs,hx⟩,⟨ys,hy⟩,q⟩=> ?_) (by rw[hs,hs2]) (by rw[hs2];rfl);subst e;obtain⟨u1,u2,rfl,rfl,rfl⟩:=ZfG r1;obtain⟨its1,rv1,p1,_⟩:=I1.tuple hx;obtain⟨its2,rv2,p2,_⟩:=I1.tuple hy;have a1:l1<s1.heap.objs.size:=by obtain⟨_,e,_⟩:=p1;exact Qap e
 have a2:l2<s1.heap.objs.size:=by obtain⟨_,e,_⟩:=p2;exact Qap e
 refine Zpa p1 p2 fun h' hz hTI hTO hi1 hi2 kp=> ?_;refine QcP hz ?_;refine⟨_,[_,_,_,_,_],_,_,H1,rfl,I1.kept (t':=s1.toks) kp,ZkF l1 l2 _ _ _ _ _ (zipApart_new a1 a2),⟨hz,hTI,⟨_,_,hTO⟩,hi1,hi2⟩,fun c hc=> ?_,q⟩
 have hge:s1.heap.objs.size≤c:=by
  simp only[Qas,QaZ,Qca] at hc;rcases hc with rfl|rfl|rfl|rfl|rfl
  ·exact Qbr _ _
  ·exact Qbr _ _
  ·exact Qbr _ _
  ·exact Qal _
  ·exact Qbr _ _
 exact I1.fpOk hge (I1.hok.fresh hge)
theorem ZiF {K:PySem.W.Frag}{k:Nat}{xs ys:List V}{tt:TT}{te:TE}{Q:VK}(Pv:Nat→List V→Hp→Prop)(h0:Pv 0 [] H)(hn:n=min xs.length ys.length)(hb:n≤1000)(hz:∀i zs H,Pv i zs H→zs.length≤i)(hl:∀i zs H,i≤n→Pv i zs H→SqT K H a xs∧SqT K H b ys)
  (hs:∀i x y zs H (pre:St) (p:Addr),pre.length=k→xs[i]?=some x→ys[i]?=some y→Pv i zs H→H p=none→g (.ref p) (pre++σ) (upd H p (.tup [x,y])) fun σ' H2=>(∃pre':St,σ'=pre'++σ∧pre'.length=k)∧tt σ' H2 fun ok H3=>if ok=true then te σ' H3 fun y H4=>Pv (i+1) (zs++ [y]) H4 else Pv (i+1) zs H3) (hd:∀zs H,Pv n zs H→∀D,H D=none→Q (.ref D) (upd H D (.lst zs))):CGo k (Zp8 K a b) g tt te Q σ H:=by
 refine⟨fun i m zs H=>m=n-i∧i≤n∧Pv i zs H,⟨n,by simp,QaV _,h0⟩,?_⟩;rintro i m zs H ⟨rfl,hi,p⟩;obtain⟨q1,q2⟩:=hl i zs H hi p;by_cases hlt:i<n
 ·have h1:i<xs.length:=by omega
  have h2:i<ys.length:=by omega
  refine .inr ⟨⟨xs,ys,xs[i],ys[i],q1,q2,by simp[h1],by simp[h2]⟩,QaG (hz i zs H p) (Za7 (by omega)),Pv (i+1),fun zs H' p'=>⟨n-(i+1),by omega,rfl,hlt,p'⟩,fun x H' pre hp y=> ?_⟩;obtain⟨q,x1,y1,rfl,hq,rfl,e1,e2⟩:=y;exact hs i x1 y1 zs _ pre q hp (e1 xs q1) (e2 ys q2) p hq
 ·have e:i=n:=by omega
  subst e;refine .inl ⟨⟨xs,ys,q1,q2,?_⟩,hd zs H p⟩;by_cases hx:xs.length≤ys.length
  ·exact .inl (Qay (by omega))
  ·exact .inr (Qay (by omega))
theorem ZnX {K:PySem.W.Frag}{xs ys:List V}{tb:TS}{D:Zgk}(Pv:Nat→St→Hp→Prop)(h0:Pv 0 σ H)(hn:n=min xs.length ys.length)(hl:∀i σ H,i≤n→Pv i σ H→SqL K H a xs∧SqL K H b ys)
  (hs:∀i x y σ H (p:Addr),xs[i]?=some x→ys[i]?=some y→Pv i σ H→H p=none→g (.ref p) σ (upd H p (.tup [x,y])) fun σ2 H2=>tb {D with nx:=Pv (i+1),ct:=Pv (i+1),bk:=D.nx } σ2 H2) (hd:∀σ H,Pv n σ H→D.nx σ H):
  ∃W:Nat→Nat→St→Hp→Prop,(∃m,W 0 m σ H)∧∀i m σ H,W i m σ H→
   ((Itz K a b).stop i H∧D.nx σ H)∨((Itz K a b).go i H∧∃N:St→Hp→Prop,(∀σ' H',N σ' H'→∃m',m'<m∧W (i+1) m' σ' H')∧∀x H',(Itz K a b).yld i H x H'→g x σ H' fun σ2 H2=>tb {D with nx:=N,ct:=N,bk:=D.nx } σ2 H2):=by
 refine⟨fun i m σ H=>m=n-i∧i≤n∧Pv i σ H,⟨n,by simp,QaV _,h0⟩,?_⟩;rintro i m σ H ⟨rfl,hi,p⟩;obtain⟨q1,q2⟩:=hl i σ H hi p;by_cases hlt:i<n
 ·have h1:i<xs.length:=by omega
  have h2:i<ys.length:=by omega
  refine .inr ⟨⟨xs,ys,xs[i],ys[i],q1,q2,by simp[h1],by simp[h2]⟩,Pv (i+1),fun σ' H' p'=>⟨n-(i+1),by omega,rfl,hlt,p'⟩,fun x H' y=> ?_⟩;obtain⟨q,x1,y1,rfl,hq,rfl,e1,e2⟩:=y;exact hs i x1 y1 σ _ q (e1 xs q1) (e2 ys q2) p hq
 ·have e:i=n:=by omega
  subst e;refine .inl ⟨⟨xs,ys,q1,q2,?_⟩,hd σ H p⟩;by_cases hx:xs.length≤ys.length
  ·exact .inl (Qay (by omega))
  ·exact .inr (Qay (by omega))
end
end L2
namespace Toy
open PySem L2 PyProof.Rows
variable {t x p lo m:Int}{u v:List Int}
theorem ZcS:∀{R:Wl} {rm p:Int},(∀e∈R,0<e.1)→0≤p→p<rm→atW (Zbw rm R) p=atW R p
 | [],rm,p,_,_,_=>by unfold Zbw;rfl
 | (m,u)::R,rm,p,h,p0,p1=>by
  have m0:0<m:=h (m,u) Qad;unfold Zbw;rw[if_pos (by omega)];show atW ((mn m rm,u)::Zbw (rm-mn m rm) R) p=_;have q:=ZfP m rm;by_cases z:p<mn m rm
  ·rw[atW_lt z,atW_lt (by omega)]
  ·have em:mn m rm=m:=by omega
   rw[em] at z⊢;rw[atW_ge (by omega),atW_ge (by omega)];exact ZcS (fun e he=>h e (Qab _ he)) (by omega) (by omega)
theorem ZcT:∀{R:Wl} {a p:Int},(∀e∈R,0<e.1)→0≤a→0≤p→atW (Zbp a R) p=atW R (p+a)
 | [],a,p,_,_,_=>by unfold Zbp;rfl
 | (m,u)::R,a,p,h,a0,p0=>by
  have m0:0<m:=h (m,u) Qad;unfold Zbp;by_cases z:a≤0
  ·rw[if_pos z,show p+a=p by omega]
  ·rw[if_neg z];by_cases z2:a<m
   ·rw[if_pos (show a<(m,u).fst from z2)];show atW ((m-a,u)::R) p=_;by_cases z3:p<m-a
    ·rw[atW_lt z3,atW_lt (by omega)]
    ·rw[atW_ge (by omega),atW_ge (by omega),show p-(m-a)=p+a-m by omega]
   ·rw[if_neg (show ¬a<(m,u).fst from z2)];show atW (Zbp (a-m) R) p=_;rw[ZcT (fun e he=>h e (Qab _ he)) (by omega) p0,atW_ge (by omega),show p+(a-m)=p+a-m by omega]
theorem tot_takeF:∀{R:Wl} {rm:Int},(∀e∈R,0<e.1)→0≤rm→rm≤tot R→tot (Zbw rm R)=rm
 | [],rm,_,h0,h1=>by rw[Zaw] at h1;unfold Zbw;rw[Zaw];omega
 | (m,u)::R,rm,h,h0,h1=>by
  have m0:0<m:=h (m,u) Qad;rw[Zat] at h1;have h1:rm≤m+tot R:=h1;have q:=ZfP m rm;have pR:=tot_pos0 (M:=R) fun e he=>Qa5 (h e (Qab _ he));unfold Zbw;rw[ZaV];show _+tot (Zbw (rm-mn m rm) R)=rm;rw[tot_takeF (fun e he=>h e (Qab _ he)) (by omega) (by omega)];by_cases z:0<rm
  ·rw[if_pos z,Zat,Zaw];show mn m rm+0+(rm-mn m rm)=rm;omega
  ·rw[if_neg z,Zaw];have:mn m rm=rm:=by omega
   omega
theorem tot_dropF:∀{R:Wl} {a:Int},(∀e∈R,0<e.1)→0≤a→a≤tot R→tot (Zbp a R)=tot R-a
 | [],a,_,h0,h1=>by rw[Zaw] at h1;unfold Zbp;rw[Zaw];omega
 | (m,u)::R,a,h,h0,h1=>by
  rw[Zat] at h1⊢;have h1:a≤m+tot R:=h1;show _=m+tot R-a;unfold Zbp;by_cases z:a≤0
  ·rw[if_pos z,Zat];show m+tot R=_;omega
  ·rw[if_neg z];by_cases z2:a<m
   ·rw[if_pos (show a<(m,u).fst from z2),Zat];show m-a+tot R=_;omega
   ·rw[if_neg (show ¬a<(m,u).fst from z2)];show tot (Zbp (a-m) R)=_;rw[tot_dropF (fun e he=>h e (Qab _ he)) (by omega) (by omega)];omega
abbrev Sl:=List (Int×Int×List Int)
def co (u:List Int)(i:Nat):Int:=u.getD i 0
theorem ZiG (hl:u.length=v.length)(h:∀i,co u i=co v i):u=v:=by
 apply QcF;intro i
 have:=h i;unfold co at this;rw[Qam,Qam] at this;by_cases z:i<u.length
 ·rw[Qah z,Qah (by omega)] at this⊢;exact congrArg some this
 ·rw[Qay (by omega),Qay (by omega)]
theorem ZdJ (i:Nat)(hl:u.length=v.length):co (List.zipWith (fun a b=>a+b) u v) i=co u i+co v i:=by
 unfold co;rw[Qam,Qam,Qam,QbS];by_cases z:i<u.length
 ·rw[Qah z,Qah (by omega)];rfl
 ·rw[Qay (by omega),Qay (by omega)];rfl
theorem Zet (u:List Int)(k:Int)(i:Nat):co (u.map (· *k)) i=co u i*k:=by
 unfold co;rw[Qam,Qam,Qaq]
 cases u[i]? with
 |none=>show(0:Int)=0*k;omega
 |some x=>rfl
def st (x p:Int):Int:=if x≤p then 1 else 0
def eqi (x k:Int):Int:=if x=k then 1 else 0
def tm (s:Int×Int×List Int)(p:Int)(i:Nat):Int:=co s.2.2 i*(st s.1 p-st s.2.1 p)
def rt (s:Int×Int×List Int)(k:Int)(i:Nat):Int:=co s.2.2 i*(eqi s.1 k-eqi s.2.1 k)
def FF:Sl→Int→Nat→Int
 | [],_,_=>0
 |s::S,p,i=>tm s p i+FF S p i
def RR:Sl→Int→Nat→Int
 | [],_,_=>0
 |s::S,k,i=>rt s k i+RR S k i
def ZeL (S:Sl)(k:Int):Prop:=∃s∈S,s.1=k∨s.2.1=k
theorem ZkG {z y:Int}(hxy:x<y)(h:z≤y→z≤x∨z=y):st z y=st z x+eqi z y:=by
 unfold st eqi;by_cases h1:z≤y
 ·rcases h h1 with q|q
  ·rw[if_pos h1,if_pos q,if_neg (by omega)];rfl
  ·rw[if_pos h1,if_neg (by omega),if_pos q];rfl
 ·rw[if_neg h1,if_neg (by omega),if_neg (by omega)];rfl
theorem ZkH:∀{S:Sl} {x y:Int} (i:Nat),x<y→(∀k,ZeL S k→k≤y→k≤x∨k=y)→FF S y i=FF S x i+RR S y i
 | [],x,y,i,_,_=>rfl
 |s::S,x,y,i,hxy,h=>by
  have ih:=ZkH (S:=S) i hxy fun k ⟨s',hs,hk⟩=>h k ⟨s',Qab _ hs,hk⟩;have e1:=ZkG hxy fun q=>h s.1 ⟨s,Qad,.inl rfl⟩ q;have e2:=ZkG hxy fun q=>h s.2.1 ⟨s,Qad,.inr rfl⟩ q;show tm s y i+FF S y i=tm s x i+FF S x i+(rt s y i+RR S y i);rw[ih]
  have:tm s y i=tm s x i+rt s y i:=by
   unfold tm rt;rw[e1,e2,←Qc9];congr 1;omega
  rw[this];omega
theorem ZkI:∀{S:Sl} {x y:Int} (i:Nat),x≤y→(∀k,ZeL S k→k≤y→k≤x)→FF S y i=FF S x i
 | [],x,y,i,_,_=>rfl
 |s::S,x,y,i,hxy,h=>by
  have ih:=ZkI (S:=S) i hxy fun k ⟨s',hs,hk⟩=>h k ⟨s',Qab _ hs,hk⟩
  have key:∀z,(z≤y→z≤x)→st z y=st z x:=fun z q=>by
   unfold st;by_cases h1:z≤y
   ·rw[if_pos h1,if_pos (q h1)]
   ·rw[if_neg h1,if_neg (by omega)]
  show tm s y i+FF S y i=tm s x i+FF S x i;rw[ih];unfold tm;rw[key s.1 fun q=>h s.1 ⟨s,Qad,.inl rfl⟩ q,key s.2.1 fun q=>h s.2.1 ⟨s,Qad,.inr rfl⟩ q]
theorem Znn:∀{S:Sl} {x:Int} (i:Nat),(∀k,ZeL S k→x<k)→FF S x i=0
 | [],_,_,_=>rfl
 |s::S,x,i,h=>by
  have ih:=Znn (S:=S) (x:=x) i fun k ⟨s',hs,hk⟩=>h k ⟨s',Qab _ hs,hk⟩;have h1:=h s.1 ⟨s,Qad,.inl rfl⟩;have h2:=h s.2.1 ⟨s,Qad,.inr rfl⟩;show tm s x i+FF S x i=0;rw[ih];unfold tm st;rw[if_neg (by omega),if_neg (by omega)];simp
theorem Zpc (S T:Sl)(p:Int)(i:Nat):FF (S++T) p i=FF S p i+FF T p i:=by
 induction S with
 |nil=>show _=0+_;rw[QbT];rfl
 |cons s S ih=>show tm s p i+FF (S++T) p i=tm s p i+FF S p i+FF T p i;rw[ih];omega
abbrev Ev:=List (Int×List Int)
def RE:Ev→Int→Nat→Int
 | [],_,_=>0
 |x::E,k,i=>co x.2 i*eqi x.1 k+RE E k i
theorem Zno (E F:Ev)(k:Int)(i:Nat):RE (E++F) k i=RE E k i+RE F k i:=by
 induction E with
 |nil=>show _=0+_;rw[QbT];rfl
 |cons x E ih=>show _+RE (E++F) k i=_+RE E k i+RE F k i;rw[ih];omega
def evs (S:Sl):Ev:=S.flatMap fun s=>[(s.1,s.2.2),(s.2.1,s.2.2.map (· * -1))]
theorem ZnY (S T:Sl):evs (S++T)=evs S++evs T:=by unfold evs;rw[List.flatMap_append]
theorem Znp:∀(S:Sl) (k:Int) (i:Nat),RE (evs S) k i=RR S k i
 | [],_,_=>rfl
 |s::S,k,i=>by
  have e:evs (s::S)=[(s.1,s.2.2),(s.2.1,s.2.2.map (· * -1))]++evs S:=rfl;rw[e,Zno,Znp S k i];show co s.2.2 i*eqi s.1 k+(co (s.2.2.map (· * -1)) i*eqi s.2.1 k+0)+RR S k i=rt s k i+RR S k i;rw[Zet];unfold rt;rw[Int.mul_sub,Int.mul_assoc,Int.neg_mul,Int.one_mul,Int.mul_neg];omega
theorem ZnZ {S:Sl}{k:Int}:(∃x∈evs S,x.1=k)↔ZeL S k:=by
 constructor
 ·rintro⟨x,hx,rfl⟩;obtain⟨s,hs,h⟩:=QdL.mp hx;rcases Qas.mp h with rfl|h
  ·exact⟨s,hs,.inl rfl⟩
  ·rw[Qan.mp h];exact⟨s,hs,.inr rfl⟩
 ·rintro⟨s,hs,h|h⟩
  ·exact⟨(s.1,s.2.2),QdL.mpr ⟨s,hs,by simp⟩,h⟩
  ·exact⟨(s.2.1,s.2.2.map (· * -1)),QdL.mpr ⟨s,hs,by simp⟩,h⟩
def mn (b t:Int):Int:=if t<b then t else b
def mx (b:Int):Int:=if 0>b then 0 else b
theorem Zeu (ht:0<t)(hp:0≤p)(hpt:p<t):(x+t-1-p)/t=x/t+if p<x%t then 1 else 0:=by
 have e:=QcJ x t;have m0:=QaT x (by omega:t≠0);have m1:=QaU x ht;have e2:x+t-1-p=(x%t+t-1-p)+t*(x/t):=by omega
 rw[e2,QbU _ _ (by omega:t≠0)];split
 ·have e3:x%t+t-1-p=(x%t-1-p)+t*1:=by omega
  rw[e3,QbU _ _ (by omega:t≠0),QbD (by omega) (by omega)];omega
 ·rw[QbD (by omega) (by omega)];omega
theorem Zfo {c:Int}(ht:0<t)(hc:0≤c)(hcp:c≤p)(hpt:p<t)(h:x%t≤p→x%t≤c):(x+t-1-c)/t=(x+t-1-p)/t:=by
 rw[Zeu ht hc (by omega),Zeu ht (by omega) hpt];by_cases z:p<x%t
 ·rw[if_pos z,if_pos (by omega)]
 ·rw[if_neg z,if_neg (by have:=h (by omega);omega)]
theorem ZgQ (ht:0<t):(lo+m)/t=lo/t+m/t+(if lo%t+m%t<t then 0 else 1)∧(lo+m) %t=(if lo%t+m%t<t then lo%t+m%t else lo%t+m%t-t):=by
 have e1:=QcJ lo t;have e2:=QcJ m t;have a0:=QaT lo (by omega:t≠0);have a1:=QaU lo ht;have b0:=QaT m (by omega:t≠0);have b1:=QaU m ht;have tt:t≠0:=by omega
 split
 ·have e3:lo+m=(lo%t+m%t)+t*(lo/t+m/t):=by rw[Qc9];omega
  constructor
  ·rw[e3,QbU _ _ tt,QbD (by omega) (by omega)];omega
  ·rw[e3,Qdg,Int.emod_eq_of_lt (by omega) (by omega)]
 ·have e3:lo+m=(lo%t+m%t-t)+t*(lo/t+m/t+1):=by rw[Qc9,Qc9];omega
  constructor
  ·rw[e3,QbU _ _ tt,QbD (by omega) (by omega)];omega
  ·rw[e3,Qdg,Int.emod_eq_of_lt (by omega) (by omega)]
theorem Zmq (ht:0<t)(hp:0≤p)(hpt:p<t):(lo+m+t-1-p)/t-(lo+t-1-p)/t=m/t*(st 0 p-st t p)+(st (lo%t) p-st (mn (lo%t+m%t) t) p)+(st 0 p-st (mx (lo%t+m%t-t)) p):=by
 rw[Zeu ht hp hpt,Zeu ht hp hpt];obtain⟨e1,e2⟩:=ZgQ (lo:=lo) (m:=m) ht;have a0:=QaT lo (by omega:t≠0);have a1:=QaU lo ht;have b0:=QaT m (by omega:t≠0);have b1:=QaU m ht;rw[e1,e2];have s0:st 0 p=1:=by unfold st;rw[if_pos hp]
 have s1:st t p=0:=by unfold st;rw[if_neg (by omega)]
 rw[s0,s1,Qce,Qee];generalize lo/t=A;generalize m/t=B;generalize lo%t=a at*;generalize m%t=b at*;unfold st mn mx;by_cases h1:a+b<t
 ·rw[if_pos h1,if_pos h1,if_neg (by omega:¬t<a+b)];by_cases h2:(0:Int)>a+b-t
  ·rw[if_pos h2,if_pos hp]
   repeat' split
   all_goals omega
  ·omega
 ·rw[if_neg h1,if_neg h1];rw[if_neg (by omega:¬(0:Int)>a+b-t)];have h3:(if t<a+b then t else a+b)=t:=by split<;>omega
  rw[h3,if_neg (by omega:¬t≤p)]
  repeat' split
  all_goals omega
def GG (t p:Int)(i:Nat):Wl→Int→Int
 | [],_=>0
 | (m,w)::A,lo=>co w i*((lo+m+t-1-p)/t-(lo+t-1-p)/t)+GG t p i A (lo+m)
def ws1 (t:Int)(e:Int×List Int)(lo:Int):Sl:=[(0,t,e.2.map (· *(e.1/t))),(lo%t,mn (lo%t+e.1%t) t,e.2),(0,mx (lo%t+e.1%t-t),e.2)]
def wst (t:Int):Wl→Int→Sl
 | [],_=>[]
 |e::A,lo=>ws1 t e lo++wst t A (lo+e.1)
theorem ZiH {t:Int}:∀{A:Wl} {e:Int×List Int} {lo:Int},wst t (A++ [e]) lo=wst t A lo++ws1 t e (lo+tot A)
 | [],e,lo=>by rw[Zaw,Qbe];show ws1 t e lo++ []=[]++ws1 t e lo;rw[Qbo,Qcd]
 |d::A,e,lo=>by
  show ws1 t d lo++wst t (A++ [e]) (lo+d.1)=ws1 t d lo++wst t A (lo+d.1)++ws1 t e (lo+tot (d::A));rw[ZiH,Zat,Qa2,show lo+d.1+tot A=lo+(d.1+tot A) by omega]
theorem Znq {t p:Int}(ht:0<t)(hp:0≤p)(hpt:p<t)(i:Nat):∀(A:Wl) (lo:Int),FF (wst t A lo) p i=GG t p i A lo
 | [],_=>rfl
 | (m,w)::A,lo=>by
  show FF (ws1 t (m,w) lo++wst t A (lo+m)) p i=_+GG t p i A (lo+m);rw[Zpc,Znq ht hp hpt i A (lo+m)]
  have:FF (ws1 t (m,w) lo) p i=co w i*((lo+m+t-1-p)/t-(lo+t-1-p)/t):=by
   rw[Zmq ht hp hpt];show co (w.map (· *(m/t))) i*(st 0 p-st t p)+(co w i*(st (lo%t) p-st (mn (lo%t+m%t) t) p)+(co w i*(st 0 p-st (mx (lo%t+m%t-t)) p)+0))=_;rw[Zet,Int.mul_assoc,Qc9,Qc9];omega
  rw[this]
theorem Zn0 {e:Int×List Int}(ht:0<t){s:Int×Int×List Int}(h:s∈ws1 t e lo):0≤s.1∧s.1≤t∧0≤s.2.1∧s.2.1≤t∧s.2.2.length=e.2.length∧
  (s.1=0∨s.1=lo%t)∧(s.2.1=0∨s.2.1=t∨s.2.1=(lo+e.1) %t):=by
 obtain⟨e1,e2⟩:=ZgQ (lo:=lo) (m:=e.1) ht;have a0:=QaT lo (by omega:t≠0);have a1:=QaU lo ht;have b0:=QaT e.1 (by omega:t≠0);have b1:=QaU e.1 ht;unfold ws1 at h;rcases Qas.mp h with rfl|h
 ·exact⟨QaX _,Qa5 ht,Qa5 ht,QaX _,by simp,.inl rfl,.inr (.inl rfl)⟩
 rcases Qas.mp h with rfl|h
 ·have q:mn (lo%t+e.1%t) t=t∨(mn (lo%t+e.1%t) t=(lo+e.1) %t):=by
   rw[e2];unfold mn;by_cases z:lo%t+e.1%t<t
   ·rw[if_pos z,if_neg (by omega)];exact .inr rfl
   ·refine .inl ?_;split<;>omega
  have q2:0≤mn (lo%t+e.1%t) t∧mn (lo%t+e.1%t) t≤t:=by unfold mn;split<;>omega
  exact⟨a0,by show lo%t≤t;omega,q2.1,q2.2,rfl,.inr rfl,.inr q⟩
 ·rw[Qan.mp h]
  have q:mx (lo%t+e.1%t-t)=0∨(mx (lo%t+e.1%t-t)=(lo+e.1) %t):=by
   rw[e2];unfold mx;by_cases z:lo%t+e.1%t<t
   ·rw[if_pos (by omega)];exact .inl rfl
   ·rw[if_neg (by omega),if_neg z];exact .inr rfl
  have q2:0≤mx (lo%t+e.1%t-t)∧mx (lo%t+e.1%t-t)≤t:=by unfold mx;split<;>omega
  exact⟨by omega,by show(0:Int)≤t;omega,q2.1,q2.2,rfl,.inl rfl,q.imp id .inr⟩
theorem ZfT {t:Int}(ht:0<t):∀{A:Wl} {lo:Int} {s:Int×Int×List Int},s∈wst t A lo→0≤s.1∧s.1≤t∧0≤s.2.1∧s.2.1≤t∧(∃e∈A,s.2.2.length=e.2.length)∧
  (s.1=0∨∃j,j≤A.length∧s.1=(lo+tot (A.take j)) %t)∧(s.2.1=0∨s.2.1=t∨∃j,j≤A.length∧s.2.1=(lo+tot (A.take j)) %t)
 | [],lo,s,h=>by cases h
 |e::A,lo,s,h=>by
  rcases Qaz.mp (show s∈ws1 t e lo++wst t A (lo+e.1) from h) with h|h
  ·obtain⟨h1,h2,h3,h4,h5,h6,h7⟩:=Zn0 ht h;have z0:lo+tot ((e::A).take 0)=lo:=by rw[Qa8,Zaw];omega
   have z1:lo+tot ((e::A).take 1)=lo+e.1:=by rw[Qbg,Qa8,Zat,Zaw];omega
   exact⟨h1,h2,h3,h4,⟨e,Qad,h5⟩,h6.imp id fun q=>⟨0,QaV _,by rw[z0];exact q⟩,h7.imp id (Or.imp id fun q=>⟨1,by simp,by rw[z1];exact q⟩)⟩
  ·obtain⟨h1,h2,h3,h4,⟨d,hd,h5⟩,h6,h7⟩:=ZfT ht h;have z:∀j,lo+tot ((e::A).take (j+1))=lo+e.1+tot (A.take j):=fun j=>by rw[Qbg,Zat];omega
   exact⟨h1,h2,h3,h4,⟨d,Qab _ hd,h5⟩,h6.imp id fun⟨j,hj,q⟩=>⟨j+1,by simp;exact hj,by rw[z];exact q⟩,h7.imp id (Or.imp id fun⟨j,hj,q⟩=>⟨j+1,by simp;exact hj,by rw[z];exact q⟩)⟩
theorem ZkJ {t c p:Int}(ht:0<t)(hc:0≤c)(hcp:c≤p)(hpt:p<t)(i:Nat):∀{A:Wl} {lo:Int},(∀j,j≤A.length→(lo+tot (A.take j)) %t≤p→(lo+tot (A.take j)) %t≤c)→GG t c i A lo=GG t p i A lo
 | [],lo,_=>rfl
 | (m,w)::A,lo,h=>by
  have z0:lo+tot (((m,w)::A).take 0)=lo:=by rw[Qa8,Zaw];omega
  have z1:lo+tot (((m,w)::A).take 1)=lo+m:=by rw[Qbg,Qa8,Zat,Zaw];show lo+(m+0)=_;omega
  have h0:=h 0 (QaV _);have h1:=h 1 (by simp);rw[z0] at h0;rw[z1] at h1;show co w i*_+GG t c i A (lo+m)=co w i*_+GG t p i A (lo+m)
  rw[ZkJ ht hc hcp hpt i fun j hj=>by
   have:=h (j+1) (by simp;exact hj)
   rw[Qbg,Zat,show lo+((m,w).1+tot (A.take j))=lo+m+tot (A.take j) from(Int.add_assoc lo m _).symm] at this
   exact this,Zfo ht hc hcp hpt h0,Zfo ht hc hcp hpt h1]
theorem ZiI:∀{l m:List Int},l.Nodup→(∀x∈l,x∈m)→l.length≤m.length
 | [],m,_,_=>QaV _
 |a::l,m,h,hm=>by
  rw[QbN] at h;have ha:=hm a Qad
  have:=ZiI (m:=m.erase a) h.2 fun x hx=>(List.mem_erase_of_ne (fun z:x=a=>h.1 (by rw[←z];exact hx))).mpr (hm x (Qab _ hx));rw[List.length_erase_of_mem ha] at this
  have:0<m.length:=List.length_pos_of_mem ha;simp only[Qbb];omega
end Toy
namespace L2
open PySem PySem.Spec PyProof.Rows
variable {X:Cx}{a C f C':Addr}{H H' H1:Hp}{w:World}{s:Shared}{A:Around}{P prog:Program}{qa:List (Addr×Obj)}{σ:St}{u r:Value}{E Q:Value→Shared→Prop}{h h' base h1 B:Heap}{x qr:Str}{e o value:Expr}{oe:Obj}{xs:List (List Key×Addr×Value)}{R:Result→Shared→Prop}{tk:Tok}{np qE p jh:PySem.Pos}{ps N:List Str}{sp:Sp}{td ty:TE}{g:Array GenState}{d:Drawn}{t j t' i n:Nat}{os:OsState}{M:Model}{mg:Str→Option Value}{es:List Expr}{Ex:Value→St→Hp→Prop}{fd:FuncData}{T:String}
structure Zdy (K:PySem.W.Frag)(C:Addr):Prop where
 ga:PySem.W.findIn K (.ref C) "__getattribute__" =some (some (.builtin "BaseException.__getattribute__"))
 na:PySem.W.findIn K (.ref C) "__getattr__" =some none
 cl:PySem.W.findIn K (.ref C) "__class__" =some (some (.builtin "object.__class__"))
 be:PySem.W.subIn K (.ref C) (.type "BaseException")=some true
 ob:PySem.W.subIn K (.ref C) (.type "object")=some true
 ty:PySem.W.typeIn K (.ref C)=some (.type "type")
 co:(PySem.W.clsIn K C).isSome=true
 rf:PySem.W.subIn K (.ref C) (.ref C)=some true
section
variable {o:Obj}{K:PySem.W.Frag}
theorem Zpd (X:K.In h)(c:Zdy K C)(hx:h.get? a=some o)(hc:o.cls= .ref C)(hq:R (.ok (.ret (.ref C))) ⟨h,g,d,t,os⟩):
  codeAny (model prog w) A (.call (.builtin "getset_descriptor.__get__") ⟨[.builtin "object.__class__",.ref a,.ref C],[]⟩) R ⟨h,g,d,t,os⟩:=by
 have hT5:(⟨h,g,d,t,os⟩:Shared).TypeIs (.builtin "object.__class__") "getset_descriptor" :=F.typeOf_object_class
 have hs:PySem.W.Looks (model prog w) h (isSubtype (.ref C) (.type (".".intercalate ("object.__class__".cutAt '.').dropLast))) true:=by
  rw[F.owner_object_class];exact Qco X c.ob
 refine QcV F.slot_gs_get.plain F.entry_gs_get (F.slot_gs_get.check _ _ _ _ _ _ _ _ hT5 (F.args_gs_get _ _ _) ?_)
 repeat (any_goals (first|assumption|(with_reducible refine Qb0 hx ?_;rw[hc])|with_reducible refine hs.at ?_|wp_step))
 refine⟨Code.quiet_builtin _ (by decide +kernel),QbG F.entry_object_class ?_⟩
 repeat (any_goals (first|assumption|(with_reducible refine Qb0 hx ?_;rw[hc])|wp_step))
theorem Zmr {Q:Fin→Shared→Prop}(X:K.In h)(c:Zdy K C)(hx:h.get? a=some o)(hc:o.cls= .ref C)(hq:Q (.done (.ret (.ref C))) ⟨h,g,d,t,os⟩):
  wpAny (model prog w) A (Builtin.«object.__getattribute__» ⟨[.ref a,.str "__class__" tk],[]⟩) Q E ⟨h,g,d,t,os⟩:=by
 have hT5:(⟨h,g,d,t,os⟩:Shared).TypeIs (.builtin "object.__class__") "getset_descriptor" :=F.typeOf_object_class;have f4:PySem.W.Looks (model prog w) h (typeLookup (.ref C) "__class__") _:=QcY X c.cl;have f5:=F.typeOf_object_class;have f6:=F.slot_gs_get.lookup;have f7:=F.slot_gs_set.lookup
 repeat (any_goals (first|assumption|(with_reducible refine Qb0 hx ?_;rw[hc])|with_reducible refine f4.at ?_|wp_step))
 refine Zpd X c hx hc ?_
 repeat (any_goals (first|assumption|wp_step))
theorem Zms {nameV:Value}{Q:Unit→Shared→Prop}(X:K.In h)(c:Zdy K C)(hx:h.get? a=some o)(hc:o.cls= .ref C)(hq:Q () ⟨h,g,d,t,os⟩):wpAny M A (checkBuiltinCall "BaseException.__getattribute__" ⟨[.ref a,nameV],[]⟩) Q E ⟨h,g,d,t,os⟩:=by
 have hk:builtinKind "BaseException.__getattribute__" =some .slot:=by decide +kernel
 have hsplit:splitId "BaseException.__getattribute__" =some ("BaseException", "__getattribute__"):=by decide +kernel
 have hs:PySem.W.Looks M h (isSubtype (.ref C) (.type "BaseException")) true:=Qco X c.be;have ha:=F.args_bexc_ga (.ref a) nameV;simp only[checkBuiltinCall,hk,hsplit];refine Qaa ?_
 ·unfold isInstance
  repeat (first|(with_reducible refine Qb0 hx ?_;rw[hc])|with_reducible refine hs.at ?_|wp_step)
  exact hq
theorem Zn1 (X:K.In h)(c:Zdy K C)(hx:h.get? a=some o)(hc:o.cls= .ref C)(hq:R (.ok (.ret (.ref C))) ⟨h,g,d,t,os⟩):
  codeAny (model prog w) A (.call (.builtin "BaseException.__getattribute__") ⟨[.ref a,.str "__class__" tk],[]⟩) R ⟨h,g,d,t,os⟩:=
 QcV (QdH).ga.plain F.entry_bexc_ga (Zms X c hx hc (Zmr X c hx hc hq))
theorem Zp9 (X:K.In h)(c:Zdy K C)(hx:h.get? a=some o)(hc:o.cls= .ref C)(hq:Q (.ref C) ⟨h,g,d,t,os⟩):
  wpAny (model prog w) A (getAttrBy (.ref a) (.str "__class__" tk) false) Q E ⟨h,g,d,t,os⟩:=by
 have f3:=(QdH).ga.bind (.ref a);have hx2:(Value.builtin "BaseException.__getattribute__" ==Value.builtin "object.__getattribute__")=false:=by decide +kernel
 have hx1:(onTheHeap (Value.ref C) && Value.builtin "BaseException.__getattribute__" ==Value.builtin "object.__getattribute__")=false:=by rw[hx2];rfl
 have f1:PySem.W.Looks (model prog w) h (typeLookup (.ref C) "__getattribute__") _:=QcY X c.ga;have f2:PySem.W.Looks (model prog w) h (typeLookup (.ref C) "__getattr__") _:=QcY X c.na
 repeat (any_goals (first|assumption|(with_reducible refine Qb0 hx ?_;rw[hc])|with_reducible refine f1.at ?_|with_reducible refine f2.at ?_|wp_step))
 refine Zn1 X c hx hc ?_
 repeat (any_goals (first|assumption|wp_step))
theorem Zn2 {Q:Option Value→Shared→Prop}(X:K.In h)(c:Zdy K C)(hx:h.get? a=some o)(hc:o.cls= .ref C)(hq:Q (some (.ref C)) ⟨h,g,d,t+1,os⟩):wpAny (model prog w) A (getAttr? (.ref a) "__class__") Q E ⟨h,g,d,t,os⟩:=by
 unfold getAttr? getAttrBy?
 repeat (any_goals (first|assumption|with_reducible apply Zp9 X c hx hc|wp_step))
end
theorem ZfU {K:PySem.W.Frag}(c:Zdy K C):PySem.W.KitX K (.ref a) (.ref C) (fun h=>∃o,h.get? a=some o∧o.cls= .ref C) where
 ty:=fun M h _ ⟨o,h1,h2⟩=>h2 ▸ (PySem.W.Looks.ld h1).andThen .now
 it:=fun M h X _=>by
  have z:=c.co;unfold PySem.W.clsIn at z;split at z
  ·rename_i c' d' cd' sl' ho;intro A' Q' E' s' k q;unfold isType loadHead;exact Qaa (wpAny_loadPart (k _ _ (X _ _ ho)) (Qaj q))
  ·cases z
 ne:=fun h tp dd its n sl X htp=>by
  have z:=c.co;refine QbE.mpr fun q=> ?_;have e:C=tp:=Value.ref.inj (beq_iff_eq.mp q);subst e;unfold PySem.W.clsIn at z;split at z
  ·rename_i c' d' cd' sl' ho;have z:=(X _ _ ho).symm.trans htp;cases z
  ·cases z
 ca:=fun{_ _ _ _ _ s} X ⟨o,h1,h2⟩ k=>by
  obtain⟨h,g,d,t,os⟩:=s;exact Zn2 X c h1 h2 k
def CXE (P:Program)(w:World):CXT:=fun outer H s E e s'=>∃(a C:Addr) (a0:Value) (B:Heap) (H':Hp),e= .ref a∧s'.os=s.os∧AllBare s'.gens∧Un (frs outer) [] H H' s.heap s'.heap∧HOk P w H' s'.heap∧
 Heap.FlyingW B outer a (.ref C) a0 s'.heap∧(∀b o,s.heap.get? b=some o→b∉frs outer→∃o',B.get? b=some o')∧(∀b o,H' b=some o→∃o',B.get? b=some o')∧E (.ref C) none H'
theorem ZbN.there {o:HO}(x:ZbN P w H h a o):∃ob,h.get? a=some ob:=by
 cases o with
 |lst xs=>obtain⟨_,_,_,_,e⟩:=x;exact⟨_,e⟩
 |tup xs=>obtain⟨_,_,_,o,e,_⟩:=x;exact⟨_,e⟩
 |dK kvs=>obtain⟨_,_,_,_,o,_,_,e,_⟩:=x;exact⟨_,e⟩
 |dT kvs=>obtain⟨_,_,_,_,o,_,_,e,_⟩:=x;exact⟨_,e⟩
 |set S n=>obtain⟨o,_,_,_,e,_⟩:=x;exact⟨_,e⟩
 |ins C dx fs=>obtain⟨_,_,_,e,_⟩:=x;exact⟨_,e⟩
 |own y=>exact x
 |xd fs=>obtain⟨_,⟨_,_,_,e,_⟩,_⟩:=x;exact⟨_,e⟩
 |rng lo hi=>obtain⟨_,_,_,e⟩:=x;exact⟨_,e⟩
 |frz ob u=>exact⟨_,x.1⟩
 |tbl ps=>exact⟨_,x⟩
 |met f y=>exact⟨_,x⟩
 |ext φ=>exact x.2.1
section
variable {s1:Shared}
theorem ZiJ (I:Inv X qa σ H1 s1)(hex:X.ex=[])(u:Un (frs X.stack) [] H1 H' s1.heap h1)(hok:HOk X.prog X.w H' h1)(b1:B.StaysIn h1)(b2:B.StaysIn h')(sm:h1.UpToSlots h')
  (c1:∀b o,s1.heap.get? b=some o→b∉frs X.stack→∃o',B.get? b=some o') (c2:∀b o,H' b=some o→∃o',B.get? b=some o'):
  Un X.fs [] X.H₀ H' X.s₀.heap h'∧HOk X.prog X.w H' h'∧∀b o,X.s₀.heap.get? b=some o→b∉X.fs→∃o',B.get? b=some o':=by
 have nex:∀b:Addr,b∉X.ex:=fun b z=>by rw[hex] at z;cases z
 have c0:∀b o,X.s₀.heap.get? b=some o→b∉X.fs→∃o',B.get? b=some o':=fun b o e hb=>by
  obtain⟨o1,e1⟩:=I.base.there b o e (nex b);refine c1 b o1 e1 fun z=> ?_;rcases Qas.mp (I.stkSub b z) with q|q
  ·exact absurd (QaC (Qap e) I.ok.above) (by rw[q];exact Qbp _)
  ·exact hb q
 have J:=(I.call (g':=s1.gens) (t':=s1.toks) (d':=s1.drawn) (ch:=[]) u hok I.bare (fun b z=>nomatch z)).base;rw[hex] at J
 have same:∀b o,h1.get? b=some o→(∃o',B.get? b=some o')→h'.get? b=some o:=fun b o e ⟨o',q⟩=>by
  have:=b1 b o' q;rw[e] at this;cases this;exact b2 b _ q
 have frm:∀b∈X.fs,∀o,h1.get? b=some o→∃sl,h'.get? b=some {o with slots:=sl }:=fun b hb o e=>by
  obtain⟨_,o0,e0,hd⟩:=I.ok.funs.mem hb;obtain⟨sl,e1⟩:=J.slot b o0 e0 (I.ok.frf b hb) hb (by simp);have e1:h1.get? b=some _:=e1;rw[e] at e1;cases e1;exact sm b _ e hd
 refine⟨⟨fun b o e n hb _=> ?_,fun b o e n hb _=> ?_,J.free,fun b o e _=> ?_,J.tups,J.frzs,J.tbls⟩,fun b u' e=> ?_,c0⟩
 ·exact same b o (J.keep b o e n hb (by simp)) (c0 b o e hb)
 ·obtain⟨sl,e1⟩:=J.slot b o e n hb (by simp);obtain⟨sl',e2⟩:=frm b hb _ e1;exact⟨sl',e2⟩
 ·obtain⟨o1,e1⟩:=J.there b o e (by simp);by_cases hb:b∈X.fs
  ·obtain⟨sl,e2⟩:=frm b hb _ e1;exact⟨_,e2⟩
  ·exact⟨o1,same b o1 e1 (c0 b o e hb)⟩
 ·refine(hok b u' e).stay (fun c v hc r=>same c v r ?_) (fun _ q=>q) fun _ _ q=>q;rcases hc with rfl|hc
  ·exact c2 _ _ e
  ·exact c2 _ _ hc
end
section
variable {K:PySem.W.Frag}{scope:Scope}{cd:Value}{outer:List Env}{E:XK}
def ZeM (X:Cx)(Ex:Value→St→Hp→Prop):Prop:=∀(qa:List (Addr×Obj)) (σ:St) (H:Hp) (s:Shared) (e:Value) (s':Shared),Inv X qa σ H s→CXE X.prog X.w X.stack H s (fun c _ H'=>Ex c σ H') e s'→X.xe e s'
theorem Zmt:ZeM (Ze8 (CXE P w) P w K mg base N qr scope f cd A outer s H E) (fun c _ H'=>E c none H'):=by
 rintro qa σ H1 s1 e s' I ⟨a,C,a0,B,H',rfl,ho,hb,un,hok,fl,c1,c2,q⟩;refine wpAny_leaves_onW (I.ok.frames) rfl fl fun h' fl' sm=> ?_;obtain⟨u2,hok2,c0⟩:=ZiJ I rfl un hok fl.1 fl'.1 sm c1 c2;exact⟨a,C,a0,B,H',rfl,ho.trans I.os,hb,u2,hok2,fl',c0,c2,q⟩
def Znr (E:XK)(C:Addr):TS:=fun _ _ H=>E (.ref C) none H
theorem Zpe {K:PySem.W.Frag}{bmB:List Value}{newId:String}(X:K.In h)(q:PySem.W.excIn K C bmB newId=true):
  ∃bm N nm q bs hdct sn sub ab col dd k0 k1 k2 k3 k5 mN,h.get? C=some (excClassObj nm q C N bs bm hdct sn sub ab col dd k0 k1 k2 k3 k5 newId)∧h.Ns N mN∧mN "__init__" =none∧OwnTail h bmB bm:=by
 unfold PySem.W.excIn at q;split at q
 ·rename_i dd cd sl ho;split at q
  ·rename_i C' bm k0 k1 k2 k3 n k5 hm hs;simp only[QaY,beq_iff_eq,Bool.not_eq_true'] at q;obtain⟨⟨⟨⟨⟨rfl,rfl⟩,hdel⟩,ht⟩,hok⟩,hni⟩:=q;obtain⟨nm,bs,mro,ns,qn,hd,sn,sub,ab,col,del⟩:=cd;dsimp only at hm hdel hok hni;subst hm hdel
   have hsl:sl= #[k0,k1,k2,k3,some (.builtin n),k5]:=by
    obtain⟨l⟩:=sl;simp only at hs;rw[hs]
   subst hsl;exact⟨bm,ns,nm,qn,bs,hd,sn,sub,ab,col,dd,k0,k1,k2,k3,k5,_,X _ _ ho,.of_isNs (PySem.W.isNs_of_in X hok),PySem.W.nsMap_none_of_in X hok hni,PySem.W.tail_of_in X ht⟩
  ·cases q
 ·cases q
abbrev bmV:List Value:=[.type "ValueError",.type "Exception",.type "BaseException",.type "object"]
theorem ZkK {as:List Addr}{l:List Env}(hl:h.FunFrames base l)(hin:∀b∈frs l,b∈as):h.FunFrames (PySem.W.hideAll h as) l:=by
 refine PySem.W.funFrames_hide hl fun env he a hf=>hin a ?_;exact Qdk.mpr ⟨env,he,hf⟩
theorem Zmu {pos:PySem.Pos}{e₀:Expr}{v:V}(hc:PySem.W.excIn K C bmV "ValueError.__new__" =true)(hd:A.handled=none)(hm:mg x=some (.ref C))(he₀:PE (Ze8 (CXE P w) P w K mg base N qr scope f cd A outer s H E) e₀ (tC v))
  (hg:Gl (Ze8 (CXE P w) P w K mg base N qr scope f cd A outer s H E) x)
  (he:starEach [e₀] (Ze8 (CXE P w) P w K mg base N qr scope f cd A outer s H E).env=(false,eval e₀ (Ze8 (CXE P w) P w K mg base N qr scope f cd A outer s H E).env)::starEach [] (Ze8 (CXE P w) P w K mg base N qr scope f cd A outer s H E).env:=by rfl) (hdb:(x==("__debug__" :Str))=false:=by decide):
  PS (Ze8 (CXE P w) P w K mg base N qr scope f cd A outer s H E) (.Raise (some (.Call (.Name x np) [e₀] [] qE)) none pos) (Znr E C):=by
 intro qa s1 σ H1 D I h;obtain⟨tl,NN,nm,q,bs,hdct,sn,sub,ab,col,dd,k0,k1,k2,k3,k5,mN,hC,hN,hni,T⟩:=Zpe I.ok.mod.kin hc
 refine wpAny_Raise_call_subU (C:=C) (nm:=nm) (q:=q) (N:=NN) (bs:=bs) (bm:=tl) (hdct:=hdct) (sn:=sn) (sub:=sub) (ab:=ab) (col:=col) (dd:=dd) (k0:=k0) (k1:=k1) (k2:=k2) (k3:=k3) (k5:=k5)
  Qdh (by decide) Qdh (mN:=mN) (T.hasType PySem.F.excBase_ValueError.hasBase) hd (by rw[he];rfl) hni (ZdY I hg hm ⟨rfl,?_⟩ hdb)
 have hp:PA (Ze8 (CXE P w) P w K mg base N qr scope f cd A outer s H E) [e₀] (Zaa (tC v) Zau):=ZaQ he₀ Zac he;have hs:=hp qE qa s1 σ H1 (fun vs H'=>vs.length=1∧E (.ref C) none H') I ⟨rfl,h⟩;rw[he] at hs⊢;refine QcT (Qbh hs (fun us s2 h2=> ?_) fun _ _ y=>y);obtain⟨vs,H2,I2,rv,l1,q2⟩:=h2;have lu:us.length=1:=by rw[←rv.length];exact l1
 refine⟨rfl,by rw[lu];decide,I2.bk _ _ hC,hN.keeps I2.bk,T.keeps I2.bk,fun h3 e mk=> ?_⟩;have hin:∀b∈frs (Ze8 (CXE P w) P w K mg base N qr scope f cd A outer s H E).stack,b∈frs (Ze8 (CXE P w) P w K mg base N qr scope f cd A outer s H E).stack:=fun b z=>z;refine wpAny_leaves_madeW (h:=s2.heap) (base:=PySem.W.hideAll s2.heap (frs (Ze8 (CXE P w) P w K mg base N qr scope f cd A outer s H E).stack)) I2.ok.frames rfl (fun b o z=>Qdi _ z) (ZkK I2.stack hin) mk fun h' t fl _ _ sm=> ?_;have c1:∀b o,s2.heap.get? b=some o→b∉frs (Ze8 (CXE P w) P w K mg base N qr scope f cd A outer s H E).stack→∃o',(PySem.W.hideAll s2.heap (frs (Ze8 (CXE P w) P w K mg base N qr scope f cd A outer s H E).stack)).get? b=some o':=fun b o z n=>⟨o,PySem.W.hideAll_get _ z n⟩
 have c2:∀b o,H2 b=some o→∃o',(PySem.W.hideAll s2.heap (frs (Ze8 (CXE P w) P w K mg base N qr scope f cd A outer s H E).stack)).get? b=some o':=fun b o z=>by
  obtain⟨o',e'⟩:=ZbN.there (I2.hok b o z);exact c1 b o' e' fun n=>by rw[I2.stkFree b n] at z;cases z
 obtain⟨u2,hok2,c0⟩:=ZiJ I2 rfl (Un.kept mk.keeps) (I2.hok.kept mk.keeps) (fun b o z=>mk.keeps b o (Qdi _ z)) fl.1 sm c1 c2;exact⟨e,C,_,_,H2,rfl,I2.os,I2.bare,u2,hok2,fl,c0,c2,q2⟩
end
structure KnX (P:Program)(w:World)(K:PySem.W.Frag)(mg:Str→Option Value)(base:Heap)(x:Str)(k:Nat)(ps:List Str)(sp:Sp):Prop where
 ex:∃(f:Addr) (fd:FuncData),ZbW P w K mg base (CXE P w) k f fd ps sp∧mg x=some (.ref f)∧PySem.W.keepIn K (.ref f)=true∧ZfH K fd ps []
def Zfp (sp:Sp)(Ex:Value→St→Hp→Prop)(t:TA):TE:=fun σ H Q=>t σ H fun vs H1=>sp vs H1 Q (fun c _ H'=>Ex c σ H')
theorem ZdU {k:Nat}{t:TA}{pos:PySem.Pos}(G:KnX X.prog X.w X.K X.mg X.base x k ps sp)(px:ZeM X Ex)(hr:Zef j X.A)(hg:Gl X x)(ha:PA X (e::es) t)(hle:k≤j:=by decide)
  (hdb:(x==("__debug__" :Str))=false:=by decide)
  (he:starEach (e::es) X.env=(false,eval e X.env)::starEach es X.env:=by rfl) (hpl:(backTo pos (starEach es X.env)).any (·.1)=false:=by rfl):PE X (.Call (.Name x p) (e::es) [] pos) (Zfp sp Ex t):=by
 obtain⟨f,fd,F,hm,hk,hb⟩:=G.ex;intro qa s σ H Q I h;refine Qbk (ZdY I hg hm ?_ hdb);refine Qdl (h₀:=X.base) I.ok.mod.kin hk (thn (ha pos qa s σ H _ I h) fun us s1 ⟨vs,H1,I1,r,q⟩=>⟨I1.kIn,?_⟩) he hpl;have hl:us.length=ps.length:=by rw[←r.length];exact F.len _ _ _ _ q
 have hb1:=hb s1 us I1.kIn (by rw[Qbo];exact hl);rw[Qbo] at hb1;refine Qek (Qcr (F.run X.A X.stack s1 H1 ⟨us,[]⟩ us vs Q (fun c _ H'=>Ex c σ H') (hr.mono hle) I1.env0 hb1 r q) fun r s' hq=> ?_)
 cases r with
 |error e=>exact px qa σ H1 s1 e s' I1 hq
 |ok fl=>
  cases fl with
  |ret u=>exact I1.after hq
  |next=>exact False.elim hq
  |brk=>exact False.elim hq
  |cont=>exact False.elim hq
theorem Fun.okX {K:PySem.W.Frag}{st:Stmt}{k:Nat}(F:Fun K x qr st f fd)(S:ZaC N ps (Zag st))(len:∀vs H Q E,sp vs H Q E→vs.length=ps.length)
  (hbody:∀(cdv:Value) (A:Around) (outer:List Env) (s:Shared) (H:Hp) (vs:List V) (Q:VK) (E:XK),A.handled=none→Zef k (A.deeper (envOfC qr (Zag st) s.heap.objs.size f cdv))→sp vs H Q E→
   ∃t,PSs (Ze8 (CXE P w) P w K mg base N qr (Zag st) f cdv A outer s H E) (Zay st) t∧t {nx:=fun _ H'=>Q .non H',rt:=Q } (ZfI N vs) H):ZbW P w K mg base (CXE P w) (k+1) f fd ps sp:=by
 obtain⟨oc,od,kV,doc,pm,an,cdv,ct,osl,rfl,lk,hcd⟩:=F.ex;exact ZoP lk hcd S len fun A outer s H vs Q E hr hsp=>hbody cdv A outer s H vs Q E hr.hd hr hsp
theorem PS.nox {X:Cx}{st:Stmt}{t:TS}(h:PS X.nox st t):PS X st t:=fun qa s σ H D I hw=>
 Qbh (h qa s σ H D (I.wish _) hw) (fun _ _ q=>q.unwish) fun _ _ z=>False.elim z
theorem Zpf {fs:List Addr}{hs:Heap}(un:Un fs [] H1 H' h1 hs)(hok:HOk P w H' hs)(b1:B.StaysIn hs)(b2:B.StaysIn h')(sm:hs.UpToSlots h')
  (c1:∀b o,h1.get? b=some o→b∉fs→∃o',B.get? b=some o') (c2:∀b o,H' b=some o→∃o',B.get? b=some o') (ff:∀b∈fs,H1 b=none∧∃o,h1.get? b=some o∧∀vs,o.data≠ .fields vs):Un fs [] H1 H' h1 h'∧HOk P w H' h':=by
 have same:∀b o,hs.get? b=some o→(∃o',B.get? b=some o')→h'.get? b=some o:=fun b o e ⟨o',q⟩=>by
  have:=b1 b o' q;rw[e] at this;cases this;exact b2 b _ q
 have frm:∀b∈fs,∀o,hs.get? b=some o→∃sl,h'.get? b=some {o with slots:=sl }:=fun b hb o e=>by
  obtain⟨hn,o0,e0,hd⟩:=ff b hb;obtain⟨sl,e1⟩:=un.slot b o0 e0 hn hb (by simp);rw[e] at e1;cases e1;exact sm b _ e hd
 refine⟨⟨fun b o e n hb _=> ?_,fun b o e n hb _=> ?_,un.free,fun b o e _=> ?_,un.tups,un.frzs,un.tbls⟩,fun b u' e=> ?_⟩
 ·exact same b o (un.keep b o e n hb (by simp)) (c1 b o e hb)
 ·obtain⟨sl,e1⟩:=un.slot b o e n hb (by simp);obtain⟨sl',e2⟩:=frm b hb _ e1;exact⟨sl',e2⟩
 ·obtain⟨o1,e1⟩:=un.there b o e (by simp);by_cases hb:b∈fs
  ·obtain⟨sl,e2⟩:=frm b hb _ e1;exact⟨_,e2⟩
  ·exact⟨o1,same b o1 e1 (c1 b o e hb)⟩
 ·refine(hok b u' e).stay (fun c v hc r=>same c v r ?_) (fun _ q=>q) fun _ _ q=>q;rcases hc with rfl|hc
  ·exact c2 _ _ e
  ·exact c2 _ _ hc
abbrev Cx.tried (X:Cx)(qa:List (Addr×Obj))(xe:Value→Shared→Prop):Cx:={X with pn:=X.pn++qa,xe:=xe }
abbrev Cx.suite (X:Cx)(a:Addr)(oe:Obj):Cx:={X with A:=X.A.mark (some (.ref a)),calm:=false,pn:=X.pn++ [(a,oe)],xe:=fun _ _=>False }
section
variable {xe:Value→Shared→Prop}
theorem Cx.Ok.tried (ok:X.Ok):(X.tried qa xe).Ok:=⟨ok.mod,ok.kind,ok.glob,ok.blt,ok.above,ok.inj,ok.has,ok.cab,ok.hd,ok.frames,ok.stk,ok.exf,ok.bs,ok.bsz,ok.noex,ok.exfs,ok.funs,ok.frf⟩
theorem Cx.Ok.untried (ok:(X.tried qa xe).Ok):X.Ok:=⟨ok.mod,ok.kind,ok.glob,ok.blt,ok.above,ok.inj,ok.has,ok.cab,ok.hd,ok.frames,ok.stk,ok.exf,ok.bs,ok.bsz,ok.noex,ok.exfs,ok.funs,ok.frf⟩
theorem Inv.tried (I:Inv X qa σ H s):Inv (X.tried qa xe) [] σ H s:=⟨I.ok.tried,I.os,I.bare,I.base,I.loc,I.cell,I.free,I.freeC,fun p hp=>I.pin p (by simpa using hp),I.hok,I.len⟩
theorem Inv.untried {jq:List (Addr×Obj)}(I:Inv (X.tried qa xe) jq σ H s):Inv X qa σ H s:=⟨I.ok.untried,I.os,I.bare,I.base,I.loc,I.cell,I.free,I.freeC,fun p hp=>I.pin p (QaM _ hp),I.hok,I.len⟩
theorem SP.untried {D:Zgk}{f:Flow}{s':Shared}{jq:List (Addr×Obj)}(h:SP (X.tried qa xe) jq D f s'):SP X qa D f s':=by
 cases f with
 |next=>obtain⟨σ',H',I,q⟩:=h;exact⟨σ',H',I.untried,q⟩
 |brk=>obtain⟨σ',H',I,q⟩:=h;exact⟨σ',H',I.untried,q⟩
 |cont=>obtain⟨σ',H',I,q⟩:=h;exact⟨σ',H',I.untried,q⟩
 |ret u=>obtain⟨v,σ',H',I,r,q⟩:=h;exact⟨v,σ',H',I.untried,r,q⟩
theorem Cx.Ok.suite {a:Addr}{oe:Obj}(ok:X.Ok):(X.suite a oe).Ok:=⟨ok.mod,ok.kind,ok.glob,ok.blt,ok.above,ok.inj,ok.has,ok.cab,fun z=>(nomatch z),ok.frames,ok.stk,ok.exf,ok.bs,ok.bsz,ok.noex,ok.exfs,ok.funs,ok.frf⟩
theorem Inv.suite {a:Addr}{oe:Obj}(I:Inv X qa σ H s)(ha:s.heap.get? a=some oe)(hn:H a=none)(hl:a≠X.env.locals)(hf:a∉X.fs)(hc:∀v,oe.data≠ .cell v):Inv (X.suite a oe) qa σ H s:=
 ⟨I.ok.suite,I.os,I.bare,I.base,I.loc,I.cell,I.free,I.freeC,fun p hp=>by
  have hp:p∈X.pn++ [(a,oe)]++qa:=hp
  rcases Qaz.mp hp with hp|hp
  ·rcases Qaz.mp hp with hp|hp
   ·exact I.pin p (QaM _ hp)
   ·rcases Qan.mp hp with rfl
    exact⟨ha,hn,hl,hf,hc⟩
  ·exact I.pin p (QaA _ hp),I.hok,I.len⟩
theorem Inv.unsuite (ok:X.Ok)(I:Inv (X.suite a oe) qa σ H s):Inv X qa σ H s:=
 ⟨ok,I.os,I.bare,I.base,I.loc,I.cell,I.free,I.freeC,fun p hp=>I.pin p (by
  rcases Qaz.mp hp with hp|hp
  ·exact QaM _ (QaM _ hp)
  ·exact QaA _ hp),I.hok,I.len⟩
theorem Inv.gone {m':Str→Option Value}(I:Inv X qa σ H s)(hn:h'.Ns X.env.locals m')(hs:Heap.SameBut X.env.locals s.heap h'):Inv X qa (List.replicate X.N.length none) H {s with heap:=h',toks:=t' }:=by
 obtain⟨m,hm,_⟩:=id I.loc;obtain⟨oL,_,_,hoL,_⟩:=id hm;have cne:=I.cne;refine⟨I.ok,I.os,I.bare,⟨fun b o e n hb hx=> ?_,fun b o e n hb hx=> ?_,I.base.free,fun b o e hx=> ?_,I.base.tups,I.base.frzs,I.base.tbls⟩,⟨m',hn,fun j y v' e1 e2 e3=> ?_⟩,fun y c e=> ?_,I.free,I.freeC,fun p hp=> ?_,fun b ob e=> ?_,by simp⟩
 ·exact(hs.2 b (QaL (QaC (Qap e) I.ok.above))).trans (I.base.keep b o e n hb hx)
 ·obtain⟨sl,e1⟩:=I.base.slot b o e n hb hx;exact⟨sl,(hs.2 b (QaL (QaC (Qap e) I.ok.above))).trans e1⟩
 ·obtain⟨o',e1⟩:=I.base.there b o e hx;exact⟨o',(hs.2 b (QaL (QaC (Qap e) I.ok.above))).trans e1⟩
 ·rw[Qcv] at e2;split at e2<;>cases e2
 ·obtain⟨w',z⟩:=I.cell y c e;exact⟨w',z.sameBut hs (cne y c e)⟩
 ·obtain⟨e,n,ne,nf,d⟩:=I.pin p hp;exact⟨(hs.2 p.1 ne).trans e,n,ne,nf,d⟩
 ·refine(I.hok b ob e).stay (fun c w' hc q=>(hs.2 c ?_).trans q) (fun _ q=>q) fun _ _ q=>q;rintro rfl;rcases hc with rfl|hc
  ·rw[I.free] at e;cases e
  ·rw[I.free] at hc;cases hc
end
theorem ZkL {K:PySem.W.Frag}{Q:Bool→Shared→Prop}(X:K.In h)(c:Zdy K C')(he:h.get? a=some oe)(hcls:oe.cls= .ref C)
  (hsub:PySem.W.subIn K (.ref C) (.ref C')=some true) (hq:Q true ⟨h,g,d,t,os⟩):wpAny M A (excMatches (.ref a) (.ref C')) Q E ⟨h,g,d,t,os⟩:=by
 have l1:PySem.W.Looks M h (typeOf (.ref C')) (.type "type"):=PySem.W.looks_typeIn X c.ty;have l2:PySem.W.Looks M h (isSubtype (.ref C') (.type "BaseException")) true:=Qco X c.be;have l3:PySem.W.Looks M h (typeOf (.ref a)) (.ref C):=hcls ▸ (PySem.W.Looks.ld he).andThen .now;have l4:PySem.W.Looks M h (isSubtype (.ref C) (.ref C')) true:=Qco X hsub;have f:=tc_notTuple;have z:=c.co;unfold PySem.W.clsIn at z;split at z
 ·rename_i c' d' cd' sl' ho;have hC:=X _ _ ho;unfold excMatches isInstance isExcClass
  repeat (first|with_reducible refine l1.at ?_|with_reducible refine l2.at ?_|with_reducible refine l3.at ?_|with_reducible refine l4.at ?_|with_reducible refine Qb0 hC ?_|wp_step)
  exact hq
 ·cases z
def Zns (n:Nat)(D:Zgk):Zgk:={nx:=fun _ H=>D.nx (List.replicate n none) H,rt:=D.rt,bk:=fun _ H=>D.bk (List.replicate n none) H,ct:=fun _ H=>D.ct (List.replicate n none) H }
def Zqy (K:PySem.W.Frag)(n i:Nat)(C':Addr)(tb:(Value→St→Hp→Prop)→TS)(ts:Addr→Addr→TS):TS:=fun D σ H=>
 tb (fun c σ' H'=>∃C,c= .ref C∧PySem.W.subIn K (.ref C) (.ref C')=some true∧∀a,H' a=none→ts C a (Zns n D) (σ'.set i (some (.ref a))) H') D σ H
theorem ZkM (I:Inv X qa σ H s):∀b∈frs X.stack,H b=none∧∃o,s.heap.get? b=some o∧∀vs,o.data≠ .fields vs:=fun b hb=>⟨I.stkFree b hb,(I.stack.mem hb).2⟩
theorem Zpg {n:Str}{hp pos:PySem.Pos}{body:List Stmt}{b₀:Stmt}{suite:List Stmt}{tb:(Value→St→Hp→Prop)→TS}{ts:Addr→Addr→TS}(hN:X.N.Nodup)(hi:X.N[i]?=some n)(hloc:X.env.scope.names.lookup n=some .local)
  (hst:X.stack=X.env::X.outer) (hfr:X.env.frame=some X.env.locals) (hm:X.mg x=some (.ref C')) (hg:Gl X x) (hcl:Zdy X.K C')
  (hb:∀qa xe Ex,ZeM (X.tried qa xe) Ex→PSs (X.tried qa xe) body (tb Ex))
  (hs:∀(C a:Addr) (oe:Obj),oe.cls= .ref C→PSs (X.suite a oe) (b₀::suite) (ts C a)) (hdb:(x==("__debug__" :Str))=false:=by decide):
  PS X (.Try body [.ExceptHandler (some (.Name x np)) (some n) (b₀::suite) hp] [] [] pos) (Zqy X.K X.N.length i C' tb ts):=by
 intro qa s σ H D I h;refine wpAny_Try_except ?_;refine Qbh (hb qa _ _ ?_ [] s σ H D I.tried h) (fun f s1 q=> ?_) fun e s1 q=>q
 ·rintro jq σ1 H1 s1 e s' I1 ⟨a,C,a0,B,H',rfl,ho,hbare,un,hok,fl,c1,c2,C0,ec,hsub,q⟩;cases ec;have ff:=ZkM I1;refine wpAny_looks_onW (by rw[←hst];exact I1.ok.frames) hfr (by rw[←hst];exact fl) fun h4 held4 sm4=> ?_;refine wpAny_landsW held4 fun h5 fl5 sm5=> ?_;obtain⟨u5,hok5⟩:=Zpf un hok fl.1 fl5.1 (sm4.trans sm5) c1 c2 ff;have J5:Inv X qa σ1 H' {s' with heap:=h5 }:=(I1.call' (s':={s' with heap:=h5 }) ho u5 hok5 hbare (fun b z=>nomatch z)).untried;obtain⟨oe5,he5,hc5⟩:=fl5.there;refine wpAny_handleBy_cons (codeAny_handlers_test ?_) (by intro q;cases q);refine Qci J5.ok.kind hg (Qdz (by rw[J5.ok.glob];exact J5.mod.glob.keeps J5.bk) hm ?_) hdb;refine ZkL J5.kIn hcl he5 hc5 hsub (codeAny_handlers_suite_as ?_);refine lands_againW fl5 fun h6 fl6 sm6=> ?_;obtain⟨u6,hok6⟩:=Zpf un hok fl.1 fl6.1 ((sm4.trans sm5).trans sm6) c1 c2 ff;have J6:Inv X qa σ1 H' {s' with heap:=h6 }:=(I1.call' (s':={s' with heap:=h6 }) ho u6 hok6 hbare (fun b z=>nomatch z)).untried;obtain⟨oe,vs,T,oT,tss,he,⟨hc,h0⟩,hd,_⟩:=fl6.2.2.2
  have hna:H' a=none:=by
   cases z:H' a with
   |none=>rfl
   |some o=>
    obtain⟨o',e'⟩:=c2 a o z;rw[fl.2.1] at e';cases e'
  have nfr:a∉frs X.stack:=fun z=>by
   obtain⟨_,o,e,nd⟩:=ZkM J6 a z;rw[he] at e;cases e;exact nd _ hd
  have nl:a≠X.env.locals:=fun z=>nfr (by rw[hst];unfold frs;rw[Qb1,hfr,z];exact Qad)
  have nfs:a∉X.fs:=fun z=>nfr (by
   rw[hst];unfold frs;rw[Qb1,hfr];exact Qab _ z)
  have J7:Inv (X.suite a oe) qa σ1 H' {s' with heap:=h6 }:=J6.suite he hna nl nfs (fun v z=>by rw[hd] at z;cases z);refine Zen (X:=X.suite a oe) (i:=i) (v:=.ref a) J7 hN hi (.inl hloc) rfl (fun s7 J8=> ?_) (.inr hloc);refine Qbh (hs C a oe hc qa s7 (σ1.set i (some (.ref a))) H' (Zns X.N.length D) J8 (q a hna)) (fun f s8 r8=> ?_) fun e s8 z=>False.elim z
  have fin:∀{σ8:St} {H8:Hp},Inv (X.suite a oe) qa σ8 H8 s8→(∀s9,Inv X qa (List.replicate X.N.length none) H8 s9→SP X qa D f s9)→wpAny (model X.prog X.w) X.A (do bindName X.env n .none;unbindBehindTheSuite X.env n hp) (fun _ s9=>SP X qa D f s9) X.xe s8:=fun{σ8 H8} J k=>by
   obtain⟨m,hn,_⟩:=J.loc;refine wpAny_nameGoes hloc hn (by rw[show X.env.scope.kind= .function from J.ok.kind];rfl) fun h' m' hn' hs'=>k _ ?_;exact(J.unsuite J6.ok).gone hn' hs'
  cases f with
  |next=>obtain⟨σ8,H8,J,r⟩:=r8;exact fin J fun s9 J9=>⟨_,_,J9,r⟩
  |brk=>obtain⟨σ8,H8,J,r⟩:=r8;exact fin J fun s9 J9=>⟨_,_,J9,r⟩
  |cont=>obtain⟨σ8,H8,J,r⟩:=r8;exact fin J fun s9 J9=>⟨_,_,J9,r⟩
  |ret u=>obtain⟨v,σ8,H8,J,rv,r⟩:=r8;exact fin J fun s9 J9=>⟨v,_,_,J9,rv,r⟩
 ·cases f with
  |next=>exact Qcu (SP.untried q)
  |brk=>exact SP.untried q
  |cont=>exact SP.untried q
  |ret u=>exact SP.untried q
def Zl0 (K:PySem.W.Frag)(C a:Addr):List V→Hp→VK→Prop:=fun xs H Q=>Zdy K C∧∃b,((∃C2,xs=[.ref a,.ref C2]∧Zdy K C2∧PySem.W.subIn K (.ref C) (.ref C2)=some b)∨(∃T,xs=[.ref a,.ty T]∧PySem.W.kitMeta T=true∧PySem.W.subIn K (.ref C) (.type T)=some b)∨
 (∃(tp:Addr) (Cs:List Addr),xs=[.ref a,.ref tp]∧H tp=some (.tup (Cs.map V.ref))∧(∀c∈Cs,Zdy K c)∧(∀c∈Cs,PySem.W.subIn K (.ref C) (.ref c)=some false)∧b=false))∧Q (.bl b) H
theorem Zfq {K:PySem.W.Frag}{C2:Addr}{b:Bool}(c:Zdy K C)(c2:Zdy K C2)(h:PySem.W.subIn K (.ref C) (.ref C2)=some b):PySem.W.kitOne K (.ref C) (.ref C2)=some b:=by
 unfold PySem.W.kitOne;by_cases q:C=C2
 ·subst q;rw[c.rf] at h;cases h;rw[if_pos (by simp)]
 ·rw[if_neg (by simpa using q)];unfold PySem.W.kitCls;dsimp only;rw[if_pos (by rw[c2.co,c2.ty];rfl)];exact h
theorem Zfr {K:PySem.W.Frag}{C:Addr}(c:Zdy K C):∀{Cs:List Addr},(∀x∈Cs,Zdy K x)→(∀x∈Cs,PySem.W.subIn K (.ref C) (.ref x)=some false)→PySem.W.kitAny K (.ref C) (Cs.map Value.ref)=some false
 | [],_,_=>rfl
 |x::r,h1,h2=>by
  show PySem.W.kitAny K (.ref C) (Value.ref x::r.map Value.ref)=some false;unfold PySem.W.kitAny;rw[Zfq c (h1 x Qad) (h2 x Qad)];exact Zfr c (fun y hy=>h1 y (Qab _ hy)) fun y hy=>h2 y (Qab _ hy)
theorem ZiK:∀{Cs:List Addr} {us:List Value},ZbC (Cs.map V.ref) us→us=Cs.map Value.ref
 | [],us,h=>by cases h;rfl
 |c::r,us,h=>by
  cases h with
  |cons r1 r2=>
   cases(show _=Value.ref c from r1);rw[ZiK r2];rfl
theorem Zcf {K:PySem.W.Frag}(hoe:oe.cls= .ref C)(hK:X.K=K:=by rfl):Zc5 (X.suite a oe) (.builtin "isinstance") (Zl0 K C a):=by
 subst hK;intro qa s σ H xs us Q I r h;obtain⟨c,b,h,q⟩:=h;have he:s.heap.get? a=some oe:=(I.pin (a,oe) (QaM _ (QaA _ (Qan.mpr rfl)))).1;have hx:Value.ref a≠ .builtin "__main__.__loader__#opaque" :=fun z=>nomatch z;have fin:∀tk,EP (X.suite a oe) qa σ Q (.bool b) {s with toks:=tk }:=fun tk=>⟨.bl b,H,I.tok _,rfl,q⟩;rcases h with⟨C2,rfl,c2,e⟩|⟨T,rfl,hm,e⟩|⟨tp,Cs,rfl,ht,h1,h2,rfl⟩
 ·obtain⟨u,v,rfl,r1,r2⟩:=ZfG r;cases(show u=Value.ref a from r1);cases(show v=Value.ref C2 from r2);exact Qbd (ZfU c) I.kIn ⟨oe,he,hoe⟩ (Zfq c c2 e) hx fin
 ·obtain⟨u,v,rfl,r1,r2⟩:=ZfG r;cases(show u=Value.ref a from r1);cases(show v=Value.type T from r2);refine Qbd (ZfU c) I.kIn ⟨oe,he,hoe⟩ ?_ hx fin;unfold PySem.W.kitOne PySem.W.kitCls;rw[if_neg (by simp)];dsimp only;rw[if_pos hm];exact e
 ·obtain⟨u,v,rfl,r1,r2⟩:=ZfG r;cases(show u=Value.ref a from r1);cases(show v=Value.ref tp from r2);obtain⟨_,its,rv,ob,h3,h4,n,h5⟩:=(show ZbN X.prog X.w H s.heap tp (.tup (Cs.map V.ref)) from I.hok tp _ ht);obtain rfl:=ZiK rv;obtain⟨oc,od,odt,osl⟩:=ob;cases h4;cases h5;exact PySem.W.kia_tup (ZfU c) I.kIn ⟨oe,he,hoe⟩ h3 (Zfr c h1 h2) hx fin
theorem Zqa :ZeM X (fun _ _ _=>False):=by
 rintro qa σ H1 s1 e s' I ⟨a,C,a0,B,H',rfl,ho,hb,un,hok,fl,c1,c2,q⟩;exact q.elim
section
variable {κ:Type} [DecidableEq κ]
def Zdf (kvs:List (κ×V))(k:κ):Option V:=(kvs.find? fun kv=>decide (kv.1=k)).map (·.2)
def ZdD (kvs:List (κ×V))(k:κ)(v:V):List (κ×V):=
 if(kvs.any fun kv=>decide (kv.1=k))=true then kvs.map (fun kv=>if kv.1=k then(kv.1,v) else kv) else kvs++ [(k,v)]
theorem Zmv {k:κ}:Zdf ([]:List (κ×V)) k=none:=rfl
theorem Zcg {p:κ×V}{r:List (κ×V)}{k:κ}(e:p.1=k):Zdf (p::r) k=some p.2:=by simp[Zdf,QbO,e]
theorem Zch {p:κ×V}{r:List (κ×V)}{k:κ}(e:¬p.1=k):Zdf (p::r) k=Zdf r k:=by simp[Zdf,QbO,e]
theorem ZcO (k:κ):∀kvs:List (κ×V),(kvs.any fun kv=>decide (kv.1=k))=(Zdf kvs k).isSome
 | []=>rfl
 |p::r=>by
  rw[QcZ];by_cases e:p.1=k
  ·simp only[Zcg e,Qar e,Bool.true_or,Option.isSome_some]
  ·rw[Zch e,QaN e,Bool.false_or];exact ZcO k r
theorem ZiL (k j:κ)(y:V):∀kvs:List (κ×V),Zdf (kvs.map fun kv=>if kv.1=k then(kv.1,y) else kv) j=(Zdf kvs j).map fun x=>if j=k then y else x
 | []=>rfl
 |p::r=>by
  have ih:=ZiL k j y r;rw[Qbz];by_cases h:p.1=k
  ·rw[if_pos h];by_cases e:p.1=j
   ·rw[Zcg (p:=(p.1,y)) e,Zcg e,Qda,if_pos (e.symm.trans h)]
   ·rw[Zch (p:=(p.1,y)) e,Zch e,ih]
  ·rw[if_neg h];by_cases e:p.1=j
   ·rw[Zcg (p:=p) e,Zcg e,Qda,if_neg (fun z=>h (e.trans z))]
   ·rw[Zch (p:=p) e,Zch e,ih]
theorem ZgR (k j:κ)(y:V):∀kvs:List (κ×V),Zdf kvs k=none→Zdf (kvs++ [(k,y)]) j=if j=k then some y else Zdf kvs j
 | [],_=>by
  by_cases e:k=j
  ·rw[if_pos e.symm];exact Zcg (p:=(k,y)) e
  ·rw[if_neg (fun z=>e z.symm)];exact Zch (p:=(k,y)) e
 |p::r,hn=>by
  rw[QcR];have hk:¬p.1=k:=fun z=>by rw[Zcg z] at hn;cases hn
  rw[Zch hk] at hn;have ih:=ZgR k j y r hn;by_cases e:p.1=j
  ·rw[Zcg e,Zcg e,if_neg (fun z=>hk (e.trans z))]
  ·rw[Zch e,Zch e,ih]
theorem ZdV (kvs:List (κ×V))(k j:κ)(y:V):Zdf (ZdD kvs k y) j=if j=k then some y else Zdf kvs j:=by
 unfold ZdD;by_cases a:(kvs.any fun kv=>decide (kv.1=k))=true
 ·rw[if_pos a,ZiL];rw[ZcO] at a;by_cases e:j=k
  ·obtain⟨x,hx⟩:=QbY.mp a;rw[if_pos e,e,hx,Qda,if_pos rfl]
  ·rw[if_neg e]
   cases Zdf kvs j with
   |none=>rfl
   |some x=>rw[Qda,if_neg e]
 ·rw[if_neg a];refine ZgR k j y kvs ?_;rw[ZcO] at a
  cases q:Zdf kvs k with
  |none=>rfl
  |some x=>rw[q] at a;exact(a rfl).elim
theorem Zb1 (kvs:List (κ×V))(k:κ)(v:V):(ZdD kvs k v).length≤kvs.length+1:=by
 unfold ZdD;split
 ·rw[Qac];omega
 ·rw[Qae,Qbb,Qd0];omega
theorem Zmw {kvs:List (κ×V)}{k:κ}(v:V)(h:Zdf kvs k=none):ZdD kvs k v=kvs++ [(k,v)]:=by
 unfold ZdD;rw[ZcO,h];exact if_neg (by decide)
theorem Zjc.isSome_eq {o:Option V}{u:Option Value}(r:Zjc o u):o.isSome=u.isSome:=by
 cases o with
 |none=>cases u with
  |none=>rfl
  |some _=>exact(show False from r).elim
 |some _=>cases u with
  |none=>exact(show False from r).elim
  |some _=>rfl
theorem Zjc.getD {o:Option V}{u:Option Value}{d:V}{d':Value}(r:Zjc o u)(rd:ZbB d d'):ZbB (o.getD d) (u.getD d'):=by
 cases o with
 |none=>cases u with
  |none=>exact rd
  |some _=>exact(show False from r).elim
 |some _=>cases u with
  |none=>exact(show False from r).elim
  |some _=>exact r
theorem KV.val {kvs:List (κ×V)}{vs:List (κ×Value)}(r:KV kvs vs)(k:κ):Zjc (Zdf kvs k) (valueAt vs k):=by
 unfold KV at r
 induction r with
 |nil=>exact Qcq
 | @cons p q ps qs h t ih=>
  obtain⟨h1,h2⟩:=h;by_cases e:p.1=k
  ·have e':q.1=k:=h1.symm.trans e;have b:valueAt (q::qs) k=some q.2:=by simp[valueAt,QbO,e']
   rw[Zcg e,b];exact h2
  ·have e':¬q.1=k:=fun z=>e (h1.trans z);have b:valueAt (q::qs) k=valueAt qs k:=by simp[valueAt,QbO,e']
   rw[Zch e,b];exact ih
theorem KV.any {kvs:List (κ×V)}{vs:List (κ×Value)}(r:KV kvs vs)(k:κ):(kvs.any fun kv=>decide (kv.1=k))=vs.any fun kv=>decide (kv.1=k):=by
 unfold KV at r
 induction r with
 |nil=>rfl
 |cons h t ih=>rw[QcZ,QcZ,ih,h.1]
theorem KV.repl {kvs:List (κ×V)}{vs:List (κ×Value)}(r:KV kvs vs)(k:κ){y:V}(ry:ZbB y u):
  KV (kvs.map fun kv=>if kv.1=k then(kv.1,y) else kv) (vs.map fun kv=>if kv.1=k then(kv.1,u) else kv):=by
 unfold KV at r⊢
 induction r with
 |nil=>exact .nil
 | @cons p q ps qs h t ih=>
  rw[Qbz,Qbz];refine .cons ?_ ih;obtain⟨h1,h2⟩:=h;by_cases e:p.1=k
  ·rw[if_pos e,if_pos (h1.symm.trans e)];exact⟨h1,ry⟩
  ·rw[if_neg e,if_neg (fun z=>e (h1.trans z))];exact⟨h1,h2⟩
theorem KV.put {kvs:List (κ×V)}{vs:List (κ×Value)}(r:KV kvs vs)(k:κ){y:V}(ry:ZbB y u):KV (ZdD kvs k y) (stored vs k u):=by
 unfold ZdD stored;rw[r.any k];by_cases e:(vs.any fun kv=>decide (kv.1=k))=true
 ·rw[if_pos e,if_pos e];exact r.repl k ry
 ·rw[if_neg e,if_neg e];exact Paired.snoc r ⟨rfl,ry⟩
theorem KV.keys {kvs:List (κ×V)}{vs:List (κ×Value)}(r:KV kvs vs):kvs.map (·.1)=vs.map (·.1):=by
 unfold KV at r
 induction r with
 |nil=>rfl
 |cons h t ih=>rw[Qbz,Qbz,ih,h.1]
theorem KV.length {kvs:List (κ×V)}{vs:List (κ×Value)}(r:KV kvs vs):kvs.length=vs.length:=Qdy r
end
theorem Zmx {k:Key}(r:ZbB (kV k) u):(Zbu P w).is k u=true:=by
 cases k with
 |inl i=>obtain⟨t,e⟩:=(show∃t,u=Value.int i t from r);subst e;exact Zhu P w i t
 |inr x=>obtain⟨t,e⟩:=(show∃t,u=Value.str x t from r);subst e;exact Zhv P w x t
theorem ZgS {P:Program}{w:World}:∀{ks:List Key} {us:List Value},ZbC (ks.map kV) us→ItemsAre (Zbu P w) ks us
 | [],_,r=>by rw[Qen] at r;cases r;exact .nil
 |k::ks,_,r=>by
  rw[Qbz] at r
  cases r with
  |cons h t=>exact .cons (Zmx h) (ZgS t)
abbrev KT (H:Hp):List (List Key×V)→List (List Key×Addr×Value)→Prop:=Paired fun p q=>p.1=q.1∧H q.2.1=some (.tup (p.1.map kV))∧ZbB p.2 q.2.2
theorem KT.val {kvs:List (List Key×V)}(r:KT H kvs xs)(k:List Key):Zjc (Zdf kvs k) ((atKey xs k).map (·.2)):=by
 induction r with
 |nil=>exact Qcq
 | @cons p q ps qs h t ih=>
  obtain⟨h1,_,h2⟩:=h;by_cases e:p.1=k
  ·have e':q.1=k:=h1.symm.trans e;have b:atKey (q::qs) k=some q.2:=by simp[atKey,QbO,e']
   rw[Zcg e,b];exact h2
  ·have e':¬q.1=k:=fun z=>e (h1.trans z);have b:atKey (q::qs) k=atKey qs k:=by simp[atKey,QbO,e']
   rw[Zch e,b];exact ih
theorem KT.repl {kvs:List (List Key×V)}(r:KT H kvs xs)(k:List Key){y:V}(ry:ZbB y u):
  KT H (kvs.map fun kv=>if kv.1=k then(kv.1,y) else kv) (xs.map (putAt k u)):=by
 induction r with
 |nil=>exact .nil
 | @cons p q ps qs h t ih=>
  rw[Qbz,Qbz];refine .cons ?_ ih;obtain⟨h1,h2,h3⟩:=h;unfold putAt;by_cases e:p.1=k
  ·rw[if_pos e,if_pos (h1.symm.trans e)];exact⟨h1,h2,ry⟩
  ·rw[if_neg e,if_neg (fun z=>e (h1.trans z))];exact⟨h1,h2,h3⟩
theorem KT.put {kvs:List (List Key×V)}(r:KT H kvs xs)(k:List Key){b:Addr}{y:V}(hb:H b=some (.tup (k.map kV)))(ry:ZbB y u):
  KT H (ZdD kvs k y) (storedH xs k b u):=by
 have e:(kvs.any fun kv=>decide (kv.1=k))=(atKey xs k).isSome:=by
  rw[ZcO,(r.val k).isSome_eq,Option.isSome_map]
 unfold ZdD storedH;rw[e];by_cases q:(atKey xs k).isSome=true
 ·rw[if_pos q,if_pos q];exact r.repl k ry
 ·rw[if_neg q,if_neg q];exact Paired.snoc r ⟨rfl,hb,ry⟩
theorem KT.keeps {kvs:List (List Key×V)}(r:KT H kvs xs)(ht:∀b ys,H b=some (.tup ys)→H' b=some (.tup ys)):KT H' kvs xs:=
 Paired.mapP r fun _ _ z=>⟨z.1,ht _ _ z.2.1,z.2.2⟩
theorem Zph {u:HO}(ok:HOk P w H h)(e:Rd H a u):ZbN P w H h a u:=e.ok ok
theorem ZkN {kvs:List (Key×V)}(ok:HOk P w H h)(e:Rd H a (.dK kvs)):kvs.length≤sizeLine∧(a==sysModules)=false∧∃vs,KV kvs vs∧h.DictOf (Zbu P w) a vs:=
 show ZbN P w H h a (.dK kvs) from Zph ok e
theorem Zn3 {kvs:List (Key×V)}(ok:HOk P w H h)(e:H a=some (.dK kvs)):kvs.length≤sizeLine∧(a==sysModules)=false∧∃vs,KV kvs vs∧h.DictOf (Zbu P w) a vs:=ZkN ok (.inl e)
theorem ZiM {ks:List Key}(ok:HOk P w H h)(e:H a=some (.tup (ks.map kV))):(tupleKind (Zbu P w)).is h ks a:=by
 obtain⟨_,its,r,o,h1,h2,n,h3⟩:=(show ZbN P w H h a (.tup (ks.map kV)) from ok a _ e);exact⟨o,its.toArray,n,h1,h2,h3,by simpa using ZgS r⟩
theorem ZkO {kvs:List (List Key×V)}(ok:HOk P w H h)(e:Rd H a (.dT kvs)):kvs.length≤sizeLine∧(a==sysModules)=false∧
  ∃xs,KT H kvs xs∧h.DictOfH (tupleKind (Zbu P w)) a xs:=by
 obtain⟨z,y,xs,r,o,es,ep,h1,h2,h3,h4,h5⟩:=(show ZbN P w H h a (.dT kvs) from Zph ok e);refine⟨z,y,xs,r,o,es,ep,h1,h2,h3,h4,fun x hx=> ?_,h5⟩
 have all:∀{l:List (List Key×V)} {m:List (List Key×Addr×Value)},KT H l m→∀x∈m,(tupleKind (Zbu P w)).is h x.1 x.2.1:=by
  intro l m q
  induction q with
  |nil=>intro x hx;exact nomatch hx
  | @cons p q ps qs hq t ih=>
   intro x hx;rcases Qas.mp hx with e|hx
   ·subst e;exact ZiM ok (by rw[←hq.1];exact hq.2.1)
   ·exact ih x hx
 exact all r x hx
theorem Zqb {kvs:List (List Key×V)}(ok:HOk P w H h)(e:H a=some (.dT kvs)):kvs.length≤sizeLine∧(a==sysModules)=false∧
  ∃xs,KT H kvs xs∧h.DictOfH (tupleKind (Zbu P w)) a xs:=ZkO ok (.inl e)
def ZiN (H:Hp)(a:Addr)(y:V)(r:Option V):Prop:=
 (∃kvs k,Rd H a (.dK kvs)∧y=kV k∧r=Zdf kvs k)∨∃kvs k b,Rd H a (.dT kvs)∧y= .ref b∧H b=some (.tup (k.map kV))∧r=Zdf kvs k
def Zmy (H:Hp)(a:Addr)(y v:V)(H':Hp):Prop:=
 (∃kvs k,H a=some (.dK kvs)∧y=kV k∧kvs.length<sizeLine∧H'=upd H a (.dK (ZdD kvs k v)))∨
 ∃kvs k b,H a=some (.dT kvs)∧y= .ref b∧H b=some (.tup (k.map kV))∧kvs.length<sizeLine∧H'=upd H a (.dT (ZdD kvs k v))
theorem ZiN.k {H:Hp}{a:Addr}{kvs:List (Key×V)}{k:Key}(e:H a=some (.dK kvs)):ZiN H a (kV k) (Zdf kvs k):=.inl ⟨kvs,k,.inl e,rfl,rfl⟩
theorem Zmy.k {H:Hp}{a:Addr}{kvs:List (Key×V)}{k:Key}{v:V}(e:H a=some (.dK kvs))(hl:kvs.length<sizeLine):Zmy H a (kV k) v (upd H a (.dK (ZdD kvs k v))):=.inl ⟨kvs,k,e,rfl,hl,rfl⟩
section
variable {y v:V}{o:Option V}
theorem Inv.big (I:Inv X qa σ H s):sysModules<s.heap.objs.size:=by
 have h:mainGlobals<s.heap.objs.size:=(I.mod.glob.keeps I.bk).lt;exact Qcf (by decide) h
theorem ZkP (hu:A.units+1<cLine)(I:Inv X qa σ H s)(g:ZiN H a y (some v))(ry:ZbB y u)(h:∀w' s',Inv X qa σ H s'→ZbB v w'→Q w' s'):
  wpAny (model X.prog X.w) A (getItem (.ref a) u) Q E s:=by
 rcases g with⟨kvs,k,e,ey,l⟩|⟨kvs,k,b,e,ey,eb,l⟩
 ·subst ey;obtain⟨z,hd,vs,rel,dd⟩:=ZkN I.hok e;obtain⟨w',hw,rw'⟩:=Zjc.some_of (v:=v) (o:=valueAt vs k) (by rw[l];exact rel.val k);exact wpAny_getItem_of (Zmx ry) dd.mapOf hw (h w' _ (I.tok _) rw')
 ·subst ey;cases(show u=Value.ref b from ry);obtain⟨z,hd,xs,rel,dd⟩:=ZkO I.hok e;obtain⟨w',hw,rw'⟩:=Zjc.some_of (v:=v) (o:=(atKey xs k).map (·.2)) (by rw[l];exact rel.val k);obtain⟨p,hp,hp2⟩:=Option.map_eq_some_iff.mp hw;refine wpAny_getItem_heap (Qdn hu) (ZiM I.hok eb) dd hp ?_;rw[hp2];exact h w' _ (I.tok _) rw'
theorem ZkQ {ob:HO}(I:Inv X qa σ H s)(mu:Mut (H a))(hs:Heap.SameBut a s.heap h')(he:∃q,h'.get? a=some q)(new:ZbN X.prog X.w (upd H a ob) h' a ob):
  Inv X qa σ (upd H a ob) {s with heap:=h',toks:=t' }:=
 I.write (x:=a) (e:=a) mu (.inl rfl) (fun b q hb z=>(hs.2 b hb).trans z) he new
theorem Zpi {kvs:List (Key×V)}{vs:List (Key×Value)}(z:kvs.length≤sizeLine)(hd:(a==sysModules)=false)(rel:KV kvs vs)(dd:h'.DictOf (Zbu P w) a vs):
  ZbN P w H' h' a (.dK kvs):=⟨z,hd,vs,rel,dd⟩
theorem ZkR {Q:Unit→Shared→Prop}(hu:A.units+1<cLine)(I:Inv X qa σ H s)(g:Zmy H a y v H')(ry:ZbB y u)(rv:ZbB v r)(h:∀s',Inv X qa σ H' s'→Q () s'):
  wpAny (model X.prog X.w) A (setItem (.ref a) u r) Q E s:=by
 rcases g with⟨kvs,k,e,ey,l,eH⟩|⟨kvs,k,b,e,ey,eb,l,eH⟩
 ·subst ey eH;obtain⟨z,hd,vs,rel,dd⟩:=Zn3 I.hok e;have hz:vs.length≤sizeLine:=by rw[←rel.length];exact z
  have hl:(ZdD kvs k v).length≤sizeLine:=by have:=Zb1 kvs k v;omega
  refine wpAny_setItem_pairs (hsz:=hz) (Zmx ry) dd fun h' dd' hs=>h _ ?_;have he:∃q,h'.get? a=some q:=let⟨q,_,_,hq,_⟩:=dd';⟨q,hq⟩;exact ZkQ I (by rw[e];exact Qcq) hs he (Zpi hl hd (rel.put k rv) dd')
 ·subst ey eH;cases(show u=Value.ref b from ry);obtain⟨z,hd,xs,rel,dd⟩:=Zqb I.hok e;have hz:xs.length≤sizeLine:=by rw[←Qdy rel];exact z
  have hl:(ZdD kvs k v).length≤sizeLine:=by have:=Zb1 kvs k v;omega
  refine wpAny_setItem_heap (hsz:=hz) (Qdn hu) (ZiM I.hok eb) dd fun h' dd' hs=>h _ ?_;obtain⟨q,es,ep,hq,h2,h3,h4,_,h5⟩:=dd';refine ZkQ I (by rw[e];exact Qcq) hs ⟨q,hq⟩ ⟨hl,hd,_,(rel.put k eb rv).keeps fun c ys ec=> ?_,q,es,ep,hq,h2,h3,h4,h5⟩;rw[Zax (Zl3 ec e (fun z=>nomatch z))];exact ec
end
def Zqc (i:Expr):Prop:=∀ov iv,subscripted i false ov iv=operate [ov,iv] (getItem ov iv)
theorem ZkS {env:Env}{jf:Expr}{pos:PySem.Pos}{id:String}
  (hl:typeLookup (.type T) "__getitem__" =pure (some (.builtin id))) (hs:Zqc jf)
  (h:wpAny (model prog w) A (eval value env) (fun o s₁=>wpAny (model prog w) A (eval jf env) (fun i s₂=>s₂.TypeIs o T∧wpAny (model prog w) A (getItem o i) Q E s₂) E s₁) E s):
  wpAny (model prog w) A (eval (.Subscript value jf pos) env) Q E s:=by
 refine Qel (Qbh h (fun o s₁ h₁=>Qbh h₁ (fun i s₂ h₂=> ?_) fun _ _ x=>x) fun _ _ x=>x);obtain⟨hT,h₂⟩:=h₂;unfold subscriptTail;refine Qaa ?_;rw[getitemInPython_of_ne hT.not_modules];refine Qaa (wpAny_specialOf hT hl ?_)
 have fin:wpAny (model prog w) A (subscripted jf false o i) (fun r s₃=>wpAny (model prog w) A (letTemporaryGo value o r>>=fun _=>pure r) Q E s₃) E s₂:=by
  rw[hs o i];exact wpAny_operating (Qbh h₂ (fun r s₃ h₃=>Qaa (wpAny_letTemporaryGo (Qaj h₃))) fun _ _ x=>x)
 first
  |exact Qaj (Qaa fin)
  |exact Qaa (Qaj (Qaa fin))
  |exact Qaa fin
theorem ZhF {y:V}{o:Option V}(I:Inv X qa σ H s)(g:ZiN H a y o):s.TypeIs (.ref a) "dict" :=by
 rcases g with⟨kvs,k,e,_,_⟩|⟨kvs,k,b,e,_,_,_⟩
 ·obtain⟨_,_,vs,_,dd⟩:=ZkN I.hok e;exact dd.typeIs
 ·obtain⟨_,_,xs,_,dd⟩:=ZkO I.hok e;exact dd.typeIs
def ZkT (td ty:TE):TE:=fun σ H Q=>td σ H fun x H1=>ty σ H1 fun y H2=>∃a v,x= .ref a∧ZiN H2 a y (some v)∧Q v H2
def Zjy (td ty tv:TE):TS:=fun D σ H=>tv σ H fun v H1=>td σ H1 fun x H2=>ty σ H2 fun y H3=>∃a H4,x= .ref a∧Zmy H3 a y v H4∧D.nx σ H4
section
variable {i:Expr}{pos pos' tpos:PySem.Pos}{tv:TE}
theorem ZfV (hu:X.A.units+1<cLine)(ho:PE X o td)(hi:PE X i ty)(hs:Zqc i):PE X (.Subscript o i pos) (ZkT td ty):=by
 intro qa s σ H Q I h;refine ZkS PySem.F.slot_dict_getitem.lookup hs (thn (ho qa s σ H _ I h) fun u s1 ⟨x,H1,I1,rx,q1⟩=>thn (hi qa s1 σ H1 _ I1 q1) fun iv s2 ⟨y,H2,I2,ry,a,v,ex,g,q2⟩=> ?_);subst ex;obtain rfl:u=Value.ref a:=rx;exact⟨ZhF I2 g,ZkP hu I2 g ry fun w' s3 I3 rw'=>⟨v,H2,I3,rw',q2⟩⟩
theorem Zd3 (hu:X.A.units+1<cLine)(ho:PE X o td)(hi:PE X i ty)(hv:PE X value tv)(hs:swapsWith value (some (.Subscript o i pos')) pos.line X.env=pure false):
  PS X (.Assign [.Subscript o i pos'] value pos) (Zjy td ty tv):=by
 intro qa s σ H D I h;refine wpAny_Assign_Subscript (thn (hv qa s σ H _ I h) fun r s1 ⟨v,H1,I1,rv,q1⟩=>thn (ho qa s1 σ H1 _ I1 q1) fun u s2 ⟨x,H2,I2,rx,q2⟩=>thn (hi qa s2 σ H2 _ I2 q2) fun iv s3 ⟨y,H3,I3,ry,a,H4,ex,g,q3⟩=> ?_) hs;subst ex;obtain rfl:u=Value.ref a:=rx;exact ZkR hu I3 g ry rv fun s4 I4=>⟨σ,H4,I4,q3⟩
end
theorem Zmz (h:Heap)(hb:sysModules<h.objs.size):ZbN P w H (h.push {cls:=.type "dict",data:=.dict #[] }) h.objs.size (.dK []):=
 ⟨QaV _,beq_eq_false_iff_ne.mpr (Ne.symm (QaL hb)),[],.nil,Heap.DictOf.new h⟩
def ZiO:TE:=fun _ H Q=>∀p,H p=none→Q (.ref p) (upd H p (.dK []))
section
variable {pos:PySem.Pos}
theorem ZfW:PE X (.Dict [] [] pos) ZiO:=fun qa s σ H Q I h=>
 wpAny_Dict_empty ⟨.ref s.heap.objs.size,_,I.laid (a:=s.heap.objs.size) (o:=.dK []) (t':=s.toks) (fun _ _ q=>Qag _ q) (Qal _) (Zmz s.heap I.big),rfl,h _ (I.hok.fresh (Qal _))⟩
end
structure M1 (X:Cx)(o:Expr)(m:Str)(jh:PySem.Pos)(e:Expr)(qE:PySem.Pos):Prop where
 base:attributeBase o m X.env (eval o X.env)=eval o X.env
 few:((backTo qE (starEach [e] X.env)).all (fun x=> !x.1) && (backToKw qE (keywordEach [] X.env)).all (fun x=>x.1.isSome)
  && decide (([e]:List Expr).length+([]:List Keyword).length+(if([]:List Keyword).isEmpty then 0 else 1)<30))=true
 line:(jh.endLine==qE.line)=true
 trees:backTo qE (starEach [e] X.env)=[(false,eval e X.env)]
structure M2 (X:Cx)(o:Expr)(m:Str)(jh:PySem.Pos)(e f:Expr)(qE:PySem.Pos):Prop where
 base:attributeBase o m X.env (eval o X.env)=eval o X.env
 few:((backTo qE (starEach [e,f] X.env)).all (fun x=> !x.1) && (backToKw qE (keywordEach [] X.env)).all (fun x=>x.1.isSome)
  && decide (([e,f]:List Expr).length+([]:List Keyword).length+(if([]:List Keyword).isEmpty then 0 else 1)<30))=true
 line:(jh.endLine==qE.line)=true
 trees:backTo qE (starEach [e,f] X.env)=[(false,eval e X.env),(false,eval f X.env)]
def IsD (H:Hp)(a:Addr):Prop:=(∃kvs,Rd H a (.dK kvs))∨∃kvs,Rd H a (.dT kvs)
theorem Znt (I:Inv X qa σ H s)(d:IsD H a):
  s.TypeIs (.ref a) "dict" ∧(∀b,Value.ref a= .ref b→∃ob,s.heap.get? b=some ob∧ob.dict=none)∧(a==sysModules)=false:=by
 rcases d with⟨kvs,e⟩|⟨kvs,e⟩
 ·obtain⟨_,hd,vs,_,dd⟩:=ZkN I.hok e;refine⟨dd.typeIs,fun b q=> ?_,hd⟩;cases q;obtain⟨ob,_,_,h1,h2,_⟩:=dd;exact⟨ob,h1,h2.2.1⟩
 ·obtain⟨_,hd,xs,_,dd⟩:=ZkO I.hok e;refine⟨dd.typeIs,fun b q=> ?_,hd⟩;cases q;obtain⟨ob,_,_,h1,h2,_⟩:=dd;exact⟨ob,h1,h2.2.1⟩
section
variable {y d:V}{o:Option V}
theorem Zpj (hu:A.units+1<cLine)(I:Inv X qa σ H s)(g:ZiN H a y o)(ry:ZbB y u)(rd:ZbB d r)(h:∀w' s',Inv X qa σ H s'→ZbB (o.getD d) w'→Q w' s'):
  wpAny (model X.prog X.w) A (call (.builtin "dict.get") [.ref a,u,r]) Q E s:=by
 rcases g with⟨kvs,k,e,ey,l⟩|⟨kvs,k,b,e,ey,eb,l⟩
 ·subst ey;obtain⟨z,hd,vs,rel,dd⟩:=ZkN I.hok e;refine Qeq QcK dd.typeIs QdQ (QdI _ _ _) (meets_dict_get_default (Zbu X.prog X.w) a (Zmx ry) hd r) ⟨_,dd.mapOf,h _ _ (I.tok _) ?_⟩;rw[l];exact(rel.val k).getD rd
 ·subst ey;cases(show u=Value.ref b from ry);obtain⟨z,hd,xs,rel,dd⟩:=ZkO I.hok e;refine Qeq QcK dd.typeIs QdQ (QdI _ _ _) (meetsH_dict_get_default (tupleKind (Zbu X.prog X.w)) a b hd r) ⟨Qdn hu,k,xs,ZiM I.hok eb,dd,h _ _ (I.tok _) ?_⟩;rw[l];exact(rel.val k).getD rd
end
def Zpk (td ty tx:TE):TE:=fun σ H Q=>td σ H fun x H1=>∃a,x= .ref a∧IsD H1 a∧ty σ H1 fun y H2=>tx σ H2 fun z H3=>∃o,ZiN H3 a y o∧Q (o.getD z) H3
section
variable {f:Expr}{tx:TE}
theorem ZiP (hu:X.A.units+1<cLine)(ho:PE X o td)(he:PE X e ty)(hf:PE X f tx)(m:M2 X o "get" jh e f qE):PE X (.Call (.Attribute o "get" jh) [e,f] [] qE) (Zpk td ty tx):=by
 intro qa s σ H Q I h;refine wpAny_Call_method m.base m.few m.line QdJ QcK PySem.F.type_dict_get (thn (ho qa s σ H _ I h) fun u s1 ⟨x,H1,I1,rx,a,ex,d,q1⟩=> ?_);subst ex;obtain rfl:u=Value.ref a:=rx;obtain⟨t1,t2,_⟩:=Znt I1 d;refine⟨t1,t2,?_⟩;rw[m.trees]
 refine Qcy rfl (QcT (Qb8 (thn (he qa s1 σ H1 _ I1 q1) fun iv s2 ⟨y,H2,I2,ry,q2⟩=>
  Qb8 (thn (hf qa s2 σ H2 _ I2 q2) fun fv s3 ⟨z,H3,I3,rz,ov,g,q3⟩=>QcA ?_))))
 exact Zpj hu I3 g ry rz fun w' s4 I4 rw'=>⟨_,H3,I4,rw',q3⟩
end
section
variable {κ:Type} [DecidableEq κ]
theorem ZfX {kvs:List (κ×V)}{k:κ}(h:Zdf kvs k=none):¬k∈kvs.map (·.1):=by
 intro m;obtain⟨p,hp,e⟩:=Qbm.mp m;have q:(kvs.any fun kv=>decide (kv.1=k))=true:=List.any_eq_true.mpr ⟨p,hp,Qar e⟩;rw[ZcO,h] at q;exact absurd q (by simp)
theorem Zn4 {kvs:List (κ×V)}{k:κ}{v:V}(h:Zdf kvs k=some v):k∈kvs.map (·.1):=by
 have q:(kvs.any fun kv=>decide (kv.1=k))=true:=by
  rw[ZcO,h]
  all_goals rfl
 obtain⟨p,hp,e⟩:=List.any_eq_true.mp q;exact Qbm.mpr ⟨p,hp,Qao e⟩
theorem ZkU:∀{l:List κ} {k:κ},l.Nodup→¬k∈l→(l++ [k]).Nodup
 | [],k,_,_=>by simp
 |a::r,k,h,hk=>by
  obtain⟨h1,h2⟩:=QbN.mp h;show(a::(r++ [k])).Nodup;refine QbN.mpr ⟨fun m=> ?_,ZkU h2 fun m=>hk (Qas.mpr (Or.inr m))⟩;rcases Qaz.mp m with q|q
  ·exact h1 q
  ·exact hk (Qas.mpr (Or.inl (Qan.mp q).symm))
end
structure ZkV (w:World)(K:PySem.W.Frag)(a:Addr)(kvs:List (Str×Addr)):Prop where
 sm:(a==sysModules)=false
 dd:∀(P:Program) (h:Heap),K.In h→h.DictOf (PySem.strKind P w) a (kvs.map fun p=>(p.1,Value.ref p.2))
def ZpV (w:World)(p:Str×Tok×Addr):DictEntry:=⟨PyData.keyHash w.params p.1,.str p.1 p.2.1,.ref p.2.2⟩
theorem ZiQ {K:PySem.W.Frag}{ps:List (Str×Tok×Addr)}(l:K.lookup a=some ⟨.type "dict",none,.dict (ps.map (ZpV w)).toArray n,#[]⟩)(sm:(a==sysModules)=false)(nd:(ps.map (·.1)).Nodup):ZkV w K a (ps.map fun p=>(p.1,p.2.2)):=by
 refine⟨sm,fun P h X=>⟨_,_,_,X _ _ l,⟨rfl,rfl,rfl⟩,rfl,fun e he=> ?_,?_,?_⟩⟩
 ·have he:e∈(ps.map (ZpV w)):=by simpa using he
  obtain⟨p,_,rfl⟩:=Qbm.mp he;exact⟨p.1,by simp[PySem.strKind,ZpV,Value.isStrOf],rfl⟩
 ·rw[List.toList_toArray,Qd3];clear l nd
  induction ps with
  |nil=>exact .nil
  |cons p r ih=>exact .cons (by simp[PySem.strKind,ZpV,Value.isStrOf]) rfl ih
 ·rw[Qd3,Qd3];exact nd
def Zl1 (kvs:List (Str×Addr))(x:Str):Option Addr:=(kvs.find? fun kv=>decide (kv.1=x)).map (·.2)
theorem ZkW (kvs:List (Str×Addr))(x:Str):valueAt (kvs.map fun p=>(p.1,Value.ref p.2)) x=(Zl1 kvs x).map Value.ref:=by
 unfold valueAt Zl1
 induction kvs with
 |nil=>rfl
 |cons p r ih=>
  rw[Qbz,QbO,QbO];by_cases h:p.1=x
  ·simp[h]
  ·simp only[h,decide_false];exact ih
section
variable {i:Expr}{pos:PySem.Pos}{kvs:List (Str×Addr)}
def Zn5 (kvs:List (Str×Addr))(ty:TE):TE:=fun σ H Q=>ty σ H fun y H1=>∃k v,y= .str k∧Zl1 kvs k=some v∧Q (.ref v) H1
theorem ZkX (hk:ZkV X.w X.K a kvs)(hg:Gl X x)(hm:X.mg x=some (.ref a))(hi:PE X i ty)(hs:Zqc i)(hdb:(x==("__debug__" :Str))=false:=by decide):PE X (.Subscript (.Name x np) i pos) (Zn5 kvs ty):=by
 intro qa s σ H Q I h;refine ZkS PySem.F.slot_dict_getitem.lookup hs (ZdY I hg hm (thn (hi qa s σ H _ I h) fun iv s2 ⟨y,H2,I2,ry,k,v,ey,e,q⟩=> ?_) hdb);subst ey;obtain⟨t,rfl⟩:=ry;have dd:=hk.dd X.prog s2.heap I2.kIn;refine⟨dd.typeIs,wpAny_getItem_of (knd:=PySem.strKind X.prog X.w) (k:=k) (by simp[PySem.strKind,Value.isStrOf]) dd.mapOf (v:=.ref v) ?_ ⟨.ref v,H2,I2.tok _,rfl,q⟩⟩;rw[ZkW,e];rfl
def ZkY (kvs:List (Str×Addr))(ty:TE):TE:=fun σ H Q=>ty σ H fun y H1=>∃k,y= .str k∧Q (.bl (!(Zl1 kvs k).isSome)) H1
theorem ZkZ (hk:ZkV X.w X.K a kvs)(hg:Gl X x)(hm:X.mg x=some (.ref a))(hi:PE X i ty)(hdb:(x==("__debug__" :Str))=false:=by decide):PC X .NotIn i (.Name x np) (ZkY kvs ty):=by
 intro qa s σ H Q I h;refine thn (hi qa s σ H _ I h) fun iv s1 ⟨y,H1,I1,ry,k,ey,q⟩=>ZdY I1 hg hm ?_ hdb;subst ey;obtain⟨t,rfl⟩:=ry;have dd:=hk.dd X.prog s1.heap I1.kIn;refine wpAny_notIn_of (knd:=PySem.strKind X.prog X.w) (k:=k) (by simp[PySem.strKind,Value.isStrOf]) hk.sm dd.mapOf ⟨.bl _,H1,I1.tok _,rfl,?_⟩;rw[ZkW,Option.isSome_map];exact q
end
def Znu (i:Nat)(f:Addr)(sp:Sp)(Ex:Value→St→Hp→Prop)(t:TA):TE:=fun σ H Q=>Zah i σ H fun x H1=>x= .ref f∧t σ H1 fun vs H2=>sp vs H2 Q (fun c _ H'=>Ex c σ H')
theorem ZmA {k:Nat}{t:TA}{pos:PySem.Pos}(F:ZbW X.prog X.w X.K X.mg X.base (CXE X.prog X.w) k f fd ps sp)(hk:PySem.W.keepIn X.K (.ref f)=true)(hb:ZfH X.K fd ps [])(px:ZeM X Ex)(hr:Zef j X.A)(hv:PE X (.Name x p) (Zah i))(ha:PA X (e::es) t)(hle:k≤j:=by decide)
  (he:starEach (e::es) X.env=(false,eval e X.env)::starEach es X.env:=by rfl) (hpl:(backTo pos (starEach es X.env)).any (·.1)=false:=by rfl):PE X (.Call (.Name x p) (e::es) [] pos) (Znu i f sp Ex t):=by
 intro qa s σ H Q I h;refine Qbk (thn (hv qa s σ H _ I h) fun u s0 ⟨y,H0,I0,ry,ey,h0⟩=> ?_);subst ey;cases(show u=Value.ref f from ry);refine Qdl (h₀:=X.base) I0.ok.mod.kin hk (thn (ha pos qa s0 σ H0 _ I0 h0) fun us s1 ⟨vs,H1,I1,r,q⟩=>⟨I1.kIn,?_⟩) he hpl;have hl:us.length=ps.length:=by rw[←r.length];exact F.len _ _ _ _ q
 have hb1:=hb s1 us I1.kIn (by rw[Qbo];exact hl);rw[Qbo] at hb1;refine Qek (Qcr (F.run X.A X.stack s1 H1 ⟨us,[]⟩ us vs Q (fun c _ H'=>Ex c σ H') (hr.mono hle) I1.env0 hb1 r q) fun r s' hq=> ?_)
 cases r with
 |error e=>exact px qa σ H1 s1 e s' I1 hq
 |ok fl=>
  cases fl with
  |ret u=>exact I1.after hq
  |next=>exact False.elim hq
  |brk=>exact False.elim hq
  |cont=>exact False.elim hq
theorem Zn6 {k:Nat}{K:PySem.W.Frag}(hr:Zef k X.A)(hK:X.K=K:=by rfl):OpR (X.suite a oe) (compareOp .Eq) (Zjl K fun b=>b):=by
 subst hK;intro qa s σ H x y v u Q I rx ry h;obtain⟨dx,dy,hx,hy,cx,cy,hd,q⟩:=h;obtain⟨as,ra⟩:=hx.reads I rx;obtain⟨bs,rb⟩:=hy.reads I ry;have hu:=hr.units;exact QdU ra rb cx cy (by show X.A.units+min dx.depth dy.depth<cLine;omega) ⟨.bl _,H,I,rfl,q⟩
abbrev e2 (elt tg qz:Expr)(ifs:List Expr)(tg2 iter2:Expr)(ifs2:List Expr)(scope:Scope)(pos:PySem.Pos):Expr:=.ListComp elt [⟨tg,qz,ifs,0⟩,⟨tg2,iter2,ifs2,0⟩] scope pos
theorem ZgT:Zc5 X (.builtin "divmod") (fun xs H Q=>∃i j,xs=[.int i,.int j]∧ZcJ i j∧∀p,H p=none→Q (.ref p) (upd H p (.tup [.int (i/j),.int (i%j)]))):=by
 intro qa s σ H xs us Q I r h;obtain⟨i,j,rfl,⟨h1,h2⟩,q⟩:=h;obtain⟨u,w',rfl,⟨t,rfl⟩,⟨t',rfl⟩⟩:=ZfG r;refine divmod_int (by omega) ?_ (.inl (Qdv h2));rw[Qdd i (by omega),Qdc i (by omega)];have hn:H s.heap.objs.size=none:=I.hok.fresh (Qal _);exact⟨.ref s.heap.objs.size,_,I.laid (o:=.tup [.int (i/j),.int (i%j)]) (fun b o e=>Qag _ e) (Qal _) ⟨(by show 2≤sizeLine;decide),[.int (i/j) s.toks,.int (i%j) (s.toks+1)],.cons ⟨_,rfl⟩ (.cons ⟨_,rfl⟩ .nil),_,Qax s.heap rfl,rfl,0,rfl⟩,rfl,q _ hn⟩
def Zpl (i j:Int):Prop:=i.natAbs<2^9000∧j.natAbs<2^9000
theorem Zk0 {i:Int}(h:i.natAbs<2^9000):Builtin.Int.intBits i≤2^20:=by
 unfold Builtin.Int.intBits;split
 ·exact QaV _
 ·rename_i hz;have hz:i.natAbs≠0:=by simpa using hz
  have:=(Qeg hz).mpr h;exact QaD (Nat.succ_le_of_lt this) (by decide)
theorem Zk1:OpR X (binaryOp .Mult) (rI Zpl fun i j=> .int (i*j)):=opI fun _ _ _ _ _ _ _ hc q=>mul_int q (IntMulOk.of_bits (Zk0 hc.1) (Zk0 hc.2))
section
variable {r d:Addr}{Pr:Nat→Value→Prop}{OK:Heap→Prop}
theorem ZhG {Q:List Value→Shared→Prop}(S:PySem.W.KdlSrc prog w T r d n Pr OK)(hh:A.handled=none)(hok:OK s.heap)(hn:n≤sizeLine)
  (hQ:∀(h':Heap) (tk:Nat) (acc:Array Value),(∀b o,s.heap.get? b=some o→h'.get? b=some o)→ItemsOf Pr acc n→Q acc.toList {s with heap:=h',toks:=tk }):wpAny (model prog w) A (collect (.ref r)) Q E s:=by
 have hlt:=S.there _ hok
 have key:∀R:Result→Shared→Prop,(∀(h':Heap) (tk:Nat) (acc:Array Value) (c:Nat),(∀b o,b≠s.heap.objs.size→(s.heap.push {cls:=.type "list",data:=.seq ([]:List Value).toArray }).get? b=some o→h'.get? b=some o)→h'.get? s.heap.objs.size=some {cls:=.type "list",dict:=none,data:=.seq acc c,slots:=#[] }→ItemsOf Pr acc n→R (.ok (.ret (.ref s.heap.objs.size))) {s with heap:=h',toks:=tk })→
   codeAny (model prog w) A (.builtin "proto.collect" ⟨[.ref r],[]⟩) R s:=by
  intro R hR;refine QbG Qc7 ?_;rw[QbC Qc8 _];show wpAny _ A.in1 (newList []>>=fun q=>again (.builtin "list.__iadd__" ⟨[q,.ref r],[]⟩)) _ _ s;refine Qaa (Qa1 (Qaj ⟨Qc0 Qb3 _,QbG QdF ?_⟩));rw[QbC Qb3 _];show wpAny _ A.in1 (Builtin.List.listExtendWith (.ref s.heap.objs.size) (.ref r) (.ref s.heap.objs.size)) _ _ _;exact PySem.W.kdl_extend (s:={s with heap:=s.heap.push {cls:=.type "list",data:=.seq ([]:List Value).toArray } }) S hh (S.keep _ _ hok fun b _ o e=>Qag _ e) s.heap.objs.size (Qbj hlt.1) (Qbj hlt.2) _ 0 (Qax _ rfl) hR hn
 unfold collect;refine Qaa (Qea (key _ fun h' tk acc c hk hS hacc=> ?_));show wpAny _ A (load s.heap.objs.size>>=_) _ _ _;refine Qaa (wpAny_load hS (Qaj ?_));exact hQ h' tk acc (fun b o e=>hk b o (QaL (Qap e)) (Qag _ e)) hacc
theorem Zfs:∀{vs:List Value} {ks:List Int},vs.length=ks.length→(∀(i:Nat) (v:Value),vs[i]?=some v→∃t,v=Value.int (ks.getD i 0) t)→IntsAre vs ks
 | [],[],_,_=> .nil
 | [],_::_,h,_=>by cases h
 |_::_,[],h,_=>by cases h
 |v::vs,k::ks,h,f=>by
  obtain⟨t,e⟩:=f 0 v rfl;have e:v= .int k t:=e;subst e;exact .cons k t (Zfs (by simpa using h) fun i u hu=>f (i+1) u hu)
theorem Zjz {ks:List Int}(S:PySem.W.KdlSrc prog w T r d n Pr OK)(hh:A.handled=none)(hok:OK s.heap)(hks:ks.length=n)(hP:∀i v,Pr i v→∃t,v= .int (ks.getD i 0) t)(h64:n<64)
  (h:∀(out:Array Value) (ms:List Int) (h1 h':Heap) (tk:Nat) (e:Nat),(∀b ob,s.heap.get? b=some ob→h1.get? b=some ob)→(∀b ob,h1.get? b=some ob→h'.get? b=some ob)→IntsAre out.toList ms→ms.Perm ks→ms.Pairwise (· ≤ ·)→h'.get? h1.objs.size=some (seqObj "list" out e)→Q (.ref h1.objs.size) {s with heap:=h',toks:=tk }):
  wpAny (model prog w) A (call (.builtin "sorted") [.ref r]) Q E s:=by
 refine Qdr kind_sorted plain_sorted entry_sorted (args_sorted1 _) ?_;unfold Builtin.«sorted»;refine Qaa (m:=checkCount "sorted" 1 1 _) (Qaj (Qaa (ZhG S (by simp[hh]) hok (Qcc (Za7 (by omega))) fun h1 tk acc kp hacc=> ?_)));have hI:IntsAre acc.toList ks:=Zfs (by rw[Qa0,hacc.1,hks]) fun i v hv=>hP i v (hacc.2 i v (by rw[←Qbf];exact hv));have hl:acc.toList.length<64:=by rw[Qa0,hacc.1];exact h64
 generalize acc.toList=vs at hI hl;refine Qaa (wpAny_newList ?_);have hoL:(h1.push {cls:=.type "list",data:=.seq vs.toArray }).get? h1.objs.size=some (seqObj "list" vs.toArray 0):=Qax _ rfl;refine Qaa (QbI (Qbq slot_list_sort ⟨_,hoL,rfl⟩ entry_list_sort (list_sort_tree (s:={s with heap:=h1.push {cls:=.type "list",data:=.seq vs.toArray },toks:=tk }) hoL hI hl fun out ms' a1 a2 a3=>⟨_,rfl,?_⟩) (args_list_sort _)));obtain⟨e,he⟩:=sortedHeap_at (out:=out) hoL;refine Qaj ⟨_,rfl,h out ms' h1 _ tk e kp (fun b ob z=> ?_) a1 a2 a3 he⟩;have hlt:b<h1.objs.size:=Qap z;rw[sortedHeap_old (QaL hlt) (by rw[Qa6];exact QbL hlt)];exact Qag _ z
end
def ZgU (v d:Addr):Heap→Prop:=fun h=>PySem.W.KdlKeysView h v d
def Zpm (td:TE):TE:=fun σ H Q=>td σ H fun x H1=>∃d kvs,x= .ref d∧H1 d=some (.dK kvs)∧∀v,H1 v=none→Q (.ref v) (upd H1 v (.ext (ZgU v d)))
theorem ZmB (ho:PE X o td)(hbase:attributeBase o "keys" X.env (eval o X.env)=eval o X.env:=by rfl)(hline:(jh.endLine==qE.line)=true:=by rfl):PE X (.Call (.Attribute o "keys" jh) [] [] qE) (Zpm td):=by
 intro qa s σ H Q I h;refine wpAny_Call_method0_late hbase hline (thn (ho qa s σ H _ I h) fun u s1 ⟨x,H1,I1,rx,d,kvs,ex,hd,q⟩=> ?_);subst ex;cases rx;obtain⟨t1,t2,t3⟩:=Znt I1 (.inl ⟨kvs,.inl hd⟩);obtain⟨_,hsys,vs,rel,dd⟩:=Zn3 I1.hok hd;refine⟨"dict", "dict.keys",QdJ,QdR,PySem.F.type_dict_keys,t1,t2,Qcy rfl (PySem.evalArgs_none ?_)⟩;refine Qeq QdR dd.typeIs PySem.F.entry_dict_keys (PySem.F.args_dict_keys_1 _) (PySem.W.kdl_meets_keys (Zbu X.prog X.w) d hsys) ⟨⟨_,dd⟩,?_⟩;have g:(s1.heap.push {cls:=.type "dict_keys",data:=.fields #[.ref d] }).get? s1.heap.objs.size=some {cls:=.type "dict_keys",data:=.fields #[.ref d] }:=Qax _ rfl;exact⟨.ref s1.heap.objs.size,_,I1.laid (t':=s1.toks) (o:=.ext (ZgU s1.heap.objs.size d)) (fun b o e=>Qag _ e) (Qal _) ⟨⟨_,g,rfl,rfl⟩,⟨_,g⟩,fun h1 h2 ⟨ob,e,c⟩ k=>⟨ob,k ob e,c⟩⟩,rfl,q _ (I1.hok.fresh (Qal _))⟩
theorem ZgV (hc:X.calm=true):Zc5 X (.builtin "sorted") (fun xs H Q=>∃(v d:Addr) (kvs:List (Key×V)) (ks:List Int),xs=[.ref v]∧H v=some (.ext (ZgU v d))∧H d=some (.dK kvs)∧kvs.map (·.1)=ks.map Sum.inl∧ks.length<64∧
  ∀(l:Addr) (ms:List Int),H l=none→ms.Perm ks→ms.Pairwise (· ≤ ·)→Q (.ref l) (upd H l (.lst (ms.map V.int)))):=by
 intro qa s σ H xs us Q I r h;obtain⟨v,d,kvs,ks,rfl,hv,hd,hk,h64,q⟩:=h;obtain⟨u,rfl,rx⟩:=Ze7 r;cases rx;obtain⟨_,hsys,vs,rel,o,es,ep,ho,hx,hdat,hko,hpo,hno⟩:=Zn3 I.hok hd;obtain⟨kv,_,_⟩:=(show ZbN X.prog X.w H s.heap v (.ext (ZgU v d)) from I.hok v _ hv);have hkeys:=rel.keys;have hlen:=rel.length;have hkl:kvs.length=ks.length:=by have:=congrArg List.length hk;rw[Qac,Qac] at this;exact this
 refine Zjz (ks:=ks) (PySem.W.kdl_keys (knd:=Zbu X.prog X.w) (kvs:=vs) (ep:=ep)) (I.ok.hd hc) ⟨kv,o,es,ho,hx,hdat,hko,hpo,hno⟩ (by omega) (fun i u ⟨k,x,e1,e2⟩=> ?_) (by omega) fun out ms h1 h' tk e kp kp2 hI hp hs he=> ?_
 ·have e3:(vs.map (·.1))[i]?=some k:=by rw[Qaq,e1];rfl
  rw[←hkeys,hk,Qaq] at e3
  cases z:ks[i]? with
  |none=>rw[z] at e3;cases e3
  |some m=>
   rw[z] at e3;cases e3
   have:ks.getD i 0=m:=by rw[Qam,z];rfl
   rw[this];have e2:Value.isInt m u=true:=e2;cases u<;>simp[Value.isInt] at e2
   subst e2;exact⟨_,rfl⟩
 ·have I1:Inv X qa σ H {s with heap:=h1,toks:=tk }:=I.kept kp;have hml:ms.length≤63:=by rw[hp.length_eq];omega
  refine⟨.ref h1.objs.size,_,I1.laid (t':=tk) (o:=.lst (ms.map V.int)) kp2 (Qal _) ⟨?_,out.toList,e,ZdR hI,?_⟩,rfl,q _ ms (I1.hok.fresh (Qal _)) hp hs⟩
  ·rw[Qac];exact Qcc (Za7 (by omega))
  ·rw[he]
def RK (rk:Value→Int)(xs:Array Keyed)(i:Nat):Int:=match xs[i]? with
 |some p=>rk p.1
 |none=>0
abbrev Pb:=SetTable.Probe
def lp (m:Nat)(p:Pb):Pb:={p with j:=(p.i*5+1+p.perturb/32) %(m+1),more:=SetTable.runEnd m ((p.i*5+1+p.perturb/32) %(m+1))-(p.i*5+1+p.perturb/32) %(m+1),i:=(p.i*5+1+p.perturb/32) %(m+1),perturb:=p.perturb/32 }
def hsh (prog:Program)(w:World)(u:List Int):Int:=tupleKeyHash (intKind prog w) u
end L2
namespace TimG
open PySem PySem.Spec PyProof.Rows
class KO where
 rk:Value→Int
 ik:Keyed→Prop
 kd:SortKind
variable [KO]
def ZoE (p:Keyed):Int:=KO.rk p.1
def Ik (p:Keyed):Prop:=KO.ik p
class KL (prog:Program) (w:World) (A:Around) (s:Shared):Prop where
 lt:∀{E:Value→Shared→Prop} {x y:Keyed} {st:SortSt} {Q:Option Bool→SortSt→Prop},kindOf st=KO.kd→Ik x→Ik y→Q (some (decide (ZoE x<ZoE y))) st→wpS (model prog w) A E s (lt' x y) Q st
def K (a:Array Keyed)(i:Nat):Int:=L2.RK KO.rk a i
section
variable {prog:Program}{w:World}{A:Around}{E:Value→Shared→Prop}{s:Shared} [KL prog w A s]
def ZqP (left:Bool)(key x:Keyed):Bool:=if left=true then decide (ZoE x<ZoE key) else !decide (ZoE key<ZoE x)
end
variable [KO]
variable [KO]
variable [KO]
variable [KO]
variable [KO]
variable [KO]
variable [KO]
def bare (P:Array (Nat×Nat×Nat)):List (Nat×Nat):=P.toList.map fun x=>(x.1,x.2.1)
variable [KO]
variable [KO]
variable [KO]
variable [KO]
variable [KO]
end TimG
namespace L2
open PySem PySem.Spec PyProof.Rows
variable {H H' H0 H1:Hp}{Q:VK}{Z:L2.St→Hp→Prop}{a pa pb p q c cN d bg nl g c0 a0 pa0 pb0 pc0:Addr}{n i r e m b hd wy lg qw:Int}{ns ms is:List Int}{at0 j:Nat}{X:Cx}{L:List (Int×List Int)}{σ:L2.St}{o:HO}{S:List (List Int×Int)}{E:XK}{w:Str}{kds:List Str}
def cont (h:Heap)(b:Addr):Option HO:=match h.get? b with
 |some o=>match o.data with
  | .seq its _=>match its.toList with
   | [.ref ka,.int m _]=>some (.tup [.ref ka,.int m])
   |_=>none
  |_=>none
 |none=>none
theorem Zak.nw (a:Zak H H')(h:H' p=none):Zak H (upd H' p o):=fun c u e=>by
 have:=a c u e;rw[Zax (Zav this h)];exact this
theorem Zak.ow (a:Zak H H')(h:H p=none):Zak H (upd H' p o):=fun c u e=>by
 rw[Zax (Zav e h)];exact a c u e
theorem ZfY {K:PySem.W.Frag}(hK:X.K=K:=by rfl):SlR X (ZoR K):=by subst hK;exact ZoS
def nc (m:Nat):List Int:=[(m:Int)]
def pc (p:Nat×Nat):List Int:=[(p.1:Int),(p.2:Int)]
theorem ZgW:∀{ns:List Int} {its:List Value},ZbC (ns.map V.int) its→∃ps:List (Int×Tok),its=ps.map (fun p=>Value.int p.1 p.2)∧ps.map (·.1)=ns
 | [],its,r=>by cases r;exact⟨[],rfl,rfl⟩
 |n::ns,its,r=>by
  cases r with
  |cons a b=>
   obtain⟨t,rfl⟩:=a;obtain⟨ps,rfl,e⟩:=ZgW b;exact⟨(n,t)::ps,rfl,by rw[Qbz,e]⟩
theorem Zk2 (hc:X.calm=true):Zc5 X (.builtin "max") (fun xs H Q=>∃(p:Addr) (ns:List Int),xs=[.ref p]∧SqL X.K H p (ns.map V.int)∧ns≠ []∧∀m∈ns,(∀n∈ns,n≤m)→Q (.int m) H):=by
 intro qa s σ H xs us Q I r h;obtain⟨p,ns,rfl,hq,ne,q⟩:=h;obtain⟨u,rfl,rx⟩:=Ze7 r;cases rx;obtain⟨its,rv,pl,hz⟩:=I.list hq;obtain⟨ps,rfl,e⟩:=ZgW rv;have hl:=pl.isList;have ei:(ps.map (fun p=>Value.int p.1 p.2)).toArray=intItems ps.toArray:=by simp[intItems]
 rw[ei] at hl
 have pn:0<ps.length:=by
  cases ps with
  |nil=>exact absurd e.symm ne
  |cons a b=>simp
 have at1:∀j,j<ps.length→ns[j]?=some (numAt ps.toArray j):=fun j hj=>by
  rw[←e,Qaq,Qah hj];simp[numAt,hj]
 refine max_intList (I.ok.hd hc) hl (by simpa using pn) fun v h' tk hv hk=> ?_;obtain⟨t,rfl⟩:=intItems_at hv;obtain⟨b1,b2⟩:=argBest_gt (numAt ps.toArray) (ps.toArray.size-1);generalize argBest (fun i' j'=>decide (numAt ps.toArray i'>numAt ps.toArray j')) (ps.toArray.size-1)=k at b1 b2⊢;rw[Qat] at b1 b2;refine⟨.int _,H,I.kept hk,⟨t,rfl⟩,q _ (Qau (at1 k (by omega))) fun n hn=> ?_⟩;obtain⟨j,hj⟩:=Qbu.mp hn
 have jl:j<ps.length:=by
  have:=(Qaf.mp hj).1;rw[←e,Qac] at this;exact this
 rw[at1 j jl] at hj;cases hj;exact b2 j (by omega)
def CpL (H:Hp)(ys:List V)(vss:List (List V)):Prop:=ys.length=vss.length∧∀(i:Nat) (y:V) (vs:List V),ys[i]?=some y→vss[i]?=some vs→∃q:Addr,y= .ref q∧H q=some (.tup vs)
theorem CpL.nil (H:Hp):CpL H [] []:=⟨rfl,fun i y vs h=>by cases h⟩
theorem CpL.up {ys:List V}{vss:List (List V)}(h:CpL H ys vss)(t:Zbd H H'):CpL H' ys vss:=⟨h.1,fun i y vs h1 h2=>by
 obtain⟨q,e,hq⟩:=h.2 i y vs h1 h2
 exact⟨q,e,t _ _ hq⟩⟩
theorem CpL.snoc {ys:List V}{vss:List (List V)}{vs:List V}(h:CpL H ys vss)(hq:H q=some (.tup vs)):CpL H (ys++ [.ref q]) (vss++ [vs]):=by
 refine⟨by rw[Qae,Qae,h.1];rfl,fun i y us h1 h2=> ?_⟩;by_cases c:i<ys.length
 ·rw[QaK c] at h1;rw[QaK (h.1 ▸ c)] at h2;exact h.2 i y us h1 h2
 ·rw[QaF (by omega)] at h1;rw[QaF (by rw[←h.1];omega),←h.1] at h2
  have:i-ys.length=0:=by
   have:=(Qaf.mp h1).1;simp at this;omega
  rw[this] at h1 h2;cases h1;cases h2;exact⟨q,rfl,hq⟩
def fV:V→PyData
 | .int i=> .int i
 | .bl b=> .bool b
 |_=> .none
def Zk3 (vs:List V):Prop:=∀v∈vs,(∃i,v= .int i)∨∃b,v= .bl b
def dCp (vs:List V):PyData:=.tuple (vs.map fV)
theorem Zqd {K:PySem.W.Frag}{v:V}(h:(∃i,v= .int i)∨∃b,v= .bl b):DI K H v (fV v):=by
 rcases h with⟨i,rfl⟩|⟨b,rfl⟩
 ·exact .int i
 ·exact .bl b
theorem Zpn {K:PySem.W.Frag}{vs:List V}(hq:H q=some (.tup vs))(hf:Zk3 vs):DI K H (.ref q) (dCp vs):=by
 refine .tup (SqT.of hq) (by rw[Qac]) fun i x d h1 h2=> ?_;rw[Qaq,h1] at h2;cases h2;exact Zqd (hf x (Qau h1))
theorem Zk4:∀vs:List V,PyData.canLayAll0 (vs.map fV)=true
 | []=>rfl
 |v::r=>by
  show((fV v).canLay0 && PyData.canLayAll0 (r.map fV))=true;rw[Zk4 r,Bool.and_true];cases v<;>rfl
theorem Zn7 (vs:List V):(dCp vs).canLay0=true:=Zk4 vs
theorem Zk5:∀vs:List V,PyData.depthAll (vs.map fV)=0
 | []=>rfl
 |v::r=>by
  show max (fV v).depth (PyData.depthAll (r.map fV))=0;rw[Zk5 r];cases v<;>rfl
theorem Zn8 (vs:List V):(dCp vs).depth=1:=by show PyData.depthAll _+1=1;rw[Zk5]
theorem CpL.di {K:PySem.W.Frag}{ys:List V}{vss:List (List V)}(h:CpL H ys vss)(hp:SqL K H p ys)(hf:∀vs∈vss,Zk3 vs):DI K H (.ref p) (.list (vss.map dCp)):=by
 refine .lst hp (by rw[Qac];exact h.1) fun i x d h1 h2=> ?_;rw[Qaq] at h2
 cases e:vss[i]? with
 |none=>rw[e] at h2;cases h2
 |some vs=>
  rw[e] at h2;cases h2;obtain⟨q,rfl,hq⟩:=h.2 i x vs h1 e;exact Zpn hq (hf vs (Qau e))
theorem ZiR:∀vss:List (List V),PyData.canLayAll0 (vss.map dCp)=true
 | []=>rfl
 |v::r=>by
  show((dCp v).canLay0 && PyData.canLayAll0 (r.map dCp))=true;rw[ZiR r,Zn7];rfl
theorem ZfZ:∀vss:List (List V),PyData.depthAll (vss.map dCp)≤1
 | []=>QaV _
 |v::r=>by
  show max (dCp v).depth (PyData.depthAll (r.map dCp))≤1
  have:=ZfZ r;rw[Zn8];omega
def Zfa (n:Int)(vss:List (List V))(L:List (Int×List Int)):PyData:=.tuple [.int n,.list (vss.map dCp),dL L]
theorem ZcU (n:Int)(vss:List (List V))(L:List (Int×List Int)):(Zfa n vss L).canLay0=true:=by
 show(true && (PyData.canLayAll0 (vss.map dCp) && ((dL L).canLay0 && true)))=true;rw[ZiR,ZgE];rfl
theorem Zn9 {K:PySem.W.Frag}{ya yb:List V}{vss:List (List V)}(hp:H p=some (.tup [.int n,.ref pa,.ref pb]))(ha:H pa=some (.lst ya))(ca:CpL H ya vss)(hf:∀vs∈vss,Zk3 vs)(hb:H pb=some (.lst yb))(wb:Wg H yb L):DI K H (.ref p) (Zfa n vss L):=by
 refine .tup (SqT.of hp) rfl fun i x d h1 h2=> ?_;rcases i with _|_|_|i
 ·cases h1;cases h2;exact .int _
 ·cases h1;cases h2;exact ca.di (SqL.of ha) hf
 ·cases h1;cases h2;exact Wg.di wb (SqL.of hb)
 ·cases h1
theorem Zpo {K:PySem.W.Frag}(hK:X.K=K:=by rfl):OpR X (compareOp .In) (rIn K false):=by subst hK;exact Zkk
def Zf0:Sp:=fun vs H Q _=>∃i l:Int,vs=[.int i,.int l]∧Q (.bl (decide (l≤i))) H
abbrev PR:=Int×Int×Int×Bool
def pV (p:PR):List V:=[.int p.1,.int p.2.1,.int p.2.2.1,.bl p.2.2.2]
theorem Zoa (p:PR):Zk3 (pV p):=fun v hv=>by
 simp only[pV,Qas,QaZ,Qca] at hv;rcases hv with rfl|rfl|rfl|rfl
 ·exact .inl ⟨_,rfl⟩
 ·exact .inl ⟨_,rfl⟩
 ·exact .inl ⟨_,rfl⟩
 ·exact .inr ⟨_,rfl⟩
theorem ZmC (ps:List PR):∀vs∈ps.map pV,Zk3 vs:=fun vs h=>by
 obtain⟨p,_,rfl⟩:=Qbm.mp h;exact Zoa p
abbrev WL2:=List (Int×List Int)
structure ZaU (H:Hp)(a pa pb:Addr)(n:Int)(ps:List PR)(L:WL2)(ya yb:List V):Prop where
 h:H a=some (.tup [.int n,.ref pa,.ref pb])
 ha:H pa=some (.lst ya)
 ca:CpL H ya (ps.map pV)
 hb:H pb=some (.lst yb)
 wb:Wg H yb L
theorem ZaU.up {H H':Hp}{a pa pb:Addr}{n:Int}{ps:List PR}{L:WL2}{ya yb:List V}(x:ZaU H a pa pb n ps L ya yb)(s:Zak H H'):ZaU H' a pa pb n ps L ya yb:=
 ⟨s _ _ x.h,s _ _ x.ha,x.ca.up s.tups,s _ _ x.hb,x.wb.up s.tups⟩
theorem ZaU.di {K:PySem.W.Frag}{ps:List PR}{L:WL2}{ya yb:List V}(x:ZaU H a pa pb n ps L ya yb):DI K H (.ref a) (Zfa n (ps.map pV) L):=Zn9 x.h x.ha x.ca (ZmC ps) x.hb x.wb
theorem ZaU.len {ps:List PR}{L:WL2}{ya yb:List V}(x:ZaU H a pa pb n ps L ya yb):ya.length=ps.length:=by rw[x.ca.1,Qac]
theorem ZaU.at {ps:List PR}{L:WL2}{ya yb:List V}(x:ZaU H a pa pb n ps L ya yb){k:Nat}{p:PR}(e:ps[k]?=some p):∃q:Addr,ya[k]?=some (.ref q)∧H q=some (.tup (pV p)):=by
 have il:k<ya.length:=by rw[x.len];exact(Qaf.mp e).1
 obtain⟨q,eq,hq⟩:=x.ca.2 k _ (pV p) (Qah il) (by rw[Qaq,e];rfl);exact⟨q,by rw[Qah il,eq],hq⟩
abbrev Out:=Int×List PR×WL2×List (List Int×Int)
def SrL (H:Hp)(ys:List V)(S:List (List Int×Int)):Prop:=ys.length=S.length∧∀(i:Nat) (y:V) (e:List Int×Int),ys[i]?=some y→S[i]?=some e→∃q w:Addr,y= .ref q∧H q=some (.tup [.ref w,.int e.2])∧H w=some (.tup (e.1.map V.int))
theorem SrL.nil (H:Hp):SrL H [] []:=⟨rfl,fun i y e h=>by cases h⟩
theorem SrL.up {ys:List V}(h:SrL H ys S)(t:Zbd H H'):SrL H' ys S:=⟨h.1,fun i y e h1 h2=>by
 obtain⟨q,w,e1,e2,e3⟩:=h.2 i y e h1 h2
 exact⟨q,w,e1,t _ _ e2,t _ _ e3⟩⟩
structure ZbM (H:Hp)(c a pa pb pc:Addr)(o:Out)(ya yb yc:List V):Prop where
 hc:H c=some (.tup [.ref a,.ref pc])
 hall:ZaU H a pa pb o.1 o.2.1 o.2.2.1 ya yb
 hpc:H pc=some (.lst yc)
 sc:SrL H yc o.2.2.2
theorem ZbM.up {H H':Hp}{c a pa pb pc:Addr}{o:Out}{ya yb yc:List V}(x:ZbM H c a pa pb pc o ya yb yc)(s:Zak H H'):ZbM H' c a pa pb pc o ya yb yc:=⟨s _ _ x.hc,x.hall.up s,s _ _ x.hpc,x.sc.up s.tups⟩
def Zqe (S:List (List Int×Int)):PyData:=.list (S.map fun e=> .tuple [dT e.1,.int e.2])
def Zk6 (o:Out):PyData:=.tuple [Zfa o.1 (o.2.1.map pV) o.2.2.1,Zqe o.2.2.2]
theorem SrL.di {K:PySem.W.Frag}{ys:List V}(h:SrL H ys S)(hp:SqL K H p ys):DI K H (.ref p) (Zqe S):=by
 refine .lst hp (by rw[Qac];exact h.1) fun i x d h1 h2=> ?_;rw[Qaq] at h2
 cases e:S[i]? with
 |none=>rw[e] at h2;cases h2
 |some z=>
  rw[e] at h2;cases h2;obtain⟨q,w,rfl,hq,hw⟩:=h.2 i x z h1 e;refine .tup (SqT.of hq) rfl fun j x d z1 z2=> ?_;rcases j with _|_|j
  ·cases z1;cases z2;exact Zdc hw
  ·cases z1;cases z2;exact .int _
  ·cases z1
theorem ZbM.di {K:PySem.W.Frag}{H:Hp}{c a pa pb pc:Addr}{o:Out}{ya yb yc:List V}(x:ZbM H c a pa pb pc o ya yb yc):DI K H (.ref c) (Zk6 o):=by
 refine .tup (SqT.of x.hc) rfl fun i y d h1 h2=> ?_;rcases i with _|_|i
 ·cases h1;cases h2;exact x.hall.di
 ·cases h1;cases h2;exact x.sc.di (SqL.of x.hpc)
 ·cases h1
theorem ZiS:∀S:List (List Int×Int),PyData.canLayAll0 (S.map fun e=> .tuple [dT e.1,.int e.2])=true
 | []=>rfl
 |e::r=>by
  show(((dT e.1).canLay0 && (true && true)) && PyData.canLayAll0 (r.map fun e=> .tuple [dT e.1,.int e.2]))=true;rw[ZiS r,Zed];rfl
theorem ZiT:∀S:List (List Int×Int),PyData.depthAll (S.map fun e=> .tuple [dT e.1,.int e.2])≤2
 | []=>QaV _
 |e::r=>by
  show max (max (dT e.1).depth (max 0 0)+1) (PyData.depthAll (r.map fun e=> .tuple [dT e.1,.int e.2]))≤2
  have:=ZiT r;rw[ZgF];omega
theorem ZeN (o:Out):(Zk6 o).canLay0=true:=by
 show((Zfa o.1 (o.2.1.map pV) o.2.2.1).canLay0 && ((Zqe o.2.2.2).canLay0 && true))=true;rw[ZcU];show(true && (PyData.canLayAll0 _ && true))=true;rw[ZiS];rfl
theorem Zk7 (o:Out):(Zk6 o).depth≤60:=by
 show max (Zfa o.1 (o.2.1.map pV) o.2.2.1).depth (max (PyData.depthAll _+1) 0)+1≤60;have h1:=ZiT o.2.2.2
 have h2:(Zfa o.1 (o.2.1.map pV) o.2.2.1).depth≤5:=by
  show max 0 (max (PyData.depthAll ((o.2.1.map pV).map dCp)+1) (max (PyData.depthAll (o.2.2.1.map dE)+1) 0))+1≤5
  have:=ZfZ (o.2.1.map pV)
  have:=ZfN o.2.2.1;omega
 omega
def Zdk (cN:Addr):Sp:=fun vs H Q E=>∃b:Bool,vs=[.bl b]∧(b=true→Q .non H)∧(b=false→E (.ref cN) none H)
def Zob (E:XK)(cN:Addr):TS:=ZcP (Zgl (tB (Zah 0))) (Znr E cN) Zbv
theorem ZgX {b:Bool}(k1:b=true→Q .non H)(k2:b=false→E (.ref cN) none H):Zob E cN {nx:=fun _ H'=>Q .non H',rt:=Q } [some (.bl b)] H:=by
 refine⟨_,rfl,b,rfl,?_⟩
 cases b with
 |false=>exact Zc7 (k2 rfl)
 |true=>exact Zcu (k1 rfl)
def Zdl:Sp:=fun vs H Q _=>∃(a c:Addr) (k:Nat) (xs zs:List V),vs=[.ref a,.int (k:Int),.ref c]∧H a=some (.lst xs)∧H c=some (.lst zs)∧k<xs.length∧xs.length≤400∧zs.length≤4∧∀(d:Addr) (H':Hp),Zak H H'→H d=none→H' d=some (.lst (xs.take k++zs++xs.drop (k+1)))→Q (.ref d) H'
theorem Zft (xs:List V){k:Nat}(h:k≤xs.length):Ze9 xs none (some (k:Int))=xs.take k:=by
 unfold Ze9;rw[HT.sIx_nat,HT.sIx_none,Qds,Nat.min_eq_left h,QdW]
theorem ZcZ (xs:List V){k:Nat}(h:k≤xs.length):Ze9 xs (some (k:Int)) none=xs.drop k:=by
 unfold Ze9;rw[HT.sIx_nat,HT.sIx_none,Nat.min_eq_left h,Qba (by rw[QaW];exact Qal _)]
def Zk8 (K:PySem.W.Frag):TS:=ZbY (tOp Zfm (tOp Zfm (tSl (ZjX K) (Zah 0) ZbZ (ZdG (Zah 1))) (Zah 2)) (tSl (ZjX K) (Zah 0) (ZdG (tOp (rI0 fun i j=>V.int (i+j)) (Zah 1) (tC (V.int 1)))) ZbZ))
theorem ZdE {n:Nat}(h:n≤1000):n≤sizeLine:=Qcc (Za7 h)
theorem Zfb {K:PySem.W.Frag}{k:Nat}{xs zs:List V}(ha:H a=some (.lst xs))(hc:H c=some (.lst zs))(hk:k<xs.length)(hx:xs.length≤400)(hz:zs.length≤4)
  (kk:∀(d:Addr) (H':Hp),Zak H H'→H d=none→H' d=some (.lst (xs.take k++zs++xs.drop (k+1)))→Q (.ref d) H'):Zk8 K {nx:=Z,rt:=Q } [some (.ref a),some (.int (k:Int)),some (.ref c)] H:=by
 refine⟨_,rfl,_,rfl,(k:Int),rfl,a,xs,rfl,SqL.of ha,fun p1 h1=> ?_⟩;rw[Zft xs (by omega)];have s1:=Zak.nw (o:=.lst (xs.take k)) (Zak.refl H) h1;have f1:(upd H p1 (.lst (xs.take k))) p1=some (.lst (xs.take k)):=Zad;generalize upd H p1 (.lst (xs.take k))=H1 at s1 f1⊢;refine⟨_,rfl,p1,c,_,zs,rfl,rfl,f1,s1 _ _ hc,ZdE (by rw[Qav];omega),fun p2 h2=> ?_⟩;have s2:=Zak.nw (o:=.lst (xs.take k++zs)) (Zak.refl H1) h2;have f2:(upd H1 p2 (.lst (xs.take k++zs))) p2=some (.lst (xs.take k++zs)):=Zad;generalize upd H1 p2 (.lst (xs.take k++zs))=H2 at s2 f2⊢;have s02:=s1.trans s2;refine⟨_,rfl,_,rfl,_,_,rfl,rfl,((k+1:Nat):Int),rfl,a,xs,rfl,SqL.of (s02 _ _ ha),fun p3 h3=> ?_⟩;rw[ZcZ xs (by omega)];have s3:=Zak.nw (o:=.lst (xs.drop (k+1))) (Zak.refl H2) h3;have f3:(upd H2 p3 (.lst (xs.drop (k+1)))) p3=some (.lst (xs.drop (k+1))):=Zad;generalize upd H2 p3 (.lst (xs.drop (k+1)))=H3 at s3 f3⊢;refine⟨p2,p3,_,_,rfl,rfl,s3 _ _ f2,f3,ZdE (by rw[Qae,Qav,QaW];omega),fun d hd=> ?_⟩;have s03:=s02.trans s3;exact kk d _ (Zak.nw s03 hd) (s03.free hd) Zad
theorem CpL.take {H:Hp}{ys:List V}{vss:List (List V)}(h:CpL H ys vss)(k:Nat):CpL H (ys.take k) (vss.take k):=⟨by rw[Qav,Qav,h.1],fun i y vs h1 h2=>by
 rw[List.getElem?_take] at h1 h2
 split at h1
 ·rename_i c
  rw[if_pos c] at h2
  exact h.2 i y vs h1 h2
 ·cases h1⟩
theorem CpL.drop {H:Hp}{ys:List V}{vss:List (List V)}(h:CpL H ys vss)(k:Nat):CpL H (ys.drop k) (vss.drop k):=⟨by rw[QaW,QaW,h.1],fun i y vs h1 h2=>by
 rw[Qcb] at h1 h2
 exact h.2 _ y vs h1 h2⟩
theorem CpL.append {ys zs:List V}{vss wss:List (List V)}(h:CpL H ys vss)(g:CpL H zs wss):CpL H (ys++zs) (vss++wss):=by
 refine⟨by rw[Qae,Qae,h.1,g.1],fun i y vs h1 h2=> ?_⟩;by_cases c:i<ys.length
 ·rw[QaK c] at h1;rw[QaK (by rw[←h.1];exact c)] at h2;exact h.2 i y vs h1 h2
 ·rw[QaF (by omega)] at h1;rw[QaF (by rw[←h.1];omega),←h.1] at h2;exact g.2 _ y vs h1 h2
def Zgm (n:Int)(ps:List PR)(kd:Str)(i:Int):Bool:=decide (0≤i) && decide (i<if kd= "place" then n else(ps.length:Int))
def Zk9:Sp:=fun vs H Q _=>∃(i:Int) (kd:Str) (a pa pb:Addr) (n:Int) (ps:List PR) (L:WL2) (ya yb:List V),vs=[.int i,.str kd,.ref a]∧ZaU H a pa pb n ps L ya yb∧(kd= "pairing" ∨kd= "place")∧Q (.bl (Zgm n ps kd i)) H
def Zqf (K:PySem.W.Frag)(aS:Addr):TS:=ZaP (ZcP (Za3 (tOp rEq (Zah 1) (tC (V.str "side")))) (ZbY (ZdZ (tCB (fun xs H Q=>∃x t b,xs=[x,V.ty "str"]∧Zdw K H x t∧W.kitOne K t (Value.type "str")=some b∧Q (V.bl b) H) (Zaa (Zah 0) (Zaa (tC (V.ty "str")) Zau))) (tOp (rIn K false) (Zah 0) (tC (V.ref aS))))) Zbv) (ZaP (ZaY (tIf (Za3 (tOp rEq (Zah 1) (tC (V.str "place")))) (tOp (Zby K) (Zah 2) (tC (V.int 0))) (tCB (fun xs H Q=>∃p ys,xs=[V.ref p]∧(SqL K H p ys∨SqT K H p ys)∧Q (V.int ys.length) H) (Zaa (tOp (Zby K) (Zah 2) (tC (V.int 1))) Zau))) (Zan 3)) (ZbY (ZdZ (ZaF Zf0 [] E0 (Zaa (Zah 0) (Zaa (tC (V.int 0)) Zau))) (tOp (rI0 fun i j=>V.bl (decide (i<j))) (Zah 0) (Zah 3)))))
theorem ZjA {K:PySem.W.Frag}{aS:Addr}{kd:Str}{ps:List PR}{L:WL2}{ya yb:List V}(h:ZaU H a pa pb n ps L ya yb)(hk:kd= "pairing" ∨kd= "place")(k:Q (.bl (Zgm n ps kd i)) H):
  Zqf K aS {nx:=Z,rt:=Q } [some (.int i),some (.str kd),some (.ref a),none] H:=by
 have fin:∀b:Int,Zgm n ps kd i=(decide (0≤i) && decide (i<b))→(ZbY (ZdZ (ZaF Zf0 [] E0 (Zaa (Zah 0) (Zaa (tC (V.int 0)) Zau))) (tOp (rI0 fun i j=>V.bl (decide (i<j))) (Zah 0) (Zah 3)))) {nx:=Z,rt:=Q } [some (.int i),some (.str kd),some (.ref a),some (.int b)] H:=fun b e=>by
  rw[e] at k;refine⟨_,rfl,i,0,rfl,_,rfl,?_⟩
  cases hd:decide (0≤i) with
  |false=>rw[hd] at k;exact Zcu k
  |true=>
   rw[hd] at k;exact Zc7 ⟨_,rfl,_,rfl,_,_,rfl,rfl,k⟩
 have ns:decide (V.str kd=V.str "side")=false:=QaN fun z=>by
  have z:=V.str.inj z;rcases hk with rfl|rfl
  ·exact absurd z (by decide)
  ·exact absurd z (by decide)
 refine⟨_,rfl,rfl,_,rfl,?_⟩;rw[ns];refine Zcu ?_;refine⟨_,rfl,rfl,_,rfl,?_⟩;rcases hk with rfl|rfl
 ·rw[QaN (show ¬(V.str "pairing" =V.str "place") from fun z=>absurd (V.str.inj z) (by decide))];refine Zcu ⟨_,rfl,a,_,_,_,rfl,rfl,SqT.of h.h,rfl,pa,ya,rfl,.inl (SqL.of h.ha),?_⟩;rw[h.len];exact fin _ (by unfold Zgm;rw[if_neg (by decide)])
 ·rw[Qar rfl];refine Zc7 ⟨_,rfl,a,_,_,_,rfl,rfl,SqT.of h.h,rfl,?_⟩;exact fin _ (by unfold Zgm;rw[if_pos rfl])
def Zf1 (K:PySem.W.Frag)(fs:List (Str×Addr)):Sp:=fun vs H Q _=>∃(a pa pb q g:Addr) (n:Int) (ps:List PR) (L:WL2) (ya yb:List V) (w:Str) (is:List Int) (kds:List Str),vs=[.ref a,.ref q]∧ZaU H a pa pb n ps L ya yb∧H q=some (.tup (.str w::is.map V.int))∧Zl1 fs w=some g∧(∀H',SqT K H' g (kds.map V.str))∧kds.length=is.length∧1≤is.length∧is.length≤3∧(∀kd∈kds,kd= "pairing" ∨kd= "place")∧∀H',Zak H H'→Q (.bl ((kds.zip is).all fun x=>Zgm n ps x.1 x.2)) H'
def Zoc (K:PySem.W.Frag)(fs:List (Str×Addr)):TS:=ZaP (ZcP (tOr (Zgl (tB (tCB (fun xs H Q=>∃x t b,xs=[x,V.ty "tuple"]∧Zdw K H x t∧W.kitOne K t (Value.type "tuple")=some b∧Q (V.bl b) H) (Zaa (Zah 1) (Zaa (tC (V.ty "tuple")) Zau))))) (tOr (Zgl fun σ H_1 Q=>Zah 1 σ H_1 fun x H'=>∃k,ZpT K x H' k∧Q k H') (tOr (Zgl (tB (tCB (fun xs H Q=>∃x t b,xs=[x,V.ty "str"]∧Zdw K H x t∧W.kitOne K t (Value.type "str")=some b∧Q (V.bl b) H) (Zaa (tOp (Zby K) (Zah 1) (tC (V.int 0))) (Zaa (tC (V.ty "str")) Zau))))) (tB (ZkY fs (tOp (Zby K) (Zah 1) (tC (V.int 0)))))))) (ZbY (tC (V.bl false))) Zbv) (ZaP (ZaY (Zn5 fs (tOp (Zby K) (Zah 1) (tC (V.int 0)))) (Zan 2)) (ZaP (ZcP (Za3 (tOp rNe (tCB (fun xs H Q=>∃p ys,xs=[V.ref p]∧(SqL K H p ys∨SqT K H p ys)∧Q (V.int ys.length) H) (Zaa (Zah 1) Zau)) (tOp (rI0 fun i j=>V.int (i+j)) (tC (V.int 1)) (tCB (fun xs H Q=>∃p ys,xs=[V.ref p]∧(SqL K H p ys∨SqT K H p ys)∧Q (V.int ys.length) H) (Zaa (Zah 2) Zau))))) (ZbY (tC (V.bl false))) Zbv) (ZbY (tCB (fun xs H_1 Q=>∃p bs,xs=[V.ref p]∧SqL K H_1 p (List.map V.bl bs)∧Q (V.bl (bs.all id)) H_1) (Zaa (ZbT 2 (Zmp K (Zaa (tSl (ZoR K) (Zah 1) (ZdG (tC (V.int 1))) ZbZ) (Zaa (Zah 2) Zau))) (Ze4 K 2 (Zbc (Zan 0) (Zbc (Zan 1) ZfD))) Ze3 (ZaF Zk9 [] E0 (Zaa (Zah 0) (Zaa (Zah 1) (Zaa (Zah 2) Zau))))) Zau)))))
theorem ZmD (x:V)(xs:List V):atI (x::xs) 0=some x:=Zcb (xs:=x::xs) (j:=0) (v:=x) rfl
theorem Zpp {K:PySem.W.Frag}:PySem.W.kitOne K (.type "str") (.type "str")=some true:=by rfl
theorem ZgY {K:PySem.W.Frag}{fs:List (Str×Addr)}{ps:List PR}{L:WL2}{ya yb:List V}(h:ZaU H a pa pb n ps L ya yb)(hq:H q=some (.tup (.str w::is.map V.int)))(hv:Zl1 fs w=some g)(hg:∀H',SqT K H' g (kds.map V.str))(hl:kds.length=is.length)(h1:1≤is.length)(h3:is.length≤3)(hk:∀kd∈kds,kd= "pairing" ∨kd= "place")
  (k:∀H',Zak H H'→Q (.bl ((kds.zip is).all fun x=>Zgm n ps x.1 x.2)) H'):Zoc K fs {nx:=Z,rt:=Q } [some (.ref a),some (.ref q),none] H:=by
 refine⟨_,rfl,V.ref q,_,_,rfl,Zdw.tup hq,Ziy,_,rfl,Zcu ?_⟩;refine⟨_,rfl,true,.inr (.inl ⟨_,SqT.of hq,rfl⟩),Zcu ?_⟩;refine⟨_,rfl,q,_,_,_,rfl,rfl,SqT.of hq,ZmD _ _,V.str w,_,_,rfl,.str _,Zpp,_,rfl,Zcu ?_⟩;refine⟨_,rfl,q,_,_,_,rfl,rfl,SqT.of hq,ZmD _ _,w,rfl,_,rfl,?_⟩;rw[hv];refine Zcu ?_;refine⟨_,rfl,q,_,_,_,rfl,rfl,SqT.of hq,ZmD _ _,w,g,rfl,hv,?_⟩;refine⟨_,rfl,q,_,rfl,.inr (SqT.of hq),_,rfl,g,_,rfl,.inr (hg _),_,_,rfl,rfl,rfl,_,rfl,?_⟩;rw[Qbb,Qac,Qac,hl,Qar (by congr 1;omega)];refine Zcu ?_;refine⟨_,rfl,1,rfl,q,_,rfl,SqT.of hq,?_,fun c hc=> ?_⟩
 ·rintro⟨z,_⟩;rw[show(some (1:Int))=some ((1:Nat):Int) from rfl,HT.sIx_nat,Qbb] at z;omega
 have ec:Ze9 (V.str w::is.map V.int) (some 1) none=is.map V.int:=ZcZ (k:=1) _ (by rw[Qbb];omega);rw[ec];have s1:=Zak.nw (o:=.tup (is.map V.int)) (Zak.refl H) hc;have f1:(upd H c (.tup (is.map V.int))) c=some (.tup (is.map V.int)):=Zad;generalize upd H c (.tup (is.map V.int))=H1 at s1 f1⊢;refine⟨_,rfl,c,g,rfl,⟨_,SqT.of f1⟩,⟨_,hg _⟩,ZiF (K:=K) (a:=c) (b:=g) (xs:=is.map V.int) (ys:=kds.map V.str) (n:=is.length) (fun m zs H'=>zs=(((kds.zip is).take m).map fun x=>Zgm n ps x.1 x.2).map V.bl∧Zak H1 H') ⟨rfl,Zak.refl _⟩ (by rw[Qac,Qac,hl,QcL]) (by omega) (fun m zs H' h=>by rw[h.1,Qac,Qac,Qav];exact QbP _ _) (fun m zs H' _ z=>⟨SqT.of (z.2 _ _ f1),hg _⟩) ?_ ?_⟩
 ·rintro m x y zs H2 pre pp qu hx hy ⟨rfl,s2⟩ hpp;rw[Qaq] at hx hy
  cases ei:is[m]? with
  |none=>rw[ei] at hx;cases hx
  |some i=>
   cases ek:kds[m]? with
   |none=>rw[ek] at hy;cases hy
   |some kd=>
    rw[ei] at hx;rw[ek] at hy;cases hx;cases hy;have s3:=Zak.nw (o:=.tup [.int i,.str kd]) s2 hpp;have f3:(upd H2 pp (.tup [.int i,.str kd])) pp=some (.tup [.int i,.str kd]):=Zad;change Ze4 K 2 _ _ _ (upd H2 pp (.tup [.int i,.str kd])) _;generalize upd H2 pp (.tup [.int i,.str kd])=H3 at s3 f3⊢;rcases pre with _|⟨q0,_|⟨q1,_|⟨q2,pre⟩⟩⟩
    ·cases qu
    ·cases qu
    ·refine⟨pp,_,rfl,SqT.of f3,rfl,_,_,rfl,_,_,rfl,rfl,⟨[some _,some _],rfl,rfl⟩,?_⟩;unfold Ze3;dsimp only;rw[if_pos (rfl:true=true)];refine⟨_,rfl,_,rfl,_,rfl,i,kd,a,pa,pb,n,ps,L,ya,yb,rfl,h.up (s1.trans s3),hk kd (Qau ek),?_,s3⟩;rw[ZaJ (show(kds.zip is)[m]?=some (kd,i) by rw[Qdp];exact⟨ek,ei⟩),Qaw,Qaw];rfl
    ·cases qu
 ·rintro zs H2 ⟨rfl,s2⟩ D hD;refine⟨D,_,rfl,SqL.of Zad,?_⟩
  have e:(((kds.zip is).take is.length).map fun x=>Zgm n ps x.1 x.2).all id=(kds.zip is).all fun x=>Zgm n ps x.1 x.2:=by
   rw[Qba (by rw[List.length_zip,hl,QcL];exact Qal _),Qep];rfl
  rw[e];exact k _ (s1.trans (Zak.nw s2 hD))
abbrev Dk:=Hp→Addr→Int→List PR→WL2→Option Out→Prop
def Zqg (D:Dk)(cN:Addr):Sp:=fun vs H Q E=>∃(a pa pb q:Addr) (n:Int) (ps:List PR) (L:WL2) (ya yb:List V) (o:Option Out),vs=[.ref a,.ref q]∧ZaU H a pa pb n ps L ya yb∧ps.length≤400∧D H q n ps L o∧
 (o=none→∀H',Zak H H'→E (.ref cN) none H')∧
 ∀out:Out,o=some out→∀(c a' pa' pb' pc':Addr) (ya' yb' yc':List V) (H':Hp),Zak H H'→H c=none→H pa'=none→H pb'=none→H pc'=none→pa'≠pb'→pa'≠pc'→pb'≠pc'→ZbM H' c a' pa' pb' pc' out ya' yb' yc'→Q (.ref c) H'
theorem Zla {K:PySem.W.Frag}(hK:X.K=K:=by rfl):OpR X (compareOp .NotIn) (rIn K true):=by subst hK;exact Zgy
def Zpq (K:PySem.W.Frag)(E:XK)(fs ds:List (Str×Addr))(d cN:Addr)(D:Dk):TS:=ZaP (ZcI (Zfp (Zdk cN) (fun c x H'=>E c none H') (Zaa (ZaF (Zf1 K fs) [] E0 (Zaa (Zah 0) (Zaa (Zah 1) Zau))) Zau))) (ZaP (ZaY (Zn5 ds (tOp (Zby K) (Zah 1) (tC (V.int 0)))) (Zan 2)) (ZbY (Znu 2 d (Zqg D cN) (fun c x H'=>E c none H') (Zaa (Zah 0) (Zaa (Zah 1) Zau)))))
def Bu (d:Addr)(H H':Hp):Prop:=∀c o,H c=some o→c≠d→H' c=some o
theorem Bu.refl (d:Addr)(H:Hp):Bu d H H:=fun _ _ e _=>e
theorem Bu.upd {d:Addr}{H H':Hp}{o:HO}(a:Bu d H H'):Bu d H (L2.upd H' d o):=fun c u e n=>by rw[Zax n];exact a c u e n
theorem Zak.bu (s:Zak H0 H)(f:H0 d=none)(e:Bu d H H'):Zak H0 H':=fun b o q=>e b o (s b o q) (fun z=>by rw[z,f] at q;cases q)
def Bg (H:Hp)(d:Addr):Prop:=∃n:Int,H d=some (.lst [.int n])
theorem Bg.same (a:Bg H d)(s:Zak H H'):Bg H' d:=let⟨n,e⟩:=a;⟨n,s _ _ e⟩
theorem Bg.ne (a:Bg H d)(h:H p=none):p≠d:=by
 obtain⟨n,e⟩:=a;rintro rfl;rw[h] at e;cases e
theorem ZdK (h0:0<m)(h:m<10^100):m.natAbs.log2<9000:=by
 have h2:m.natAbs<2^400:=by
  have:(10:Int) ^100≤2^400:=by decide +kernel
  omega
 have:=(Qeg (n:=m.natAbs) (k:=400) (by omega)).mpr h2;omega
def Zd4 (K:PySem.W.Frag):Sp:=fun vs H Q _=>∃(a:Addr) (ns:List Int) (k:Nat),vs=[.ref a,.int (k:Int)]∧SqL K H a (ns.map V.int)∧Q (.int (ns.getD k 0)) H
def Zpr (K:PySem.W.Frag):TS:=ZaP (ZcP (Za3 (tOp (rI0 fun i j=>V.bl (decide (i<j))) (Zah 1) (tCB (fun xs H Q=>∃p ys,xs=[V.ref p]∧(SqL K H p ys∨SqT K H p ys)∧Q (V.int ys.length) H) (Zaa (Zah 0) Zau)))) (ZbY (tOp (ZdA K) (Zah 0) (Zah 1))) Zbv) (ZbY (tC (V.int 0)))
theorem ZhH {K:PySem.W.Frag}{k:Nat}(hS:SqL K H a (ns.map V.int))(kk:Q (.int (ns.getD k 0)) H):Zpr K {nx:=Z,rt:=Q } [some (.ref a),some (.int (k:Int))] H:=by
 refine⟨_,rfl,_,rfl,a,_,rfl,.inl hS,_,_,rfl,rfl,_,rfl,Zda (fun e=> ?_) (fun e=> ?_)⟩
 ·have e:=Qao e;rw[Qac] at e;have e':k<ns.length:=by omega
  refine⟨_,rfl,_,rfl,a,_,_,_,rfl,rfl,hS,Zcb (by rw[Qaq,Qah e'];rfl),?_⟩;rw[Qam,Qah e'] at kk;exact kk
 ·have e:ns.length≤k:=by simpa using e
  rw[Qam,Qay (by omega)] at kk;exact kk
def Zc4 (K:PySem.W.Frag):Sp:=fun vs H Q _=>∃(a:Addr) (ns:List Int) (k:Nat),vs=[.ref a,.int (k:Int)]∧SqL K H a (ns.map V.int)∧∀n:Int,0≤n→Q (.int n) H
def Zqh (K:PySem.W.Frag):TS:=ZaP (ZcP (Za3 (tOp (rI0 fun i j=>V.bl (decide (j≤i))) (tCB (fun xs H Q=>∃i,xs=[V.int i]∧Q (V.int (if i<0 then -i else i)) H) (Zaa (ZaF (Zd4 K) [] E0 (Zaa (Zah 0) (Zaa (Zah 1) Zau))) Zau)) (tOp (rI ZoD fun i j=>V.int (i^j.toNat)) (tC (V.int 10)) (tC (V.int 18))))) (ZbY (tOp (rI0 fun i j=>V.int (i-j)) (tCB (fun xs H Q=>∃i,xs=[V.int i]∧Q (V.int (if i<0 then -i else i)) H) (Zaa (ZaF (Zd4 K) [] E0 (Zaa (Zah 0) (Zaa (Zah 1) Zau))) Zau)) (tOp (rI ZoD fun i j=>V.int (i^j.toNat)) (tC (V.int 10)) (tC (V.int 18))))) Zbv) (ZaP (ZaY (tOp (rI0 fun i j=>V.int (i+j)) (tOp (rI0 fun i j=>V.int (i+j)) (tOp (rI0 fun i j=>V.int (i+j)) (tOp (rI (fun x j=>0<j) fun i j=>V.int (i%j)) (ZaF (Zd4 K) [] E0 (Zaa (Zah 0) (Zaa (tC (V.int 0)) Zau))) (tC (V.int 1000003))) (tOp (rI Zit fun i j=>V.int (i*j)) (tC (V.int 7919)) (Zah 1))) (tOp (rI Zit fun i j=>V.int (i*j)) (tC (V.int 31)) (ZaF (Zd4 K) [] E0 (Zaa (Zah 0) (Zaa (Zah 1) Zau))))) (tC (V.int 17))) (Zan 2)) (ZaP (ZaY (tOp (rI0 fun i j=>V.int (i+j)) (tOp (rI (fun x j=>0<j) fun i j=>V.int (i%j)) (Zah 2) (tC (V.int 2147483629))) (tC (V.int 11))) (Zan 2)) (ZaP (ZaY (tC (V.int 0)) (Zan 3)) (ZaP (Ze5 (ZfE (Zaa (tC (V.int 10)) Zau)) (Zan 4) (ZaP (ZaY (tOp (rI (fun x j=>0<j) fun i j=>V.int (i%j)) (tOp (rI0 fun i j=>V.int (i+j)) (tOp (rI0 fun i j=>V.int (i+j)) (tOp (rI0 fun i j=>V.int (i+j)) (tOp (rI Zit fun i j=>V.int (i*j)) (Zah 2) (tC (V.int 48271))) (tOp (rI ZcJ fun i j=>V.int (i/j)) (Zah 2) (tC (V.int 40692)))) (tOp (rI Zit fun i j=>V.int (i*j)) (tOp (rI Zit fun i j=>V.int (i*j)) (tC (V.int 19)) (Zah 4)) (Zah 4))) (Zah 1)) (tC (V.int 2147483647))) (Zan 2)) (ZaY (tOp (rI0 fun i j=>V.int (i+j)) (tOp (rI Zit fun i j=>V.int (i*j)) (Zah 3) (tC (V.int 2147483647))) (tOp (rI (fun x j=>0<j) fun i j=>V.int (i%j)) (tOp (rI Zit fun i j=>V.int (i*j)) (Zah 2) (tC (V.int 69621))) (tC (V.int 2147483629)))) (Zan 3)))) (ZbY (Zah 3))))))
theorem ZjB {K:PySem.W.Frag}{k:Nat}(hS:SqL K H a (ns.map V.int))(kk:∀n:Int,0≤n→Q (.int n) H):Zqh K {nx:=Z,rt:=Q } [some (.ref a),some (.int (k:Int)),none,none,none] H:=by
 refine⟨_,rfl,_,rfl,a,ns,k,rfl,hS,_,rfl,_,_,rfl,rfl,⟨by decide,by decide,by decide⟩,_,_,rfl,rfl,_,rfl,Zda (fun e=> ?_) (fun e=> ?_)⟩
 ·have e:=Qao e;refine⟨_,rfl,_,rfl,a,ns,k,rfl,hS,_,rfl,_,_,rfl,rfl,⟨by decide,by decide,by decide⟩,_,_,rfl,rfl,kk _ (by omega)⟩
 ·refine⟨_,rfl,a,ns,0,rfl,hS,_,_,rfl,rfl,(by decide:(0:Int)<1000003),_,rfl,_,_,rfl,rfl,.inl ⟨by decide,by decide⟩,_,_,rfl,rfl,_,rfl,_,rfl,a,ns,k,rfl,hS,_,_,rfl,rfl,.inl ⟨by decide,by decide⟩,_,_,rfl,rfl,_,_,rfl,rfl,?_⟩;refine⟨_,rfl,_,_,rfl,rfl,(by decide:(0:Int)<2147483629),_,_,rfl,rfl,?_⟩;refine⟨10,rfl,by decide,by decide,ZcQ (n:=10) (fun j σ H'=>∃(x t:Int) (y:Option V),σ=[some (.ref a),some (.int (k:Int)),some (.int x),some (.int t),y]∧0≤t∧H'=H) ⟨_,0,none,rfl,by decide,rfl⟩ ?_ ?_⟩
  ·rintro j σ H' hj ⟨x,t,y,rfl,ht,rfl⟩;refine⟨_,rfl,_,_,rfl,rfl,.inr ⟨by decide,by decide⟩,_,rfl,_,_,rfl,rfl,⟨by decide,QaC ((Qeg (n:=40692) (k:=16) (by decide)).mpr (by decide)) (by decide)⟩,_,_,rfl,rfl,_,rfl,_,_,rfl,rfl,.inl ⟨by decide,by decide⟩,_,rfl,_,_,rfl,rfl,.inr ⟨by omega,by omega⟩,_,_,rfl,rfl,_,rfl,_,_,rfl,rfl,_,_,rfl,rfl,(by decide:(0:Int)<2147483647),?_⟩;refine⟨_,rfl,_,_,rfl,rfl,.inr ⟨by decide,by decide⟩,_,rfl,_,_,rfl,rfl,.inr ⟨by decide,by decide⟩,_,_,rfl,rfl,(by decide:(0:Int)<2147483629),_,_,rfl,rfl,?_⟩;exact⟨_,_,_,rfl,by have:=QaT (((x*48271+x/40692+19*(0+(j:Int))*(0+(j:Int))+k) %2147483647)*69621) (show(2147483629:Int)≠0 by decide);omega,rfl⟩
  ·rintro σ H' ⟨x,t,y,rfl,ht,rfl⟩;exact⟨_,rfl,kk t ht⟩
def Za0:Sp:=fun vs H Q _=>∃(d:Addr) (m:Int),vs=[.ref d,.int m]∧Bg H d∧0<m∧m<10^100∧∀(r:Int) (H':Hp),0≤r→r<m→Bg H' d→Bu d H H'→(∀c,c≠d→H c=none→H' c=none)→Q (.int r) H'
def Zps (K:PySem.W.Frag):TS:=ZaP (ZaY (tOp (rI (fun x j=>0<j) fun i j=>V.int (i%j)) (tOp (ZdA K) (Zah 0) (tC (V.int 0))) (Zah 1)) (Zan 2)) (ZaP (ZaY (tOp (rI ZcJ fun i j=>V.int (i/j)) (tOp (ZdA K) (Zah 0) (tC (V.int 0))) (Zah 1)) (ZoB (Zah 0) (tC (V.int 0)) Zjk)) (ZbY (Zah 2)))
theorem ZhI {K:PySem.W.Frag}(hb:Bg H d)(h0:0<m)(h1:m<10^100)(k:∀(r:Int) (H':Hp),0≤r→r<m→Bg H' d→Bu d H H'→(∀c,c≠d→H c=none→H' c=none)→Q (.int r) H'):Zps K {nx:=Z,rt:=Q } [some (.ref d),some (.int m),none] H:=by
 obtain⟨b,hd⟩:=hb;refine⟨_,rfl,d,_,_,_,rfl,rfl,SqL.of hd,rfl,_,rfl,_,_,rfl,rfl,h0,?_⟩;refine⟨_,rfl,d,_,_,_,rfl,rfl,SqL.of hd,rfl,_,rfl,_,_,rfl,rfl,⟨h0,ZdK h0 h1⟩,_,rfl,d,_,_,_,rfl,rfl,hd,rfl,?_⟩;exact⟨_,rfl,k _ _ (QaT _ (by omega)) (QaU _ h0) ⟨_,Zad⟩ (Bu.upd (Bu.refl _ _)) fun c n e=>by rw[Zax n];exact e⟩
theorem ZhJ (acc:List (Int×List Int))(e:Int×List Int):(ZaW acc e).length≤acc.length+1:=by
 unfold ZaW;split
 ·split
  ·split
   ·rw[Qae,QbB];show acc.length-1+1≤_;omega
   ·rw[Qae];exact Qal _
  ·rw[Qae];exact Qal _
 ·omega
theorem Zfu (L:List (Int×List Int)):(ZaM L).length≤L.length:=by
 have key:∀(L acc:List (Int×List Int)),(L.foldl ZaW acc).length≤acc.length+L.length:=by
  intro L
  induction L with
  |nil=>intro acc;exact Qal _
  |cons e L ih=>
   intro acc;rw[QbA,Qbb]
   have:=ih (ZaW acc e)
   have:=ZhJ acc e;omega
 have:=key L [];unfold ZaM;rw[Qd0] at this;omega
theorem Zcj {p:List Int→Prop}(h:∀e∈L,p e.2):∀e∈ZaM L,p e.2:=by
 have key:∀(L acc:List (Int×List Int)),(∀e∈L,p e.2)→(∀e∈acc,p e.2)→∀e∈L.foldl ZaW acc,p e.2:=by
  intro L
  induction L with
  |nil=>intro acc _ h;exact h
  |cons x L ih=>
   intro acc hL ha;rw[QbA];refine ih _ (fun e he=>hL e (Qab _ he)) ?_;have hx:=hL x Qad;have snoc:∀e∈acc++ [x],p e.2:=fun e he=>(Qaz.mp he).elim (ha e) fun z=>by rw[Qan] at z;subst z;exact hx
   unfold ZaW;split
   ·split
    ·split
     ·intro e he;rcases Qaz.mp he with z|z
      ·exact ha e (QbW _ z)
      ·rw[Qan] at z;subst z;exact hx
     ·exact snoc
    ·exact snoc
   ·exact ha
 exact key L [] h (fun e he=>by simp at he)
def Znv (K:PySem.W.Frag):TS:=ZaP (ZaY (ZcK Zau) (Zan 12)) (ZaP (Ze5 (Zci K (Zah 7)) (Ze4 K 2 (Zbc (Zan 11) (Zbc (Zan 10) ZfD))) (ZcP (ZnI (Za3 (tOp (rI0 fun i j=>V.bl (decide (j<i))) (Zah 11) (tC (V.int 0)))) (ZnI (Za3 (tOp (Zjl K fun b=> !b) (Zah 12) (ZcK Zau))) (Za3 (tOp (Zjl K fun b=>b) (tOp (Zby K) (tOp (ZdA K) (Zah 12) (tUn (rU fun i=>V.int (-i)) (tC (V.int 1)))) (tC (V.int 1))) (Zah 10))))) (ZaY (ZdM (Zaa (tOp (rI0 fun i j=>V.int (i+j)) (tOp (Zby K) (tOp (ZdA K) (Zah 12) (tUn (rU fun i=>V.int (-i)) (tC (V.int 1)))) (tC (V.int 0))) (Zah 11)) (Zaa (Zah 10) Zau))) (ZoB (Zah 12) (tUn (rU fun i=>V.int (-i)) (tC (V.int 1))) Zjk)) (ZcP (Za3 (tOp (rI0 fun i j=>V.bl (decide (j<i))) (Zah 11) (tC (V.int 0)))) (ZcI (tBM K "list" Zcc (Zah 12) (Zaa (ZdM (Zaa (Zah 11) (Zaa (Zah 10) Zau))) Zau))) Zbv))) (ZbY (Zah 12)))
theorem ZhK {K:PySem.W.Frag}{x0 x1 x2 x3 x4 x5 x6 x8 x9 x10 x11:Option V}{xs:List V}(hS:H a=some (.lst xs))(g:Wg H xs L)(hL:L.length≤100)
  (k:∀(b:Addr) (ys:List V) (H':Hp),H b=none→H' b=some (.lst ys)→Wg H' ys (ZaM L)→Zak H H'→Q (.ref b) H'):
  Znv K {nx:=Z,rt:=Q } [x0,x1,x2,x3,x4,x5,x6,some (.ref a),x8,x9,x10,x11,none] H:=by
 refine⟨(by show 0≤sizeLine;decide),fun b fb=> ?_⟩;have s0:=Zak.nw (o:=.lst []) (Zak.refl H) fb;refine⟨_,rfl,a,rfl,⟨xs,SqL.of (s0 _ _ hS)⟩,Zbx (K:=K) (a:=a) (xs:=xs) (fun i σ H'=>∃(m v:Option V) (ys:List V),σ=[x0,x1,x2,x3,x4,x5,x6,some (.ref a),x8,x9,m,v,some (.ref b)]∧H' b=some (.lst ys)∧Wg H' ys (ZaM (L.take i))∧Zak H H') ⟨_,_,[],rfl,Zad,Wg.nil _,s0⟩ (fun i σ H' _ ⟨_,_,_,_,_,_,z⟩=>SqL.of (z _ _ hS)) ?_ ?_⟩
 ·rintro i x σ H1 hx ⟨m,v,ys,rfl,h1b,g1,s1⟩;obtain⟨e,hei,q,wq,rfl,hq,hw⟩:=g.at' hx;have hq1:=s1 _ _ hq;have hw1:=s1 _ _ hw;have hi:i<L.length:=(Qaf.mp hei).1;have lys:ys.length≤i:=by have:=Zfu (L.take i);have:=g1.1;rw[Qav] at*;omega
  have app:0<e.1→(∀l0,(ZaM (L.take i)).getLast?=some l0→l0.2≠e.2)→∀Hx,Zak H1 Hx→Hx b=some (.lst ys)→(ZcI (tBM K "list" Zcc (Zah 12) (Zaa (ZdM (Zaa (Zah 11) (Zaa (Zah 10) Zau))) Zau))) {nx:=fun σ H'=>∃(m v:Option V) (ys:List V),σ=[x0,x1,x2,x3,x4,x5,x6,some (.ref a),x8,x9,m,v,some (.ref b)]∧H' b=some (.lst ys)∧Wg H' ys (ZaM (L.take (i+1)))∧Zak H H',rt:=Q } [x0,x1,x2,x3,x4,x5,x6,some (.ref a),x8,x9,some (.ref wq),some (.int e.1),some (.ref b)] Hx:=fun hpos hlast Hx sx hxb=>by
   refine⟨_,rfl,.inl ⟨rfl,_,SqL.of hxb⟩,_,rfl,_,rfl,(by show 2≤sizeLine;decide),fun p hp=> ?_⟩;have npb:p≠b:=fun z=>by rw[z,hxb] at hp;cases hp
   have h8b:=(Zax (H:=Hx) (a:=p) (o:=.tup [.int e.1,.ref wq]) (Ne.symm npb)).trans hxb;refine⟨b,_,_,rfl,rfl,h8b,Za7 (by omega:ys.length≤1000),?_⟩;have T8:Zbd Hx (upd Hx p (.tup [.int e.1,.ref wq])):=(Zbd.refl _).new hp;have T9:Zbd (upd Hx p (.tup [.int e.1,.ref wq])) (upd (upd Hx p (.tup [.int e.1,.ref wq])) b (.lst (ys++ [.ref p]))):=(Zbd.refl _).lst h8b;refine⟨_,_,_,rfl,Zad,?_,Zak.ow (Zak.nw (s1.trans sx) hp) fb⟩;rw[ZbE hei];unfold ZaW;rw[if_pos hpos];have fin:=Wg.snoc (g1.up (sx.tups.trans (T8.trans T9))) ⟨p,wq,rfl,T9 _ _ Zad,T9 _ _ (T8 _ _ (sx _ _ hw1))⟩ (e:=e)
   cases z:(ZaM (L.take i)).getLast? with
   |none=>exact fin
   |some l0=>dsimp only;rw[if_neg (hlast l0 z)];exact fin
  refine⟨q,_,rfl,SqT.of hq1,rfl,_,_,rfl,_,_,rfl,rfl,?_⟩;refine⟨_,rfl,_,_,rfl,rfl,_,rfl,Zda (fun hc=> ?_) (fun hc=> ?_)⟩
  ·have hpos:=Qao hc;refine⟨_,rfl,(by show 0≤sizeLine;decide),fun c0 hc0=> ?_⟩;have sx:=Zak.nw (o:=.lst []) (Zak.refl H1) hc0;have f0:(upd H1 c0 (.lst [])) c0=some (.lst []):=Zad;generalize upd H1 c0 (.lst [])=Hx at sx f0⊢;refine⟨_,_,(g1.up sx.tups).di (SqL.of (sx _ _ h1b)),Znj (SqL.of f0),ZgE _,ZgE _,Zni _,_,rfl,?_⟩;rw[Znh]
   cases hlast:(ZaM (L.take i)).getLast? with
   |none=>
    have hnil:ZaM (L.take i)=[]:=by
     cases z:ZaM (L.take i) with
     |nil=>rfl
     |cons y r=>rw[z] at hlast;simp at hlast
    rw[Qar hnil];refine Zcu (Zcu ?_);refine⟨_,rfl,_,_,rfl,rfl,_,rfl,?_⟩;rw[Qar hpos];exact Zc7 (app hpos (fun l0 z=>by rw[hlast] at z;cases z) Hx sx (sx _ _ h1b))
   |some l0=>
    have hne:ZaM (L.take i)≠ []:=fun z=>by rw[z] at hlast;cases hlast
    rw[QaN hne];refine Zc7 ?_
    have hyn:ys≠ []:=fun z=>by
     have:=g1.1;rw[z] at this;exact hne (Qb4.mp this.symm)
    have hl0:(ZaM (L.take i))[ys.length-1]?=some l0:=by rw[g1.1,←Qa9];exact hlast
    obtain⟨y0,hy0,q0,w0,rfl,hq0,hw0⟩:=g1.get hl0;have hyl:ys.getLast?=some (V.ref q0):=by rw[Qa9];exact hy0
    have hat:atI ys (-1)=some (V.ref q0):=by
     have:ys=ys.dropLast++ [V.ref q0]:=Zcr hyl;rw[this];exact Zep _ _
    refine⟨_,rfl,_,rfl,b,_,_,V.ref q0,rfl,rfl,SqL.of (sx _ _ h1b),hat,q0,_,_,_,rfl,rfl,SqT.of (sx _ _ hq0),rfl,_,rfl,_,_,Zdc (sx _ _ hw0),Zdc (sx _ _ hw1),Zed _,Zed _,(by rw[ZgF];decide),_,rfl,?_⟩;rw[Ziz];refine Zda (fun hE=> ?_) (fun hE=> ?_)
    ·have hE:=Qao hE;refine⟨_,rfl,_,rfl,b,_,_,V.ref q0,rfl,rfl,SqL.of (sx _ _ h1b),hat,q0,_,_,_,rfl,rfl,SqT.of (sx _ _ hq0),rfl,_,rfl,_,_,rfl,rfl,_,rfl,(by show 2≤sizeLine;decide),fun p hp=> ?_⟩;have npb:p≠b:=fun z=>by rw[z,sx _ _ h1b] at hp;cases hp
     have h8b:=(Zax (H:=Hx) (a:=p) (o:=.tup [.int (l0.1+e.1),.ref wq]) (Ne.symm npb)).trans (sx _ _ h1b)
     have hix:ixN ys.length (-1)=some (ys.length-1):=by
      have:0<ys.length:=Qdb.mpr hyn;unfold ixN;rw[if_neg (by decide),if_pos (by omega)];congr 1;omega
     refine⟨_,rfl,_,rfl,b,ys,_,ys.length-1,rfl,rfl,h8b,hix,?_⟩;have T8:Zbd H1 (upd Hx p (.tup [.int (l0.1+e.1),.ref wq])):=sx.tups.trans ((Zbd.refl _).new hp);have T9:Zbd (upd Hx p (.tup [.int (l0.1+e.1),.ref wq])) (upd (upd Hx p (.tup [.int (l0.1+e.1),.ref wq])) b (.lst (ys.set (ys.length-1) (.ref p)))):=(Zbd.refl _).lst h8b;refine⟨_,_,_,rfl,Zad,?_,Zak.ow (Zak.nw (s1.trans sx) hp) fb⟩;rw[ZbE hei];unfold ZaW;rw[if_pos hpos,hlast];dsimp only;rw[if_pos hE,ZcL hyl];rw[ZcL hyl] at T9;refine Wg.snoc ((g1.pop).up (T8.trans T9)) ⟨p,wq,rfl,?_,T9 _ _ (T8 _ _ hw1)⟩;show _=some (HO.tup [V.int (e.1+l0.1),V.ref wq]);rw[Qer e.1 l0.1];exact T9 _ _ Zad
    ·have hE:=QbH (QbE.mpr hE);refine⟨_,rfl,_,_,rfl,rfl,_,rfl,?_⟩;rw[Qar hpos];refine Zc7 (app hpos (fun l1 z=> ?_) Hx sx (sx _ _ h1b));rw[hlast] at z;cases z;exact hE
  ·refine Zcu ?_;refine⟨_,rfl,_,_,rfl,rfl,_,rfl,?_⟩;have hc:=QbH (QbE.mpr hc);rw[QaN hc];refine Zcu ⟨_,_,ys,rfl,h1b,?_,s1⟩;rw[ZbE hei];unfold ZaW;rw[if_neg hc];exact g1
 ·rintro σ H1 ⟨m,v,ys,rfl,h1b,g1,s1⟩;have hlx:L.take xs.length=L:=by rw[g.1];exact QaO
  rw[hlx] at g1;exact⟨_,rfl,k b ys H1 fb h1b g1 s1⟩
theorem ZmE (xs:List V):Ze9 xs none (some (-1))=xs.dropLast:=by
 unfold Ze9;show(xs.drop 0).take ((if(-1:Int)<0 then((-1:Int)+(xs.length:Int)).toNat else min (-1:Int).toNat xs.length)-0)=_;rw[if_pos (by decide),Qds,QdW,List.dropLast_eq_take];congr 1;omega
theorem Zod (h0:0≤r)(h1:r<8):∃z:Nat,atI [V.int 1,V.int 2,V.int 3,V.int 1,V.int 2,V.int 3,V.int 5,V.int 24] r=some (.int (z:Int))∧1≤z∧z≤24:=by
 have hc:r=0∨r=1∨r=2∨r=3∨r=4∨r=5∨r=6∨r=7:=by omega
 rcases hc with rfl|rfl|rfl|rfl|rfl|rfl|rfl|rfl
 ·exact⟨1,rfl,by decide,by decide⟩
 ·exact⟨2,rfl,by decide,by decide⟩
 ·exact⟨3,rfl,by decide,by decide⟩
 ·exact⟨1,rfl,by decide,by decide⟩
 ·exact⟨2,rfl,by decide,by decide⟩
 ·exact⟨3,rfl,by decide,by decide⟩
 ·exact⟨5,rfl,by decide,by decide⟩
 ·exact⟨24,rfl,by decide,by decide⟩
theorem Zoe (h0:0≤r)(h1:r<4):∃z:Int,atI [V.int 7,V.int 7,V.int 4,V.int (10^(30:Int).toNat)] r=some (.int z)∧0<z∧z<10^100:=by
 have hc:r=0∨r=1∨r=2∨r=3:=by omega
 rcases hc with rfl|rfl|rfl|rfl
 ·exact⟨7,rfl,by decide,by decide⟩
 ·exact⟨7,rfl,by decide,by decide⟩
 ·exact⟨4,rfl,by decide,by decide⟩
 ·exact⟨_,rfl,by decide,by decide⟩
def Zl2 (u:List Int):Prop:=∀z∈u,-(10^100)<z∧z<10^100
def WOk (n:Int)(L:WL2):Prop:=∃(wd:Nat) (P:WL2),L=ZaM P∧P.length≤8∧1≤wd∧wd≤24∧(∀e∈P,0≤e.1∧e.2.length=wd∧Zl2 e.2)∧tot P=n
def Zlb (K:PySem.W.Frag):TS:=(ZaP (Ze5 (ZfE (Zaa (ZaF Za0 [] E0 (Zaa (Zah 4) (Zaa (tC (V.int 7)) Zau))) Zau)) (Zan 8) (ZaP (ZaY (ZcK (Zaa (ZaF (Zc4 K) [] E0 (Zaa (Zah 2) (Zaa (tOp (rI0 fun i j=>V.int (i+j)) (Zah 3) (Zah 8)) Zau))) Zau)) (Zan 9)) (ZaP (ZaY (tCB (fun xs H_1 Q=>∃p ys,xs=[V.ref p]∧((SqL K H_1 p ys∧∀(l:Addr),H_1 l=none→Q (V.ref l) (upd H_1 l (HO.tup ys)))∨SqT K H_1 p ys∧Q (V.ref p) H_1)) (Zaa (ZbT 1 (ZfE (Zaa (Zah 5) Zau)) (Zan 0) Ze3 (tOp (rI0 fun i j=>V.int (i-j)) (ZaF Za0 [] E0 (Zaa (Zah 10) (Zaa (Zah 7) Zau))) (tOp (rI ZcJ fun i j=>V.int (i/j)) (Zah 7) (tC (V.int 3))))) Zau)) (Zan 10)) (ZaP (ZaY (ZaF Za0 [] E0 (Zaa (Zah 9) (Zaa (tOp (rI0 fun i j=>V.int (i+j)) (tOp (Zby K) (tOp (ZdA K) (Zah 7) (tUn (rU fun i=>V.int (-i)) (tC (V.int 1)))) (tC (V.int 0))) (tC (V.int 1))) Zau))) (Zan 11)) (ZaY (tOp Zfm (tSl (ZjX K) (Zah 7) ZbZ (ZdG (tUn (rU fun i=>V.int (-i)) (tC (V.int 1))))) (ZcK (Zaa (ZdM (Zaa (Zah 11) (Zaa (Zah 10) Zau))) (Zaa (ZdM (Zaa (tOp (rI0 fun i j=>V.int (i-j)) (tOp (Zby K) (tOp (ZdA K) (Zah 7) (tUn (rU fun i=>V.int (-i)) (tC (V.int 1)))) (tC (V.int 0))) (Zah 11)) (Zaa (tOp (Zby K) (tOp (ZdA K) (Zah 7) (tUn (rU fun i=>V.int (-i)) (tC (V.int 1)))) (tC (V.int 1))) Zau))) Zau)))) (Zan 7)))))) (Znv K))
theorem ZgZ {K:PySem.W.Frag}{hi:Int}{x1:Option V}{pc:Addr}{wd:Nat}{ys:List V}{P:WL2}(hS:SqL K H0 a (ns.map V.int))(s0:Zak H0 H)(hf:H0 bg=none)(hb:Bg H bg)(hp:H pc=some (.lst ys))(npb:pc≠bg)(g:Wg H ys P)(hl:P.length=1)(ht:tot P=n)(hP:∀e∈P,0≤e.1∧e.2.length=wd∧Zl2 e.2)(w1:1≤wd)(w2:wd≤24)(hi0:0<hi)(hi1:hi<10^100)(hn:n<10^99)
  (k:∀(b:Addr) (ys:List V) (L:WL2) (H':Hp),H0 b=none→H' b=some (.lst ys)→Wg H' ys L→WOk n L→Zak H0 H'→Q (.ref b) H'):
  Zlb K {nx:=Z,rt:=Q } [some (.int n),x1,some (.ref a),some (.int (at0:Int)),some (.ref bg),some (.int (wd:Int)),some (.int hi),some (.ref pc),none,none,none,none,none] H:=by
 refine⟨_,rfl,bg,7,rfl,hb,by decide,by decide,fun r H1 r0 r1 hb1 u1 _=> ?_⟩;have s1:Zak H0 H1:=s0.bu hf u1;have gT:Zbd H H1:=fun b zs e=>u1 b _ e (fun z=>by obtain⟨m,hb⟩:=hb;rw[z,hb] at e;cases e);refine⟨r,rfl,by omega,by omega,ZcQ (n:=r.toNat) (fun j σ H'=>∃(pc:Addr) (ys:List V) (P:WL2) (x8 x9 x10 x11:Option V),σ=[some (.int n),x1,some (.ref a),some (.int (at0:Int)),some (.ref bg),some (.int (wd:Int)),some (.int hi),some (.ref pc),x8,x9,x10,x11,none]∧H' pc=some (.lst ys)∧Wg H' ys P∧P.length=j+1∧tot P=n∧(∀e∈P,0≤e.1∧e.2.length=wd∧Zl2 e.2)∧Zak H0 H') ⟨pc,ys,P,none,none,none,none,rfl,u1 _ _ hp npb,g.up gT,hl,ht,hP,s1⟩ ?_ ?_⟩
 ·clear hp g hl ht hP npb;rintro j σ H2 hj ⟨pc,ys,P,x8,x9,x10,x11,rfl,hp,g,hl,ht,hP,s2⟩;refine⟨_,rfl,_,rfl,_,rfl,_,_,rfl,rfl,a,ns,at0+j,?_,s2.seq hS,fun big hbig=>⟨(by show 1≤sizeLine;decide),fun dr hdr=> ?_⟩⟩
  ·have e:(at0:Int)+(0+(j:Int))=((at0+j:Nat):Int):=by omega
   show [V.ref a,V.int ((at0:Int)+(0+(j:Int)))]=[V.ref a,V.int ((at0+j:Nat):Int)];rw[e]
  have fdr:=s2.free hdr;have s3:=Zak.nw (o:=.lst [.int big]) (Zak.refl H2) hdr;have b3:Bg (upd H2 dr (.lst [.int big])) dr:=⟨big,Zad⟩;generalize upd H2 dr (.lst [.int big])=H3 at s3 b3⊢;refine⟨_,rfl,(wd:Int),rfl,by omega,by omega,?_⟩;rw[QbZ];refine ZoZ (n:=wd) (fun i zs H'=>(∃ms:List Int,zs=ms.map V.int∧ms.length=i∧Zl2 ms)∧Bg H' dr∧Zak H2 H') ⟨⟨[],rfl,rfl,fun z hz=>(by cases hz)⟩,b3,s3⟩ (by omega) (fun i zs H' h=>by obtain⟨⟨ms,rfl,e,_⟩,_⟩:=h;rw[Qac,e];exact Qal _) ?_ ?_
  ·rintro i zs H' pre qu hi' ⟨⟨ms,rfl,e,nm⟩,bb,ss⟩;rcases pre with _|⟨p0,_|⟨p1,pre⟩⟩
   ·cases qu
   ·refine⟨⟨[some _],rfl,rfl⟩,?_⟩;unfold Ze3;dsimp only;rw[if_pos (rfl:true=true)]
    refine⟨_,rfl,_,rfl,dr,hi,rfl,bb,hi0,hi1,fun r' H'' g0 g1 bb' uu' _=>⟨_,rfl,_,_,rfl,rfl,⟨by decide,ZdK (m:=3) (by decide) (by decide)⟩,_,_,rfl,rfl,⟨ms++ [r'-hi/3],by rw[Qaw];rfl,by rw[Qae,e];rfl,fun z hz=>(by
     rcases Qaz.mp hz with q|q
     ·exact nm z q
     ·rw[Qan.mp q];omega)⟩,bb',ss.bu hdr uu'⟩⟩
   ·cases qu
  ·rintro zs H4 ⟨⟨ms,rfl,em,nm⟩,b4,s4⟩ D hD;refine⟨D,_,rfl,.inl ⟨SqL.of Zad,fun wq hwq=> ?_⟩⟩;have s5:=Zak.nw (o:=.lst (ms.map V.int)) (Zak.refl H4) hD;generalize upd H4 D (.lst (ms.map V.int))=H5 at s5 hwq⊢;have s6:=Zak.nw (o:=.tup (ms.map V.int)) (Zak.refl H5) hwq;have f6:(upd H5 wq (.tup (ms.map V.int))) wq=some (.tup (ms.map V.int)):=Zad;generalize upd H5 wq (.tup (ms.map V.int))=H6 at s6 f6⊢;have s26:=s4.trans (s5.trans s6);have b6:Bg H6 dr:=b4.same (s5.trans s6);have hyn:P≠ []:=fun z=>by rw[z] at hl;cases hl
   obtain⟨l0,hlast⟩:∃l0,P.getLast?=some l0:=⟨_,QcO hyn⟩;have hl0:P[ys.length-1]?=some l0:=by rw[g.1,←Qa9];exact hlast
   obtain⟨y0,hy0,q0,w0,rfl,hq0,hw0⟩:=g.get hl0;have hyl:ys.getLast?=some (V.ref q0):=by rw[Qa9];exact hy0
   have eys:ys=ys.dropLast++ [V.ref q0]:=Zcr hyl;have hat:atI ys (-1)=some (V.ref q0):=by rw[eys];exact Zep _ _
   have hm:=hP l0 (QcW hlast)
   have tl:tot P=tot P.dropLast+l0.1:=by
    have e:=congrArg tot (Zcr hlast);rw[ZaV,Zat,Zaw] at e;omega
   have tn:0≤tot P.dropLast:=by
    have key:∀M:WL2,(∀e∈M,0≤e.1)→0≤tot M:=by
     intro M
     induction M with
     |nil=>intro _;exact QaX _
     |cons e M ih=>intro h;rw[Zat];have:=h e Qad;have:=ih fun x hx=>h x (Qab _ hx);omega
    exact key _ fun e he=>(hP e (QbW _ he)).1
   refine⟨_,rfl,_,rfl,_,rfl,pc,_,_,V.ref q0,rfl,rfl,SqL.of (s26 _ _ hp),hat,q0,_,_,_,rfl,rfl,SqT.of (s26 _ _ hq0),rfl,_,_,rfl,rfl,dr,l0.1+1,rfl,b6,by omega,by omega,fun qw H7 m0 m1 b7 u7 _=> ?_⟩;have s27:Zak H2 H7:=s26.bu hdr u7;have f7:H7 wq=some (.tup (ms.map V.int)):=u7 _ _ f6 (fun z=>by obtain⟨m,b6⟩:=b6;rw[z,b6] at f6;cases f6);refine⟨_,rfl,_,rfl,(-1),rfl,pc,ys,rfl,SqL.of (s27 _ _ hp),fun p1 h1=> ?_⟩;rw[ZmE];have s8:=Zak.nw (o:=.lst ys.dropLast) (Zak.refl H7) h1;have f8:(upd H7 p1 (.lst ys.dropLast)) p1=some (.lst ys.dropLast):=Zad;generalize upd H7 p1 (.lst ys.dropLast)=H8 at s8 f8⊢;have s28:=s27.trans s8;refine⟨_,rfl,_,rfl,(by show 2≤sizeLine;decide),fun t1 ht1=> ?_⟩;have s9:=Zak.nw (o:=.tup [.int qw,.ref wq]) (Zak.refl H8) ht1;have f9:(upd H8 t1 (.tup [.int qw,.ref wq])) t1=some (.tup [.int qw,.ref wq]):=Zad;generalize upd H8 t1 (.tup [.int qw,.ref wq])=H9 at s9 f9⊢;have s29:=s28.trans s9;refine⟨_,rfl,_,rfl,pc,_,_,V.ref q0,rfl,rfl,SqL.of (s29 _ _ hp),hat,q0,_,_,_,rfl,rfl,SqT.of (s29 _ _ hq0),rfl,_,rfl,_,_,rfl,rfl,_,rfl,_,rfl,pc,_,_,V.ref q0,rfl,rfl,SqL.of (s29 _ _ hp),hat,q0,_,_,_,rfl,rfl,SqT.of (s29 _ _ hq0),rfl,(by show 2≤sizeLine;decide),fun t2 ht2=> ?_⟩;have s10:=Zak.nw (o:=.tup [.int (l0.1-qw),.ref w0]) (Zak.refl H9) ht2;have f10:(upd H9 t2 (.tup [.int (l0.1-qw),.ref w0])) t2=some (.tup [.int (l0.1-qw),.ref w0]):=Zad;generalize upd H9 t2 (.tup [.int (l0.1-qw),.ref w0])=H10 at s10 f10⊢;refine⟨(by show 2≤sizeLine;decide),fun p2 h2=> ?_⟩;have s11:=Zak.nw (o:=.lst [.ref t1,.ref t2]) (Zak.refl H10) h2;have f11:(upd H10 p2 (.lst [.ref t1,.ref t2])) p2=some (.lst [.ref t1,.ref t2]):=Zad;generalize upd H10 p2 (.lst [.ref t1,.ref t2])=H11 at s11 f11⊢;have s811:=s9.trans (s10.trans s11);refine⟨p1,p2,_,_,rfl,rfl,s811 _ _ f8,f11,ZdE (by rw[QbB,g.1,hl];show j+1-1+2≤1000;omega),fun pc' hpc'=> ?_⟩;have s12:=Zak.nw (o:=.lst (ys.dropLast++ [.ref t1,.ref t2])) (Zak.refl H11) hpc';have f12:(upd H11 pc' (.lst (ys.dropLast++ [.ref t1,.ref t2]))) pc'=some (.lst (ys.dropLast++ [.ref t1,.ref t2])):=Zad;generalize upd H11 pc' (.lst (ys.dropLast++ [.ref t1,.ref t2]))=H12 at s12 f12⊢;have s812:=s811.trans s12;have s212:=s28.trans s812;refine⟨pc',(ys.dropLast++ [.ref t1])++ [.ref t2],(P.dropLast++ [(qw,ms)])++ [(l0.1-qw,l0.2)],_,_,_,_,rfl,by rw[Qa2];exact f12,?_,?_,?_,?_,s2.trans s212⟩
   ·exact Wg.snoc (Wg.snoc (g.pop.up s212.tups) ⟨t1,wq,rfl,(s10.trans (s11.trans s12)) _ _ f9,(s8.trans s812) _ _ f7⟩) ⟨t2,w0,rfl,(s11.trans s12) _ _ f10,s212 _ _ hw0⟩
   ·rw[Qae,Qae,QbB,hl];rfl
   ·rw[ZaV,ZaV,Zat,Zaw,Zat,Zaw];show tot P.dropLast+(qw+0)+(l0.1-qw+0)=n;omega
   ·intro e he;rcases Qaz.mp he with he|he
    ·rcases Qaz.mp he with he|he
     ·exact hP e (QbW _ he)
     ·rw[Qan.mp he];exact⟨m0,em,nm⟩
    ·rw[Qan.mp he];exact⟨by show 0≤l0.1-qw;omega,hm.2⟩
 ·clear hp g hl ht hP npb;rintro σ H2 ⟨pc,ys,P,x8,x9,x10,x11,rfl,hp,g,hl,ht,hP,s2⟩;exact ZhK hp g (by omega) fun b zs H' e1 e2 e3 s=>k b zs _ H' (s2.free e1) e2 e3 ⟨wd,P,rfl,by omega,w1,w2,hP,ht⟩ (s2.trans s)
def Zf2 (K:PySem.W.Frag):Sp:=fun vs H Q _=>∃(n hd:Int) (a:Addr) (ns:List Int) (at0:Nat),vs=[.int n,.int hd,.ref a,.int (at0:Int)]∧SqL K H a (ns.map V.int)∧0≤n∧n<10^99∧∀(b:Addr) (ys:List V) (L:WL2) (H':Hp),H b=none→H' b=some (.lst ys)→Wg H' ys L→WOk n L→Zak H H'→Q (.ref b) H'
def Zpt (K:PySem.W.Frag):TS:=ZaP (ZaY (ZcK (Zaa (Zah 1) Zau)) (Zan 4)) (ZaP (ZaY (tOp (ZdA K) (ZcK (Zaa (tC (V.int 1)) (Zaa (tC (V.int 2)) (Zaa (tC (V.int 3)) (Zaa (tC (V.int 1)) (Zaa (tC (V.int 2)) (Zaa (tC (V.int 3)) (Zaa (tC (V.int 5)) (Zaa (tC (V.int 24)) Zau))))))))) (ZaF Za0 [] E0 (Zaa (Zah 4) (Zaa (tC (V.int 8)) Zau)))) (Zan 5)) (ZaP (ZaY (tOp (ZdA K) (ZcK (Zaa (tC (V.int 7)) (Zaa (tC (V.int 7)) (Zaa (tC (V.int 4)) (Zaa (tOp (rI ZoD fun i j=>V.int (i^j.toNat)) (tC (V.int 10)) (tC (V.int 30))) Zau))))) (ZaF Za0 [] E0 (Zaa (Zah 4) (Zaa (tC (V.int 4)) Zau)))) (Zan 6)) (ZaP (ZaY (ZcK (Zaa (ZdM (Zaa (Zah 0) (Zaa (tCB (fun xs H_1 Q=>∃p ys,xs=[V.ref p]∧((SqL K H_1 p ys∧∀(l:Addr),H_1 l=none→Q (V.ref l) (upd H_1 l (HO.tup ys)))∨SqT K H_1 p ys∧Q (V.ref p) H_1)) (Zaa (ZbT 1 (ZfE (Zaa (Zah 5) Zau)) (Zan 0) Ze3 (tC (V.int 1))) Zau)) Zau))) Zau)) (Zan 7)) (Zlb K))))
theorem ZhL {K:PySem.W.Frag}(hS:SqL K H a (ns.map V.int))(hn0:0≤n)(hn1:n<10^99)
  (k:∀(b:Addr) (ys:List V) (L:WL2) (H':Hp),H b=none→H' b=some (.lst ys)→Wg H' ys L→WOk n L→Zak H H'→Q (.ref b) H'):
  Zpt K {nx:=Z,rt:=Q } [some (.int n),some (.int hd),some (.ref a),some (.int (at0:Int)),none,none,none,none,none,none,none,none,none] H:=by
 refine⟨_,rfl,(by show 1≤sizeLine;decide),fun bg hbg=> ?_⟩;have s1:=Zak.nw (o:=.lst [.int hd]) (Zak.refl H) hbg;have b1:Bg (upd H bg (.lst [.int hd])) bg:=⟨hd,Zad⟩;generalize upd H bg (.lst [.int hd])=H1 at s1 b1⊢;refine⟨(by show 8≤sizeLine;decide),fun l1 hl1=> ?_⟩;have n1:=b1.ne hl1;have s2:=Zak.nw (o:=.lst [.int 1,.int 2,.int 3,.int 1,.int 2,.int 3,.int 5,.int 24]) (Zak.refl H1) hl1;have f2:(upd H1 l1 (.lst [.int 1,.int 2,.int 3,.int 1,.int 2,.int 3,.int 5,.int 24])) l1=some (.lst [.int 1,.int 2,.int 3,.int 1,.int 2,.int 3,.int 5,.int 24]):=Zad;generalize upd H1 l1 (.lst [.int 1,.int 2,.int 3,.int 1,.int 2,.int 3,.int 5,.int 24])=H2 at s2 f2⊢;refine⟨_,rfl,bg,8,rfl,b1.same s2,by decide,by decide,fun r H3 r0 r1 b3 u3 _=> ?_⟩;obtain⟨wd,e,w1,w2⟩:=Zod r0 r1;refine⟨l1,_,_,_,rfl,rfl,SqL.of (u3 _ _ f2 n1),e,?_⟩;have s3:Zak H H3:=(s1.trans s2).bu hbg u3;refine⟨_,_,rfl,rfl,⟨by decide,by decide,by decide⟩,(by show 4≤sizeLine;decide),fun l2 hl2=> ?_⟩;have n2:=b3.ne hl2;have s4:=Zak.nw (o:=.lst [.int 7,.int 7,.int 4,.int (10^(30:Int).toNat)]) (Zak.refl H3) hl2;have f4:(upd H3 l2 (.lst [.int 7,.int 7,.int 4,.int (10^(30:Int).toNat)])) l2=some (.lst [.int 7,.int 7,.int 4,.int (10^(30:Int).toNat)]):=Zad;change ZaF Za0 [] E0 _ _ (upd H3 l2 (.lst [.int 7,.int 7,.int 4,.int (10^(30:Int).toNat)])) _;generalize upd H3 l2 (.lst [.int 7,.int 7,.int 4,.int (10^(30:Int).toNat)])=H4 at s4 f4⊢;refine⟨_,rfl,bg,4,rfl,b3.same s4,by decide,by decide,fun r' H5 r0' r1' b5 u5 _=> ?_⟩;obtain⟨hi,e',hi0,hi1⟩:=Zoe r0' r1';refine⟨l2,_,_,_,rfl,rfl,SqL.of (u5 _ _ f4 n2),e',?_⟩;have s5:Zak H H5:=(s3.trans s4).bu hbg u5;refine⟨_,rfl,_,rfl,(wd:Int),rfl,by omega,by omega,?_⟩;rw[QbZ];refine ZoZ (n:=wd) (fun i zs H'=>zs=(List.replicate i (1:Int)).map V.int∧H'=H5) ⟨rfl,rfl⟩ (by omega) (fun i zs H' h=>by rw[h.1,Qac,Qbc];exact Qal _) ?_ ?_
 ·rintro i zs H' pre qu hi' ⟨rfl,rfl⟩;rcases pre with _|⟨p0,_|⟨p1,pre⟩⟩
  ·cases qu
  ·refine⟨⟨[some _],rfl,rfl⟩,?_⟩;unfold Ze3;dsimp only;rw[if_pos (rfl:true=true)];exact⟨by rw[List.replicate_succ',Qaw];rfl,rfl⟩
  ·cases qu
 ·rintro zs H' ⟨rfl,rfl⟩ D hD;refine⟨D,_,rfl,.inl ⟨SqL.of Zad,fun wq hwq=> ?_⟩⟩;have s6:=Zak.nw (o:=.lst ((List.replicate wd (1:Int)).map V.int)) (Zak.refl H') hD;generalize upd H' D (.lst ((List.replicate wd (1:Int)).map V.int))=H6 at s6 hwq⊢;have s7:=Zak.nw (o:=.tup ((List.replicate wd (1:Int)).map V.int)) (Zak.refl H6) hwq;have f7:(upd H6 wq (.tup ((List.replicate wd (1:Int)).map V.int))) wq=some (.tup ((List.replicate wd (1:Int)).map V.int)):=Zad;generalize upd H6 wq (.tup ((List.replicate wd (1:Int)).map V.int))=H7 at s7 f7⊢;refine⟨(by show 2≤sizeLine;decide),fun t ht=> ?_⟩;have s8:=Zak.nw (o:=.tup [.int n,.ref wq]) (Zak.refl H7) ht;have f8:(upd H7 t (.tup [.int n,.ref wq])) t=some (.tup [.int n,.ref wq]):=Zad;generalize upd H7 t (.tup [.int n,.ref wq])=H8 at s8 f8⊢;refine⟨(by show 1≤sizeLine;decide),fun pc hpc=> ?_⟩;have b8:=b5.same (s6.trans (s7.trans s8));have npb:=b8.ne hpc;have s9:=Zak.nw (o:=.lst [.ref t]) (Zak.refl H8) hpc;have f9:(upd H8 pc (.lst [.ref t])) pc=some (.lst [.ref t]):=Zad;generalize upd H8 pc (.lst [.ref t])=H9 at s9 f9⊢;refine ZgZ (P:=[(n,List.replicate wd (1:Int))]) hS (s5.trans (s6.trans (s7.trans (s8.trans s9)))) hbg (b8.same s9) f9 npb ((Wg.nil H9).snoc ⟨t,wq,rfl,s9 _ _ f8,(s8.trans s9) _ _ f7⟩) rfl (by rw[Zat,Zaw];exact Qbe _) (fun e he=>by rw[Qan.mp he];exact⟨hn0,Qbc,fun z hz=>by rw[(List.mem_replicate.mp hz).2];decide⟩) w1 w2 hi0 hi1 hn1 k
def Zht (n:Int)(p:PR):Prop:=0≤p.1∧p.1≤p.2.1∧1≤p.2.2.1∧p.2.1+p.2.2.1≤n
def ZhM (K:PySem.W.Frag):Sp:=fun vs H Q _=>∃(n hd:Int) (a:Addr) (ns:List Int) (at0:Nat),vs=[.int n,.int hd,.ref a,.int (at0:Int)]∧SqL K H a (ns.map V.int)∧1≤n∧∀(p:Addr) (pr:PR) (H':Hp),H p=none→H' p=some (.tup (pV pr))→Zht n pr→Zak H H'→Q (.ref p) H'
def ZiU (K:PySem.W.Frag):TS:=(ZaP (ZcP (tOr (Za3 (tOp rEq (Zah 5) (tC (V.int 2)))) (Za3 (tOp rEq (Zah 5) (tC (V.int 3))))) (ZaY (tOp (rI0 fun i j=>V.int (i-j)) (Zah 0) (Zah 6)) (Zan 8)) Zbv) (ZbY (ZdM (Zaa (tCB (fun xs H Q=>∃i j,xs=[V.int i,V.int j]∧Q (V.int (if j<i then j else i)) H) (Zaa (Zah 7) (Zaa (Zah 8) Zau))) (Zaa (tCB (fun xs H Q=>∃i j,xs=[V.int i,V.int j]∧Q (V.int (if j>i then j else i)) H) (Zaa (Zah 7) (Zaa (Zah 8) Zau))) (Zaa (Zah 6) (Zaa (tOp rEq (ZaF Za0 [] E0 (Zaa (Zah 4) (Zaa (tC (V.int 2)) Zau))) (tC (V.int 1))) Zau)))))))
def Znw (K:PySem.W.Frag):TS:=(ZaP (ZaY (tOp (rI (fun x j=>0<j) fun i j=>V.int (i%j)) (ZaF (Zc4 K) [] E0 (Zaa (Zah 2) (Zaa (tOp (rI0 fun i j=>V.int (i+j)) (Zah 3) (tC (V.int 1))) Zau))) (tOp (rI0 fun i j=>V.int (i+j)) (tOp (rI0 fun i j=>V.int (i-j)) (Zah 0) (Zah 6)) (tC (V.int 1)))) (Zan 7)) (ZaP (ZaY (tOp (rI (fun x j=>0<j) fun i j=>V.int (i%j)) (ZaF (Zc4 K) [] E0 (Zaa (Zah 2) (Zaa (tOp (rI0 fun i j=>V.int (i+j)) (Zah 3) (tC (V.int 2))) Zau))) (tOp (rI0 fun i j=>V.int (i+j)) (tOp (rI0 fun i j=>V.int (i-j)) (Zah 0) (Zah 6)) (tC (V.int 1)))) (Zan 8)) (ZaP (ZcP (tOr (Za3 (tOp rEq (Zah 5) (tC (V.int 1)))) (Za3 (tOp rEq (Zah 5) (tC (V.int 4))))) (ZaY (tCB (fun xs H Q=>∃i j,xs=[V.int i,V.int j]∧Q (V.int (if j<i then j else i)) H) (Zaa (tOp (rI0 fun i j=>V.int (i-j)) (Zah 0) (Zah 6)) (Zaa (tOp (rI0 fun i j=>V.int (i+j)) (tOp (rI0 fun i j=>V.int (i+j)) (Zah 7) (tC (V.int 1))) (tOp (rI (fun x j=>0<j) fun i j=>V.int (i%j)) (Zah 8) (Zah 6))) Zau))) (Zan 8)) Zbv) (ZiU K))))
def Zpu (K:PySem.W.Frag):TS:=ZaP (ZaY (ZcK (Zaa (Zah 1) Zau)) (Zan 4)) (ZaP (ZaY (ZaF Za0 [] E0 (Zaa (Zah 4) (Zaa (tC (V.int 8)) Zau))) (Zan 5)) (ZaP (ZaY (tOp (rI0 fun i j=>V.int (i+j)) (tC (V.int 1)) (tOp (rI (fun x j=>0<j) fun i j=>V.int (i%j)) (ZaF (Zc4 K) [] E0 (Zaa (Zah 2) (Zaa (Zah 3) Zau))) (tOp (ZdA K) (ZcK (Zaa (Zah 0) (Zaa (Zah 0) (Zaa (Zah 0) (Zaa (tCB (fun xs H Q=>∃i j,xs=[V.int i,V.int j]∧Q (V.int (if j>i then j else i)) H) (Zaa (tC (V.int 1)) (Zaa (tOp (rI ZcJ fun i j=>V.int (i/j)) (Zah 0) (tC (V.int 2))) Zau))) (Zaa (tCB (fun xs H Q=>∃i j,xs=[V.int i,V.int j]∧Q (V.int (if j>i then j else i)) H) (Zaa (tC (V.int 1)) (Zaa (tOp (rI ZcJ fun i j=>V.int (i/j)) (Zah 0) (tC (V.int 3))) Zau))) (Zaa (tCB (fun xs H Q=>∃i j,xs=[V.int i,V.int j]∧Q (V.int (if j<i then j else i)) H) (Zaa (Zah 0) (Zaa (tC (V.int 4)) Zau))) (Zaa (Zah 0) (Zaa (tCB (fun xs H Q=>∃i j,xs=[V.int i,V.int j]∧Q (V.int (if j<i then j else i)) H) (Zaa (Zah 0) (Zaa (tC (V.int 2)) Zau))) Zau))))))))) (Zah 5)))) (Zan 6)) (Znw K)))
theorem ZmF (hn:1≤n)(h0:0≤r)(h1:r<8):∃z:Int,atI [V.int n,V.int n,V.int n,V.int (if n/2>1 then n/2 else 1),V.int (if n/3>1 then n/3 else 1),V.int (if(4:Int)<n then 4 else n),V.int n,V.int (if(2:Int)<n then 2 else n)] r=some (.int z)∧1≤z∧z≤n:=by
 have hc:r=0∨r=1∨r=2∨r=3∨r=4∨r=5∨r=6∨r=7:=by omega
 rcases hc with rfl|rfl|rfl|rfl|rfl|rfl|rfl|rfl
 ·exact⟨_,rfl,hn,QaX _⟩
 ·exact⟨_,rfl,hn,QaX _⟩
 ·exact⟨_,rfl,hn,QaX _⟩
 ·exact⟨_,rfl,by split<;>omega,by split<;>omega⟩
 ·exact⟨_,rfl,by split<;>omega,by split<;>omega⟩
 ·exact⟨_,rfl,by split<;>omega,by split<;>omega⟩
 ·exact⟨_,rfl,hn,QaX _⟩
 ·exact⟨_,rfl,by split<;>omega,by split<;>omega⟩
theorem Zqi :ZcJ i 3:=⟨by decide,ZdK (m:=3) (by decide) (by decide)⟩
theorem Zqj :ZcJ i 2:=⟨by decide,ZdK (m:=2) (by decide) (by decide)⟩
theorem ZhN {K:PySem.W.Frag}{one oth:Int}{x1 x2 x3:Option V}(s0:Zak H0 H)(hf:H0 bg=none)(hb:Bg H bg)(l1:1≤lg)(l2:lg≤n)(o1:0≤one)(o2:one≤n-lg)(p1:0≤oth)(p2:oth≤n-lg)
  (k:∀(p:Addr) (pr:PR) (H':Hp),H0 p=none→H' p=some (.tup (pV pr))→Zht n pr→Zak H0 H'→Q (.ref p) H'):
  ZiU K {nx:=Z,rt:=Q } [some (.int n),x1,x2,x3,some (.ref bg),some (.int wy),some (.int lg),some (.int one),some (.int oth)] H:=by
 have fin:∀oth:Int,0≤oth→oth≤n-lg→(ZbY (ZdM (Zaa (tCB (fun xs H Q=>∃i j,xs=[V.int i,V.int j]∧Q (V.int (if j<i then j else i)) H) (Zaa (Zah 7) (Zaa (Zah 8) Zau))) (Zaa (tCB (fun xs H Q=>∃i j,xs=[V.int i,V.int j]∧Q (V.int (if j>i then j else i)) H) (Zaa (Zah 7) (Zaa (Zah 8) Zau))) (Zaa (Zah 6) (Zaa (tOp rEq (ZaF Za0 [] E0 (Zaa (Zah 4) (Zaa (tC (V.int 2)) Zau))) (tC (V.int 1))) Zau)))))) {nx:=Z,rt:=Q } [some (.int n),x1,x2,x3,some (.ref bg),some (.int wy),some (.int lg),some (.int one),some (.int oth)] H:=fun oth p1 p2=>by
  refine⟨_,rfl,_,rfl,_,_,rfl,_,rfl,_,rfl,_,_,rfl,_,rfl,_,rfl,bg,2,rfl,hb,by decide,by decide,fun r H1 _ _ b1 u1 _=>⟨rfl,(by show 4≤sizeLine;decide),fun p hp=> ?_⟩⟩;have s1:Zak H0 H1:=s0.bu hf u1;refine k p (if oth<one then oth else one,if oth>one then oth else one,lg,decide (V.int r=V.int 1)) _ (s1.free hp) Zad ⟨?_,?_,l1,?_⟩ (Zak.nw s1 hp)
  ·show 0≤if oth<one then oth else one;split<;>omega
  ·show(if oth<one then oth else one)≤if oth>one then oth else one;split<;>split<;>omega
  ·show(if oth>one then oth else one)+lg≤n;split<;>omega
 refine⟨_,rfl,rfl,_,rfl,Zda (fun _=>Zc7 ⟨_,rfl,_,rfl,_,_,rfl,rfl,fin _ (by omega) (by omega)⟩) (fun _=>⟨_,rfl,rfl,_,rfl,Zda (fun _=>⟨_,rfl,_,rfl,_,_,rfl,rfl,fin _ (by omega) (by omega)⟩) (fun _=>fin _ p1 p2)⟩)⟩
theorem ZhO {K:PySem.W.Frag}{H3:Hp}(hS:SqL K H a (ns.map V.int))(s3:Zak H H3)(hbg:H bg=none)(b3:Bg H3 bg)(l1:1≤lg)(l2:lg≤n)
  (k:∀(p:Addr) (pr:PR) (H':Hp),H p=none→H' p=some (.tup (pV pr))→Zht n pr→Zak H H'→Q (.ref p) H'):
  Znw K {nx:=Z,rt:=Q } [some (.int n),some (.int hd),some (.ref a),some (.int (at0:Int)),some (.ref bg),some (.int wy),some (.int lg),none,none] H3:=by
 refine⟨_,rfl,_,rfl,_,_,rfl,rfl,a,ns,at0+1,rfl,s3.seq hS,fun g1 hg1=>⟨_,rfl,_,rfl,_,_,rfl,rfl,_,_,rfl,rfl,_,_,rfl,rfl,(by show 0<n-lg+1;omega),?_⟩⟩;refine⟨_,rfl,_,rfl,_,_,rfl,rfl,a,ns,at0+2,rfl,s3.seq hS,fun g2 hg2=>⟨_,rfl,_,rfl,_,_,rfl,rfl,_,_,rfl,rfl,_,_,rfl,rfl,(by show 0<n-lg+1;omega),?_⟩⟩;have i0:=QaT g1 (show n-lg+1≠0 by omega);have i1:=QaU g1 (show 0<n-lg+1 by omega);have j0:=QaT g2 (show n-lg+1≠0 by omega);have j1:=QaU g2 (show 0<n-lg+1 by omega);have q0:=QaT (g2%(n-lg+1)) (show lg≠0 by omega);have fin:∀oth:Int,0≤oth→oth≤n-lg→ZiU K {nx:=Z,rt:=Q } [some (.int n),some (.int hd),some (.ref a),some (.int (at0:Int)),some (.ref bg),some (.int wy),some (.int lg),some (.int (g1%(n-lg+1))),some (.int oth)] H3:=fun oth p1 p2=>ZhN s3 hbg b3 l1 l2 i0 (by omega) p1 p2 k
 have asg:∀D:Zgk,D={nx:=ZiU K {nx:=Z,rt:=Q },rt:=Q }→(ZaY (tCB (fun xs H Q=>∃i j,xs=[V.int i,V.int j]∧Q (V.int (if j<i then j else i)) H) (Zaa (tOp (rI0 fun i j=>V.int (i-j)) (Zah 0) (Zah 6)) (Zaa (tOp (rI0 fun i j=>V.int (i+j)) (tOp (rI0 fun i j=>V.int (i+j)) (Zah 7) (tC (V.int 1))) (tOp (rI (fun x j=>0<j) fun i j=>V.int (i%j)) (Zah 8) (Zah 6))) Zau))) (Zan 8)) D [some (.int n),some (.int hd),some (.ref a),some (.int (at0:Int)),some (.ref bg),some (.int wy),some (.int lg),some (.int (g1%(n-lg+1))),some (.int (g2%(n-lg+1)))] H3:=fun D eD=>by
  subst eD;refine⟨_,rfl,_,rfl,_,_,rfl,rfl,_,rfl,_,_,rfl,rfl,_,rfl,_,rfl,_,_,rfl,rfl,(by show 0<lg;omega),_,_,rfl,rfl,_,_,rfl,fin _ ?_ ?_⟩
  ·split<;>omega
  ·split<;>omega
 refine⟨_,rfl,rfl,_,rfl,Zda (fun _=>Zc7 (asg _ rfl)) (fun _=>⟨_,rfl,rfl,_,rfl,Zda (fun _=>asg _ rfl) (fun _=>fin _ j0 (by omega))⟩)⟩
theorem ZhP {K:PySem.W.Frag}(hS:SqL K H a (ns.map V.int))(hn:1≤n)
  (k:∀(p:Addr) (pr:PR) (H':Hp),H p=none→H' p=some (.tup (pV pr))→Zht n pr→Zak H H'→Q (.ref p) H'):
  Zpu K {nx:=Z,rt:=Q } [some (.int n),some (.int hd),some (.ref a),some (.int (at0:Int)),none,none,none,none,none] H:=by
 refine⟨_,rfl,(by show 1≤sizeLine;decide),fun bg hbg=> ?_⟩;have s1:=Zak.nw (o:=.lst [.int hd]) (Zak.refl H) hbg;have b1:Bg (upd H bg (.lst [.int hd])) bg:=⟨hd,Zad⟩;generalize upd H bg (.lst [.int hd])=H1 at s1 b1⊢;refine⟨_,rfl,bg,8,rfl,b1,by decide,by decide,fun wy H2 r0 r1 b2 u2 _=> ?_⟩;have s2:Zak H H2:=s1.bu hbg u2;refine⟨_,rfl,_,rfl,a,ns,at0,rfl,s2.seq hS,fun g0 hg0=> ?_⟩;obtain⟨z,ez,z1,z2⟩:=ZmF hn r0 r1;refine⟨_,rfl,_,rfl,_,rfl,_,rfl,_,_,rfl,rfl,Zqj,_,_,rfl,_,rfl,_,_,rfl,rfl,Zqi,_,_,rfl,_,rfl,_,_,rfl,_,rfl,_,rfl,_,_,rfl,(by show 8≤sizeLine;decide),fun l hl=>⟨_,rfl,l,_,_,_,rfl,rfl,SqL.of Zad,ez,_,_,rfl,rfl,(by show 0<z;omega),_,_,rfl,rfl,ZhO (lg:=1+g0%z) hS (Zak.nw s2 hl) hbg (b2.same (Zak.nw (Zak.refl H2) hl)) (by have:=QaT g0 (show z≠0 by omega);omega) (by have:=QaU g0 (show 0<z by omega);omega) k⟩⟩
structure ZpW (n:Int)(ps:List PR)(L:WL2):Prop where
 n0:0≤n
 n1:n<10^60
 len:ps.length≤62
 pr:∀p∈ps,Zht n p
 w:WOk n L
def ZhQ (K:PySem.W.Frag):Sp:=fun vs H Q _=>∃(a:Addr) (ns:List Int) (at0:Nat),vs=[.ref a,.int (at0:Int)]∧SqL K H a (ns.map V.int)∧∀(c pa pb:Addr) (n:Int) (ps:List PR) (L:WL2) (ya yb:List V) (H':Hp),Zak H H'→H c=none→H pa=none→H pb=none→pa≠pb→ZaU H' c pa pb n ps L ya yb→ZpW n ps L→Q (.ref c) H'
def Zlc (K:PySem.W.Frag):TS:=(ZaP (ZaY (ZaF (Zf2 K) [] E0 (Zaa (Zah 4) (Zaa (ZaF Za0 [] E0 (Zaa (Zah 2) (Zaa (tC (V.int 1000)) Zau))) (Zaa (Zah 0) (Zaa (tOp (rI0 fun i j=>V.int (i+j)) (Zah 1) (tC (V.int 2))) Zau))))) (Zan 6)) (ZaP (ZaY (ZcK Zau) (Zan 7)) (ZaP (Ze5 (ZfE (Zaa (tOp (rI Zit fun i j=>V.int (i*j)) (Zah 5) (tCB (fun xs H Q=>(∃i,xs=[V.int i]∧Q (V.int i) H)∨∃k,xs=[V.bl k]∧Q (V.int (if k=true then 1 else 0)) H) (Zaa (tOp (rI0 fun i j=>V.bl (decide (j<i))) (Zah 4) (tC (V.int 0))) Zau))) Zau)) (Zan 8) (ZcI (tBM K "list" Zcc (Zah 7) (Zaa (ZaF (ZhM K) [] E0 (Zaa (Zah 4) (Zaa (ZaF Za0 [] E0 (Zaa (Zah 2) (Zaa (tC (V.int 16)) Zau))) (Zaa (Zah 0) (Zaa (tOp (rI0 fun i j=>V.int (i+j)) (tOp (rI0 fun i j=>V.int (i+j)) (Zah 1) (tC (V.int 8))) (tOp (rI (fun x j=>0<j) fun i j=>V.int (i%j)) (tOp (rI Zit fun i j=>V.int (i*j)) (Zah 8) (tC (V.int 3))) (tC (V.int 29)))) Zau))))) Zau)))) (ZbY (ZdM (Zaa (Zah 4) (Zaa (Zah 7) (Zaa (Zah 6) Zau))))))))
theorem ZeO {K:PySem.W.Frag}{x3:Option V}(hS:SqL K H a (ns.map V.int))(s1:Zak H H1)(hbg:H bg=none)(b1:Bg H1 bg)(n0:0≤n)(n1:n<10^60)(m0:0≤qw)(m1:qw≤62)
  (k:∀(c pa pb:Addr) (n:Int) (ps:List PR) (L:WL2) (ya yb:List V) (H':Hp),Zak H H'→H c=none→H pa=none→H pb=none→pa≠pb→ZaU H' c pa pb n ps L ya yb→ZpW n ps L→Q (.ref c) H'):
  Zlc K {nx:=Z,rt:=Q } [some (.ref a),some (.int (at0:Int)),some (.ref bg),x3,some (.int n),some (.int qw),none,none,none] H1:=by
 refine⟨_,rfl,_,rfl,bg,1000,rfl,b1,by decide,by decide,fun hd H2 _ _ b2 u2 _=> ?_⟩;have s2:Zak H H2:=s1.bu hbg u2;refine⟨_,rfl,_,rfl,_,_,rfl,rfl,n,hd,a,ns,at0+2,rfl,s2.seq hS,n0,by omega,fun wb yb L H3 e1 e2 e3 e4 s3=> ?_⟩;have fwb:=s2.free e1;have b3:=b2.same s3;have nwb:wb≠bg:=b2.ne e1;have s03:=s2.trans s3;refine⟨(by show 0≤sizeLine;decide),fun la hla=> ?_⟩;have fla:=s03.free hla;have nlb:la≠bg:=b3.ne hla;have nlw:wb≠la:=Zav e2 hla;have s4:=Zak.nw (o:=.lst []) (Zak.refl H3) hla;have f4:(upd H3 la (.lst [])) la=some (.lst []):=Zad;generalize upd H3 la (.lst [])=H4 at s4 f4⊢;refine⟨_,rfl,_,rfl,_,_,rfl,rfl,.inr ⟨_,rfl,_,_,rfl,rfl,.inl ⟨by omega,by omega⟩,?_⟩⟩
 have rb:0≤qw*(if decide (0<n)=true then 1 else 0)∧qw*(if decide (0<n)=true then 1 else 0)≤62∧(0<qw*(if decide (0<n)=true then 1 else 0)→0<n):=by
  by_cases hn:0<n
  ·rw[Qar hn,if_pos rfl,Qee];exact⟨m0,m1,fun _=>hn⟩
  ·rw[QaN hn,if_neg (by decide),Qd4];exact⟨by decide,by decide,fun z=>absurd z (by decide)⟩
 refine⟨_,rfl,by have:=rb.1;omega,by have:=rb.2.1;omega,?_⟩;generalize qw*(if decide (0<n)=true then 1 else 0)=M at rb⊢;obtain⟨M0,M1,M2⟩:=rb;refine ZcQ (n:=M.toNat) (fun j σ H'=>∃(x8:Option V) (zs:List V) (ps:List PR),σ=[some (.ref a),some (.int (at0:Int)),some (.ref bg),x3,some (.int n),some (.int qw),some (.ref wb),some (.ref la),x8]∧H' la=some (.lst zs)∧CpL H' zs (ps.map pV)∧ps.length=j∧(∀p∈ps,Zht n p)∧H' wb=some (.lst yb)∧Wg H' yb L∧Bg H' bg∧Zak H H') ⟨none,[],[],rfl,f4,⟨rfl,fun i y vs h1 h2=>by rw[List.getElem?_nil] at h1;cases h1⟩,rfl,(fun p hp=>by cases hp),s4 _ _ e2,e3.up s4.tups,b3.same s4,s03.trans s4⟩ ?_ ?_
 ·rintro j σ H5 hj ⟨x8,zs,ps,rfl,g1,g2,g3,g4,g5,g6,g7,s5⟩;have hn:1≤n:=by have:=M2 (by omega);omega
  refine⟨_,rfl,.inl ⟨rfl,_,SqL.of g1⟩,_,rfl,_,rfl,bg,16,rfl,g7,by decide,by decide,fun hd H6 _ _ b6 u6 _=> ?_⟩;have s6:Zak H H6:=s5.bu hbg u6;have t6:Zbd H5 H6:=fun b zs e=>u6 b _ e (fun z=>by obtain⟨m,g7⟩:=g7;rw[z,g7] at e;cases e)
  have ec:(at0:Int)+8+((0+(j:Int))*3) %29=((at0+8+(((0+(j:Int))*3) %29).toNat:Nat):Int):=by
   have:=QaT ((0+(j:Int))*3) (show(29:Int)≠0 by decide);omega
  refine⟨_,rfl,_,rfl,_,_,rfl,rfl,_,rfl,_,_,rfl,rfl,.inr ⟨by decide,by decide⟩,_,_,rfl,rfl,(by show(0:Int)<29;decide),_,_,rfl,rfl,n,hd,a,ns,at0+8+(((0+(j:Int))*3) %29).toNat,?_,s6.seq hS,hn,fun p pr H7 i1 i2 i3 s7=> ?_⟩
  ·show [V.int n,V.int hd,V.ref a,V.int ((at0:Int)+8+((0+(j:Int))*3) %29)]=_;rw[ec]
  have t7:=t6.trans s7.tups;have g1':=s7 _ _ (u6 _ _ g1 nlb);have T8:Zbd H7 (upd H7 la (.lst (zs++ [.ref p]))):=(Zbd.refl _).lst g1';refine⟨la,zs,_,rfl,rfl,g1',Za7 (by rw[g2.1,Qac,g3];omega),?_⟩;refine⟨_,zs++ [.ref p],ps++ [pr],rfl,Zad,?_,by rw[Qae,g3];rfl,?_,?_,g6.up (t7.trans T8),?_,Zak.ow (s6.trans s7) fla⟩
  ·rw[Qaw];exact CpL.snoc ((g2.up t7).up T8) (T8 _ _ i2)
  ·intro q hq;rcases Qaz.mp hq with hq|hq
   ·exact g4 q hq
   ·rw[Qan.mp hq];exact i3
  ·rw[Zax nlw];exact s7 _ _ (u6 _ _ g5 nwb)
  ·obtain⟨m,hm⟩:=b6;exact⟨m,by rw[Zax (Ne.symm nlb)];exact s7 _ _ hm⟩
 ·rintro σ H5 ⟨x8,zs,ps,rfl,g1,g2,g3,g4,g5,g6,g7,s5⟩;refine⟨_,rfl,_,rfl,_,rfl,(by show 3≤sizeLine;decide),fun c hc=> ?_⟩;have s6:=Zak.nw (o:=.tup [.int n,.ref la,.ref wb]) (Zak.refl H5) hc;exact k c la wb n ps L zs yb _ (s5.trans s6) (s5.free hc) fla fwb (Ne.symm nlw) ⟨Zad,s6 _ _ g1,g2.up s6.tups,s6 _ _ g5,g6.up s6.tups⟩ ⟨n0,n1,by omega,g4,e4⟩
def Zld (K:PySem.W.Frag):TS:=(ZaP (ZcP (Za3 (tOp rEq (ZaF Za0 [] E0 (Zaa (Zah 2) (Zaa (tC (V.int 8)) Zau))) (tC (V.int 5)))) (ZaY (tOp (rI0 fun i j=>V.int (i+j)) (tC (V.int 20)) (ZaF Za0 [] E0 (Zaa (Zah 2) (Zaa (tC (V.int 43)) Zau)))) (Zan 5)) Zbv) (ZaP (ZcP (Za3 (tOp (rI0 fun i j=>V.bl (decide (j<i))) (Zah 3) (tC (V.int 5)))) (ZaY (tOp (rI (fun x j=>0<j) fun i j=>V.int (i%j)) (Zah 5) (tC (V.int 6))) (Zan 5)) Zbv) (Zlc K)))
theorem ZhR {K:PySem.W.Frag}(hS:SqL K H a (ns.map V.int))(s1:Zak H H1)(hbg:H bg=none)(b1:Bg H1 bg)(n0:0≤n)(n1:n<10^60)(m0:0≤qw)(m1:qw≤62)
  (k:∀(c pa pb:Addr) (n:Int) (ps:List PR) (L:WL2) (ya yb:List V) (H':Hp),Zak H H'→H c=none→H pa=none→H pb=none→pa≠pb→ZaU H' c pa pb n ps L ya yb→ZpW n ps L→Q (.ref c) H'):
  Zld K {nx:=Z,rt:=Q } [some (.ref a),some (.int (at0:Int)),some (.ref bg),some (.int wy),some (.int n),some (.int qw),none,none,none] H1:=by
 have snd:∀(qw:Int) (H1:Hp),Zak H H1→Bg H1 bg→0≤qw→qw≤62→(ZaP (ZcP (Za3 (tOp (rI0 fun i j=>V.bl (decide (j<i))) (Zah 3) (tC (V.int 5)))) (ZaY (tOp (rI (fun x j=>0<j) fun i j=>V.int (i%j)) (Zah 5) (tC (V.int 6))) (Zan 5)) Zbv) (Zlc K)) {nx:=Z,rt:=Q } [some (.ref a),some (.int (at0:Int)),some (.ref bg),some (.int wy),some (.int n),some (.int qw),none,none,none] H1:=fun qw H1 s1 b1 m0 m1=>by
  refine⟨_,rfl,_,_,rfl,rfl,_,rfl,Zda (fun _=>⟨_,rfl,_,_,rfl,rfl,(by show(0:Int)<6;decide),ZeO hS s1 hbg b1 n0 n1 (QaT _ (by decide)) ?_ k⟩) (fun _=>ZeO hS s1 hbg b1 n0 n1 m0 m1 k)⟩
  have:=QaU qw (show(0:Int)<6 by decide);omega
 refine⟨_,rfl,bg,8,rfl,b1,by decide,by decide,fun r H2 _ _ b2 u2 _=>⟨rfl,_,rfl,Zda (fun _=> ?_) (fun _=>snd _ _ (s1.bu hbg u2) b2 m0 m1)⟩⟩;refine⟨_,rfl,bg,43,rfl,b2,by decide,by decide,fun r' H3 r0 r1 b3 u3 _=>⟨_,_,rfl,rfl,snd _ _ ((s1.bu hbg u2).bu hbg u3) b3 ?_ ?_⟩⟩
 ·omega
 ·omega
def Zpv (K:PySem.W.Frag):TS:=ZaP (ZaY (ZcK (Zaa (ZaF (Zc4 K) [] E0 (Zaa (Zah 0) (Zaa (Zah 1) Zau))) Zau)) (Zan 2)) (ZaP (ZaY (ZaF Za0 [] E0 (Zaa (Zah 2) (Zaa (tC (V.int 8)) Zau))) (Zan 3)) (ZaP (ZaY (tOp (rI (fun x j=>0<j) fun i j=>V.int (i%j)) (ZaF (Zc4 K) [] E0 (Zaa (Zah 0) (Zaa (tOp (rI0 fun i j=>V.int (i+j)) (Zah 1) (tC (V.int 1))) Zau))) (tOp (ZdA K) (ZcK (Zaa (tC (V.int 13)) (Zaa (tC (V.int 25)) (Zaa (tC (V.int 25)) (Zaa (tC (V.int 25)) (Zaa (tC (V.int 151)) (Zaa (tC (V.int 151)) (Zaa (tOp (rI ZoD fun i j=>V.int (i^j.toNat)) (tC (V.int 10)) (tC (V.int 20))) (Zaa (tOp (rI ZoD fun i j=>V.int (i^j.toNat)) (tC (V.int 10)) (tC (V.int 60))) Zau))))))))) (Zah 3))) (Zan 4)) (ZaP (ZaY (tOp (ZdA K) (ZcK (Zaa (ZaF Za0 [] E0 (Zaa (Zah 2) (Zaa (tC (V.int 5)) Zau))) (Zaa (ZaF Za0 [] E0 (Zaa (Zah 2) (Zaa (tC (V.int 9)) Zau))) (Zaa (tC (V.int 3)) (Zaa (ZaF Za0 [] E0 (Zaa (Zah 2) (Zaa (tC (V.int 17)) Zau))) Zau))))) (ZaF Za0 [] E0 (Zaa (Zah 2) (Zaa (tC (V.int 4)) Zau)))) (Zan 5)) (Zld K))))
theorem Zle (h0:0≤r)(h1:r<8):∃z:Int,atI [V.int 13,V.int 25,V.int 25,V.int 25,V.int 151,V.int 151,V.int (10^(20:Int).toNat),V.int (10^(60:Int).toNat)] r=some (.int z)∧0<z∧z≤10^60:=by
 have hc:r=0∨r=1∨r=2∨r=3∨r=4∨r=5∨r=6∨r=7:=by omega
 rcases hc with rfl|rfl|rfl|rfl|rfl|rfl|rfl|rfl
 all_goals exact⟨_,rfl,by decide,by decide⟩
theorem ZmG {a c:Int}(h0:0≤r)(h1:r<4)(a0:0≤a)(a1:a<5)(b0:0≤b)(b1:b<9)(c0:0≤c)(c1:c<17):∃z:Int,atI [V.int a,V.int b,V.int 3,V.int c] r=some (.int z)∧0≤z∧z≤62:=by
 have hc:r=0∨r=1∨r=2∨r=3:=by omega
 rcases hc with rfl|rfl|rfl|rfl
 all_goals exact⟨_,rfl,by omega,by omega⟩
theorem ZhS {K:PySem.W.Frag}(hS:SqL K H a (ns.map V.int))
  (k:∀(c pa pb:Addr) (n:Int) (ps:List PR) (L:WL2) (ya yb:List V) (H':Hp),Zak H H'→H c=none→H pa=none→H pb=none→pa≠pb→ZaU H' c pa pb n ps L ya yb→ZpW n ps L→Q (.ref c) H'):
  Zpv K {nx:=Z,rt:=Q } [some (.ref a),some (.int (at0:Int)),none,none,none,none,none,none,none] H:=by
 refine⟨_,rfl,_,rfl,a,ns,at0,rfl,hS,fun big _=>⟨(by show 1≤sizeLine;decide),fun bg hbg=> ?_⟩⟩;have s1:=Zak.nw (o:=.lst [.int big]) (Zak.refl H) hbg;have b1:Bg (upd H bg (.lst [.int big])) bg:=⟨big,Zad⟩;generalize upd H bg (.lst [.int big])=H1 at s1 b1⊢;refine⟨_,rfl,bg,8,rfl,b1,by decide,by decide,fun wy H2 w0 w1 b2 u2 _=> ?_⟩;have s2:Zak H H2:=s1.bu hbg u2;obtain⟨z,ez,z0,z1⟩:=Zle w0 w1;refine⟨_,rfl,_,rfl,_,_,rfl,rfl,a,ns,at0+1,rfl,s2.seq hS,fun g0 _=>⟨_,_,rfl,rfl,⟨by decide,by decide,by decide⟩,_,_,rfl,rfl,⟨by decide,by decide,by decide⟩,(by show 8≤sizeLine;decide),fun l hl=>⟨_,rfl,l,_,_,_,rfl,rfl,SqL.of Zad,ez,_,_,rfl,rfl,z0,?_⟩⟩⟩
 have key:∀H3,Zak H2 H3→(ZaP (ZaY (tOp (ZdA K) (ZcK (Zaa (ZaF Za0 [] E0 (Zaa (Zah 2) (Zaa (tC (V.int 5)) Zau))) (Zaa (ZaF Za0 [] E0 (Zaa (Zah 2) (Zaa (tC (V.int 9)) Zau))) (Zaa (tC (V.int 3)) (Zaa (ZaF Za0 [] E0 (Zaa (Zah 2) (Zaa (tC (V.int 17)) Zau))) Zau))))) (ZaF Za0 [] E0 (Zaa (Zah 2) (Zaa (tC (V.int 4)) Zau)))) (Zan 5)) (Zld K)) {nx:=Z,rt:=Q } [some (.ref a),some (.int (at0:Int)),some (.ref bg),some (.int wy),some (.int (g0%z)),none,none,none,none] H3:=fun H3 s3=>by
  have b3:=b2.same s3;have s03:=s2.trans s3;refine⟨_,rfl,bg,5,rfl,b3,by decide,by decide,fun r5 H4 p0 p1 b4 u4 _=> ?_⟩;refine⟨_,rfl,bg,9,rfl,b4,by decide,by decide,fun r9 H5 q0 q1 b5 u5 _=> ?_⟩;refine⟨_,rfl,bg,17,rfl,b5,by decide,by decide,fun r17 H6 t0 t1 b6 u6 _=>⟨(by show 4≤sizeLine;decide),fun l hl=> ?_⟩⟩;have s6:Zak H H6:=((s03.bu hbg u4).bu hbg u5).bu hbg u6;have nl:=b6.ne hl;have s7:=Zak.nw (o:=.lst [.int r5,.int r9,.int 3,.int r17]) (Zak.refl H6) hl;have f7:(upd H6 l (.lst [.int r5,.int r9,.int 3,.int r17])) l=some (.lst [.int r5,.int r9,.int 3,.int r17]):=Zad;generalize upd H6 l (.lst [.int r5,.int r9,.int 3,.int r17])=H7 at s7 f7⊢;refine⟨_,rfl,bg,4,rfl,b6.same s7,by decide,by decide,fun r4 H8 v0 v1 b8 u8 _=> ?_⟩;obtain⟨m,em,m0,m1⟩:=ZmG v0 v1 p0 p1 q0 q1 t0 t1;refine⟨l,_,_,_,rfl,rfl,SqL.of (u8 _ _ f7 nl),em,?_⟩;have h0:=QaT g0 (show z≠0 by omega);have h1:=QaU g0 z0;exact ZhR hS ((s6.trans s7).bu hbg u8) hbg b8 h0 (by omega) m0 m1 k
 exact key _ (Zak.nw (Zak.refl H2) hl)
def ZiV:V→List V→Hp→VK→Prop:=fun x vs H Q=>∃l b xs zs,x= .ref l∧vs=[.ref b]∧H l=some (.lst xs)∧H b=some (.tup zs)∧xs.length+zs.length≤sizeLine∧Q .non (upd H l (.lst (xs++zs)))
theorem ZjC (l:Addr)(qk:Array Value)(n:Nat)(b:Addr)(jt:Array Value)(n2:Nat)(o:Obj)(oc:o.cls= .type "tuple")(od:o.data= .seq jt n2)(hs0:¬(!qk.isEmpty && Builtin.List.listTooLong (qk.size+jt.size))=true)(hs1:qk.size≤sizeLine)(hs2:qk.size+jt.size≤sizeLine+1):
  Meets (Builtin.«list.extend» ⟨[.ref l,.ref b],[]⟩) (fun _ R s=>s.heap.get? l=some {cls:=.type "list",dict:=none,data:=.seq qk n,slots:=#[] }∧s.heap.get? b=some o∧R (.ok (.ret Value.none)) {s with heap:=s.heap.update l (Obj.mapSeq fun x=>x++jt),toks:=s.toks }):=
 .of_wp fun prog w A R s h=>by
  obtain⟨hp,g,d,tk,os⟩:=s;obtain⟨hl,hb,h⟩:=h;obtain⟨cls,dict,data,slots⟩:=o;cases oc;cases od;have f1:=AutoSeq1.idx_int;have f2:=AutoSeq1.sub_tuple_tuple;have f3:=AutoSeq1.sub_list_list;have f4:=AutoSeq1.sub_tuple_list;have f5:=AutoSeq1.sub_list_tuple;have hz':(qk++jt).size≤sizeLine+1:=by rw[Array.size_append];exact hs2
  wp_walk using(Qd2 hl rfl (hz:=hs1) (_hz':=hz')),Qdx hl,Qdx hb
  exact⟨_,rfl,h⟩
theorem ZjD :MtM X "list.extend" ZiV:=by
 intro qa s σ H x vs v us Q I rx rv h;obtain⟨l,b,xs,zs,rfl,rfl,hH,hB,hz,q⟩:=h;cases rx;obtain⟨u,rfl,ru⟩:=rv.one;cases ru;obtain⟨z,its,n,r,hl,e⟩:=I.lstM hH;obtain⟨z2,its2,r2,o2,e2,oc,n2,od⟩:=I.hok b _ hB;have hl2:=r2.length;have hsz:its.toArray.size+its2.toArray.size≤sizeLine:=by rw[Qat,Qat];omega
 have hlong:¬(!its.toArray.isEmpty && Builtin.List.listTooLong (its.toArray.size+its2.toArray.size))=true:=by
  rw[Ziw hsz,Bool.and_false];exact QaB
 refine call_meets F.slot_list_extend ⟨_,e,rfl⟩ F.entry_list_extend (F.args_list_extend_2 _ _)
  (ZjC l its.toArray n b its2.toArray n2 o2 oc od hlong (by rw[Qat];omega) (by omega)) ⟨e,e2,?_⟩
 refine⟨.non,_,I.lset (its':=its++its2) hH e (by simp) (r.append r2) ?_,rfl,q⟩;rw[Qae];omega
def ZjE:Sp:=fun vs H Q _=>∃i:Int,vs=[.int i]∧Q (.bl true) H
def ZqQ (K:PySem.W.Frag):TS:=ZbY (ZdZ (tCB (fun xs H Q=>∃x t b,xs=[x,V.ty "int"]∧Zdw K H x t∧W.kitOne K t (Value.type "int")=some b∧Q (V.bl b) H) (Zaa (Zah 0) (Zaa (tC (V.ty "int")) Zau))) (Zl7 (tCB (fun xs H Q=>∃x t b,xs=[x,V.ty "bool"]∧Zdw K H x t∧W.kitOne K t (Value.type "bool")=some b∧Q (V.bl b) H) (Zaa (Zah 0) (Zaa (tC (V.ty "bool")) Zau)))))
theorem Zg0 {K:PySem.W.Frag}(k:Q (.bl true) H):ZqQ K {nx:=Z,rt:=Q } [some (.int i)] H:=
 ⟨_,rfl,V.int i,_,_,rfl,.int _,ZoY,_,rfl,Zc7 ⟨_,rfl,V.int i,_,_,rfl,.int _,ZoW,_,rfl,k⟩⟩
def Zpw:TS:=ZbY (ZdZ (ZaF ZjE [] E0 (Zaa (Zah 0) Zau)) (tOp (rI0 fun i j=>V.bl (decide (j≤i))) (Zah 0) (Zah 1)))
theorem ZhT {l:Int}(k:Q (.bl (decide (l≤i))) H):Zpw {nx:=Z,rt:=Q } [some (.int i),some (.int l)] H:=
 ⟨_,rfl,i,rfl,_,rfl,Zc7 ⟨_,rfl,_,rfl,_,_,rfl,rfl,k⟩⟩
structure OOk (o:Out):Prop where
 np:o.2.1.length≤100
 nw:o.2.2.1.length≤17
 ww:∀e∈o.2.2.1,e.2.length≤24
 ns:o.2.2.2.length≤9
 ws:∀e∈o.2.2.2,e.1.length≤24
def Zqk:Sp:=fun vs H Q _=>∃(c a pa pb pc:Addr) (o:Out) (ya yb yc:List V),vs=[.ref c]∧ZbM H c a pa pb pc o ya yb yc∧OOk o∧∀H',Zak H H'→Q (.bl true) H'
def Zqz (K:PySem.W.Frag):TS:=(ZbY (tCB (fun xs H_1 Q=>∃p bs,xs=[V.ref p]∧SqL K H_1 p (List.map V.bl bs)∧Q (V.bl (bs.all id)) H_1) (Zaa (ZbT 1 (Zci K (Zah 1)) (Zan 0) Ze3 (ZaF ZjE [] E0 (Zaa (Zah 0) Zau))) Zau)))
def ZqA (K:PySem.W.Frag):TS:=(ZaP (Ze5 (Zci K (tOp (Zby K) (Zah 0) (tC (V.int 1)))) (Ze4 K 2 (Zbc (Zan 3) (Zbc (Zan 4) ZfD))) (ZcI (tBM K "list" ZfK (Zah 1) (Zaa (tOp Zfm (tCB (fun xs H_1 Q=>∃p ys,xs=[V.ref p]∧(SqL K H_1 p ys∨SqT K H_1 p ys)∧∀(l:Addr),H_1 l=none→Q (V.ref l) (upd H_1 l (HO.lst ys))) (Zaa (Zah 3) Zau)) (ZcK (Zaa (Zah 4) Zau))) Zau)))) (Zqz K))
def ZqB (K:PySem.W.Frag):TS:=(ZaP (Ze5 (Zci K (tOp (Zby K) (tOp (Zby K) (Zah 0) (tC (V.int 0))) (tC (V.int 2)))) (Ze4 K 2 (Zbc (Zan 3) (Zbc (Zan 4) ZfD))) (ZcI (tBM K "list" ZfK (Zah 1) (Zaa (tOp Zfm (tCB (fun xs H_1 Q=>∃p ys,xs=[V.ref p]∧(SqL K H_1 p ys∨SqT K H_1 p ys)∧∀(l:Addr),H_1 l=none→Q (V.ref l) (upd H_1 l (HO.lst ys))) (Zaa (Zah 4) Zau)) (ZcK (Zaa (Zah 3) Zau))) Zau)))) (ZqA K))
def ZqC (K:PySem.W.Frag):TS:=(ZaP (ZaY (ZcK (Zaa (tOp (Zby K) (tOp (Zby K) (Zah 0) (tC (V.int 0))) (tC (V.int 0))) Zau)) (Zan 1)) (ZaP (Ze5 (Zci K (tOp (Zby K) (tOp (Zby K) (Zah 0) (tC (V.int 0))) (tC (V.int 1)))) (Zan 2) (ZaP (ZcP (tOr (Zgl (tB (tCB (fun xs H Q=>∃x t b,xs=[x,V.ty "tuple"]∧Zdw K H x t∧W.kitOne K t (Value.type "tuple")=some b∧Q (V.bl b) H) (Zaa (Zah 2) (Zaa (tC (V.ty "tuple")) Zau))))) (tOr (Za3 (tOp rNe (tCB (fun xs H Q=>∃p ys,xs=[V.ref p]∧(SqL K H p ys∨SqT K H p ys)∧Q (V.int ys.length) H) (Zaa (Zah 2) Zau)) (tC (V.int 4)))) (Zgl (tB (tCB (fun xs H Q=>∃x t b,xs=[x,V.ty "bool"]∧Zdw K H x t∧W.kitOne K t (Value.type "bool")=some b∧Q (V.bl b) H) (Zaa (tOp (Zby K) (Zah 2) (tC (V.int 3))) (Zaa (tC (V.ty "bool")) Zau))))))) (ZbY (tC (V.bl false))) Zbv) (ZcI (tBM K "list" ZiV (Zah 1) (Zaa (tSl (ZoR K) (Zah 2) ZbZ (ZdG (tC (V.int 3)))) Zau))))) (ZqB K)))
def tTR (K:PySem.W.Frag):TS:=ZaP (ZcP (tOr (Zgl (tB (tCB (fun xs H Q=>∃x t b,xs=[x,V.ty "tuple"]∧Zdw K H x t∧W.kitOne K t (Value.type "tuple")=some b∧Q (V.bl b) H) (Zaa (Zah 0) (Zaa (tC (V.ty "tuple")) Zau))))) (tOr (Za3 (tOp rNe (tCB (fun xs H Q=>∃p ys,xs=[V.ref p]∧(SqL K H p ys∨SqT K H p ys)∧Q (V.int ys.length) H) (Zaa (Zah 0) Zau)) (tC (V.int 2)))) (tOr (Zgl (tB (tCB (fun xs H Q=>∃x t b,xs=[x,V.ty "tuple"]∧Zdw K H x t∧W.kitOne K t (Value.type "tuple")=some b∧Q (V.bl b) H) (Zaa (tOp (Zby K) (Zah 0) (tC (V.int 0))) (Zaa (tC (V.ty "tuple")) Zau))))) (Za3 (tOp rNe (tCB (fun xs H Q=>∃p ys,xs=[V.ref p]∧(SqL K H p ys∨SqT K H p ys)∧Q (V.int ys.length) H) (Zaa (tOp (Zby K) (Zah 0) (tC (V.int 0))) Zau)) (tC (V.int 3))))))) (ZbY (tC (V.bl false))) Zbv) (ZaP (ZcP (tOr (Zgl (tB (tCB (fun xs H Q=>∃x t b,xs=[x,V.ty "list"]∧Zdw K H x t∧W.kitOne K t (Value.type "list")=some b∧Q (V.bl b) H) (Zaa (tOp (Zby K) (tOp (Zby K) (Zah 0) (tC (V.int 0))) (tC (V.int 1))) (Zaa (tC (V.ty "list")) Zau))))) (tOr (Zgl (tB (tCB (fun xs H Q=>∃x t b,xs=[x,V.ty "list"]∧Zdw K H x t∧W.kitOne K t (Value.type "list")=some b∧Q (V.bl b) H) (Zaa (tOp (Zby K) (tOp (Zby K) (Zah 0) (tC (V.int 0))) (tC (V.int 2))) (Zaa (tC (V.ty "list")) Zau))))) (Zgl (tB (tCB (fun xs H Q=>∃x t b,xs=[x,V.ty "list"]∧Zdw K H x t∧W.kitOne K t (Value.type "list")=some b∧Q (V.bl b) H) (Zaa (tOp (Zby K) (Zah 0) (tC (V.int 1))) (Zaa (tC (V.ty "list")) Zau))))))) (ZbY (tC (V.bl false))) Zbv) (ZqC K))
theorem Zlf {K:PySem.W.Frag}{x2 x3 x4:Option V}(hn:H nl=some (.lst (ms.map V.int)))(hm:ms.length≤1000)(s:Zak H0 H)(k:∀H',Zak H0 H'→Q (.bl true) H'):Zqz K {nx:=Z,rt:=Q } [some (.ref c),some (.ref nl),x2,x3,x4] H:=by
 refine⟨_,rfl,nl,rfl,⟨_,SqL.of hn⟩,ZgC (K:=K) (a:=nl) (xs:=ms.map V.int) (fun i zs H'=>zs=(List.replicate i true).map V.bl∧H'=H) ⟨rfl,rfl⟩ (by rw[Qac];exact hm) (fun i zs H' h=>by rw[h.1,Qac,Qbc];exact Qal _) (fun i zs H' _ z=>by rw[z.2];exact SqL.of hn) ?_ ?_⟩
 ·rintro i x zs H' pre qu hx ⟨rfl,rfl⟩;rw[Qaq] at hx
  cases em:ms[i]? with
  |none=>rw[em] at hx;cases hx
  |some m=>
   rw[em] at hx;cases hx;rcases pre with _|⟨p0,_|⟨p1,pre⟩⟩
   ·cases qu
   ·refine⟨⟨[some _],rfl,rfl⟩,?_⟩;unfold Ze3;dsimp only;rw[if_pos (rfl:true=true)];exact⟨_,rfl,m,rfl,by rw[List.replicate_succ',Qaw];rfl,rfl⟩
   ·cases qu
 ·rintro zs H' ⟨rfl,rfl⟩ D hD;refine⟨D,List.replicate (ms.map V.int).length true,rfl,SqL.of Zad,?_⟩
  have e:(List.replicate (ms.map V.int).length true).all id=true:=by
   rw[List.all_replicate];split<;>rfl
  rw[e];exact k _ (Zak.nw s hD)
theorem Zg1 {K:PySem.W.Frag}{D:Zgk}{wq:Addr}{ws:List Int}{i:Nat}(h1:σ[1]?=some (some (.ref nl)))(hi:σ[i]?=some (some (.ref wq)))(hj:σ[j]?=some (some (.int m)))(hn:H nl=some (.lst (ms.map V.int)))(hw:H wq=some (.tup (ws.map V.int)))(s:Zak H0 H)(fn:H0 nl=none)(lm:ms.length≤1000)(lw:ws.length≤24)
  (k:∀H',H' nl=some (.lst ((ms++(ws++ [m])).map V.int))→Zak H0 H'→D.nx σ H'):
  (ZcI (tBM K "list" ZfK (Zah 1) (Zaa (tOp Zfm (tCB (fun xs H_1 Q=>∃p ys,xs=[V.ref p]∧(SqL K H_1 p ys∨SqT K H_1 p ys)∧∀(l:Addr),H_1 l=none→Q (V.ref l) (upd H_1 l (HO.lst ys))) (Zaa (Zah i) Zau)) (ZcK (Zaa (Zah j) Zau))) Zau))) D σ H:=by
 have big:∀n,n≤5000→n≤sizeLine:=fun n h=>QaD h (by decide);refine⟨_,h1,.inl ⟨rfl,_,SqL.of hn⟩,_,hi,wq,_,rfl,.inr (SqT.of hw),fun l1 g1=> ?_⟩;have s1:=Zak.nw (o:=.lst (ws.map V.int)) (Zak.refl H) g1;have f1:(upd H l1 (.lst (ws.map V.int))) l1=some (.lst (ws.map V.int)):=Zad;generalize upd H l1 (.lst (ws.map V.int))=H1 at s1 f1⊢;refine⟨_,hj,(by show 1≤sizeLine;decide),fun l2 g2=> ?_⟩;have s2:=Zak.nw (o:=.lst [.int m]) (Zak.refl H1) g2;have f2:(upd H1 l2 (.lst [.int m])) l2=some (.lst [.int m]):=Zad;generalize upd H1 l2 (.lst [.int m])=H2 at s2 f2⊢;refine⟨l1,l2,_,_,rfl,rfl,s2 _ _ f1,f2,big _ (by rw[Qac];show ws.length+1≤5000;omega),fun l3 g3=> ?_⟩;have s3:=Zak.nw (o:=.lst (ws.map V.int++ [.int m])) (Zak.refl H2) g3;have f3:(upd H2 l3 (.lst (ws.map V.int++ [.int m]))) l3=some (.lst (ws.map V.int++ [.int m])):=Zad;generalize upd H2 l3 (.lst (ws.map V.int++ [.int m]))=H3 at s3 f3⊢;have s03:=s1.trans (s2.trans s3);refine⟨nl,l3,_,_,rfl,rfl,s03 _ _ hn,f3,big _ (by rw[Qac,Qae,Qac];show ms.length+(ws.length+1)≤5000;omega),?_⟩;refine k _ ?_ (Zak.ow (s.trans s03) fn);rw[Zad,Qaw,Qaw];rfl
theorem Zlg {K:PySem.W.Frag}{pc:Addr}{o:Out}{ya yb yc:List V}{x2 x3 x4:Option V}(t:ZbM H0 c a pa pb pc o ya yb yc)(ok:OOk o)(hn:H nl=some (.lst (ms.map V.int)))(hm:ms.length≤775)(s:Zak H0 H)(fn:H0 nl=none)(k:∀H',Zak H0 H'→Q (.bl true) H'):ZqA K {nx:=Z,rt:=Q } [some (.ref c),some (.ref nl),x2,x3,x4] H:=by
 have yl:yc.length≤9:=by rw[t.sc.1];exact ok.ns
 refine⟨_,rfl,c,_,_,_,rfl,rfl,SqT.of (s _ _ t.hc),rfl,pc,rfl,⟨yc,SqL.of (s _ _ t.hpc)⟩,Zbx (K:=K) (a:=pc) (xs:=yc) (fun i σ H'=>∃(x3 x4:Option V) (ms:List Int),σ=[some (.ref c),some (.ref nl),x2,x3,x4]∧H' nl=some (.lst (ms.map V.int))∧ms.length≤775+i*25∧Zak H0 H') ⟨_,_,ms,rfl,hn,by omega,s⟩ (fun i σ H' _ ⟨_,_,_,_,_,_,z⟩=>SqL.of (z _ _ t.hpc)) ?_ ?_⟩
 ·rintro i x σ H1 hx ⟨x3,x4,ms,rfl,g1,g2,s1⟩;have il:i<yc.length:=(Qaf.mp hx).1;have il2:i<o.2.2.2.length:=by rw[←t.sc.1];exact il
  obtain⟨q,wq,rfl,e2,e3⟩:=t.sc.2 i x _ hx (Qah il2);refine⟨q,_,rfl,SqT.of (s1 _ _ e2),rfl,_,_,rfl,_,_,rfl,rfl,?_⟩;refine Zg1 (i:=3) (j:=4) rfl rfl rfl g1 (s1 _ _ e3) s1 fn (by omega) (ok.ws _ (Qcl il2)) fun H' h1 h2=> ?_;refine⟨_,_,_,rfl,h1,?_,h2⟩
  have:=ok.ws _ (Qcl il2);rw[Qae,Qae,Qa3];omega
 ·rintro σ H1 ⟨x3,x4,ms,rfl,g1,g2,s1⟩;exact Zlf g1 (by omega) s1 k
theorem Zlh {K:PySem.W.Frag}{pc:Addr}{o:Out}{ya yb yc:List V}{x2 x3 x4:Option V}(t:ZbM H0 c a pa pb pc o ya yb yc)(ok:OOk o)(hn:H nl=some (.lst (ms.map V.int)))(hm:ms.length≤301)(s:Zak H0 H)(fn:H0 nl=none)(k:∀H',Zak H0 H'→Q (.bl true) H'):ZqB K {nx:=Z,rt:=Q } [some (.ref c),some (.ref nl),x2,x3,x4] H:=by
 have yl:yb.length≤17:=by rw[t.hall.wb.1];exact ok.nw
 refine⟨_,rfl,c,_,_,_,rfl,rfl,SqT.of (s _ _ t.hc),rfl,a,_,_,_,rfl,rfl,SqT.of (s _ _ t.hall.h),rfl,pb,rfl,⟨yb,SqL.of (s _ _ t.hall.hb)⟩,Zbx (K:=K) (a:=pb) (xs:=yb) (fun i σ H'=>∃(x3 x4:Option V) (ms:List Int),σ=[some (.ref c),some (.ref nl),x2,x3,x4]∧H' nl=some (.lst (ms.map V.int))∧ms.length≤301+i*25∧Zak H0 H') ⟨_,_,ms,rfl,hn,by omega,s⟩ (fun i σ H' _ ⟨_,_,_,_,_,_,z⟩=>SqL.of (z _ _ t.hall.hb)) ?_ ?_⟩
 ·rintro i x σ H1 hx ⟨x3,x4,ms,rfl,g1,g2,s1⟩;have il:i<yb.length:=(Qaf.mp hx).1;obtain⟨e,he,q,wq,rfl,e2,e3⟩:=t.hall.wb.at' hx;have lw:=ok.ww e (Qau he);refine⟨q,_,rfl,SqT.of (s1 _ _ e2),rfl,_,_,rfl,_,_,rfl,rfl,?_⟩;refine Zg1 (i:=4) (j:=3) rfl rfl rfl g1 (s1 _ _ e3) s1 fn (by omega) lw fun H' h1 h2=> ?_;refine⟨_,_,_,rfl,h1,?_,h2⟩;rw[Qae,Qae,Qa3];omega
 ·rintro σ H1 ⟨x3,x4,ms,rfl,g1,g2,s1⟩;exact Zlg t ok g1 (by omega) s1 fn k
theorem ZqR (p:PR):Ze9 (pV p) none (some 3)=[V.int p.1,V.int p.2.1,V.int p.2.2.1]:=by
 obtain⟨a,b,c,d⟩:=p;exact Zft (k:=3) _ (by show 3≤4;decide)
theorem Zli {K:PySem.W.Frag}{pc:Addr}{o:Out}{ya yb yc:List V}(t:ZbM H c a pa pb pc o ya yb yc)(ok:OOk o)(k:∀H',Zak H H'→Q (.bl true) H'):ZqC K {nx:=Z,rt:=Q } [some (.ref c),none,none,none,none] H:=by
 have yl:ya.length≤100:=by rw[t.hall.len];exact ok.np
 refine⟨_,rfl,c,_,_,_,rfl,rfl,SqT.of t.hc,rfl,a,_,_,_,rfl,rfl,SqT.of t.hall.h,rfl,(by show 1≤sizeLine;decide),fun nl fn=> ?_⟩;have s:=Zak.nw (o:=.lst ([o.1].map V.int)) (Zak.refl H) fn;have hn:(upd H nl (.lst ([o.1].map V.int))) nl=some (.lst ([o.1].map V.int)):=Zad;change ZaP _ _ _ _ (upd H nl (.lst ([o.1].map V.int)));generalize upd H nl (.lst ([o.1].map V.int))=H1 at s hn⊢;refine⟨_,rfl,c,_,_,_,rfl,rfl,SqT.of (s _ _ t.hc),rfl,a,_,_,_,rfl,rfl,SqT.of (s _ _ t.hall.h),rfl,pa,rfl,⟨ya,SqL.of (s _ _ t.hall.ha)⟩,Zbx (K:=K) (a:=pa) (xs:=ya) (fun i σ H'=>∃(x2:Option V) (ms:List Int),σ=[some (.ref c),some (.ref nl),x2,none,none]∧H' nl=some (.lst (ms.map V.int))∧ms.length≤1+i*3∧Zak H H') ⟨_,_,rfl,hn,Qal _,s⟩ (fun i σ H' _ ⟨_,_,_,_,_,z⟩=>SqL.of (z _ _ t.hall.ha)) ?_ ?_⟩
 ·rintro i x σ H2 hx ⟨x2,ms,rfl,g1,g2,s2⟩;have il:i<ya.length:=(Qaf.mp hx).1;have ip:i<o.2.1.length:=by rw[←t.hall.len];exact il
  obtain⟨q,eq,hq⟩:=t.hall.at (Qah ip);rw[hx] at eq;cases eq;have hq2:=s2 _ _ hq;refine⟨_,rfl,V.ref q,_,_,rfl,Zdw.tup hq2,Ziy,_,rfl,Zcu ?_⟩;refine⟨_,rfl,q,_,rfl,.inr (SqT.of hq2),rfl,_,rfl,Zcu ?_⟩;refine⟨_,rfl,q,_,_,_,rfl,rfl,SqT.of hq2,rfl,V.bl _,_,_,rfl,.bl _,ZoX,_,rfl,Zcu ?_⟩;refine⟨_,rfl,.inl ⟨rfl,_,SqL.of g1⟩,_,rfl,3,rfl,q,_,rfl,SqT.of hq2,?_,fun d hd=> ?_⟩
  ·rintro⟨_,z⟩;exact absurd (show(3:Nat)=4 from z) (by decide)
  rw[ZqR];have T:=(Zbd.refl H2).new (o:=.tup [V.int (o.2.1[i]).1,V.int (o.2.1[i]).2.1,V.int (o.2.1[i]).2.2.1]) hd;have s3:=Zak.nw (o:=.tup [V.int (o.2.1[i]).1,V.int (o.2.1[i]).2.1,V.int (o.2.1[i]).2.2.1]) (Zak.refl H2) hd;have f3:(upd H2 d (.tup [V.int (o.2.1[i]).1,V.int (o.2.1[i]).2.1,V.int (o.2.1[i]).2.2.1])) d=some (.tup [V.int (o.2.1[i]).1,V.int (o.2.1[i]).2.1,V.int (o.2.1[i]).2.2.1]):=Zad;generalize upd H2 d (.tup [V.int (o.2.1[i]).1,V.int (o.2.1[i]).2.1,V.int (o.2.1[i]).2.2.1])=H3 at s3 f3⊢;refine⟨nl,d,_,_,rfl,rfl,s3 _ _ g1,f3,ZdE (by rw[Qac];show ms.length+3≤1000;omega),?_⟩;refine⟨_,ms++ [(o.2.1[i]).1,(o.2.1[i]).2.1,(o.2.1[i]).2.2.1],rfl,?_,?_,Zak.ow (s2.trans s3) fn⟩
  ·rw[Zad,Qaw];rfl
  ·rw[Qae];show ms.length+3≤_;omega
 ·rintro σ H2 ⟨x2,ms,rfl,g1,g2,s2⟩;exact Zlh t ok g1 (by omega) s2 fn k
theorem ZmH {K:PySem.W.Frag}{pc:Addr}{o:Out}{ya yb yc:List V}(t:ZbM H c a pa pb pc o ya yb yc)(ok:OOk o)(k:∀H',Zak H H'→Q (.bl true) H'):tTR K {nx:=Z,rt:=Q } [some (.ref c),none,none,none,none] H:=by
 refine⟨_,rfl,V.ref c,_,_,rfl,Zdw.tup t.hc,Ziy,_,rfl,Zcu ?_⟩;refine⟨_,rfl,c,_,rfl,.inr (SqT.of t.hc),rfl,_,rfl,Zcu ?_⟩;refine⟨_,rfl,c,_,_,_,rfl,rfl,SqT.of t.hc,rfl,V.ref a,_,_,rfl,Zdw.tup t.hall.h,Ziy,_,rfl,Zcu ?_⟩;refine⟨_,rfl,c,_,_,_,rfl,rfl,SqT.of t.hc,rfl,a,_,rfl,.inr (SqT.of t.hall.h),rfl,_,rfl,Zcu ?_⟩;refine⟨_,rfl,c,_,_,_,rfl,rfl,SqT.of t.hc,rfl,a,_,_,_,rfl,rfl,SqT.of t.hall.h,rfl,V.ref pa,_,_,rfl,Zdw.lst t.hall.ha,Zko,_,rfl,Zcu ?_⟩;refine⟨_,rfl,c,_,_,_,rfl,rfl,SqT.of t.hc,rfl,a,_,_,_,rfl,rfl,SqT.of t.hall.h,rfl,V.ref pb,_,_,rfl,Zdw.lst t.hall.hb,Zko,_,rfl,Zcu ?_⟩;refine⟨_,rfl,c,_,_,_,rfl,rfl,SqT.of t.hc,rfl,V.ref pc,_,_,rfl,Zdw.lst t.hpc,Zko,_,rfl,Zcu ?_⟩;exact Zli t ok k
theorem ZmI:PySem.W.kitMeta "ValueError" =true:=by decide +kernel
structure NoD (K:PySem.W.Frag)(cC cT cN cR cO cU cX cS cM:Addr):Prop where
 xN:Zdy K cN
 xT:Zdy K cT
 xR:Zdy K cR
 xO:Zdy K cO
 xU:Zdy K cU
 xX:Zdy K cX
 xS:Zdy K cS
 xM:Zdy K cM
 v:PySem.W.subIn K (.ref cN) (.type "ValueError")=some true
 sC:PySem.W.subIn K (.ref cN) (.ref cC)=some true
 sN:PySem.W.subIn K (.ref cN) (.ref cN)=some true
 sT:PySem.W.subIn K (.ref cN) (.ref cT)=some false
 sR:PySem.W.subIn K (.ref cN) (.ref cR)=some false
 sO:PySem.W.subIn K (.ref cN) (.ref cO)=some false
 sU:PySem.W.subIn K (.ref cN) (.ref cU)=some false
 sX:PySem.W.subIn K (.ref cN) (.ref cX)=some false
 sS:PySem.W.subIn K (.ref cN) (.ref cS)=some false
 sM:PySem.W.subIn K (.ref cN) (.ref cM)=some false
abbrev Zlj (K:PySem.W.Frag):List V→Hp→VK→Prop:=(fun xs H_1 Q=>∃p ys,xs=[V.ref p]∧(SqL K H_1 p ys∨SqT K H_1 p ys)∧∀(l:Addr),H_1 l=none→Q (V.ref l) (upd H_1 l (HO.lst ys)))
def ZhU (K:PySem.W.Frag):TE:=(ZdM (Zaa (tOp (Zby K) (Zah 0) (tC (V.int 0))) (Zaa (tCB (Zlj K) (Zaa (tOp (Zby K) (Zah 0) (tC (V.int 1))) Zau)) (Zaa (tCB (Zlj K) (Zaa (tOp (Zby K) (Zah 0) (tC (V.int 2))) Zau)) Zau))))
theorem Zee {K:PySem.W.Frag}{ps:List PR}{L:WL2}{ya yb:List V}(h0:σ[0]?=some (some (.ref a)))(h:ZaU H a pa pb n ps L ya yb)(k:∀(hd l1 l2:Addr) (H':Hp),Zak H H'→ZaU H' hd l1 l2 n ps L ya yb→Q (.ref hd) H'):ZhU K σ H Q:=by
 refine⟨_,h0,a,_,_,_,rfl,rfl,SqT.of h.h,rfl,_,h0,a,_,_,_,rfl,rfl,SqT.of h.h,rfl,pa,ya,rfl,.inl (SqL.of h.ha),fun l1 g1=> ?_⟩;have s1:=Zak.nw (o:=.lst ya) (Zak.refl H) g1;have f1:(upd H l1 (.lst ya)) l1=some (.lst ya):=Zad;generalize upd H l1 (.lst ya)=H1 at s1 f1⊢;refine⟨_,h0,a,_,_,_,rfl,rfl,SqT.of (s1 _ _ h.h),rfl,pb,yb,rfl,.inl (SqL.of (s1 _ _ h.hb)),fun l2 g2=> ?_⟩;have s2:=Zak.nw (o:=.lst yb) (Zak.refl H1) g2;have f2:(upd H1 l2 (.lst yb)) l2=some (.lst yb):=Zad;generalize upd H1 l2 (.lst yb)=H2 at s2 f2⊢;refine⟨(by show 3≤sizeLine;decide),fun hd g3=> ?_⟩;have s3:=Zak.nw (o:=.tup [.int n,.ref l1,.ref l2]) (Zak.refl H2) g3;have s03:=s1.trans (s2.trans s3);exact k hd l1 l2 _ s03 ⟨Zad,(s2.trans s3) _ _ f1,h.ca.up s03.tups,s3 _ _ f2,h.wb.up s03.tups⟩
theorem ZiW (n:Int)(ps:List PR)(L:WL2):PyData.eqv (Zfa n (ps.map pV) L) (Zfa n (ps.map pV) L)=true:=SeqAt.eqv_refl _ (ZcU _ _ _)
theorem ZiX (n:Int)(ps:List PR)(L:WL2):(Zfa n (ps.map pV) L).depth≤60:=by
 show max 0 (max (PyData.depthAll ((ps.map pV).map dCp)+1) (max (PyData.depthAll (L.map dE)+1) 0))+1≤60
 have:=ZfZ (ps.map pV)
 have:=ZfN L;omega
theorem ZmJ (o:Out):PyData.eqv (Zk6 o) (Zk6 o)=true:=SeqAt.eqv_refl _ (ZeN _)
abbrev DR:=Hp→V→Int→List PR→WL2→Option Out→Prop
def UpR (R:DR):Prop:=∀{H H':Hp} {u:V} {n:Int} {ps:List PR} {L:WL2} {o:Option Out},Zak H H'→R H u n ps L o→R H' u n ps L o
def ZeP (cN:Addr)(R:DR):Sp:=fun vs H Q E=>∃(a pa pb:Addr) (u:V) (n:Int) (ps:List PR) (L:WL2) (ya yb:List V) (o:Option Out),vs=[.ref a,u]∧ZaU H a pa pb n ps L ya yb∧ps.length≤400∧R H u n ps L o∧
 (o=none→∀H',Zak H H'→E (.ref cN) none H')∧
 ∀out:Out,o=some out→∀(c a' pa' pb' pc':Addr) (ya' yb' yc':List V) (H':Hp),Zak H H'→H c=none→H pa'=none→H pb'=none→H pc'=none→pa'≠pb'→pa'≠pc'→pb'≠pc'→ZbM H' c a' pa' pb' pc' out ya' yb' yc'→Q (.ref c) H'
def Zd5 (K:PySem.W.Frag)(R:DR):Sp:=fun vs H Q _=>∃(a pa pb:Addr) (u:V) (n:Int) (ps:List PR) (L:WL2) (ya yb:List V),vs=[.ref a,u]∧ZaU H a pa pb n ps L ya yb∧ps.length≤400∧R H u n ps L none∧∀H',Zak H H'→Q (.bl true) H'
def Zg2 (K:PySem.W.Frag)(R:DR)(cC cT cN cR cO cU cX cS cM:Addr):TS:=ZaP (ZaY (ZhU K) (Zan 2)) (ZaP (Zqy K 5 3 cC (fun Ex=>ZcI (Zfp (ZeP cN R) Ex (Zaa (Zah 2) (Zaa (Zah 1) Zau)))) fun C ea=>ZaP (ZaY (ZcK (Zaa (tCB (Zl0 K C ea) (Zaa (Zah 3) (Zaa (tC (V.ref cT)) Zau))) (Zaa (tCB (Zl0 K C ea) (Zaa (Zah 3) (Zaa (tC (V.ref cR)) Zau))) (Zaa (tCB (Zl0 K C ea) (Zaa (Zah 3) (Zaa (tC (V.ref cO)) Zau))) (Zaa (tCB (Zl0 K C ea) (Zaa (Zah 3) (Zaa (tC (V.ref cU)) Zau))) Zau))))) (Zan 4)) (ZaP (ZaY (tOp Zfm (Zah 4) (ZcK (Zaa (tCB (Zl0 K C ea) (Zaa (Zah 3) (Zaa (tC (V.ref cX)) Zau))) (Zaa (tCB (Zl0 K C ea) (Zaa (Zah 3) (Zaa (tC (V.ref cS)) Zau))) (Zaa (tCB (Zl0 K C ea) (Zaa (Zah 3) (Zaa (tC (V.ref cM)) Zau))) Zau))))) (Zan 4)) (ZbY (ZdZ (tCB (Zl0 K C ea) (Zaa (Zah 3) (Zaa (tC (V.ref cN)) Zau))) (ZdZ (tCB (Zl0 K C ea) (Zaa (Zah 3) (Zaa (tC (V.ty "ValueError")) Zau))) (ZdZ (tOp (rIn K true) (tC (V.bl true)) (Zah 4)) (tOp (Zjl K fun b=>b) (Zah 2) (Zah 0)))))))) (ZbY (tC (V.bl false))))
theorem Zfc {K:PySem.W.Frag}{R:DR}{cC cT cR cO cU cX cS cM:Addr}(X:NoD K cC cT cN cR cO cU cX cS cM){u:V}{ps:List PR}{L:WL2}{ya yb:List V}(h:ZaU H a pa pb n ps L ya yb)(hl:ps.length≤400)(up:UpR R)(hf:R H u n ps L none)(k:∀H',Zak H H'→Q (.bl true) H'):
  Zg2 K R cC cT cN cR cO cU cX cS cM {nx:=Z,rt:=Q } [some (.ref a),some u,none,none,none] H:=by
 unfold Zg2 ZaP ZaY;dsimp only;refine Zee (σ:=[some (.ref a),some u,none,none,none]) rfl h fun hd0 l1 l2 H1 s1 h1=> ?_;refine⟨_,rfl,_,rfl,hd0,l1,l2,u,n,ps,L,ya,yb,none,rfl,h1,hl,up s1 hf,fun _ H2 s2=> ?_,fun out e=>by cases e⟩;refine⟨cN,rfl,X.sC,fun ea hea=> ?_⟩;refine⟨_,rfl,X.xN,false,.inl ⟨cT,rfl,X.xT,X.sT⟩,_,rfl,X.xN,false,.inl ⟨cR,rfl,X.xR,X.sR⟩,_,rfl,X.xN,false,.inl ⟨cO,rfl,X.xO,X.sO⟩,_,rfl,X.xN,false,.inl ⟨cU,rfl,X.xU,X.sU⟩,(by show 4≤sizeLine;decide),fun k1 e1=> ?_⟩;have t1:=Zak.nw (o:=.lst [.bl false,.bl false,.bl false,.bl false]) (Zak.refl H2) e1;have f1:(upd H2 k1 (.lst [.bl false,.bl false,.bl false,.bl false])) k1=some (.lst [.bl false,.bl false,.bl false,.bl false]):=Zad;generalize upd H2 k1 (.lst [.bl false,.bl false,.bl false,.bl false])=H3 at t1 f1⊢;refine⟨_,rfl,_,rfl,X.xN,false,.inl ⟨cX,rfl,X.xX,X.sX⟩,_,rfl,X.xN,false,.inl ⟨cS,rfl,X.xS,X.sS⟩,_,rfl,X.xN,false,.inl ⟨cM,rfl,X.xM,X.sM⟩,(by show 3≤sizeLine;decide),fun k2 e2=> ?_⟩;have t2:=Zak.nw (o:=.lst [.bl false,.bl false,.bl false]) (Zak.refl H3) e2;have f2:(upd H3 k2 (.lst [.bl false,.bl false,.bl false])) k2=some (.lst [.bl false,.bl false,.bl false]):=Zad;generalize upd H3 k2 (.lst [.bl false,.bl false,.bl false])=H4 at t2 f2⊢;refine⟨k1,k2,_,_,rfl,rfl,t2 _ _ f1,f2,(by show 7≤sizeLine;decide),fun k3 e3=> ?_⟩;have t3:=Zak.nw (o:=.lst ([.bl false,.bl false,.bl false,.bl false]++ [.bl false,.bl false,.bl false])) (Zak.refl H4) e3;have f3:(upd H4 k3 (.lst ([.bl false,.bl false,.bl false,.bl false]++ [.bl false,.bl false,.bl false]))) k3=some (.lst ([.bl false,.bl false,.bl false,.bl false]++ [.bl false,.bl false,.bl false])):=Zad;generalize upd H4 k3 (.lst ([.bl false,.bl false,.bl false,.bl false]++ [.bl false,.bl false,.bl false]))=H5 at t3 f3⊢;have s25:=t1.trans (t2.trans t3);have s05:=(s1.trans s2).trans s25;refine⟨_,rfl,X.xN,true,.inl ⟨cN,rfl,X.xN,X.sN⟩,_,rfl,Zc7 ⟨_,rfl,X.xN,true,.inr (.inl ⟨"ValueError",rfl,ZmI,X.v⟩),_,rfl,Zc7 ⟨_,rfl,k3,_,rfl,.inl (SqL.of f3),rfl,rfl,_,rfl,?_⟩⟩⟩;refine Zc7 ⟨_,rfl,_,rfl,_,_,(h1.up (s2.trans s25)).di,(h.up s05).di,ZcU _ _ _,ZcU _ _ _,ZiX _ _ _,?_⟩;rw[ZiW];exact k _ s05
def Zf3 (K:PySem.W.Frag)(R:DR):Sp:=fun vs H Q _=>∃(a pa pb:Addr) (u:V) (n:Int) (ps:List PR) (L:WL2) (ya yb:List V) (c0 a0 pa0 pb0 pc0:Addr) (out:Out) (ya0 yb0 yc0:List V),vs=[.ref a,u,.ref c0]∧ZaU H a pa pb n ps L ya yb∧ps.length≤400∧R H u n ps L (some out)∧ZbM H c0 a0 pa0 pb0 pc0 out ya0 yb0 yc0∧OOk out∧∀H',Zak H H'→Q (.bl true) H'
def Zlk (K:PySem.W.Frag)(cN:Addr)(R:DR):TS:=(ZaP (Ze5 (ZfE (Zaa (tC (V.int 2)) Zau)) (Zan 4) (ZaP (ZaY (Zfp (ZeP cN R) (fun x x_1 x_2=>False) (Zaa (Zah 3) (Zaa (Zah 1) Zau))) (Zan 5)) (ZaP (ZcP (tOr (Zgl (tB (ZaF Zqk [] E0 (Zaa (Zah 5) Zau)))) (Za3 (tOp (Zjl K fun b=> !b) (Zah 5) (Zah 2)))) (ZbY (tC (V.bl false))) Zbv) (ZaP (ZcI (tBM K "list" Zcc (tOp (Zby K) (tOp (Zby K) (Zah 5) (tC (V.int 0))) (tC (V.int 1))) (Zaa (tC V.non) Zau))) (ZaP (ZcI (tBM K "list" Zcc (tOp (Zby K) (tOp (Zby K) (Zah 5) (tC (V.int 0))) (tC (V.int 2))) (Zaa (tC V.non) Zau))) (ZaP (ZcI (tBM K "list" Zcc (tOp (Zby K) (Zah 5) (tC (V.int 1))) (Zaa (tC V.non) Zau))) (ZcP (Za3 (tOp (Zjl K fun b=> !b) (Zah 3) (Zah 0))) (ZbY (tC (V.bl false))) Zbv))))))) (ZbY (tC (V.bl true))))
def Zll (K:PySem.W.Frag)(cN:Addr)(R:DR):TS:=ZaP (ZaY (ZhU K) (Zan 3)) (Zlk K cN R)
theorem Zg3 {K:PySem.W.Frag}{hd0 l1 l2:Addr}{R:DR}{u:V}{ps:List PR}{L:WL2}{ya yb:List V}{out:Out}{ya0 yb0 yc0:List V}(h:ZaU H a pa pb n ps L ya yb)(hl:ps.length≤400)(up:UpR R)(hf:R H u n ps L (some out))(t0:ZbM H c0 a0 pa0 pb0 pc0 out ya0 yb0 yc0)(ok:OOk out)(s1:Zak H H1)(h1:ZaU H1 hd0 l1 l2 n ps L ya yb)(k:∀H',Zak H H'→Q (.bl true) H'):
  Zlk K cN R {nx:=Z,rt:=Q } [some (.ref a),some u,some (.ref c0),some (.ref hd0),none,none] H1:=by
 refine⟨2,rfl,by decide,by decide,ZcQ (n:=2) (fun j σ H'=>∃(x4 x5:Option V),σ=[some (.ref a),some u,some (.ref c0),some (.ref hd0),x4,x5]∧Zak H1 H') ⟨_,_,rfl,Zak.refl _⟩ ?_ ?_⟩
 ·rintro j σ H2 hj ⟨x4,x5,rfl,s2⟩;have s02:=s1.trans s2;refine⟨_,rfl,_,rfl,hd0,l1,l2,u,n,ps,L,ya,yb,some out,rfl,h1.up s2,hl,up s02 hf,(fun e=>by cases e),fun out' e c a' pa' pb' pc' ya' yb' yc' H3 s3 e1 e2 e3 e4 n1 n2 n3 t=> ?_⟩;cases e;refine⟨_,rfl,c,a',pa',pb',pc',out,ya',yb',yc',rfl,t,ok,fun H4 s4=> ?_⟩;have t4:=t.up s4;have s24:=s3.trans s4;have s04:=s02.trans s24;refine⟨_,rfl,Zcu ⟨_,rfl,_,rfl,_,_,t4.di,(t0.up s04).di,ZeN _,ZeN _,Zk7 _,_,rfl,?_⟩⟩;rw[ZmJ];refine Zcu ?_;have la:ya'.length≤1000:=by rw[t4.hall.len];have:=ok.np;omega
  have lb:yb'.length≤1000:=by rw[t4.hall.wb.1];have:=ok.nw;omega
  have lc:yc'.length≤1000:=by rw[t4.sc.1];have:=ok.ns;omega
  refine⟨_,rfl,c,_,_,_,rfl,rfl,SqT.of t4.hc,rfl,a',_,_,_,rfl,rfl,SqT.of t4.hall.h,rfl,.inl ⟨rfl,_,SqL.of t4.hall.ha⟩,pa',_,_,rfl,rfl,t4.hall.ha,Za7 la,?_⟩;have T5:Zbd H4 (upd H4 pa' (.lst (ya'++ [.non]))):=(Zbd.refl _).lst t4.hall.ha;have s5:Zak H2 (upd H4 pa' (.lst (ya'++ [.non]))):=Zak.ow s24 e2;have fb:(upd H4 pa' (.lst (ya'++ [.non]))) pb'=some (.lst yb'):=by rw[Zax (Ne.symm n1)];exact t4.hall.hb
  have fc:(upd H4 pa' (.lst (ya'++ [.non]))) pc'=some (.lst yc'):=by rw[Zax (Ne.symm n2)];exact t4.hpc
  generalize upd H4 pa' (.lst (ya'++ [.non]))=H5 at T5 s5 fb fc⊢;refine⟨_,rfl,c,_,_,_,rfl,rfl,SqT.of (T5 _ _ t4.hc),rfl,a',_,_,_,rfl,rfl,SqT.of (T5 _ _ t4.hall.h),rfl,.inl ⟨rfl,_,SqL.of fb⟩,pb',_,_,rfl,rfl,fb,Za7 lb,?_⟩;have T6:Zbd H5 (upd H5 pb' (.lst (yb'++ [.non]))):=(Zbd.refl _).lst fb;have s6:Zak H2 (upd H5 pb' (.lst (yb'++ [.non]))):=Zak.ow s5 e3;have fc6:(upd H5 pb' (.lst (yb'++ [.non]))) pc'=some (.lst yc'):=by rw[Zax (Ne.symm n3)];exact fc
  generalize upd H5 pb' (.lst (yb'++ [.non]))=H6 at T6 s6 fc6⊢;refine⟨_,rfl,c,_,_,_,rfl,rfl,SqT.of (T6 _ _ (T5 _ _ t4.hc)),rfl,.inl ⟨rfl,_,SqL.of fc6⟩,pc',_,_,rfl,rfl,fc6,Za7 lc,?_⟩;have s7:Zak H2 (upd H6 pc' (.lst (yc'++ [.non]))):=Zak.ow s6 e4;generalize upd H6 pc' (.lst (yc'++ [.non]))=H7 at s7⊢;refine⟨_,rfl,_,rfl,_,_,(h1.up (s2.trans s7)).di,(h.up (s02.trans s7)).di,ZcU _ _ _,ZcU _ _ _,ZiX _ _ _,_,rfl,?_⟩;rw[ZiW];exact Zcu ⟨_,_,rfl,s2.trans s7⟩
 ·rintro σ H2 ⟨x4,x5,rfl,s2⟩;exact k _ (s1.trans s2)
theorem Zg4 {K:PySem.W.Frag}{R:DR}{u:V}{ps:List PR}{L:WL2}{ya yb:List V}{out:Out}{ya0 yb0 yc0:List V}(h:ZaU H a pa pb n ps L ya yb)(hl:ps.length≤400)(up:UpR R)(hf:R H u n ps L (some out))(t0:ZbM H c0 a0 pa0 pb0 pc0 out ya0 yb0 yc0)(ok:OOk out)(k:∀H',Zak H H'→Q (.bl true) H'):
  Zll K cN R {nx:=Z,rt:=Q } [some (.ref a),some u,some (.ref c0),none,none,none] H:=by
 unfold Zll ZaP ZaY;dsimp only;exact Zee (σ:=[some (.ref a),some u,some (.ref c0),none,none,none]) rfl h fun hd0 l1 l2 H1 s1 h1=>Zg3 h hl up hf t0 ok s1 h1 k
def Zev (K:PySem.W.Frag)(R:DR):Sp:=fun vs H Q _=>∃(a pa pb:Addr) (u:V) (n:Int) (ps:List PR) (L:WL2) (ya yb:List V) (dv:V) (o:Option Out),vs=[.ref a,u,dv]∧ZaU H a pa pb n ps L ya yb∧ps.length≤400∧R H u n ps L o∧(o=none→dv= .non)∧(∀out,o=some out→OOk out∧∃(c0 a0 pa0 pb0 pc0:Addr) (ya0 yb0 yc0:List V),dv= .ref c0∧ZbM H c0 a0 pa0 pb0 pc0 out ya0 yb0 yc0)∧∀H',Zak H H'→Q (.bl true) H'
def Zof (K:PySem.W.Frag)(R:DR):TS:=ZaP (ZcP (tB (ZpX (Zah 2))) (ZbY (ZaF (Zd5 K R) [] E0 (Zaa (Zah 0) (Zaa (Zah 1) Zau)))) Zbv) (ZbY (ZaF (Zf3 K R) [] E0 (Zaa (Zah 0) (Zaa (Zah 1) (Zaa (Zah 2) Zau)))))
theorem Zg5 {K:PySem.W.Frag}{R:DR}{u:V}{ps:List PR}{L:WL2}{ya yb:List V}{dv:V}{o:Option Out}(h:ZaU H a pa pb n ps L ya yb)(hl:ps.length≤400)(hf:R H u n ps L o)(d1:o=none→dv= .non)(d2:∀out,o=some out→OOk out∧∃(c0 a0 pa0 pb0 pc0:Addr) (ya0 yb0 yc0:List V),dv= .ref c0∧ZbM H c0 a0 pa0 pb0 pc0 out ya0 yb0 yc0)(k:∀H',Zak H H'→Q (.bl true) H'):
  Zof K R {nx:=Z,rt:=Q } [some (.ref a),some u,some dv] H:=by
 cases o with
 |none=>
  rw[d1 rfl];exact⟨_,rfl,_,rfl,Zc7 ⟨_,rfl,_,rfl,a,pa,pb,u,n,ps,L,ya,yb,rfl,h,hl,hf,k⟩⟩
 |some out=>
  obtain⟨ok,c0,a0,pa0,pb0,pc0,ya0,yb0,yc0,rfl,t⟩:=d2 out rfl;refine⟨_,rfl,_,rfl,Zcu ⟨_,rfl,_,rfl,_,rfl,a,pa,pb,u,n,ps,L,ya,yb,c0,a0,pa0,pb0,pc0,out,ya0,yb0,yc0,rfl,h,hl,hf,t,ok,k⟩⟩
theorem WOk.ook {L:WL2}(w:WOk n L):L.length≤8∧∀e∈L,e.2.length≤24:=by
 obtain⟨wd,P,rfl,l,w1,w2,h,_⟩:=w;refine⟨QaD (Zfu P) l,Zcj (p:=fun ws=>ws.length≤24) fun e he=> ?_⟩
 have:=(h e he).2;omega
def ZbQ:Sp:=fun vs H Q _=>∃(q:Addr) (p:PR),vs=[.ref q]∧H q=some (.tup (pV p))∧Q (.int (p.2.1+p.2.2.1)) H
def Zpx (K:PySem.W.Frag):TS:=ZbY (tOp (rI0 fun i j=>V.int (i+j)) (tOp (Zby K) (Zah 0) (tC (V.int 1))) (tOp (Zby K) (Zah 0) (tC (V.int 2))))
theorem ZeQ {K:PySem.W.Frag}{p:PR}(hq:H q=some (.tup (pV p)))(k:Q (.int (p.2.1+p.2.2.1)) H):Zpx K {nx:=Z,rt:=Q } [some (.ref q)] H:=
 ⟨_,rfl,q,_,_,_,rfl,rfl,SqT.of hq,rfl,_,rfl,q,_,_,_,rfl,rfl,SqT.of hq,rfl,_,_,rfl,rfl,k⟩
def ZeR:Sp:=fun vs H Q _=>∃(q:Addr) (p:PR),vs=[.ref q]∧H q=some (.tup (pV p))∧Q (.int (p.2.1-p.1)) H
def ZmK (K:PySem.W.Frag):TS:=ZbY (tOp (rI0 fun i j=>V.int (i-j)) (tOp (Zby K) (Zah 0) (tC (V.int 1))) (tOp (Zby K) (Zah 0) (tC (V.int 0))))
theorem Zf4 {K:PySem.W.Frag}{p:PR}(hq:H q=some (.tup (pV p)))(k:Q (.int (p.2.1-p.1)) H):ZmK K {nx:=Z,rt:=Q } [some (.ref q)] H:=
 ⟨_,rfl,q,_,_,_,rfl,rfl,SqT.of hq,rfl,_,rfl,q,_,_,_,rfl,rfl,SqT.of hq,rfl,_,_,rfl,rfl,k⟩
theorem Zg6 (h0:0<m)(h1:m<10^100):ZcJ i m:=⟨h0,ZdK h0 h1⟩
theorem ZjF (acc:List (Int×List Int))(e:Int×List Int):(ZaW acc e).length≤acc.length+1:=by
 unfold ZaW;split
 ·split
  ·split
   ·rw[Qae,QbB,Qa3];omega
   ·rw[Qae,Qa3];exact Qal _
  ·rw[Qae,Qa3];exact Qal _
 ·omega
theorem ZbV (L:List (Int×List Int)):(ZaM L).length≤L.length:=by
 have key:∀(L acc:List (Int×List Int)),(L.foldl ZaW acc).length≤acc.length+L.length:=by
  intro L
  induction L with
  |nil=>intro acc;exact Qal _
  |cons e L ih=>
   intro acc;rw[QbA,Qbb]
   have:=ih (ZaW acc e)
   have:=ZjF acc e;omega
 have:=key L [];unfold ZaM;simpa using this
def Ly (H:Hp)(zs:List V)(L:WL)(bg:Int):Prop:=zs.length=L.length∧∀i e,L[i]?=some e→∃p wq,zs[i]?=some (V.ref p)∧H p=some (.tup [.int (bg+tot (L.take i)),.int (bg+tot (L.take (i+1))),.ref wq])∧H wq=some (.tup (e.2.map V.int))
theorem Ly.up {zs:List V}{L:WL}{bg:Int}(h:Ly H zs L bg)(t:Zbd H H'):Ly H' zs L bg:=⟨h.1,fun i e he=>by
 obtain⟨p,wq,a,b,c⟩:=h.2 i e he
 exact⟨p,wq,a,t _ _ b,t _ _ c⟩⟩
def Zdm (K:PySem.W.Frag):Sp:=fun vs H Q _=>∃(a:Addr) (xs:List V) (L:List (Int×List Int)),vs=[.ref a]∧SqL K H a xs∧Wg H xs L∧L.length≤1000∧(∀e∈L,0≤e.1)∧∀(b:Addr) (ys:List V) (H':Hp),H b=none→H' b=some (.lst ys)→Wg H' ys (ZaM L)→Zak H H'→Q (.ref b) H'
def Zog (K:PySem.W.Frag):TS:=ZaP (ZaY (ZcK Zau) (Zan 1)) (ZaP (Ze5 (Zci K (Zah 0)) (Ze4 K 2 (Zbc (Zan 2) (Zbc (Zan 3) ZfD))) (ZaP (ZcP (Za3 (tOp rEq (Zah 2) (tC (V.int 0)))) ZoL Zbv) (ZcP (ZnI (fun σ H_1 Q=>Zah 1 σ H_1 fun x H'=>∃k,ZpT K x H' k∧Q k H') (Za3 (tOp (Zjl K fun b=>b) (tOp (Zby K) (tOp (ZdA K) (Zah 1) (tUn (rU fun i=>V.int (-i)) (tC (V.int 1)))) (tC (V.int 1))) (Zah 3)))) (ZaY (ZdM (Zaa (tOp (rI0 fun i j=>V.int (i+j)) (tOp (Zby K) (tOp (ZdA K) (Zah 1) (tUn (rU fun i=>V.int (-i)) (tC (V.int 1)))) (tC (V.int 0))) (Zah 2)) (Zaa (Zah 3) Zau))) (ZoB (Zah 1) (tUn (rU fun i=>V.int (-i)) (tC (V.int 1))) Zjk)) (ZcI (tBM K "list" Zcc (Zah 1) (Zaa (ZdM (Zaa (Zah 2) (Zaa (Zah 3) Zau))) Zau)))))) (ZbY (Zah 1)))
theorem Zg7 {K:PySem.W.Frag}{xs:List V}(hS:SqL K H a xs)(g:Wg H xs L)(hL:L.length≤1000)(hnn:∀e∈L,0≤e.1)(k:∀(b:Addr) (ys:List V) (H':Hp),H b=none→H' b=some (.lst ys)→Wg H' ys (ZaM L)→Zak H H'→Q (.ref b) H'):Zog K {nx:=Z,rt:=Q } [some (.ref a),none,none,none] H:=by
 refine⟨(by show 0≤sizeLine;decide),fun b fb=> ?_⟩;refine⟨_,rfl,a,rfl,⟨xs,(Zak.nw (Zak.refl H) fb).seq hS⟩,Zbx (K:=K) (a:=a) (xs:=xs) (fun i σ H'=>∃(m v:Option V) (ys:List V),σ=[some (.ref a),some (.ref b),m,v]∧H' b=some (.lst ys)∧Wg H' ys (ZaM (L.take i))∧Zak H H') ⟨_,_,[],rfl,Zad,Wg.nil _,Zak.nw (Zak.refl H) fb⟩ (fun i σ H' _ ⟨_,_,_,_,_,_,z⟩=>z.seq hS) ?_ ?_⟩
 ·rintro i x σ H1 hx ⟨m,v,ys,rfl,h1b,g1,s1⟩;obtain⟨e,hei,q,wq,rfl,hq,hw⟩:=g.at' hx;have hq1:=s1 _ _ hq;have hw1:=s1 _ _ hw;have hi:i<L.length:=(Qaf.mp hei).1;have hge:=hnn e (Qau hei);have lys:ys.length≤i:=by have:=ZbV (L.take i);have:=g1.1;rw[Qav] at*;omega
  refine⟨q,_,rfl,SqT.of hq1,rfl,_,_,rfl,_,_,rfl,rfl,?_⟩;refine⟨_,rfl,rfl,_,rfl,Zda (fun hc=> ?_) (fun hc=> ?_)⟩
  ·have hc:=Qao hc;have hz:e.1=0:=V.int.inj hc;refine⟨_,_,ys,rfl,h1b,?_,s1⟩;rw[ZbE hei];unfold ZaW;rw[if_neg (by omega)];exact g1
  ·have hc:=QbH (QbE.mpr hc)
   have hpos:0<e.1:=by
    have:e.1≠0:=fun z=>hc (by rw[z]);omega
   refine⟨_,rfl,_,.inl ⟨_,SqL.of h1b,rfl⟩,?_⟩
   cases hlast:(ZaM (L.take i)).getLast? with
   |none=>
    have hnil:ZaM (L.take i)=[]:=by
     cases z:ZaM (L.take i) with
     |nil=>rfl
     |cons y r=>rw[z] at hlast;simp at hlast
    have hy0:ys=[]:=Qb4.mp (by rw[g1.1,hnil];rfl);have hyE:(!ys.isEmpty)=false:=by rw[hy0];rfl
    rw[hyE];refine Zcu (Zcu ?_);refine⟨_,rfl,.inl ⟨rfl,_,SqL.of h1b⟩,_,rfl,_,rfl,(by show 2≤sizeLine;decide),fun p hp=> ?_⟩;have npb:p≠b:=fun z=>by rw[z,h1b] at hp;cases hp
    have h8b:=(Zax (H:=H1) (a:=p) (o:=.tup [.int e.1,.ref wq]) (Ne.symm npb)).trans h1b;refine⟨b,_,_,rfl,rfl,h8b,QaG (by have:=lys;omega:ys.length≤1000) (by decide),?_⟩;have T8:Zbd H1 (upd H1 p (.tup [.int e.1,.ref wq])):=(Zbd.refl _).new hp;have T9:Zbd (upd H1 p (.tup [.int e.1,.ref wq])) (upd (upd H1 p (.tup [.int e.1,.ref wq])) b (.lst (ys++ [.ref p]))):=(Zbd.refl _).lst h8b;refine⟨_,_,_,rfl,Zad,?_,Zak.ow (Zak.nw s1 hp) fb⟩;rw[ZbE hei];unfold ZaW;rw[if_pos hpos];rw[hlast];dsimp only;exact Wg.snoc (g1.up (T8.trans T9)) ⟨p,wq,rfl,T9 _ _ Zad,T9 _ _ (T8 _ _ hw1)⟩
   |some l0=>
    have hne:ZaM (L.take i)≠ []:=fun z=>by rw[z] at hlast;cases hlast
    have hyn:ys≠ []:=fun z=>by
     have:=g1.1;rw[z] at this;exact hne (Qb4.mp this.symm)
    have hyE:(!ys.isEmpty)=true:=by cases ys with|nil=>exact absurd rfl hyn|cons y r=>rfl
    rw[hyE];refine Zc7 ?_;have hl0:(ZaM (L.take i))[ys.length-1]?=some l0:=by rw[g1.1,←Qa9];exact hlast
    obtain⟨y0,hy0,q0,w0,rfl,hq0,hw0⟩:=g1.get hl0;have hyl:ys.getLast?=some (V.ref q0):=by rw[Qa9];exact hy0
    have hat:atI ys (-1)=some (V.ref q0):=by
     have:ys=ys.dropLast++ [V.ref q0]:=Zcr hyl;rw[this];exact Zep _ _
    refine⟨_,rfl,_,rfl,b,_,_,V.ref q0,rfl,rfl,SqL.of h1b,hat,q0,_,_,_,rfl,rfl,SqT.of hq0,rfl,_,rfl,_,_,Zdc hw0,Zdc hw1,Zed _,Zed _,(by rw[ZgF];decide),_,rfl,?_⟩;rw[Ziz];refine Zda (fun hE=> ?_) (fun hE=> ?_)
    ·have hE:=Qao hE;refine⟨_,rfl,_,rfl,b,_,_,V.ref q0,rfl,rfl,SqL.of h1b,hat,q0,_,_,_,rfl,rfl,SqT.of hq0,rfl,_,rfl,_,_,rfl,rfl,_,rfl,(by show 2≤sizeLine;decide),fun p hp=> ?_⟩;have npb:p≠b:=fun z=>by rw[z,h1b] at hp;cases hp
     have h8b:=(Zax (H:=H1) (a:=p) (o:=.tup [.int (l0.1+e.1),.ref wq]) (Ne.symm npb)).trans h1b
     have hix:ixN ys.length (-1)=some (ys.length-1):=by
      have:0<ys.length:=Qdb.mpr hyn;unfold ixN;rw[if_neg (by decide),if_pos (by omega)];congr 1;omega
     refine⟨_,rfl,_,rfl,b,ys,_,ys.length-1,rfl,rfl,h8b,hix,?_⟩;have T8:Zbd H1 (upd H1 p (.tup [.int (l0.1+e.1),.ref wq])):=(Zbd.refl _).new hp;have T9:Zbd (upd H1 p (.tup [.int (l0.1+e.1),.ref wq])) (upd (upd H1 p (.tup [.int (l0.1+e.1),.ref wq])) b (.lst (ys.set (ys.length-1) (.ref p)))):=(Zbd.refl _).lst h8b;refine⟨_,_,_,rfl,Zad,?_,Zak.ow (Zak.nw s1 hp) fb⟩;rw[ZbE hei];unfold ZaW;rw[if_pos hpos,hlast];dsimp only;rw[if_pos hE,ZcL hyl];refine Wg.snoc ((g1.pop).up (T8.trans ?_)) ⟨p,wq,rfl,?_,?_⟩
     ·rw[ZcL hyl] at T9;exact T9
     ·rw[ZcL hyl] at T9;show _=some (HO.tup [V.int (e.1+l0.1),V.ref wq]);rw[Qer e.1 l0.1];exact T9 _ _ Zad
     ·rw[ZcL hyl] at T9;exact T9 _ _ (T8 _ _ hw1)
    ·have hE:=QbH (QbE.mpr hE);refine⟨_,rfl,.inl ⟨rfl,_,SqL.of h1b⟩,_,rfl,_,rfl,(by show 2≤sizeLine;decide),fun p hp=> ?_⟩;have npb:p≠b:=fun z=>by rw[z,h1b] at hp;cases hp
     have h8b:=(Zax (H:=H1) (a:=p) (o:=.tup [.int e.1,.ref wq]) (Ne.symm npb)).trans h1b;refine⟨b,_,_,rfl,rfl,h8b,QaG (by have:=lys;omega:ys.length≤1000) (by decide),?_⟩;have T8:Zbd H1 (upd H1 p (.tup [.int e.1,.ref wq])):=(Zbd.refl _).new hp;have T9:Zbd (upd H1 p (.tup [.int e.1,.ref wq])) (upd (upd H1 p (.tup [.int e.1,.ref wq])) b (.lst (ys++ [.ref p]))):=(Zbd.refl _).lst h8b;refine⟨_,_,_,rfl,Zad,?_,Zak.ow (Zak.nw s1 hp) fb⟩;rw[ZbE hei];unfold ZaW;rw[if_pos hpos];rw[hlast];dsimp only;rw[if_neg hE];exact Wg.snoc (g1.up (T8.trans T9)) ⟨p,wq,rfl,T9 _ _ Zad,T9 _ _ (T8 _ _ hw1)⟩
 ·rintro σ H1 ⟨m,v,ys,rfl,h1b,g1,s1⟩;have hlx:L.take xs.length=L:=by rw[g.1];exact QaO
  rw[hlx] at g1;exact⟨_,rfl,k b ys H1 fb h1b g1 s1⟩
def Zg8 (K:PySem.W.Frag):Sp:=fun vs H Q _=>∃(a:Addr) (xs:List V) (L:WL) (bg:Int),vs=[.ref a,.int bg]∧SqL K H a xs∧Wg H xs L∧L.length≤1000∧∀(b:Addr) (zs:List V) (H':Hp),H b=none→H' b=some (.lst zs)→Ly H' zs L bg→Zak H H'→Q (.ref b) H'
def Zql (K:PySem.W.Frag):TS:=ZaP (ZaY (ZcK Zau) (Zan 2)) (ZaP (Ze5 (Zci K (Zah 0)) (Ze4 K 2 (Zbc (Zan 3) (Zbc (Zan 4) ZfD))) (ZaP (ZcI (tBM K "list" Zcc (Zah 2) (Zaa (ZdM (Zaa (Zah 1) (Zaa (tOp (rI0 fun i j=>V.int (i+j)) (Zah 1) (Zah 3)) (Zaa (Zah 4) Zau)))) Zau))) (Zqu 1 (Zah 3) (ipI fun i j=>i+j)))) (ZbY (Zah 2)))
theorem ZjG {K:PySem.W.Frag}{xs:List V}{L:WL}{bg:Int}(hS:SqL K H a xs)(g:Wg H xs L)(hL:L.length≤1000)(k:∀(b:Addr) (zs:List V) (H':Hp),H b=none→H' b=some (.lst zs)→Ly H' zs L bg→Zak H H'→Q (.ref b) H'):Zql K {nx:=Z,rt:=Q } [some (.ref a),some (.int bg),none,none,none] H:=by
 refine⟨(by show 0≤sizeLine;decide),fun b fb=> ?_⟩;refine⟨_,rfl,a,rfl,⟨xs,(Zak.nw (Zak.refl H) fb).seq hS⟩,Zbx (K:=K) (a:=a) (xs:=xs) (fun i σ H'=>∃(m v:Option V) (zs:List V),σ=[some (.ref a),some (.int (bg+tot (L.take i))),some (.ref b),m,v]∧H' b=some (.lst zs)∧zs.length=i∧(∀j e,j<i→L[j]?=some e→∃p wq,zs[j]?=some (V.ref p)∧H' p=some (.tup [.int (bg+tot (L.take j)),.int (bg+tot (L.take (j+1))),.ref wq])∧H' wq=some (.tup (e.2.map V.int)))∧Zak H H') ⟨_,_,[],by rw[Qa8,Zaw,Qbe];rfl,Zad,rfl,fun j e hj=>absurd hj (Nat.not_lt_zero _),Zak.nw (Zak.refl H) fb⟩ (fun i σ H' _ ⟨_,_,_,_,_,_,_,z⟩=>z.seq hS) ?_ ?_⟩
 ·rintro i x σ H1 hx ⟨m,v,zs,rfl,h1b,lz,ly,s1⟩;obtain⟨e,hei,q,wq,rfl,hq,hw⟩:=g.at' hx;have hi:i<L.length:=(Qaf.mp hei).1;have hw1:=s1 _ _ hw;refine⟨q,_,rfl,SqT.of (s1 _ _ hq),rfl,_,_,rfl,_,_,rfl,rfl,?_⟩;refine⟨_,rfl,.inl ⟨rfl,_,SqL.of h1b⟩,_,rfl,_,rfl,_,rfl,_,_,rfl,rfl,_,rfl,(by show 3≤sizeLine;decide),fun p hp=> ?_⟩;have npb:p≠b:=fun z=>by rw[z,h1b] at hp;cases hp
  have h8b:=(Zax (H:=H1) (a:=p) (o:=.tup [.int (bg+tot (L.take i)),.int (bg+tot (L.take i)+e.1),.ref wq]) (Ne.symm npb)).trans h1b;refine⟨b,_,_,rfl,rfl,h8b,QaG (by omega:zs.length≤1000) (by decide),?_⟩;have T8:Zbd H1 (upd H1 p (.tup [.int (bg+tot (L.take i)),.int (bg+tot (L.take i)+e.1),.ref wq])):=(Zbd.refl _).new hp;have T9:Zbd (upd H1 p (.tup [.int (bg+tot (L.take i)),.int (bg+tot (L.take i)+e.1),.ref wq])) (upd (upd H1 p (.tup [.int (bg+tot (L.take i)),.int (bg+tot (L.take i)+e.1),.ref wq])) b (.lst (zs++ [.ref p]))):=(Zbd.refl _).lst h8b;have T:=T8.trans T9;have ets:bg+tot (L.take (i+1))=bg+tot (L.take i)+e.1:=by rw[Zcq hei];omega
  refine⟨_,rfl,_,rfl,_,_,rfl,rfl,some (.int e.1),some (.ref wq),_,?_,Zad,by rw[Qae,lz];rfl,fun j d hj hd=> ?_,Zak.ow (Zak.nw s1 hp) fb⟩
  ·rw[ets];rfl
  ·by_cases hji:j<i
   ·obtain⟨p',w',a1,a2,a3⟩:=ly j d hji hd;exact⟨p',w',by rw[QaK (by omega)];exact a1,T _ _ a2,T _ _ a3⟩
   ·have e0:j=i:=by omega
    subst e0;rw[hei] at hd;cases hd;refine⟨p,wq,by rw[QaF (by omega),lz,QdV];rfl,?_,T _ _ hw1⟩;rw[ets];exact T9 _ _ Zad
 ·rintro σ H1 ⟨m,v,zs,rfl,h1b,lz,ly,s1⟩;have hxl:=g.1;exact⟨_,rfl,k b zs H1 fb h1b ⟨by omega,fun i e he=>ly i e (by have:=(Qaf.mp he).1;omega) he⟩ s1⟩
def Zg9 (K:PySem.W.Frag):Sp:=fun vs H Q _=>∃(a:Addr) (xs:List V) (L:WL) (bg en:Int),vs=[.ref a,.int bg,.int en]∧SqL K H a xs∧Wg H xs L∧L.length≤1000∧L2.Pos L∧bg≤en∧∀(b:Addr) (ys:List V) (H':Hp),H b=none→H' b=some (.lst ys)→Wg H' ys (ZaM (Zcz bg en 0 L))→Zak H H'→Q (.ref b) H'
def Zpy (K:PySem.W.Frag):TS:=ZaP (ZaY (ZcK Zau) (Zan 3)) (ZaP (Ze5 (Zci K (ZaF (Zg8 K) [] E0 (Zaa (Zah 0) (Zaa (tC (V.int 0)) Zau)))) (Ze4 K 3 (Zbc (Zan 4) (Zbc (Zan 5) (Zbc (Zan 6) ZfD)))) (ZcP (ZnI (Za3 (tOp (rI0 fun i j=>V.bl (decide (i<j))) (Zah 4) (Zah 2))) (Za3 (tOp (rI0 fun i j=>V.bl (decide (i<j))) (Zah 1) (Zah 5)))) (ZcI (tBM K "list" Zcc (Zah 3) (Zaa (ZdM (Zaa (tOp (rI0 fun i j=>V.int (i-j)) (tCB (fun xs H Q=>∃i j,xs=[V.int i,V.int j]∧Q (V.int (if j<i then j else i)) H) (Zaa (Zah 5) (Zaa (Zah 2) Zau))) (tCB (fun xs H Q=>∃i j,xs=[V.int i,V.int j]∧Q (V.int (if j>i then j else i)) H) (Zaa (Zah 4) (Zaa (Zah 1) Zau)))) (Zaa (Zah 6) Zau))) Zau))) Zbv)) (ZbY (ZaF (Zdm K) [] E0 (Zaa (Zah 3) Zau))))
theorem ZjH {K:PySem.W.Frag}{xs:List V}{L:WL}{bg en:Int}(hS:SqL K H a xs)(g:Wg H xs L)(hL:L.length≤1000)(hpos:L2.Pos L)(hbe:bg≤en)(k:∀(b:Addr) (ys:List V) (H':Hp),H b=none→H' b=some (.lst ys)→Wg H' ys (ZaM (Zcz bg en 0 L))→Zak H H'→Q (.ref b) H'):Zpy K {nx:=Z,rt:=Q } [some (.ref a),some (.int bg),some (.int en),none,none,none,none] H:=by
 refine⟨(by show 0≤sizeLine;decide),fun c fc=> ?_⟩;have s1:Zak H (upd H c (.lst [])):=Zak.nw (Zak.refl H) fc;have hc1:(upd H c (.lst [])) c=some (.lst []):=Zad;generalize upd H c (.lst [])=H1 at s1 hc1⊢;refine⟨_,rfl,a,xs,L,0,rfl,s1.seq hS,g.up s1.tups,hL,fun b zs H2 fb hb ly s2=> ?_⟩;have s02:=s1.trans s2;refine⟨b,rfl,⟨zs,SqL.of hb⟩,Zbx (K:=K) (a:=b) (xs:=zs) (fun i σ H'=>∃(x4 x5 x6:Option V) (ys:List V),σ=[some (.ref a),some (.int bg),some (.int en),some (.ref c),x4,x5,x6]∧H' c=some (.lst ys)∧H' b=some (.lst zs)∧Wg H' ys (Zcz bg en 0 (L.take i))∧Zbd H2 H'∧Zak H H') ⟨_,_,_,[],rfl,s2 _ _ hc1,hb,Wg.nil _,Zbd.refl _,s02⟩ (fun i σ H' _ ⟨_,_,_,_,_,_,z,_⟩=>SqL.of z) ?_ ?_⟩
 ·rintro i x σ H3 hx ⟨x4,x5,x6,ys,rfl,h3c,h3b,g3,T3,s3⟩;have hi:i<L.length:=by rw[←ly.1];exact(Qaf.mp hx).1
  have hei:=Qah hi;obtain⟨p,wq,a1,a2,a3⟩:=ly.2 i _ hei;rw[hx] at a1;cases a1
  have lys:ys.length≤1000:=by
   rw[g3.1]
   have:=ZcY bg en (L.take i) 0;rw[Qav] at this;omega
  have ets:(0:Int)+tot (L.take (i+1))=0+tot (L.take i)+(L[i]).1:=by rw[Zcq hei];omega
  have esn:Zcz bg en 0 (L.take (i+1))=Zcz bg en 0 (L.take i)++Zcy bg en (0+tot (L.take i)) (L[i]).1 (L[i]).2:=by rw[ZaJ hei,ZgG]
  rw[ets] at a2;refine⟨p,_,rfl,SqT.of (T3 _ _ a2),rfl,_,_,rfl,_,_,rfl,_,_,rfl,rfl,?_⟩;refine⟨_,rfl,_,rfl,_,_,rfl,rfl,_,rfl,Zda (fun c1=> ?_) (fun c1=> ?_)⟩
  ·have c1:=Qao c1;refine⟨_,rfl,_,rfl,_,_,rfl,rfl,_,rfl,Zda (fun c2=> ?_) (fun c2=> ?_)⟩
   ·have c2:=Qao c2;refine⟨_,rfl,.inl ⟨rfl,_,SqL.of h3c⟩,_,rfl,_,rfl,_,_,rfl,_,rfl,_,rfl,_,_,rfl,_,_,rfl,rfl,_,rfl,(by show 2≤sizeLine;decide),fun p' hp'=> ?_⟩;have npc:p'≠c:=fun z=>by rw[z,h3c] at hp';cases hp'
    have npb:p'≠b:=fun z=>by rw[z,h3b] at hp';cases hp'
    have nbc:b≠c:=fun z=>by rw[z,hc1] at fb;cases fb
    have h8c:=(Zax (H:=H3) (a:=p') (o:=.tup [.int (mn (0+tot (L.take i)+(L[i]).1) en-mx (0+tot (L.take i)) bg),.ref wq]) (Ne.symm npc)).trans h3c;refine⟨c,ys,_,rfl,rfl,h8c,QaG lys (by decide),?_⟩;have T8:Zbd H3 (upd H3 p' (.tup [.int (mn (0+tot (L.take i)+(L[i]).1) en-mx (0+tot (L.take i)) bg),.ref wq])):=(Zbd.refl _).new hp';have T9:Zbd (upd H3 p' (.tup [.int (mn (0+tot (L.take i)+(L[i]).1) en-mx (0+tot (L.take i)) bg),.ref wq])) (upd (upd H3 p' (.tup [.int (mn (0+tot (L.take i)+(L[i]).1) en-mx (0+tot (L.take i)) bg),.ref wq])) c (.lst (ys++ [.ref p']))):=(Zbd.refl _).lst h8c;refine⟨_,_,_,_,rfl,Zad,?_,?_,(T3.trans T8).trans T9,Zak.ow (Zak.nw s3 hp') fc⟩
    ·rw[Zax nbc,Zax (Ne.symm npb)];exact h3b
    ·rw[esn];unfold Zcy;rw[if_pos (show 0+tot (L.take i)<en∧bg<0+tot (L.take i)+(L[i]).1 from⟨c1,c2⟩)];exact Wg.snoc (g3.up (T8.trans T9)) ⟨p',wq,rfl,T9 _ _ Zad,T9 _ _ (T8 _ _ (T3 _ _ a3))⟩
   ·have c2:=QbH (QbE.mpr c2);refine⟨_,_,_,ys,rfl,h3c,h3b,?_,T3,s3⟩;rw[esn];unfold Zcy;rw[if_neg fun z=>c2 z.2,Qbo];exact g3
  ·have c1:=QbH (QbE.mpr c1);refine Zcu ⟨_,_,_,ys,rfl,h3c,h3b,?_,T3,s3⟩;rw[esn];unfold Zcy;rw[if_neg fun z=>c1 z.1,Qbo];exact g3
 ·rintro σ H3 ⟨x4,x5,x6,ys,rfl,h3c,h3b,g3,T3,s3⟩;have hlx:L.take zs.length=L:=by rw[ly.1];exact QaO
  rw[hlx] at g3;refine⟨_,rfl,c,ys,_,rfl,SqL.of h3c,g3,QaD (ZcY bg en L 0) hL,Zkt hbe hpos,fun b' ys' H4 fb' hb' g4 s4=> ?_⟩;exact k b' ys' H4 (s3.free fb') hb' g4 (s3.trans s4)
def paF (b e:Int)(L:WL2):WL2:=Zbw (e-b) (Zbp b L)
theorem ZiY {L:WL2}(h:Zcd L)(h0:0≤b)(hbe:b≤e):ZaM (Zcz b e 0 L)=paF b e L:=ZfQ h h0 hbe
theorem Zlm {L:WL2}(h:Zcd L)(h0:0≤b)(hbe:b≤e):(paF b e L).length≤L.length:=by
 rw[←ZiY h h0 hbe];exact QaD (ZbV _) (ZcY b e L 0)
theorem ZhV {p:List Int→Prop}{L:WL2}(h:Zcd L)(h0:0≤b)(hbe:b≤e)(a:∀d∈L,p d.2):∀d∈paF b e L,p d.2:=by
 rw[←ZiY h h0 hbe];exact Zcj (ZfR a)
def ZhW (ps:List PR)(e:Int):Bool:=ps.all fun p=>decide (p.2.1+p.2.2.1≤e)
theorem CpL.at' {ys:List V}{ps:List PR}{i:Nat}{x:V}(h:CpL H ys (ps.map pV))(hx:ys[i]?=some x):∃(q:Addr) (p:PR),ps[i]?=some p∧x= .ref q∧H q=some (.tup (pV p)):=by
 have il:i<ps.length:=by have:=(Qaf.mp hx).1;rw[h.1,Qac] at this;exact this
 obtain⟨q,rfl,hq⟩:=h.2 i x (pV ps[i]) hx (by rw[Qaq,Qah il];rfl);exact⟨q,ps[i],Qah il,rfl,hq⟩
theorem Zha {K:PySem.W.Frag}{i:Nat}{ya:List V}{ps:List PR}(hi:σ[i]?=some (some (.ref a)))(hj:σ[j]?=some (some (.int e)))(ha:H a=some (.lst ya))(ca:CpL H ya (ps.map pV))(hl:ps.length≤400)(k:∀H',Zak H H'→Q (.bl (ZhW ps e)) H'):
  (tCB (fun xs H_1 Q=>∃p bs,xs=[V.ref p]∧SqL K H_1 p (List.map V.bl bs)∧Q (V.bl (bs.all id)) H_1) (Zaa (ZbT 1 (Zci K (Zah i)) (Zan 0) Ze3 (tOp (rI0 fun i j=>V.bl (decide (i≤j))) (ZaF ZbQ [] E0 (Zaa (Zah 0) Zau)) (Zah (j+1)))) Zau)) σ H Q:=by
 have yl:ya.length=ps.length:=by rw[ca.1,Qac]
 refine⟨_,hi,a,rfl,⟨_,SqL.of ha⟩,ZgC (K:=K) (a:=a) (xs:=ya) (fun m ys H'=>ys=((ps.take m).map fun p=>decide (p.2.1+p.2.2.1≤e)).map V.bl∧H=H') ⟨rfl,rfl⟩ (by omega) (fun n ys H' h=>by rw[h.1,Qac,Qac,Qav];exact QbP _ _) (fun n ys H' _ h=>by rw[←h.2];exact SqL.of ha) ?_ ?_⟩
 ·rintro m x ys H' pre hpl hx ⟨rfl,rfl⟩;obtain⟨q,p,ep,rfl,hq⟩:=ca.at' hx;rcases pre with _|⟨q0,_|⟨q1,pre⟩⟩
  ·cases hpl
  ·refine⟨⟨[some _],rfl,rfl⟩,?_⟩;unfold Ze3;dsimp only;rw[if_pos (rfl:true=true)];refine⟨_,rfl,q,p,rfl,hq,_,(by show σ[j]?=some _;exact hj),_,_,rfl,rfl,?_,rfl⟩;rw[ZaJ ep,Qaw,Qaw];rfl
  ·cases hpl
 ·rintro ys H' ⟨rfl,rfl⟩ D hD;refine⟨D,_,rfl,SqL.of Zad,?_⟩
  have e1:(((ps.take ya.length).map fun p=>decide (p.2.1+p.2.2.1≤e)).all id)=ZhW ps e:=by
   rw[yl,QaO,Qep];rfl
  rw[e1];exact k _ (Zak.nw (Zak.refl H) hD)
def Zf5:Sp:=fun vs H Q _=>∃(a:Addr) (ya:List V) (ps:List PR) (e:Int),vs=[.ref a,.int e]∧H a=some (.lst ya)∧CpL H ya (ps.map pV)∧ps.length≤400∧∀H',Zak H H'→Q (.bl (ZhW ps e)) H'
def Zoh (K:PySem.W.Frag):TS:=ZbY (tCB (fun xs H_1 Q=>∃p bs,xs=[V.ref p]∧SqL K H_1 p (List.map V.bl bs)∧Q (V.bl (bs.all id)) H_1) (Zaa (ZbT 1 (Zci K (Zah 0)) (Zan 0) Ze3 (tOp (rI0 fun i j=>V.bl (decide (i≤j))) (ZaF ZbQ [] E0 (Zaa (Zah 0) Zau)) (Zah 2))) Zau))
theorem Zhb {K:PySem.W.Frag}{ya:List V}{ps:List PR}(ha:H a=some (.lst ya))(ca:CpL H ya (ps.map pV))(hl:ps.length≤400)(k:∀H',Zak H H'→Q (.bl (ZhW ps e)) H'):Zoh K {nx:=Z,rt:=Q } [some (.ref a),some (.int e)] H:=
 Zha (K:=K) (i:=0) (j:=1) rfl rfl ha ca hl k
theorem ZhX {K:PySem.W.Frag}{fs ds:List (Str×Addr)}{D:Dk}{ps:List PR}{L:WL2}{ya yb:List V}{o:Option Out}(h:ZaU H a pa pb n ps L ya yb)(hl:ps.length≤400)
  (hq:H q=some (.tup (.str w::is.map V.int))) (hv:Zl1 fs w=some g) (hg:∀H',SqT K H' g (kds.map V.str)) (el:kds.length=is.length) (h1:1≤is.length) (h3:is.length≤3) (hk:∀kd∈kds,kd= "pairing" ∨kd= "place") (hvd:Zl1 ds w=some d)
  (hd:((kds.zip is).all fun x=>Zgm n ps x.1 x.2)=true→∀H',Zak H H'→D H' q n ps L o) (hn:((kds.zip is).all fun x=>Zgm n ps x.1 x.2)=false→o=none)
  (k1:o=none→∀H',Zak H H'→E (.ref cN) none H')
  (k2:∀out:Out,o=some out→∀(c a' pa' pb' pc':Addr) (ya' yb' yc':List V) (H':Hp),Zak H H'→H c=none→H pa'=none→H pb'=none→H pc'=none→pa'≠pb'→pa'≠pc'→pb'≠pc'→ZbM H' c a' pa' pb' pc' out ya' yb' yc'→Q (.ref c) H'):
  Zpq K E fs ds d cN D {nx:=Z,rt:=Q } [some (.ref a),some (.ref q),none] H:=by
 refine⟨_,rfl,_,rfl,a,pa,pb,q,g,n,ps,L,ya,yb,w,is,kds,rfl,h,hq,hv,hg,el,h1,h3,hk,fun H1 s1=> ?_⟩;refine⟨_,rfl,fun hf=> ?_,fun z=>k1 (hn z) H1 s1⟩;refine⟨_,rfl,q,_,_,_,rfl,rfl,SqT.of (s1 _ _ hq),ZmD _ _,w,d,rfl,hvd,?_⟩;refine⟨_,rfl,rfl,_,rfl,_,rfl,a,pa,pb,q,n,ps,L,ya,yb,o,rfl,h.up s1,hl,hd hf _ s1,fun e H' s=>k1 e H' (s1.trans s),fun out e c a' pa' pb' pc' ya' yb' yc' H' s e1 e2 e3 e4 n1 n2 n3 t=>k2 out e c a' pa' pb' pc' ya' yb' yc' H' (s1.trans s) (s1.free e1) (s1.free e2) (s1.free e3) (s1.free e4) n1 n2 n3 t⟩
end L2
namespace Toy
open PySem L2 PyProof.Rows
variable {L R W:Wl}{e t p low:Int}{u v:List Int}{tn:Bool}{wd:Nat}
theorem ZeS:∀{R:Wl},Zcd R→Adj (R.map (·.2))
 | [],_=>trivial
 | [_],_=>trivial
 |e::d::r,⟨_,h2,h3⟩=>⟨h2,ZeS (R:=d::r) h3⟩
theorem Zln {A B:Wl}(a:Zcd A)(b:Zcd B)(ht:tot A=tot B)(hp:∀p,0≤p→p<tot A→atW A p=atW B p):A=B:=
 ZkD (fun e he=>by have:=a.pos e he;omega) (fun e he=>by have:=b.pos e he;omega) (ZeS a) (ZeS b) ht hp
theorem atW_lenC:∀{A:Wl} {n:Nat} {p:Int},(∀e∈A,e.2.length=n)→p<tot A→0≤p→(atW A p).length=n
 | [],n,p,h,h1,h0=>by rw[Zaw] at h1;omega
 | (a,u)::A,n,p,h,h1,h0=>by
  by_cases z:p<a
  ·rw[atW_lt z];exact h (a,u) Qad
  ·rw[atW_ge (by omega)];rw[Zat] at h1;have h1:p<a+tot A:=h1;exact atW_lenC (fun e he=>h e (Qab _ he)) (by omega) (by omega)
def stL:Int→Wl→List Int
 |_,[]=>[]
 |lo,e::L=>lo::stL (lo+e.1) L
theorem Znx:∀{L:Wl} {lo:Int} {s:Int},s∈stL lo L↔∃j,j<L.length∧s=lo+tot (L.take j)
 | [],lo,s=>⟨fun h=>(by cases h),fun⟨j,h,_⟩=>absurd h (Nat.not_lt_zero j)⟩
 |e::L,lo,s=>by
  show s∈lo::stL (lo+e.1) L↔_;rw[Qas,Znx];constructor
  ·rintro(h|⟨j,h1,h2⟩)
   ·exact⟨0,by simp,by rw[Qa8,Zaw];omega⟩
   ·exact⟨j+1,by simp;exact h1,by rw[Qbg,Zat];omega⟩
  ·rintro⟨j,h1,h2⟩
   cases j with
   |zero=>left;rw[Qa8,Zaw] at h2;omega
   |succ j=>exact .inr ⟨j,by simpa using h1,by rw[Qbg,Zat] at h2;omega⟩
theorem Zew:∀{L:Wl} {lo p:Int},(∀e∈L,0<e.1)→0≤p→p+1<tot L→lo+p+1∉stL lo L→atW L p=atW L (p+1)
 | [],lo,p,_,h0,h1,_=>by rw[Zaw] at h1;omega
 | (a,u)::L,lo,p,pos,h0,h1,hn=>by
  have pa:0<a:=pos (a,u) Qad;rw[Zat] at h1;have h1:p+1<a+tot L:=h1;by_cases c:p+1<a
  ·rw[atW_lt c,atW_lt (by omega)]
  ·by_cases d:p+1=a
   ·exfalso
    cases L with
    |nil=>rw[Zaw] at h1;omega
    |cons x r=>exact hn (Qab _ (by show lo+p+1∈(lo+a)::_;rw[show lo+p+1=lo+a by omega];exact Qad))
   ·rw[atW_ge (by omega),atW_ge (by omega),show p+1-a=(p-a)+1 by omega];refine Zew (lo:=lo+a) (fun e he=>pos e (Qab _ he)) (by omega) (by omega) fun z=>hn (Qab _ ?_);rw[show lo+p+1=lo+a+(p-a)+1 by omega];exact z
def nS (en t p:Int)(i:Nat):Wl→Int→Int
 | [],_=>0
 |e::L,lo=>(if L2.mx lo en<lo+e.1 then co e.2 i*((lo+e.1-1-p)/t-(L2.mx lo en-1-p)/t) else 0)+nS en t p i L (lo+e.1)
theorem Zlo {en t p:Int}{i:Nat}:∀{L:Wl} {lo:Int},(∀e∈L,0<e.1)→en≤lo→nS en t p i L lo=GG t (p-en+t) i L (lo-en)
 | [],lo,_,_=>rfl
 | (m,w)::L,lo,pos,h=>by
  have pm:0<m:=pos (m,w) Qad;show(if L2.mx lo en<lo+m then co w i*((lo+m-1-p)/t-(L2.mx lo en-1-p)/t) else 0)+nS en t p i L (lo+m)=co w i*((lo-en+m+t-1-(p-en+t))/t-(lo-en+t-1-(p-en+t))/t)+GG t (p-en+t) i L (lo-en+m);have em:L2.mx lo en=lo:=by unfold L2.mx;rw[if_neg (by omega)]
  rw[em,if_pos (by omega),Zlo (fun e he=>pos e (Qab _ he)) (by omega),show lo+m-en=lo-en+m by omega,show lo-en+m+t-1-(p-en+t)=lo+m-1-p by omega,show lo-en+t-1-(p-en+t)=lo-1-p by omega]
theorem ZeT {en t p:Int}{i:Nat}:∀{L:Wl} {lo:Int},(∀e∈L,0<e.1)→lo≤en→nS en t p i L lo=GG t (p-en+t) i (Zbp (en-lo) L) 0
 | [],lo,_,_=>rfl
 | (m,w)::L,lo,pos,h=>by
  have pm:0<m:=pos (m,w) Qad;have pr:∀e∈L,0<e.1:=fun e he=>pos e (Qab _ he);by_cases c:lo=en
  ·rw[Zlo pos (by omega),show en-lo=0 by omega,show lo-en=0 by omega];show _=GG t (p-en+t) i (if(0:Int)≤0 then(m,w)::L else _) 0;rw[if_pos (QaX _)]
  ·have em:L2.mx lo en=en:=by unfold L2.mx;rw[if_pos (by omega)]
   show(if L2.mx lo en<lo+m then co w i*((lo+m-1-p)/t-(L2.mx lo en-1-p)/t) else 0)+nS en t p i L (lo+m)=GG t (p-en+t) i (if en-lo≤0 then(m,w)::L else if en-lo<m then(m-(en-lo),w)::L else Zbp (en-lo-m) L) 0;rw[em,if_neg (show ¬en-lo≤0 by omega)];by_cases d:en-lo<m
   ·rw[if_pos d,if_pos (by omega),Zlo pr (by omega)];show _=co w i*((0+(m-(en-lo))+t-1-(p-en+t))/t-(0+t-1-(p-en+t))/t)+GG t (p-en+t) i L (0+(m-(en-lo)));rw[show 0+(m-(en-lo))+t-1-(p-en+t)=lo+m-1-p by omega,show 0+t-1-(p-en+t)=en-1-p by omega,show 0+(m-(en-lo))=lo+m-en by omega]
   ·rw[if_neg d,if_neg (by omega),QbT,ZeT pr (by omega),show en-(lo+m)=en-lo-m by omega]
theorem Zfv:∀{L:Wl} {a:Int} {j:Nat},(∀e∈L,0<e.1)→0≤a→a<tot L→j≤(Zbp a L).length→tot ((Zbp a L).take j)=0∨∃k,k≤L.length∧tot (L.take k)=a+tot ((Zbp a L).take j)
 | [],a,j,_,_,h,_=>by rw[Zaw] at h;omega
 | (m,w)::L,a,j,pos,h0,h1,hj=>by
  have pm:0<m:=pos (m,w) Qad;have pr:∀e∈L,0<e.1:=fun e he=>pos e (Qab _ he);rw[Zat] at h1;have h1:a<m+tot L:=h1;have ed:Zbp a ((m,w)::L)=if a≤0 then(m,w)::L else if a<m then(m-a,w)::L else Zbp (a-m) L:=rfl;rw[ed] at hj⊢;by_cases c:a≤0
  ·have e0:a=0:=by omega
   rw[if_pos c] at hj⊢;exact .inr ⟨j,hj,by omega⟩
  ·rw[if_neg c] at hj⊢;by_cases d:a<m
   ·rw[if_pos d] at hj⊢
    cases j with
    |zero=>left;rw[Qa8,Zaw]
    |succ j=>
     right;refine⟨j+1,hj,?_⟩;rw[Qbg,Qbg,Zat,Zat];show m+_=a+(m-a+_);omega
   ·rw[if_neg d] at hj⊢;rcases Zfv (j:=j) pr (show 0≤a-m by omega) (by omega) hj with z|⟨k,hk,e⟩
    ·exact .inl z
    ·right;refine⟨k+1,by simp;exact hk,?_⟩;rw[Qbg,Zat];show m+_=_;omega
theorem Zoi {en n:Int}{i:Nat}(pos:∀e∈L,0<e.1)(tn:tot L=n)(e0:0≤en)(e1:en<n)(ht:0<t)(p0:en-t≤p)(p1:p+1<en)(hn:∀s∈stL 0 L++ [n],en<s→p+1≠en-t+(s-en) %t):nS en t p i L 0=nS en t (p+1) i L 0:=by
 rw[ZeT pos (by omega),ZeT pos (by omega),show p+1-en+t=(p-en+t)+1 by omega];refine ZkJ ht (by omega) (by omega) (by omega) i fun j hj hle=> ?_;rw[QbT] at hle⊢;rw[show en-0=en by omega] at hj hle⊢;rcases Zfv pos e0 (by omega) hj with z|⟨k,hk,e⟩
 ·rw[z,Int.zero_emod];omega
 ·by_cases c:tot ((Zbp en L).take j)=0
  ·rw[c,Int.zero_emod];omega
  ·have nn:=tot_pos0 (M:=(Zbp en L).take j) fun x hx=>Qa5 (by
    have nr:∀{L:Wl} {a:Int},(∀e∈L,0<e.1)→∀e∈Zbp a L,0<e.1:=by
     intro L
     induction L with
     |nil=>intro a _ e he;cases he
     |cons y L ih=>
      intro a h e he
      have he:e∈if a≤0 then y::L else if a<y.1 then(y.1-a,y.2)::L else Zbp (a-y.1) L:=he
      split at he
      ·exact h e he
      ·split at he
       ·rcases Qas.mp he with q|q
        ·rw[q];show 0<y.1-a;omega
        ·exact h e (Qab _ q)
       ·exact ih (fun e he=>h e (Qab _ he)) e he
    exact nr pos x (Qcj hx))
   have sm:tot (L.take k)∈stL 0 L++ [n]:=by
    by_cases d:k<L.length
    ·exact QaM _ (Znx.mpr ⟨k,d,by omega⟩)
    ·refine QaA _ (Qan.mpr ?_);rw[Qba (by omega),tn]
   have:=hn _ sm (by omega);rw[e,show en+tot ((Zbp en L).take j)-en=tot ((Zbp en L).take j) by omega] at this;omega
def pcL (en:Int)(f:Int→List Int):List Int→Wl
 | []=>[]
 | [s]=>[(en-s,f s)]
 |s::s'::r=>(s'-s,f s)::pcL en f (s'::r)
theorem pcL_pos {en:Int}{f:Int→List Int}:∀{ss:List Int},ss.Pairwise (· < ·)→(∀s∈ss,s<en)→∀e∈pcL en f ss,0<e.1
 | [],_,_,e,he=>by cases he
 | [s],_,h,e,he=>by
  rw[Qan.mp he]
  have:=h s Qad;show 0<en-s;omega
 |s::s'::r,pw,h,e,he=>by
  rcases Qas.mp he with q|q
  ·rw[q]
   have:=(Qbl.mp pw).1 s' Qad;show 0<s'-s;omega
  ·exact pcL_pos (Qbl.mp pw).2 (fun x hx=>h x (Qab _ hx)) e q
theorem Zlp {en:Int}{f:Int→List Int}:∀{r:List Int} {s:Int},tot (pcL en f (s::r))=en-s
 | [],s=>by show tot [(en-s,f s)]=_;rw[Zat,Zaw];show en-s+0=_;omega
 |s'::r,s=>by
  show tot ((s'-s,f s)::pcL en f (s'::r))=_;rw[Zat,Zlp];show s'-s+(en-s')=_;omega
theorem Zny {en:Int}{G f:Int→List Int}:∀{r:List Int} {s p:Int},(s::r).Pairwise (· < ·)→(∀x∈s::r,x<en)→(∀x∈s::r,f x=G x)→(∀p,s≤p→p+1<en→p+1∉r→G p=G (p+1))→s≤p→p<en→atW (pcL en f (s::r)) (p-s)=G p
 | [],s,p,pw,lt,fg,st,h0,h1=>by
  show atW [(en-s,f s)] (p-s)=_;rw[atW_lt (by omega),fg s Qad]
  have key:∀k:Nat,s+(k:Int)<en→G s=G (s+(k:Int)):=by
   intro k
   induction k with
   |zero=>intro _;rw[show s+((0:Nat):Int)=s by omega]
   |succ k ih=>
    intro h;rw[ih (by omega),st (s+(k:Int)) (by omega) (by omega) (by simp),show s+((k+1:Nat):Int)=s+(k:Int)+1 by omega]
  have:=key (p-s).toNat (by omega);rw[this,show s+((p-s).toNat:Int)=p by omega]
 |s'::r,s,p,pw,lt,fg,st,h0,h1=>by
  have ss:=(Qbl.mp pw).1 s' Qad;have pw':=(Qbl.mp pw).2;show atW ((s'-s,f s)::pcL en f (s'::r)) (p-s)=_;by_cases c:p<s'
  ·rw[atW_lt (by omega),fg s Qad]
   have key:∀k:Nat,s+(k:Int)<s'→G s=G (s+(k:Int)):=by
    intro k
    induction k with
    |zero=>intro _;rw[show s+((0:Nat):Int)=s by omega]
    |succ k ih=>
     intro h;have l':=lt s' (Qab _ Qad)
     rw[ih (by omega),st (s+(k:Int)) (by omega) (by omega) (fun z=>by
      rcases Qas.mp z with q|q
      ·omega
      ·have:=(Qbl.mp pw').1 _ q
       omega),show s+((k+1:Nat):Int)=s+(k:Int)+1 by omega]
   have:=key (p-s).toNat (by omega);rw[this,show s+((p-s).toNat:Int)=p by omega]
  ·rw[atW_ge (by omega),show p-s-(s'-s)=p-s' by omega];refine Zny pw' (fun x hx=>lt x (Qab _ hx)) (fun x hx=>fg x (Qab _ hx)) (fun q q0 q1 hq=>st q (by omega) q1 fun z=> ?_) (by omega) h1;rcases Qas.mp z with y|y
   ·omega
   ·exact hq y
def plusW (us vs:List Int):List Int:=List.zipWith (fun a b=>a+b) us vs
structure PutOf (A C:Wl)(bg:Int)(R:Wl):Prop where
 nrm:Zcd R
 sum:tot R=tot A
 at':∀p,0≤p→p<tot A→atW R p=if bg≤p∧p<bg+tot C then plusW (atW A p) (atW C (p-bg)) else atW A p
 len:R.length≤900
structure HeapOf (n:Nat)(S:Sl)(c0 c1:Int)(R:Wl)(m:Nat):Prop where
 nrm:Zcd R
 sum:tot R=c1-c0
 wid:∀e∈R,e.2.length=n
 at':∀p,c0≤p→p<c1→∀i,co (atW R (p-c0)) i=FF S p i
 len:R.length≤m
theorem plus_coC (h:u.length=v.length)(i:Nat):co (plusW u v) i=co u i+co v i:=by
 unfold plusW;exact ZdJ i h
theorem plus_lenC (h:u.length=v.length):(plusW u v).length=u.length:=by
 unfold plusW;rw[Qbt,h];exact QcL _
theorem tot_revC (L:Wl):tot L.reverse=tot L:=by unfold tot;rw[List.map_reverse,List.sum_reverse]
theorem ZiZ:∀{A:Wl} {y:Int},(∀e∈A,0<e.1)→0≤y→y<tot A→atW A.reverse y=atW A (tot A-1-y)
 | [],y,_,h0,h1=>by rw[Zaw] at h1;omega
 | (a,u)::A,y,pos,h0,h1=>by
  have pa:0<a:=pos (a,u) Qad;have pr:∀e∈A,0<e.1:=fun e he=>pos e (Qab _ he);have p0:∀e∈A.reverse,0≤e.1:=fun e he=>Qa5 (pr e (QdM.mp he));rw[Zat] at h1⊢;have h1:y<a+tot A:=h1;show atW ((a,u)::A).reverse y=atW ((a,u)::A) (a+tot A-1-y);rw[Qdw];by_cases c:y<tot A
  ·rw[ZcN p0 h0 (by rw[tot_revC];exact c),ZiZ pr h0 c,atW_ge (by omega)];congr 1;omega
  ·rw[Zce p0 (by rw[tot_revC];omega),tot_revC,atW_lt (by omega),atW_lt (by omega)]
def Zdg (L:Wl)(low t e:Int)(tn:Bool)(x:Int)(i:Nat):Int:=
 co (atW L x) i+(if tn=true then(if e≤low+tot L-1-x∧low+tot L-1-x<tot L then co (atW L (low+tot L-1-x)) i else 0) else(if e-t≤x then nS e t x i L 0 else 0))
structure IsCut (L:Wl)(low t e:Int)(tn:Bool)(wd:Nat)(R:Wl):Prop where
 nrm:Zcd R
 sum:tot R=e
 wid:∀d∈R,d.2.length=wd
 at':∀x,0≤x→x<e→∀i,co (atW R x) i=Zdg L low t e tn x i
theorem IsCut.uni {R':Wl}(a:IsCut L low t e tn wd R)(b:IsCut L low t e tn wd R'):R=R':=
 Zln a.nrm b.nrm (by rw[a.sum,b.sum]) fun p h0 h1=>by
  rw[a.sum] at h1;exact ZiG (by rw[atW_lenC a.wid (by rw[a.sum];exact h1) h0,atW_lenC b.wid (by rw[b.sum];exact h1) h0]) fun i=>by rw[a.at' p h0 h1 i,b.at' p h0 h1 i]
theorem Zex {n:Nat}(nR:Zcd R)(h:∀p,0≤p→p<tot R→(atW R p).length=n):∀e∈R,e.2.length=n:=fun e he=>by
 have key:∀{M:Wl},(∀e∈M,0<e.1)→∀{e:Int×List Int},e∈M→∃p,0≤p∧p<tot M∧atW M p=e.2:=by
  intro M
  induction M with
  |nil=>intro _ e h;cases h
  |cons x M ih=>
   intro pos e h;have x0:=pos x Qad;have hM:=fun z hz=>pos z (Qab x hz);have t0:=tot_pos0 (M:=M) fun z hz=>Qa5 (hM z hz);rcases Qas.mp h with z|z
   ·refine⟨0,QaX _,by rw[Zat];omega,?_⟩;rw[z,show x=(x.1,x.2) from rfl,atW_lt (by exact x0)]
   ·obtain⟨p,p0,p1,pe⟩:=ih hM z;refine⟨p+x.1,by omega,by rw[Zat];omega,?_⟩;rw[show x=(x.1,x.2) from rfl,atW_ge (by show x.1≤p+x.1;omega),show p+x.1-x.1=p by omega];exact pe
 obtain⟨p,p0,p1,pe⟩:=key (fun d hd=>nR.pos d hd) he;rw[←pe];exact h p p0 p1
theorem Znz {t p:Int}(ht:0<t)(hp:0≤p)(hpt:p<t)(i:Nat):∀{O:Wl} {lo:Int},(∀e∈O,0<e.1)→0≤lo→lo+tot O≤t→GG t p i O lo=if lo≤p∧p<lo+tot O then co (atW O (p-lo)) i else 0
 | [],lo,_,h0,h1=>by
  rw[Zaw,if_neg (by omega)];rfl
 | (m,w)::O,lo,pos,h0,h1=>by
  have pm:0<m:=pos (m,w) Qad;have pr:∀e∈O,0<e.1:=fun e he=>pos e (Qab _ he);have t0:=tot_pos0 (M:=O) fun z hz=>Qa5 (pr z hz);rw[Zat] at h1⊢;have h1:lo+(m+tot O)≤t:=h1;show co w i*((lo+m+t-1-p)/t-(lo+t-1-p)/t)+GG t p i O (lo+m)=if lo≤p∧p<lo+(m+tot O) then co (atW ((m,w)::O) (p-lo)) i else 0;rw[Znz ht hp hpt i pr (by omega) (by omega)]
  have dv:∀z:Int,0≤z→z≤t→(z+t-1-p)/t=if p<z then 1 else 0:=fun z z0 z1=>by
   by_cases c:p<z
   ·rw[if_pos c,show z+t-1-p=(z-1-p)+t*1 by omega,QbU _ _ (by omega),QbD (by omega) (by omega)];rfl
   ·rw[if_neg c,QbD (by omega) (by omega)]
  rw[dv (lo+m) (by omega) (by omega),dv lo h0 (by omega)];by_cases c1:p<lo
  ·rw[if_pos (show p<lo+m by omega),if_pos c1,if_neg (by omega),if_neg (by omega)];simp
  ·rw[if_neg c1];by_cases c2:p<lo+m
   ·rw[if_pos c2,if_neg (by omega),if_pos (by omega),atW_lt (by omega)];simp
   ·rw[if_neg c2];by_cases c3:p<lo+m+tot O
    ·rw[if_pos (by omega),if_pos (by omega),atW_ge (by omega),show p-lo-m=p-(lo+m) by omega];simp
    ·rw[if_neg (by omega),if_neg (by omega)];simp
theorem paF_0 (pos:∀d∈L,0<d.1):paF 0 e L=Zbw e L:=by
 unfold paF
 cases L with
 |nil=>show Zbw _ []=Zbw _ [];rfl
 |cons x r=>show Zbw (e-0) (if(0:Int)≤0 then x::r else _)=_;rw[if_pos (QaX _),Qce]
theorem paF_n (nL:Zcd L)(e0:0≤e)(e1:e<tot L):paF e (tot L) L=Zbp e L:=by
 unfold paF;have nd:=Zb6 (a:=e) nL;rw[←tot_dropF (fun d hd=>nL.pos d hd) e0 (by omega)];exact ZgJ fun d hd=>nd.pos d hd
theorem cut_turn (nL:Zcd L)(wid:∀d∈L,d.2.length=wd)(l0:0≤low)(e0:0≤e)(e1:e<tot L)(fit:low+(tot L-e)≤e)(h:PutOf (paF 0 e L) (paF e (tot L) L).reverse low R):IsCut L low t e true wd R:=by
 have pos:∀d∈L,0<d.1:=fun d hd=>nL.pos d hd;have eP:=paF_0 (e:=e) pos;have eO:=paF_n nL e0 e1;have nd:=Zb6 (a:=e) nL;have pd:∀d∈Zbp e L,0<d.1:=fun d hd=>nd.pos d hd;have tP:tot (Zbw e L)=e:=tot_takeF pos e0 (by omega);have tO:tot (Zbp e L)=tot L-e:=tot_dropF pos e0 (by omega);rw[eP,eO] at h;have hs:tot R=e:=by rw[h.sum,tP]
 have at1:∀x,0≤x→x<e→atW R x=if e≤low+tot L-1-x∧low+tot L-1-x<tot L then plusW (atW L x) (atW L (low+tot L-1-x)) else atW L x:=fun x x0 x1=>by
  rw[h.at' x x0 (by rw[tP];exact x1),tot_revC,tO,ZcS pos x0 x1];by_cases c:low≤x∧x<low+(tot L-e)
  ·rw[if_pos c,if_pos (by omega),ZiZ pd (by omega) (by rw[tO];omega),tO,ZcT pos e0 (by omega)];congr 2;omega
  ·rw[if_neg c,if_neg (by omega)]
 have ln:∀x,0≤x→x<tot L→(atW L x).length=wd:=fun x x0 x1=>atW_lenC wid x1 x0;refine⟨h.nrm,hs,Zex h.nrm fun x x0 x1=> ?_,fun x x0 x1 i=> ?_⟩
 ·rw[hs] at x1;rw[at1 x x0 x1];split
  ·rename_i c;rw[plus_lenC (by rw[ln x x0 (by omega),ln _ (by omega) c.2])];exact ln x x0 (by omega)
  ·exact ln x x0 (by omega)
 ·rw[at1 x x0 x1];unfold Zdg;rw[if_pos rfl];by_cases c:e≤low+tot L-1-x∧low+tot L-1-x<tot L
  ·rw[if_pos c,if_pos c,plus_coC (by rw[ln x x0 (by omega),ln _ (by omega) c.2])]
  ·rw[if_neg c,if_neg c,Qbe]
theorem Zlq (nL:Zcd L)(wid:∀d∈L,d.2.length=wd)(e0:0≤e)(e1:e<tot L)(ht:0<t)(te:t≤e)(wW:∀d∈W,d.2.length=wd)(tW:tot W≤t)(h:PutOf (paF 0 e L) W (e-t) R)(hW:∀x,e-t≤x→x<e→∀i,(if x-(e-t)<tot W then co (atW W (x-(e-t))) i else 0)=nS e t x i L 0):IsCut L low t e false wd R:=by
 have pos:∀d∈L,0<d.1:=fun d hd=>nL.pos d hd;have eP:=paF_0 (e:=e) pos;have tP:tot (Zbw e L)=e:=tot_takeF pos e0 (by omega);rw[eP] at h;have hs:tot R=e:=by rw[h.sum,tP]
 have ln:∀x,0≤x→x<tot L→(atW L x).length=wd:=fun x x0 x1=>atW_lenC wid x1 x0
 have at1:∀x,0≤x→x<e→atW R x=if e-t≤x∧x<e-t+tot W then plusW (atW L x) (atW W (x-(e-t))) else atW L x:=fun x x0 x1=>by
  rw[h.at' x x0 (by rw[tP];exact x1),ZcS pos x0 x1]
 refine⟨h.nrm,hs,Zex h.nrm fun x x0 x1=> ?_,fun x x0 x1 i=> ?_⟩
 ·rw[hs] at x1;rw[at1 x x0 x1];split
  ·rename_i c;rw[plus_lenC (by rw[ln x x0 (by omega),atW_lenC wW (by omega) (by omega)])];exact ln x x0 (by omega)
  ·exact ln x x0 (by omega)
 ·rw[at1 x x0 x1];unfold Zdg;rw[if_neg (show ¬(false=true) by decide)];by_cases c:e-t≤x
  ·rw[if_pos c,←hW x c x1 i];by_cases d:x-(e-t)<tot W
   ·rw[if_pos ⟨c,by omega⟩,if_pos d,plus_coC (by rw[ln x x0 (by omega),atW_lenC wW (by omega) (by omega)])]
   ·rw[if_neg (by omega),if_neg d,Qbe]
  ·rw[if_neg (by omega),if_neg c,Qbe]
theorem cut_off (nL:Zcd L)(wid:∀d∈L,d.2.length=wd)(e0:0≤e)(e1:e<tot L)(ht:0<t)(te:t≤e)(few:tot L-e≤t)(h:PutOf (paF 0 e L) (paF e (tot L) L) (e-t) R):IsCut L low t e false wd R:=by
 have pos:∀d∈L,0<d.1:=fun d hd=>nL.pos d hd;have eO:=paF_n nL e0 e1;have nd:=Zb6 (a:=e) nL;have pd:∀d∈Zbp e L,0<d.1:=fun d hd=>nd.pos d hd;have tO:tot (Zbp e L)=tot L-e:=tot_dropF pos e0 (by omega);rw[eO] at h;refine Zlq nL wid e0 e1 ht te (Zex nd fun x x0 x1=> ?_) (by omega) h fun x x0 x1 i=> ?_
 ·rw[ZcT pos e0 x0];exact atW_lenC wid (by omega) (by omega)
 ·rw[ZeT pos (by omega),show e-0=e by omega,Znz ht (by omega) (by omega) i pd (QaX 0) (by omega),show x-e+t-0=x-(e-t) by omega];by_cases c:x-(e-t)<tot (Zbp e L)
  ·rw[if_pos c,if_pos (by omega)]
  ·rw[if_neg c,if_neg (by omega)]
theorem cut_wound (nL:Zcd L)(wid:∀d∈L,d.2.length=wd)(e0:0≤e)(e1:e<tot L)(ht:0<t)(te:t≤e){m:Nat}(hw:HeapOf wd (wst t (paF e (tot L) L) 0) 0 t W m)(h:PutOf (paF 0 e L) W (e-t) R):IsCut L low t e false wd R:=by
 have pos:∀d∈L,0<d.1:=fun d hd=>nL.pos d hd;have eO:=paF_n nL e0 e1;have tW:=hw.sum;refine Zlq nL wid e0 e1 ht te hw.wid (by omega) h fun x x0 x1 i=> ?_;rw[if_pos (by omega)]
 have:=hw.at' (x-(e-t)) (by omega) (by omega) i;rw[show x-(e-t)-0=x-(e-t) by omega] at this;rw[this,Znq ht (by omega) (by omega),ZeT pos (by omega),eO,show e-0=e by omega,show x-e+t=x-(e-t) by omega]
theorem cut_law (nL:Zcd L)(wid:∀d∈L,d.2.length=wd){f:Int→List Int}{ss:List Int}(e0:0≤e)(e1:e≤tot L)(pw:ss.Pairwise (· < ·))(lt:∀s∈ss,0≤s∧s<e)(z0:(0:Int)∈ss)(fl:∀s∈ss,(f s).length=wd)(fg:∀s∈ss,∀i,co (f s) i=Zdg L low t e tn s i)(st:∀p,0≤p→p+1<e→p+1∉ss→∀i,Zdg L low t e tn p i=Zdg L low t e tn (p+1) i):IsCut L low t e tn wd (ZaM (pcL e f ss)):=by
 cases ss with
 |nil=>cases z0
 |cons s r=>
  have s0:s=0:=by
   rcases Qas.mp z0 with q|q
   ·exact q.symm
   ·have:=(Qbl.mp pw).1 0 q
    have:=(lt s Qad).1;omega
  subst s0;have ps:=pcL_pos (f:=f) pw fun x hx=>(lt x hx).2;have p0:∀d∈pcL e f (0::r),0≤d.1:=fun d hd=>Qa5 (ps d hd);have tt:tot (ZaM (pcL e f (0::r)))=e:=by rw[shape_tot p0,Zlp];omega
  let G:Int→List Int:=fun x=>(List.range wd).map fun i=>Zdg L low t e tn x i
  have Gl:∀x,(G x).length=wd:=fun x=>by show((List.range wd).map _).length=wd;rw[Qac,QcE]
  have fG:∀s∈(0::r),f s=G s:=fun s hs=>by
   apply QcF;intro i;by_cases c:i<wd
   ·have e1':(f s)[i]?=some (co (f s) i):=by unfold co;rw[Qam,Qah (by rw[fl s hs];exact c)];rfl
    show _=((List.range wd).map fun i=>Zdg L low t e tn s i)[i]?;rw[e1',fg s hs i,Qaq,Qcp c];rfl
   ·rw[Qay (by rw[fl s hs];omega),Qay (by rw[Gl];omega)]
  have at1:∀x,0≤x→x<e→atW (ZaM (pcL e f (0::r))) x=G x:=fun x x0 x1=>by
   rw[Zes p0 x0]
   have:=Zny (G:=G) pw (fun x hx=>(lt x hx).2) fG (fun q q0 q1 hq=>by
    show(List.range wd).map _=(List.range wd).map _
    refine List.map_congr_left fun i _=>st q q0 q1 (fun z=> ?_) i
    rcases Qas.mp z with y|y
    ·omega
    ·exact hq y) x0 x1
   rw[show x-0=x by omega] at this;exact this
  have far:∀x,0≤x→x<e→∀i,wd≤i→Zdg L low t e tn x i=0:=by
   have atfar:∀x i,wd≤i→co (atW L x) i=0:=fun x i hi=>by
    unfold co;rw[Qam,Qay]
    ·rfl
    ·have key:∀{M:Wl} {x:Int},(∀d∈M,d.2.length=wd)→(atW M x).length≤wd:=by
      intro M
      induction M with
      |nil=>intro x _;exact QaV _
      |cons d M ih=>
       intro x h;show(if x<d.1 then d.2 else atW M (x-d.1)).length≤wd;split
       ·rw[h d Qad];exact Qal _
       ·exact ih fun y hy=>h y (Qab _ hy)
     exact QaD (key wid) hi
   have nfar:∀{M:Wl} {lo x:Int} {i:Nat},(∀d∈M,d.2.length=wd)→wd≤i→nS e t x i M lo=0:=by
    intro M
    induction M with
    |nil=>intro _ _ _ _ _;rfl
    |cons d M ih=>
     intro lo x i h hi
     have c0:co d.2 i=0:=by
      unfold co;rw[Qam,Qay (by rw[h d Qad];exact hi)];rfl
     show(if _ then co d.2 i*_ else 0)+nS e t x i M (lo+d.1)=0;rw[ih (fun y hy=>h y (Qab _ hy)) hi,c0];split<;>simp
   intro x _ _ i hi;unfold Zdg;rw[atfar x i hi,nfar wid hi,atfar _ i hi];simp
  refine⟨ZbF _,tt,Zex (ZbF _) fun x x0 x1=> ?_,fun x x0 x1 i=> ?_⟩
  ·rw[tt] at x1;rw[at1 x x0 x1];exact Gl x
  ·rw[at1 x x0 x1];by_cases c:i<wd
   ·show((List.range wd).map fun i=>Zdg L low t e tn x i).getD i 0=_;rw[Qam,Qaq,Qcp c];rfl
   ·rw[far x x0 x1 i (by omega)];show((List.range wd).map fun i=>Zdg L low t e tn x i).getD i 0=_;rw[Qam,Qay (by rw[Qac,QcE];omega)];rfl
theorem cutF_turn (pos:∀d∈L,0<d.1)(l0:0≤low)(e0:0≤e)(e1:e<tot L)(p0:0≤p)(p1:p+1<e)(h1:p+1∉stL 0 L)(h2:p+1≠low+tot L-1-tot L+1)(h3:p+1≠low+tot L-1-e+1)(h4:∀s∈stL 0 L,e<s→p+1≠low+tot L-1-s+1)(i:Nat):Zdg L low t e true p i=Zdg L low t e true (p+1) i:=by
 unfold Zdg;rw[if_pos rfl,if_pos rfl,Zew (lo:=0) pos p0 (by omega) (by rw[QbT];exact h1)];congr 1;by_cases c:e≤low+tot L-1-p∧low+tot L-1-p<tot L
 ·have c2:e≤low+tot L-1-(p+1)∧low+tot L-1-(p+1)<tot L:=by omega
  rw[if_pos c,if_pos c2,show low+tot L-1-p=low+tot L-1-(p+1)+1 by omega];rw[←Zew (lo:=0) pos (by omega) (by omega) fun z=> ?_]
  have:=h4 _ z (by omega);omega
 ·rw[if_neg c,if_neg (by omega)]
theorem cutF_shift (pos:∀d∈L,0<d.1)(e0:0≤e)(e1:e<tot L)(ht:0<t)(p0:0≤p)(p1:p+1<e)(h1:p+1∉stL 0 L)(h2:p+1≠e-t)(h3:∀s∈stL 0 L++ [tot L],e<s→p+1≠e-t+(s-e) %t)(i:Nat):Zdg L low t e false p i=Zdg L low t e false (p+1) i:=by
 unfold Zdg;rw[if_neg (show ¬(false=true) by decide),if_neg (show ¬(false=true) by decide),Zew (lo:=0) pos p0 (by omega) (by rw[QbT];exact h1)];congr 1;by_cases c:e-t≤p
 ·rw[if_pos c,if_pos (by omega),Zoi pos rfl e0 e1 ht c p1 h3]
 ·rw[if_neg c,if_neg (by omega)]
end Toy
namespace L2
open PySem PySem.Spec PyProof.Rows
variable {H:Hp}{Q:VK}{Z:L2.St→Hp→Prop}{q:Addr}{p:PR}
theorem ZmL {n:Int}{L:WL2}(w:WOk n L):Zcd L:=by
 obtain⟨wd,P,rfl,_⟩:=w;exact ZbF P
def mlB (p:PR):Bool:=decide (p.1<p.2.1) && (!p.2.2.2 ||decide (p.1+p.2.2.1≤p.2.1))
def ZcV:Sp:=fun vs H Q _=>∃(q:Addr) (p:PR),vs=[.ref q]∧H q=some (.tup (pV p))∧Q (.bl (mlB p)) H
def ZmM (K:PySem.W.Frag):TS:=ZaP (ZaY (Zah 0) (Ze4 K 4 (Zbc (Zan 1) (Zbc (Zan 2) (Zbc (Zan 3) (Zbc (Zan 4) ZfD)))))) (ZbY (ZdZ (tOp (rI0 fun i j=>V.bl (decide (i<j))) (Zah 1) (Zah 2)) (ZpY (Zl7 (Zah 4)) (tOp (rI0 fun i j=>V.bl (decide (j≤i))) (Zah 2) (tOp (rI0 fun i j=>V.int (i+j)) (Zah 1) (Zah 3))))))
theorem Zf6 {K:PySem.W.Frag}(hq:H q=some (.tup (pV p)))(k:Q (.bl (mlB p)) H):ZmM K {nx:=Z,rt:=Q } [some (.ref q),none,none,none,none] H:=by
 obtain⟨l,h,g,t⟩:=p;have e:mlB (l,h,g,t)=(decide (l<h) && (!t ||decide (l+g≤h))):=rfl;rw[e] at k;refine⟨_,rfl,q,_,rfl,SqT.of hq,rfl,_,_,rfl,_,_,rfl,_,_,rfl,_,_,rfl,rfl,?_⟩;refine⟨_,rfl,_,rfl,_,_,rfl,rfl,_,rfl,?_⟩
 cases hd:decide (l<h) with
 |false=>rw[hd] at k;exact Zcu k
 |true=>
  rw[hd] at k;refine Zc7 ⟨_,rfl,t,rfl,_,rfl,?_⟩
  cases t with
  |false=>exact Zc7 k
  |true=>exact Zcu ⟨_,rfl,_,rfl,_,rfl,_,_,rfl,rfl,_,_,rfl,rfl,k⟩
def Zpz (K:PySem.W.Frag):TS:=ZbY (ZdZ (tOp (rI0 fun i j=>V.bl (decide (i<j))) (tOp (Zby K) (Zah 0) (tC (V.int 0))) (tOp (Zby K) (Zah 0) (tC (V.int 1)))) (ZpY (Zl7 (tOp (Zby K) (Zah 0) (tC (V.int 3)))) (tOp (rI0 fun i j=>V.bl (decide (j≤i))) (tOp (Zby K) (Zah 0) (tC (V.int 1))) (tOp (rI0 fun i j=>V.int (i+j)) (tOp (Zby K) (Zah 0) (tC (V.int 0))) (tOp (Zby K) (Zah 0) (tC (V.int 2)))))))
theorem ZhY {K:PySem.W.Frag}(hq:H q=some (.tup (pV p)))(k:Q (.bl (mlB p)) H):Zpz K {nx:=Z,rt:=Q } [some (.ref q)] H:=by
 obtain⟨l,h,g,t⟩:=p;have e:mlB (l,h,g,t)=(decide (l<h) && (!t ||decide (l+g≤h))):=rfl;rw[e] at k;refine⟨_,rfl,q,_,_,_,rfl,rfl,SqT.of hq,rfl,_,rfl,q,_,_,_,rfl,rfl,SqT.of hq,rfl,_,_,rfl,rfl,_,rfl,?_⟩
 cases hd:decide (l<h) with
 |false=>rw[hd] at k;exact Zcu k
 |true=>
  rw[hd] at k;refine Zc7 ⟨_,rfl,q,_,_,_,rfl,rfl,SqT.of hq,rfl,t,rfl,_,rfl,?_⟩
  cases t with
  |false=>exact Zc7 k
  |true=>exact Zcu ⟨_,rfl,q,_,_,_,rfl,rfl,SqT.of hq,rfl,_,rfl,q,_,_,_,rfl,rfl,SqT.of hq,rfl,_,rfl,q,_,_,_,rfl,rfl,SqT.of hq,rfl,_,_,rfl,rfl,_,_,rfl,rfl,k⟩
end L2
namespace Toy
open PySem L2 PyProof.Rows
variable {H H':Hp}{d:Addr}{n:Nat}{E:Ev}{S:Sl}{u:List Int}
theorem Zlr {k:Int}(i:Nat):∀{E:Ev},(∀x∈E,x.1≠k)→RE E k i=0
 | [],_=>rfl
 |x::E,h=>by
  show co x.2 i*eqi x.1 k+RE E k i=0;rw[Zlr i fun y hy=>h y (Qab _ hy)];unfold eqi;rw[if_neg (h x Qad)];simp
theorem Zls (E:Ev)(k:Int)(u:List Int)(j:Int)(i:Nat):RE (E++ [(k,u)]) j i=RE E j i+co u i*eqi k j:=by
 rw[Zno];show RE E j i+(co u i*eqi k j+0)=_;omega
structure DR (H:Hp)(d:Addr)(n:Nat)(E:Ev)(kvs:List (Key×V)):Prop where
 hd:H d=some (.dK kvs)
 keys:∃ks:List Int,kvs.map (·.1)=ks.map Sum.inl∧ks.Nodup∧∀k,k∈ks↔∃x∈E,x.1=k
 vals:∀(k:Int) (v:V),Zdf kvs (.inl k)=some v→∃(p:Addr) (us:List Int),v= .ref p∧H p=some (.tup (us.map V.int))∧us.length=n∧∀i,co us i=RE E k i
theorem DR.new (h:H d=some (.dK [])):DR H d n [] []:=
 ⟨h,⟨[],rfl,List.nodup_nil,fun k=>by simp⟩,fun k v e=>by rw[Zmv] at e;cases e⟩
theorem DR.up {kvs:List (Key×V)}(h:DR H d n E kvs)(hd:H' d=some (.dK kvs))(t:Zbd H H'):DR H' d n E kvs:=
 ⟨hd,h.keys,fun k v e=>by
  obtain⟨p,us,a,b,c⟩:=h.vals k v e
  exact⟨p,us,a,t _ _ b,c⟩⟩
theorem DR.none {H:Hp}{d:Addr}{n:Nat}{E:Ev}{kvs:List (Key×V)}(h:DR H d n E kvs){k:Int}(e:Zdf kvs (.inl k)=none)(i:Nat):RE E k i=0:=by
 obtain⟨ks,hk,_,hm⟩:=h.keys;refine Zlr i fun x hx z=>ZfX e ?_;rw[hk];exact Qbm.mpr ⟨k,(hm k).mpr ⟨x,hx,z⟩,rfl⟩
theorem DR.put {q:Addr}{kvs:List (Key×V)}{k:Int}{us:List Int}(h:DR H d n E kvs)(hq:H' q=some (.tup (us.map V.int)))(hl:us.length=n)(hc:∀i,co us i=RE E k i+co u i)
  (hd:H' d=some (.dK (ZdD kvs (.inl k) (.ref q)))) (t:Zbd H H'):DR H' d n (E++ [(k,u)]) (ZdD kvs (.inl k) (.ref q)):=by
 obtain⟨ks,hk,hn,hm⟩:=h.keys;refine⟨hd,?_,fun j v e=> ?_⟩
 ·cases z:Zdf kvs (Sum.inl k) with
  |none=>
   have hnk:k∉ks:=fun hin=>ZfX z (by rw[hk];exact Qbm.mpr ⟨k,hin,rfl⟩);refine⟨ks++ [k],by rw[Zmw _ z,Qaw,Qaw,hk];rfl,ZkU hn hnk,fun j=> ?_⟩;rw[Qaz,Qan,hm];constructor
   ·rintro(⟨x,hx,e⟩|rfl)
    ·exact⟨x,QaM _ hx,e⟩
    ·exact⟨(j,u),QaA _ (Qan.mpr rfl),rfl⟩
   ·rintro⟨x,hx,e⟩;rcases Qaz.mp hx with y|y
    ·exact .inl ⟨x,y,e⟩
    ·rw[Qan.mp y] at e;exact .inr e.symm
  |some v=>
   have hin:k∈ks:=by
    have:=Zn4 z;rw[hk] at this;obtain⟨j,hj,e⟩:=Qbm.mp this;cases e;exact hj
   have ek:(ZdD kvs (.inl k) (.ref q)).map (·.1)=kvs.map (·.1):=by
    unfold ZdD;rw[ZcO,z,if_pos (by rfl),Qd3];refine List.map_congr_left fun x _=> ?_;show(if x.1=Sum.inl k then(x.1,V.ref q) else x).1=x.1;split<;>rfl
   refine⟨ks,by rw[ek,hk],hn,fun j=> ?_⟩;rw[hm];constructor
   ·rintro⟨x,hx,e⟩;exact⟨x,QaM _ hx,e⟩
   ·rintro⟨x,hx,e⟩;rcases Qaz.mp hx with y|y
    ·exact⟨x,y,e⟩
    ·rw[Qan.mp y] at e;have e:k=j:=e;subst e;exact(hm k).mp hin
 ·rw[ZdV] at e;by_cases z:(Sum.inl j:Key)=Sum.inl k
  ·rw[if_pos z] at e;cases e;cases z;refine⟨q,us,rfl,hq,hl,fun i=> ?_⟩;rw[Zls,hc];unfold eqi;rw[if_pos rfl,Qee]
  ·rw[if_neg z] at e;obtain⟨p,ws,a,b,c,f⟩:=h.vals j v e;refine⟨p,ws,a,t _ _ b,c,fun i=> ?_⟩;rw[Zls,f];unfold eqi;rw[if_neg (fun y=>z (by rw[y])),Qd4,Qbe]
theorem Zbd.dk {kvs:List (Key×V)}{o:HO}(t:Zbd H H')(h:H' d=some (.dK kvs)):Zbd H (upd H' d o):=fun b ys hb=>by
 have:=t b ys hb;rw[Zax (Zl3 this h (by intro z;cases z))];exact this
theorem DR.get {kvs:List (Key×V)}(h:DR H d n E kvs)(k:Int){r:Addr}(hr:H r=some (.tup ((u.map (· *0)).map V.int)))(hu:u.length=n):
  ∃(p:Addr) (us:List Int),(Zdf kvs (Sum.inl k)).getD (.ref r)= .ref p∧H p=some (.tup (us.map V.int))∧us.length=n∧∀i,co us i=RE E k i:=by
 cases z:Zdf kvs (Sum.inl k:Key) with
 |none=>exact⟨r,_,rfl,hr,by rw[Qac];exact hu,fun i=>by rw[Zet,h.none z,Qd4]⟩
 |some v=>
  obtain⟨p,us,rfl,a,b,c⟩:=h.vals k v z;exact⟨p,us,rfl,a,b,c⟩
theorem ZeU:∀{l:List Int},l.Pairwise (· ≤ ·)→l.Nodup→l.Pairwise (· < ·)
 | [],_,_=> .nil
 |a::l,h,n=>by
  rw[Qbl] at h⊢;rw[QbN] at n
  exact⟨fun b hb=>by
   have h1:=h.1 b hb
   rcases Int.lt_or_eq_of_le h1 with z|z
   ·exact z
   ·exact absurd (z ▸ hb) n.1,ZeU h.2 n.2⟩
theorem Zoj (xs:List V):Ze9 xs (some 1) none=xs.drop 1:=by
 unfold Ze9 HT.sIx
 cases xs with
 |nil=>rfl
 |cons x xs=>simp
def Stg (H:Hp)(xs:List V)(S:Sl):Prop:=xs.length=S.length∧∀(i:Nat) (x:V) (s:Int×Int×List Int),xs[i]?=some x→S[i]?=some s→∃(p wq:Addr),x= .ref p∧H p=some (.tup [.int s.1,.int s.2.1,.ref wq])∧H wq=some (.tup (s.2.2.map V.int))
theorem Stg.nil (H:Hp):Stg H [] []:=⟨rfl,fun i x s h=>by cases h⟩
theorem Stg.up {xs:List V}(h:Stg H xs S)(t:Zbd H H'):Stg H' xs S:=⟨h.1,fun i x s h1 h2=>by
 obtain⟨p,wq,a,b,c⟩:=h.2 i x s h1 h2
 exact⟨p,wq,a,t _ _ b,t _ _ c⟩⟩
theorem Stg.snoc {xs:List V}{x:V}{s:Int×Int×List Int}(h:Stg H xs S)(hx:∃(p wq:Addr),x= .ref p∧H p=some (.tup [.int s.1,.int s.2.1,.ref wq])∧H wq=some (.tup (s.2.2.map V.int))):Stg H (xs++ [x]) (S++ [s]):=by
 refine⟨by rw[Qae,Qae,h.1];rfl,fun i y r h1 h2=> ?_⟩;by_cases z:i<xs.length
 ·rw[QaK z] at h1;rw[QaK (h.1 ▸ z)] at h2;exact h.2 i y r h1 h2
 ·rw[QaF (by omega)] at h1;rw[QaF (by have:=h.1;omega)] at h2;rw[h.1] at h1
  cases w:i-S.length with
  |zero=>rw[w] at h1 h2;cases h1;cases h2;exact hx
  |succ m=>rw[w] at h1;cases h1
theorem Stg.at' {xs:List V}(h:Stg H xs S){i:Nat}{x:V}(hx:xs[i]?=some x):∃s,S[i]?=some s∧∃(p wq:Addr),x= .ref p∧H p=some (.tup [.int s.1,.int s.2.1,.ref wq])∧H wq=some (.tup (s.2.2.map V.int)):=by
 have hi:i<S.length:=by rw[←h.1];exact(Qaf.mp hx).1
 exact⟨S[i],by simp[hi],h.2 i x _ hx (by simp[hi])⟩
end Toy
namespace L2
open PySem PySem.Spec PyProof.Rows
variable {L:WL2}{n e t m x b z low:Int}{p:PR}{a q pb pa c cN d sa:Addr}{H:Hp}{wd i j:Nat}{Q:VK}{Z:L2.St→Hp→Prop}{ps po:List PR}{ss u v ms:List Int}{D:Zgk}{E:XK}{o:Option Out}{tn:Bool}{σ:St}
section
variable {K:PySem.W.Frag}
def Zhc:Sp:=fun vs H Q _=>∃(i j l:Int) (t:Bool),vs=[.int i,.int j,.int l,.bl t]∧∀p,H p=none→Q (.ref p) (upd H p (.tup [.int (if j<i then j else i),.int (if j>i then j else i),.int l,.bl t]))
def Zey:Sp:=fun vs H Q _=>∃(p:Addr) (low high long:Int) (t:Bool) (u m:Int),vs=[.ref p,.int u,.int m]∧H p=some (.tup [.int low,.int high,.int long,.bl t])∧∀q,H q=none→Q (.ref q) (upd H q (.tup [.int (if high+(if t=true then long-u-m else u)<low+u then high+(if t=true then long-u-m else u) else low+u),.int (if high+(if t=true then long-u-m else u)>low+u then high+(if t=true then long-u-m else u) else low+u),.int m,.bl t]))
def Zhd (K:PySem.W.Frag):Sp:=fun vs H Q _=>∃(a:Addr) (xs:List V) (L:List (Int×List Int)),vs=[.ref a]∧SqL K H a xs∧Wg H xs L∧L.length≤1000∧∀H',Zak H H'→Q (.int (tot L)) H'
def Zi0:Sp:=fun vs H Q _=>∃(a b:Addr) (xs ys:List V) (A C:Toy.Wl) (bg:Int) (wd:Nat),vs=[.ref a,.int bg,.ref b]∧H a=some (.lst xs)∧H b=some (.lst ys)∧Wg H xs A∧Wg H ys C∧Zcd A∧(∀e∈C,0<e.1)∧0≤bg∧bg+tot C≤tot A∧A.length≤200∧C.length≤200∧wd≤24∧(∀e∈A,e.2.length=wd)∧(∀e∈C,e.2.length=wd)∧
 ∀(r:Addr) (zs:List V) (R:Toy.Wl) (H':Hp),H r=none→H' r=some (.lst zs)→Wg H' zs R→Toy.PutOf A C bg R→Zak H H'→Q (.ref r) H'
def Zf7:Sp:=fun vs H Q _=>∃(a:Addr) (xs:List V) (A:Toy.Wl) (n:Nat) (t:Int),vs=[.ref a,.int t]∧H a=some (.lst xs)∧Wg H xs A∧A≠ []∧A.length≤41∧n≤24∧(∀e∈A,e.2.length=n)∧(∀e∈A,0<e.1∧e.1<10^66)∧(∀e∈A,∀z∈e.2,-(10^130)<z∧z<10^130)∧0<t∧t<10^66∧
 ∀(r:Addr) (zs:List V) (R:Toy.Wl) (H':Hp),H r=none→H' r=some (.lst zs)→Wg H' zs R→Toy.HeapOf n (Toy.wst t A 0) 0 t R (A.length+3)→Zak H H'→Q (.ref r) H'
def ZhZ (K:PySem.W.Frag):Sp:=fun vs H Q _=>∃(a:Addr) (xs:List V),vs=[.ref a]∧SqL K H a xs∧∀p,H p=none→Q (.ref p) (upd H p (.lst xs.reverse))
def Zfd (p:PR)(e:Int):List PR:=if e-p.2.1=0 then [] else [(if p.2.2.2=true then p.1+p.2.2.1-(e-p.2.1) else p.1,p.2.1,e-p.2.1,p.2.2.2)]
def Zh0:Sp:=fun vs H Q _=>∃(q:Addr) (p:PR) (e:Int),vs=[.ref q,.int e]∧H q=some (.tup (pV p))∧mlB p=true∧p.2.1≤e∧e≤p.2.1+p.2.2.1∧∀(c:Addr) (ys:List V) (H':Hp),Zak H H'→H c=none→H' c=some (.lst ys)→CpL H' ys ((Zfd p e).map pV)→Q (.ref c) H'
structure Zhe (n:Int)(L:WL2)(p:PR)(e:Int)(wd:Nat):Prop where
 nrm:Zcd L
 len:L.length≤8
 sum:tot L=n
 n1:n<10^60
 w1:1≤wd
 w2:wd≤24
 wid:∀d∈L,d.2.length=wd
 num:∀d∈L,Zl2 d.2
 pr:Zht n p
 ml:mlB p=true
 en:p.2.1+p.2.2.1=n
 lo:p.2.1≤e
 hi:e<n
abbrev IsC (L:WL2)(p:PR)(e:Int)(wd:Nat)(R:WL2):Prop:=Toy.IsCut L p.1 (p.2.1-p.1) e p.2.2.2 wd R
def Zh1:Sp:=fun vs H Q _=>∃(a q:Addr) (xs:List V) (n:Int) (L:WL2) (p:PR) (e:Int) (wd:Nat),vs=[.ref a,.ref q,.int e]∧H a=some (.lst xs)∧Wg H xs L∧H q=some (.tup (pV p))∧Zhe n L p e wd∧∀(b:Addr) (ys:List V) (R:WL2) (H':Hp),H b=none→H' b=some (.lst ys)→Wg H' ys R→IsC L p e wd R→Zak H H'→Q (.ref b) H'
def Zez (n:Int)(ps:List PR)(j:Nat)(p:PR)(e:Int):Bool:=mlB p && (decide (p.2.1+p.2.2.1=n) && (decide (p.2.1≤e) && ZhW (ps.take j++ps.drop (j+1)) e))
structure ZnA (n:Int)(ps:List PR)(L:WL2)(j:Nat)(p:PR)(wd:Nat):Prop where
 nrm:Zcd L
 len:L.length≤8
 sum:tot L=n
 n1:n<10^60
 w1:1≤wd
 w2:wd≤24
 wid:∀d∈L,d.2.length=wd
 num:∀d∈L,Zl2 d.2
 pr:Zht n p
 at':ps[j]?=some p
def ZdL (ps:List PR)(j:Nat)(p:PR)(e:Int):List PR:=ps.take j++Zfd p e++ps.drop (j+1)
def ZmN:Dk:=fun H q n ps L o=>∃(j:Nat) (e:Int) (p:PR) (wd:Nat),H q=some (.tup [.str "cut",.int (j:Int),.int e])∧0≤e∧e<n∧ZnA n ps L j p wd∧(Zez n ps j p e=false→o=none)∧(Zez n ps j p e=true→∀R,IsC L p e wd R→o=some (e,ZdL ps j p e,R,[]))
def ZjI:DR:=fun H u n ps L o=>∃(q:Addr) (j:Nat) (e:Int) (p:PR) (wd:Nat),u= .ref q∧H q=some (.tup [.str "cut",.int (j:Int),.int e])∧ZnA n ps L j p wd∧((0≤e∧e<n)→(Zez n ps j p e=false→o=none)∧(Zez n ps j p e=true→∀R,IsC L p e wd R→o=some (e,ZdL ps j p e,R,[])))∧(¬(0≤e∧e<n)→o=none)
def Zhf (K:PySem.W.Frag):Sp:=fun vs H Q _=>∃(a:Addr) (xs:List V) (L:WL2) (x:Int),vs=[.ref a,.int x]∧H a=some (.lst xs)∧Wg H xs L∧(∀d∈L,0<d.1)∧0≤x∧x<tot L∧∀(w:Addr),H w=some (.tup ((Toy.atW L x).map V.int))→Q (.ref w) H
def ZeV:Sp:=fun vs H Q _=>∃(a:Addr) (xs:List V) (L:WL2),vs=[.ref a]∧H a=some (.lst xs)∧Wg H xs L∧L.length≤100∧∀(b:Addr) (H':Hp),H b=none→H' b=some (.lst ((Toy.stL 0 L).map V.int))→Zak H H'→Q (.ref b) H'
def ZeW:Sp:=fun vs H Q _=>∃(a:Addr) (xs:List V) (L:WL2) (n e x t:Int) (wd:Nat),vs=[.ref a,.int n,.int e,.int x,.int t]∧H a=some (.lst xs)∧Wg H xs L∧(∀d∈L,0<d.1)∧tot L=n∧n<10^60∧wd≤24∧(∀d∈L,d.2.length=wd)∧(∀d∈L,Zl2 d.2)∧0≤x∧x<n∧x<e∧e<n∧0<t∧t<10^60∧∀(w:Addr) (u:List Int) (H':Hp),Zak H H'→H' w=some (.tup (u.map V.int))→u.length=wd→(∀i,Toy.co u i=Toy.co (Toy.atW L x) i+Toy.nS e t x i L 0)→Q (.ref w) H'
def ZpA (H:Hp)(d:Addr)(e:Int)(wd:Nat)(ss:List Int)(f:Int→List Int):Prop:=∃kvs:List (Key×V),H d=some (.dK kvs)∧∀s∈ss,0≤s→s<e→(f s).length=wd∧∃w:Addr,Zdf kvs (.inl s)=some (.ref w)∧H w=some (.tup ((f s).map V.int))
def inE (e:Int)(ss:List Int):List Int:=ss.filter fun s=>decide (0≤s∧s<e)
def Zdh:Sp:=fun vs H Q _=>∃(a d:Addr) (ss:List Int) (e:Int) (wd:Nat) (f:Int→List Int),vs=[.ref a,.int e,.ref d]∧H a=some (.lst (ss.map V.int))∧ss.length<40∧wd≤24∧ZpA H d e wd ss f∧∀(b:Addr) (ys:List V) (ms:List Int) (H':Hp),H b=none→H' b=some (.lst ys)→ms.Perm (dd (inE e ss))→ms.Pairwise (· ≤ ·)→Wg H' ys (ZaM (Toy.pcL e f ms))→Zak H H'→Q (.ref b) H'
def Zh2:Sp:=fun vs H Q _=>∃(q a:Addr) (xs:List V) (n:Int) (L:WL2) (p:PR) (e:Int) (wd:Nat),vs=[.ref q,.ref a,.int n,.int e]∧H q=some (.tup (pV p))∧H a=some (.lst xs)∧Wg H xs L∧Zhe n L p e wd∧∀(b:Addr) (ys:List V) (R:WL2) (H':Hp),H b=none→H' b=some (.lst ys)→Wg H' ys R→IsC L p e wd R→R.length≤17→Zak H H'→Q (.ref b) H'
def Zlt:Sp:=fun vs H Q _=>∃(a pa pb:Addr) (n:Int) (ps:List PR) (L:WL2) (ya yb:List V) (j:Nat) (e:Int) (p:PR) (wd:Nat),vs=[.ref a,.int (j:Int),.int e]∧ZaU H a pa pb n ps L ya yb∧ps.length≤400∧ZnA n ps L j p wd∧((¬(e<n∧Zez n ps j p e=true))→∀H',Zak H H'→Q .non H')∧(e<n→Zez n ps j p e=true→∀(R:WL2) (c pa' pb':Addr) (ya' yb':List V) (H':Hp),IsC L p e wd R→R.length≤17→Zak H H'→ZaU H' c pa' pb' e (ZdL ps j p e) R ya' yb'→Q (.ref c) H')
def Zi1:Sp:=fun vs H Q _=>∃(a pa pb:Addr) (n:Int) (ps:List PR) (L:WL2) (ya yb:List V) (j:Nat) (e:Int) (p:PR) (wd:Nat),vs=[.ref a,.int (j:Int),.int e]∧ZaU H a pa pb n ps L ya yb∧ps.length≤400∧ZnA n ps L j p wd∧((¬(e<n∧Zez n ps j p e=true))→∀H',Zak H H'→Q .non H')∧(e<n→Zez n ps j p e=true→∀(R:WL2) (c a' pa' pb' pc':Addr) (ya' yb':List V) (H':Hp),IsC L p e wd R→R.length≤17→Zak H H'→ZbM H' c a' pa' pb' pc' (e,ZdL ps j p e,R,[]) ya' yb' []→Q (.ref c) H')
def Zf8:Sp:=fun vs H Q _=>∃(n b:Int),vs=[.int n,.int b]∧1<n∧0≤b∧∀(q:Addr) (p:PR) (H':Hp),Zak H H'→H q=none→H' q=some (.tup (pV p))→Zht n p→Q (.ref q) H'
def Zh3:Sp:=fun vs H Q _=>∃(n b:Int) (q c:Addr) (p:PR) (yc:List V) (ps:List PR),vs=[.int n,.ref q,.ref c,.int b]∧1<n∧0≤b∧H q=some (.tup (pV p))∧Zht n p∧H c=some (.lst yc)∧CpL H yc (ps.map pV)∧ps.length≤90∧∀(l:Addr) (es:List Int) (H':Hp),Zak H H'→H l=none→H' l=some (.lst (es.map V.int))→es.length≤10→(∀x∈es,0≤x)→Q (.ref l) H'
def ZpB (K:PySem.W.Frag):TS:=ZaP (ZaY (Zah 0) (Ze4 K 4 (Zbc (Zan 2) (Zbc (Zan 3) (Zbc (Zan 4) (Zbc (Zan 5) ZfD)))))) (ZaP (ZaY (tOp (rI0 fun i j=>V.int (i-j)) (Zah 1) (Zah 3)) (Zan 6)) (ZaP (ZcP (Za3 (tOp rEq (Zah 6) (tC (V.int 0)))) (ZbY (ZcK Zau)) Zbv) (ZbY (ZcK (Zaa (ZaF Zey [] E0 (Zaa (Zah 0) (Zaa (tIf (tB (Zah 5)) (tOp (rI0 fun i j=>V.int (i-j)) (Zah 4) (Zah 6)) (tC (V.int 0))) (Zaa (Zah 6) Zau)))) Zau)))))
def Zqm (K:PySem.W.Frag):TS:=(ZaP (ZaY (ZaF ZeR [] E0 (Zaa (Zah 1) Zau)) (Zan 5)) (ZbY (ZaF Zi0 [] E0 (Zaa (Zah 3) (Zaa (tOp (rI0 fun i j=>V.int (i-j)) (Zah 2) (Zah 5)) (Zaa (tIf (Za3 (tOp (rI0 fun i j=>V.bl (decide (i≤j))) (ZaF (Zhd K) [] E0 (Zaa (Zah 4) Zau)) (Zah 5))) (Zah 4) (ZaF Zf7 [] E0 (Zaa (Zah 4) (Zaa (Zah 5) Zau)))) Zau))))))
def ZpC (K:PySem.W.Frag):TS:=ZaP (ZaY (ZaF (Zg9 K) [] E0 (Zaa (Zah 0) (Zaa (tC (V.int 0)) (Zaa (Zah 2) Zau)))) (Zan 3)) (ZaP (ZaY (ZaF (Zg9 K) [] E0 (Zaa (Zah 0) (Zaa (Zah 2) (Zaa (ZaF (Zhd K) [] E0 (Zaa (Zah 0) Zau)) Zau)))) (Zan 4)) (ZaP (ZcP (tB (tOp (Zby K) (Zah 1) (tC (V.int 3)))) (ZbY (ZaF Zi0 [] E0 (Zaa (Zah 3) (Zaa (tOp (Zby K) (Zah 1) (tC (V.int 0))) (Zaa (ZaF (ZhZ K) [] E0 (Zaa (Zah 4) Zau)) Zau))))) Zbv) (Zqm K)))
def ZpD (K:PySem.W.Frag)(E:XK)(cN:Addr):TS:=ZaP (ZaY (Zah 0) (Ze4 K 3 (Zbc (Zan 2) (Zbc (Zan 3) (Zbc (Zan 4) ZfD))))) (ZaP (ZaY (tSl (ZoR K) (Zah 1) (ZdG (tC (V.int 1))) ZbZ) (Ze4 K 2 (Zbc (Zan 5) (Zbc (Zan 6) ZfD)))) (ZaP (ZaY (tOp (ZdA K) (Zah 3) (Zah 5)) (Zan 7)) (ZaP (ZcI (Zfp (Zdk cN) (fun c x H'=>E c none H') (Zaa (ZdZ (ZaF ZcV [] E0 (Zaa (Zah 7) Zau)) (ZdZ (tOp rEq (ZaF ZbQ [] E0 (Zaa (Zah 7) Zau)) (Zah 2)) (tOp (rI0 fun i j=>V.bl (decide (i≤j))) (tOp (Zby K) (Zah 7) (tC (V.int 1))) (Zah 6)))) Zau))) (ZaP (ZcI (Zfp (Zdk cN) (fun c x H'=>E c none H') (Zaa (ZaF Zf5 [] E0 (Zaa (ZaF Zdl [] E0 (Zaa (Zah 3) (Zaa (Zah 5) (Zaa (ZcK Zau) Zau)))) (Zaa (Zah 6) Zau))) Zau))) (ZbY (ZdM (Zaa (ZdM (Zaa (Zah 6) (Zaa (ZaF Zdl [] E0 (Zaa (Zah 3) (Zaa (Zah 5) (Zaa (ZaF Zh0 [] E0 (Zaa (Zah 7) (Zaa (Zah 6) Zau))) Zau)))) (Zaa (ZaF Zh1 [] E0 (Zaa (Zah 4) (Zaa (Zah 7) (Zaa (Zah 6) Zau)))) Zau)))) (Zaa (ZcK Zau) Zau))))))))
def ZqS (K:PySem.W.Frag):TS:=ZaP (Ze5 (Zci K (Zah 0)) (Ze4 K 2 (Zbc (Zan 2) (Zbc (Zan 3) ZfD))) (ZaP (ZcP (Za3 (tOp (rI0 fun i j=>V.bl (decide (i<j))) (Zah 1) (Zah 2))) (ZbY (Zah 3)) Zbv) (ZaY (tOp (rI0 fun i j=>V.int (i-j)) (Zah 1) (Zah 2)) (Zan 1)))) (ZbY (tC V.non))
def ZmO (K:PySem.W.Frag):TS:=ZaP (ZaY (ZcK Zau) (Zan 1)) (ZaP (ZaY (tC (V.int 0)) (Zan 2)) (ZaP (Ze5 (Zci K (Zah 0)) (Ze4 K 2 (Zbc (Zan 3) (Zbc (Zan 4) ZfD))) (ZaP (ZcI (tBM K "list" Zcc (Zah 1) (Zaa (Zah 2) Zau))) (ZaY (tOp (rI0 fun i j=>V.int (i+j)) (Zah 2) (Zah 3)) (Zan 2)))) (ZbY (Zah 1))))
def ZqT (K:PySem.W.Frag):TS:=(ZaP (Ze5 (Zci K (Zah 0)) (Ze4 K 2 (Zbc (Zan 7) (Zbc (Zan 8) ZfD))) (ZaP (ZaY (tCB (fun xs H Q=>∃i j,xs=[V.int i,V.int j]∧Q (V.int (if j>i then j else i)) H) (Zaa (Zah 6) (Zaa (Zah 2) Zau))) (Zan 9)) (ZaP (ZaY (tOp (rI0 fun i j=>V.int (i+j)) (Zah 6) (Zah 7)) (Zan 6)) (ZcP (Za3 (tOp (rI0 fun i j=>V.bl (decide (i<j))) (Zah 9) (Zah 6))) (ZaP (ZaY (tOp (rI0 fun i j=>V.int (i-j)) (tOp (rI ZcJ fun i j=>V.int (i/j)) (tOp (rI0 fun i j=>V.int (i-j)) (tOp (rI0 fun i j=>V.int (i-j)) (Zah 6) (tC (V.int 1))) (Zah 3)) (Zah 4)) (tOp (rI ZcJ fun i j=>V.int (i/j)) (tOp (rI0 fun i j=>V.int (i-j)) (tOp (rI0 fun i j=>V.int (i-j)) (Zah 9) (tC (V.int 1))) (Zah 3)) (Zah 4))) (Zan 10)) (ZaY (tCB (fun xs H_1 Q=>∃p ys,xs=[V.ref p]∧((SqL K H_1 p ys∧∀(l:Addr),H_1 l=none→Q (V.ref l) (upd H_1 l (HO.tup ys)))∨SqT K H_1 p ys∧Q (V.ref p) H_1)) (Zaa (ZbT 2 (Zmp K (Zaa (Zah 5) (Zaa (Zah 8) Zau))) (Ze4 K 2 (Zbc (Zan 0) (Zbc (Zan 1) ZfD))) Ze3 (tOp (rI0 fun i j=>V.int (i+j)) (Zah 0) (tOp (rI Zpl fun i j=>V.int (i*j)) (Zah 12) (Zah 1)))) Zau)) (Zan 5))) Zbv)))) (ZbY (Zah 5)))
def ZmP (K:PySem.W.Frag):TS:=ZaP (ZaY (ZaF (Zhf K) [] E0 (Zaa (Zah 0) (Zaa (Zah 3) Zau))) (Zan 5)) (ZaP (ZaY (tC (V.int 0)) (Zan 6)) (ZqT K))
def ZqU (K:PySem.W.Frag):TS:=(ZcP (ZnI (Za3 (tOp (Zjl K fun b=> !b) (Zah 3) (ZcK Zau))) (Za3 (tOp (Zjl K fun b=>b) (tOp (Zby K) (tOp (ZdA K) (Zah 3) (tUn (rU fun i=>V.int (-i)) (tC (V.int 1)))) (tC (V.int 1))) (ZkT (Zah 2) (tOp (ZdA K) (Zah 0) (Zah 4)))))) (ZaY (ZdM (Zaa (tOp (rI0 fun i j=>V.int (i+j)) (tOp (Zby K) (tOp (ZdA K) (Zah 3) (tUn (rU fun i=>V.int (-i)) (tC (V.int 1)))) (tC (V.int 0))) (Zah 5)) (Zaa (tOp (Zby K) (tOp (ZdA K) (Zah 3) (tUn (rU fun i=>V.int (-i)) (tC (V.int 1)))) (tC (V.int 1))) Zau))) (ZoB (Zah 3) (tUn (rU fun i=>V.int (-i)) (tC (V.int 1))) Zjk)) (ZcI (tBM K "list" Zcc (Zah 3) (Zaa (ZdM (Zaa (Zah 5) (Zaa (ZkT (Zah 2) (tOp (ZdA K) (Zah 0) (Zah 4))) Zau))) Zau))))
def ZqV (K:PySem.W.Frag):TS:=(ZaP (Ze5 (ZfE (Zaa (tCB (fun xs H Q=>∃p ys,xs=[V.ref p]∧(SqL K H p ys∨SqT K H p ys)∧Q (V.int ys.length) H) (Zaa (Zah 0) Zau)) Zau)) (Zan 4) (ZaP (ZaY (tOp (rI0 fun i j=>V.int (i-j)) (tOp (ZdA K) (tOp Zfm (tSl (ZjX K) (Zah 0) (ZdG (tOp (rI0 fun i j=>V.int (i+j)) (Zah 4) (tC (V.int 1)))) ZbZ) (ZcK (Zaa (Zah 1) Zau))) (tC (V.int 0))) (tOp (ZdA K) (Zah 0) (Zah 4))) (Zan 5)) (ZqU K))) (ZbY (Zah 3)))
def ZmQ (K:PySem.W.Frag):TS:=ZaP (ZaY (ZcK Zau) (Zan 3)) (ZaP (ZaY (fun σ H_1 Q=>ZbT 1 (Zci K (Zah 0)) (Zan 0) (Za3 (Zec (rI0 fun i j=>V.bl (decide (i≤j))) (rI0 fun i j=>V.bl (decide (i<j))) (tC (V.int 0)) (Zah 0) (Zah 2))) (Zah 0) σ H_1 fun x H1=>∃l ns,x=V.ref l∧SqL K H1 l (List.map V.int ns)∧ns.length<64∧∀(q:Addr) (ms:List Int),H1 q=none→ms.Perm (dd ns)→List.Pairwise (fun x1 x2=>x1≤x2) ms→Q (V.ref q) (upd H1 q (HO.lst (List.map V.int ms)))) (Zan 0)) (ZqV K))
def ZqD (K:PySem.W.Frag):TS:=(ZaP (ZaY ZiO (Zan 6)) (ZaP (Ze5 (Zci K (ZbT 1 (Zci K (Zah 4)) (Zan 0) (Za3 (Zec (rI0 fun i j=>V.bl (decide (i≤j))) (rI0 fun i j=>V.bl (decide (i<j))) (tC (V.int 0)) (Zah 0) (Zah 4))) (Zah 0))) (Zan 7) (ZaP (Zjy (Zah 6) (Zah 7) (ZaF (Zhf K) [] E0 (Zaa (Zah 1) (Zaa (Zah 7) Zau)))) (ZcP (Za3 (Zec (rI0 fun i j=>V.bl (decide (i≤j))) (rI0 fun i j=>V.bl (decide (i<j))) (Zah 3) (tOp (rI0 fun i j=>V.int (i-j)) (Zah 5) (Zah 7)) (Zah 2))) (ZaP (ZaY (ZaF (Zhf K) [] E0 (Zaa (Zah 1) (Zaa (tOp (rI0 fun i j=>V.int (i-j)) (Zah 5) (Zah 7)) Zau))) (Zan 8)) (Zjy (Zah 6) (Zah 7) (tCB (fun xs H_1 Q=>∃p ys,xs=[V.ref p]∧((SqL K H_1 p ys∧∀(l:Addr),H_1 l=none→Q (V.ref l) (upd H_1 l (HO.tup ys)))∨SqT K H_1 p ys∧Q (V.ref p) H_1)) (Zaa (ZbT 2 (Zmp K (Zaa (ZkT (Zah 6) (Zah 7)) (Zaa (Zah 8) Zau))) (Ze4 K 2 (Zbc (Zan 0) (Zbc (Zan 1) ZfD))) Ze3 (tOp (rI0 fun i j=>V.int (i+j)) (Zah 0) (Zah 1))) Zau)))) Zbv))) (ZbY (ZaF Zdh [] E0 (Zaa (Zah 4) (Zaa (Zah 3) (Zaa (Zah 6) Zau)))))))
def ZqE (K:PySem.W.Frag):TS:=(ZaP (ZaY ZiO (Zan 6)) (ZaP (Ze5 (Zci K (ZbT 1 (Zci K (Zah 4)) (Zan 0) (Za3 (Zec (rI0 fun i j=>V.bl (decide (i≤j))) (rI0 fun i j=>V.bl (decide (i<j))) (tC (V.int 0)) (Zah 0) (Zah 4))) (Zah 0))) (Zan 7) (ZaP (Zjy (Zah 6) (Zah 7) (ZaF (Zhf K) [] E0 (Zaa (Zah 1) (Zaa (Zah 7) Zau)))) (ZcP (Za3 (tOp (rI0 fun i j=>V.bl (decide (j≤i))) (Zah 7) (tOp (rI0 fun i j=>V.int (i-j)) (Zah 3) (Zah 9)))) (Zjy (Zah 6) (Zah 7) (ZaF ZeW [] E0 (Zaa (Zah 1) (Zaa (Zah 2) (Zaa (Zah 3) (Zaa (Zah 7) (Zaa (Zah 9) Zau))))))) Zbv))) (ZbY (ZaF Zdh [] E0 (Zaa (Zah 4) (Zaa (Zah 3) (Zaa (Zah 6) Zau)))))))
def ZqF (K:PySem.W.Frag):TS:=(ZaP (ZaY (tOp (rI0 fun i j=>V.int (i-j)) (tOp (Zby K) (Zah 0) (tC (V.int 1))) (tOp (Zby K) (Zah 0) (tC (V.int 0)))) (Zan 9)) (ZaP (ZaY (tOp Zfm (tOp Zfm (Zah 4) (ZcK (Zaa (tOp (rI0 fun i j=>V.int (i-j)) (Zah 3) (Zah 9)) Zau))) (ZbT 1 (Zci K (tOp Zfm (Zah 4) (ZcK (Zaa (Zah 2) Zau)))) (Zan 0) (Za3 (tOp (rI0 fun i j=>V.bl (decide (j<i))) (Zah 0) (Zah 4))) (tOp (rI0 fun i j=>V.int (i+j)) (tOp (rI0 fun i j=>V.int (i-j)) (Zah 4) (Zah 10)) (tOp (rI (fun x j=>0<j) fun i j=>V.int (i%j)) (tOp (rI0 fun i j=>V.int (i-j)) (Zah 0) (Zah 4)) (Zah 10))))) (Zan 4)) (ZqE K)))
def ZpE (K:PySem.W.Frag):TS:=ZaP (ZcP (Za3 (tOp rEq (Zah 3) (tC (V.int 0)))) (ZbY (ZcK Zau)) Zbv) (ZaP (ZaY (ZaF ZeV [] E0 (Zaa (Zah 1) Zau)) (Zan 4)) (ZaP (ZcP (tB (tOp (Zby K) (Zah 0) (tC (V.int 3)))) (ZaP (ZaY (tOp (rI0 fun i j=>V.int (i-j)) (tOp (rI0 fun i j=>V.int (i+j)) (tOp (Zby K) (Zah 0) (tC (V.int 0))) (ZaF ZbQ [] E0 (Zaa (Zah 0) Zau))) (tC (V.int 1))) (Zan 5)) (ZaP (ZaY (tOp Zfm (tOp Zfm (Zah 4) (ZcK (Zaa (tOp (rI0 fun i j=>V.int (i+j)) (tOp (rI0 fun i j=>V.int (i-j)) (Zah 5) (Zah 2)) (tC (V.int 1))) (Zaa (tOp (rI0 fun i j=>V.int (i+j)) (tOp (rI0 fun i j=>V.int (i-j)) (Zah 5) (Zah 3)) (tC (V.int 1))) Zau)))) (ZbT 1 (Zci K (Zah 4)) (Zan 0) (Za3 (tOp (rI0 fun i j=>V.bl (decide (j<i))) (Zah 0) (Zah 4))) (tOp (rI0 fun i j=>V.int (i+j)) (tOp (rI0 fun i j=>V.int (i-j)) (Zah 6) (Zah 0)) (tC (V.int 1))))) (Zan 4)) (ZqD K))) Zbv) (ZqF K)))
def ZqG (K:PySem.W.Frag):TS:=(ZaP (ZaY (tSl (ZjX K) (ZcK (Zaa (ZdM (Zaa (Zah 9) (Zaa (tOp (Zby K) (Zah 6) (tC (V.int 1))) (Zaa (Zah 8) (Zaa (tOp (Zby K) (Zah 6) (tC (V.int 3))) Zau))))) Zau)) ZbZ (ZdG (Zah 8))) (Zan 10)) (ZbY (ZdM (Zaa (Zah 2) (Zaa (tOp Zfm (tOp Zfm (tSl (ZjX K) (Zah 4) ZbZ (ZdG (Zah 1))) (Zah 10)) (tSl (ZjX K) (Zah 4) (ZdG (tOp (rI0 fun i j=>V.int (i+j)) (Zah 1) (tC (V.int 1)))) ZbZ)) (Zaa (ZaF Zh2 [] E0 (Zaa (Zah 6) (Zaa (Zah 5) (Zaa (Zah 3) (Zaa (Zah 2) Zau))))) Zau))))))
def ZqH (K:PySem.W.Frag):TS:=(ZaP (ZaY (tOp (rI0 fun i j=>V.int (i-j)) (Zah 2) (tOp (Zby K) (Zah 6) (tC (V.int 1)))) (Zan 8)) (ZaP (ZaY (tOp (Zby K) (Zah 6) (tC (V.int 0))) (Zan 9)) (ZaP (ZcP (tB (tOp (Zby K) (Zah 6) (tC (V.int 3)))) (ZaY (tOp (rI0 fun i j=>V.int (i-j)) (tOp (rI0 fun i j=>V.int (i+j)) (Zah 9) (tOp (Zby K) (Zah 6) (tC (V.int 2)))) (Zah 8)) (Zan 9)) Zbv) (ZqG K))))
def Zqn (K:PySem.W.Frag):TS:=ZaP (ZaY (Zah 0) (Ze4 K 3 (Zbc (Zan 3) (Zbc (Zan 4) (Zbc (Zan 5) ZfD))))) (ZaP (ZaY (tOp (ZdA K) (Zah 4) (Zah 1)) (Zan 6)) (ZaP (ZaY (tOp Zfm (tSl (ZjX K) (Zah 4) ZbZ (ZdG (Zah 1))) (tSl (ZjX K) (Zah 4) (ZdG (tOp (rI0 fun i j=>V.int (i+j)) (Zah 1) (tC (V.int 1)))) ZbZ)) (Zan 7)) (ZaP (ZcP (tOr (Zgl (tB (ZaF ZcV [] E0 (Zaa (Zah 6) Zau)))) (tOr (Za3 (tOp rNe (ZaF ZbQ [] E0 (Zaa (Zah 6) Zau)) (Zah 3))) (Zgl (Za3 (Zec (rI0 fun i j=>V.bl (decide (i≤j))) (rI0 fun i j=>V.bl (decide (i<j))) (tOp (Zby K) (Zah 6) (tC (V.int 1))) (Zah 2) (Zah 3)))))) (ZbY (tC V.non)) Zbv) (ZaP (ZcP (Zgl (tB (tCB (fun xs H_1 Q=>∃p bs,xs=[V.ref p]∧SqL K H_1 p (List.map V.bl bs)∧Q (V.bl (bs.all id)) H_1) (Zaa (ZbT 1 (Zci K (Zah 7)) (Zan 0) Ze3 (tOp (rI0 fun i j=>V.bl (decide (i≤j))) (ZaF ZbQ [] E0 (Zaa (Zah 0) Zau)) (Zah 3))) Zau)))) (ZbY (tC V.non)) Zbv) (ZqH K)))))
def Zqo (K:PySem.W.Frag):TS:=ZaP (ZaY (ZaF Zlt [] E0 (Zaa (Zah 0) (Zaa (Zah 1) (Zaa (Zah 2) Zau)))) (Zan 3)) (ZaP (ZcP (tB (ZpX (Zah 3))) (ZbY (tC V.non)) Zbv) (ZbY (ZdM (Zaa (Zah 3) (Zaa (ZcK Zau) Zau)))))
def Zok (K:PySem.W.Frag):TS:=ZaP (ZaY (tOp (rI0 fun i j=>V.int (i+j)) (tC (V.int 1)) (tOp (rI (fun x j=>0<j) fun i j=>V.int (i%j)) (Zah 1) (tCB (fun xs H Q=>∃i j,xs=[V.int i,V.int j]∧Q (V.int (if j>i then j else i)) H) (Zaa (tC (V.int 1)) (Zaa (tOp (rI ZcJ fun i j=>V.int (i/j)) (tOp (rI0 fun i j=>V.int (i-j)) (Zah 0) (tC (V.int 1))) (tOp (ZdA K) (ZcK (Zaa (tC (V.int 1)) (Zaa (tC (V.int 1)) (Zaa (tC (V.int 2)) (Zaa (tC (V.int 9)) Zau))))) (tOp (rI (fun x j=>0<j) fun i j=>V.int (i%j)) (tOp (rI ZcJ fun i j=>V.int (i/j)) (Zah 1) (tC (V.int 5))) (tC (V.int 4))))) Zau))))) (Zan 2)) (ZaP (ZaY (tOp (rI (fun x j=>0<j) fun i j=>V.int (i%j)) (tOp (rI ZcJ fun i j=>V.int (i/j)) (Zah 1) (tC (V.int 7))) (tOp (rI0 fun i j=>V.int (i-j)) (Zah 0) (Zah 2))) (Zan 3)) (ZaP (ZcP (Za3 (tOp rEq (tOp (rI (fun x j=>0<j) fun i j=>V.int (i%j)) (tOp (rI ZcJ fun i j=>V.int (i/j)) (Zah 1) (tC (V.int 11))) (tC (V.int 2))) (tC (V.int 0)))) (ZbY (ZdM (Zaa (Zah 3) (Zaa (tOp (rI0 fun i j=>V.int (i-j)) (Zah 0) (Zah 2)) (Zaa (Zah 2) (Zaa (tC (V.bl false)) Zau)))))) Zbv) (ZaP (ZaY (tCB (fun xs H Q=>∃i j,xs=[V.int i,V.int j]∧Q (V.int (if j<i then j else i)) H) (Zaa (Zah 2) (Zaa (tOp (rI ZcJ fun i j=>V.int (i/j)) (Zah 0) (tC (V.int 2))) Zau))) (Zan 2)) (ZbY (ZdM (Zaa (tCB (fun xs H Q=>∃i j,xs=[V.int i,V.int j]∧Q (V.int (if j<i then j else i)) H) (Zaa (Zah 3) (Zaa (tOp (rI0 fun i j=>V.int (i-j)) (Zah 0) (tOp (rI Zit fun i j=>V.int (i*j)) (tC (V.int 2)) (Zah 2))) Zau))) (Zaa (tOp (rI0 fun i j=>V.int (i-j)) (Zah 0) (Zah 2)) (Zaa (Zah 2) (Zaa (tC (V.bl true)) Zau)))))))))
def ZpF (K:PySem.W.Frag):TS:=ZaP (ZaY (tCB (fun xs H_1 Q=>∃p ns,xs=[V.ref p]∧SqL K H_1 p (List.map V.int ns)∧ns≠ []∧∀(m:Int),m∈ns→(∀(n:Int),n∈ns→n≤m)→Q (V.int m) H_1) (Zaa (tOp Zfm (ZcK (Zaa (tOp (Zby K) (Zah 1) (tC (V.int 1))) Zau)) (ZbT 1 (Zci K (Zah 2)) (Zan 0) Ze3 (ZaF ZbQ [] E0 (Zaa (Zah 0) Zau)))) Zau)) (Zan 4)) (ZbY (ZcK (Zaa (tOp (Zby K) (Zah 1) (tC (V.int 1))) (Zaa (Zah 4) (Zaa (tCB (fun xs H Q=>∃i j,xs=[V.int i,V.int j]∧Q (V.int (if j<i then j else i)) H) (Zaa (Zah 0) (Zaa (tOp (rI0 fun i j=>V.int (i+j)) (Zah 4) (tC (V.int 1))) Zau))) (Zaa (tCB (fun xs H Q=>∃i j,xs=[V.int i,V.int j]∧Q (V.int (if j>i then j else i)) H) (Zaa (tC (V.int 0)) (Zaa (tOp (rI0 fun i j=>V.int (i-j)) (Zah 4) (tC (V.int 1))) Zau))) (Zaa (tOp (rI0 fun i j=>V.int (i+j)) (tOp (Zby K) (Zah 1) (tC (V.int 1))) (tOp (rI (fun x j=>0<j) fun i j=>V.int (i%j)) (Zah 3) (tOp (rI0 fun i j=>V.int (i+j)) (tOp (Zby K) (Zah 1) (tC (V.int 2))) (tC (V.int 1))))) (Zaa (tOp (rI (fun x j=>0<j) fun i j=>V.int (i%j)) (tOp (rI ZcJ fun i j=>V.int (i/j)) (Zah 3) (tC (V.int 3))) (tOp (rI0 fun i j=>V.int (i+j)) (Zah 0) (tC (V.int 1)))) Zau))))))))
def ZpG (K:PySem.W.Frag):TS:=(Ze5 (Zci K (ZaF Zh3 [] E0 (Zaa (Zah 2) (Zaa (Zah 7) (Zaa (Zah 9) (Zaa (tOp (rI ZcJ fun i j=>V.int (i/j)) (Zah 6) (tC (V.int 17))) Zau)))))) (Zan 12) (ZcP (Zgl (tB (ZaF (Zev K ZjI) [] E0 (Zaa (Zah 11) (Zaa (ZdM (Zaa (tC (V.str "cut")) (Zaa (Zah 10) (Zaa (Zah 12) Zau)))) (Zaa (ZaF Zi1 [] E0 (Zaa (Zah 11) (Zaa (Zah 10) (Zaa (Zah 12) Zau)))) Zau)))))) (ZbY (tC (V.bl false))) Zbv))
def ZpH (K:PySem.W.Frag):TS:=(ZaP (ZaY (tOp (rI (fun x j=>0<j) fun i j=>V.int (i%j)) (Zah 6) (tOp (rI0 fun i j=>V.int (i+j)) (tCB (fun xs H Q=>∃p ys,xs=[V.ref p]∧(SqL K H p ys∨SqT K H p ys)∧Q (V.int ys.length) H) (Zaa (Zah 9) Zau)) (tC (V.int 1)))) (Zan 10)) (ZaP (ZaY (ZdM (Zaa (Zah 2) (Zaa (tOp Zfm (tOp Zfm (tSl (ZjX K) (Zah 9) ZbZ (ZdG (Zah 10))) (ZcK (Zaa (Zah 7) Zau))) (tSl (ZjX K) (Zah 9) (ZdG (Zah 10)) ZbZ)) (Zaa (Zah 4) Zau)))) (Zan 11)) (ZpG K)))
def ZpI (K:PySem.W.Frag):TS:=ZaP (ZaY (ZaF (ZhQ K) [] E0 (Zaa (Zah 0) (Zaa (tC (V.int 1)) Zau))) (Zan 1)) (ZaP (ZaY (Zah 1) (Ze4 K 3 (Zbc (Zan 2) (Zbc (Zan 3) (Zbc (Zan 4) ZfD))))) (ZaP (Ze5 (ZfE (Zaa (tOp (rI Zit fun i j=>V.int (i*j)) (tC (V.int 8)) (tCB (fun xs H Q=>(∃i,xs=[V.int i]∧Q (V.int i) H)∨∃k,xs=[V.bl k]∧Q (V.int (if k=true then 1 else 0)) H) (Zaa (tOp (rI0 fun i j=>V.bl (decide (j<i))) (Zah 2) (tC (V.int 1))) Zau))) Zau)) (Zan 5) (ZaP (ZaY (ZaF (Zc4 K) [] E0 (Zaa (Zah 0) (Zaa (tOp (rI0 fun i j=>V.int (i+j)) (tC (V.int 41)) (Zah 5)) Zau))) (Zan 6)) (ZaP (ZaY (ZaF Zf8 [] E0 (Zaa (Zah 2) (Zaa (Zah 6) Zau))) (Zan 7)) (ZaP (ZaY (tOp (rI0 fun i j=>V.int (i+j)) (tOp (Zby K) (Zah 7) (tC (V.int 1))) (tOp (rI (fun x j=>0<j) fun i j=>V.int (i%j)) (tOp (rI ZcJ fun i j=>V.int (i/j)) (Zah 6) (tC (V.int 13))) (tOp (rI0 fun i j=>V.int (i+j)) (tOp (Zby K) (Zah 7) (tC (V.int 2))) (tC (V.int 1))))) (Zan 8)) (ZaP (ZaY (ZbT 1 (Zci K (Zah 3)) (Zan 0) (Za3 (tOp (rI0 fun i j=>V.bl (decide (i≤j))) (ZaF ZbQ [] E0 (Zaa (Zah 0) Zau)) (Zah 9))) (Zah 0)) (Zan 9)) (ZaP (ZcP (Za3 (tOp rEq (Zah 5) (tC (V.int 0)))) (ZaY (Zah 3) (Zan 9)) Zbv) (ZpH K))))))) (ZbY (tC (V.bl true)))))
end
section
variable {K:PySem.W.Frag}
theorem Zqp {xs:List V}(h:Wg H xs L):Wg H xs.reverse L.reverse:=by
 refine⟨by rw[Qb2,Qb2,h.1],fun i x e h1 h2=> ?_⟩;have hi:i<xs.length:=by have:=(Qaf.mp h1).1;rwa [Qb2] at this
 rw[Qd5 hi] at h1;rw[Qd5 (by rw[←h.1];exact hi),←h.1] at h2;exact h.2 _ x e h1 h2
theorem ZnB (h:mlB p=true):p.1<p.2.1∧(p.2.2.2=true→p.1+p.2.2.1≤p.2.1):=by
 unfold mlB at h;rw[QaY] at h;refine⟨Qao h.1,fun z=> ?_⟩
 have:=h.2;rw[z] at this;exact Qao (by simpa using this)
theorem ZjJ (hq:H q=some (.tup (pV p)))(ml:mlB p=true)(lo:p.2.1≤e)(hi:e≤p.2.1+p.2.2.1)(k:∀(c:Addr) (ys:List V) (H':Hp),Zak H H'→H c=none→H' c=some (.lst ys)→CpL H' ys ((Zfd p e).map pV)→Q (.ref c) H'):ZpB K {nx:=Z,rt:=Q } [some (.ref q),some (.int e),none,none,none,none,none] H:=by
 obtain⟨m1,m2⟩:=ZnB ml;refine⟨_,rfl,q,_,rfl,SqT.of hq,rfl,_,_,rfl,_,_,rfl,_,_,rfl,_,_,rfl,rfl,?_⟩;refine⟨_,rfl,_,rfl,_,_,rfl,rfl,?_⟩;refine⟨_,rfl,rfl,_,rfl,Zda (fun z=> ?_) (fun z=> ?_)⟩
 ·have z:e-p.2.1=0:=V.int.inj (Qao z);refine⟨(by show 0≤sizeLine;decide),fun c hc=>k c [] _ (Zak.nw (Zak.refl H) hc) hc Zad ?_⟩;unfold Zfd;rw[if_pos z];exact CpL.nil _
 ·have z:¬e-p.2.1=0:=fun y=>z (Qar (congrArg V.int y))
  have fin:∀u:Int,(if p.2.2.2=true then u=p.2.2.1-(e-p.2.1) else u=0)→Zey [.ref q,.int u,.int (e-p.2.1)] H (fun v H1=>[v].length≤sizeLine∧∀c,H1 c=none→Q (.ref c) (upd H1 c (.lst [v]))) E0:=fun u hu=>by
   refine⟨q,p.1,p.2.1,p.2.2.1,p.2.2.2,u,e-p.2.1,rfl,hq,fun r hr=>⟨(by show 1≤sizeLine;decide),fun c hc=> ?_⟩⟩;have s1:=Zak.nw (o:=.tup (pV (if p.2.2.2=true then p.1+p.2.2.1-(e-p.2.1) else p.1,p.2.1,e-p.2.1,p.2.2.2))) (Zak.refl H) hr
   have eo:(HO.tup [V.int (if p.2.1+(if p.2.2.2=true then p.2.2.1-u-(e-p.2.1) else u)<p.1+u then p.2.1+(if p.2.2.2=true then p.2.2.1-u-(e-p.2.1) else u) else p.1+u),V.int (if p.2.1+(if p.2.2.2=true then p.2.2.1-u-(e-p.2.1) else u)>p.1+u then p.2.1+(if p.2.2.2=true then p.2.2.1-u-(e-p.2.1) else u) else p.1+u),V.int (e-p.2.1),V.bl p.2.2.2])= .tup (pV (if p.2.2.2=true then p.1+p.2.2.1-(e-p.2.1) else p.1,p.2.1,e-p.2.1,p.2.2.2)):=by
    show HO.tup [_,_,_,_]=HO.tup [_,_,_,_]
    cases hb:p.2.2.2 with
    |true=>
     rw[hb] at hu;have m3:=m2 hb;have hu:u=p.2.2.1-(e-p.2.1):=hu;rw[if_pos rfl,if_pos rfl,if_neg (by omega),if_pos (by omega),show p.1+u=p.1+p.2.2.1-(e-p.2.1) by omega,show p.2.1+(p.2.2.1-u-(e-p.2.1))=p.2.1 by omega]
    |false=>
     rw[hb] at hu;have hu:u=0:=hu;rw[if_neg (show ¬(false=true) by decide),if_neg (show ¬(false=true) by decide),if_neg (by omega),if_pos (by omega),show p.1+u=p.1 by omega,show p.2.1+u=p.2.1 by omega]
   rw[eo] at hc⊢;have f1:(upd H r (.tup (pV (if p.2.2.2=true then p.1+p.2.2.1-(e-p.2.1) else p.1,p.2.1,e-p.2.1,p.2.2.2)))) r=some (.tup (pV (if p.2.2.2=true then p.1+p.2.2.1-(e-p.2.1) else p.1,p.2.1,e-p.2.1,p.2.2.2))):=Zad;generalize upd H r (.tup (pV (if p.2.2.2=true then p.1+p.2.2.1-(e-p.2.1) else p.1,p.2.1,e-p.2.1,p.2.2.2)))=H1 at s1 f1 hc⊢;have s2:=Zak.nw (o:=.lst [.ref r]) (Zak.refl H1) hc;refine k c [.ref r] _ (s1.trans s2) (s1.free hc) Zad ?_;unfold Zfd;rw[if_neg z];exact CpL.snoc (CpL.nil _) (s2 _ _ f1)
  refine⟨_,rfl,_,rfl,_,rfl,?_⟩
  cases hb:p.2.2.2 with
  |true=>exact Zc7 ⟨_,rfl,_,rfl,_,_,rfl,rfl,_,rfl,fin _ (by rw[hb,if_pos rfl])⟩
  |false=>exact Zcu ⟨_,rfl,fin _ (by rw[hb,if_neg (show ¬(false=true) by decide)])⟩
theorem ZjK {xs:List V}(ha:H a=some (.lst xs))(g:Wg H xs L)(hq:H q=some (.tup (pV p)))(ok:Zhe n L p e wd)
  (k:∀(b:Addr) (ys:List V) (R:WL2) (H':Hp),H b=none→H' b=some (.lst ys)→Wg H' ys R→IsC L p e wd R→Zak H H'→Q (.ref b) H'):ZpC K {nx:=Z,rt:=Q } [some (.ref a),some (.ref q),some (.int e),none,none,none] H:=by
 obtain⟨m1,m2⟩:=ZnB ok.ml;obtain⟨p0,p1,p2,p3⟩:=ok.pr;have lo:=ok.lo;have hi:=ok.hi;have en:=ok.en;have sm:=ok.sum;have n1:=ok.n1;have nL:=ok.nrm;have pos:∀d∈L,0<d.1:=fun d hd=>nL.pos d hd;have ll:=ok.len;have w2:=ok.w2;have e0:0≤e:=by omega
 refine⟨_,rfl,_,rfl,a,xs,L,0,e,rfl,SqL.of ha,g,by omega,pos,e0,fun b1 z1 H1 f1 h1 g1 s1=> ?_⟩;rw[ZiY nL (QaX _) e0] at g1;refine⟨_,rfl,_,rfl,_,rfl,a,xs,L,rfl,SqL.of (s1 _ _ ha),g.up s1.tups,by omega,fun H2 s2=> ?_⟩;have s12:=s1.trans s2;refine⟨a,xs,L,e,tot L,rfl,SqL.of (s12 _ _ ha),g.up s12.tups,by omega,pos,by omega,fun b2 z2 H3 f3 h3 g3 s3=> ?_⟩;rw[ZiY nL e0 (by omega)] at g3;have s23:=s2.trans s3;have s13:=s1.trans s23;have nP:Zcd (paF 0 e L):=ZcR (Zb6 nL);have nO:Zcd (paF e (tot L) L):=ZcR (Zb6 nL);have lP:=Zlm nL (QaX 0) e0;have lO:=Zlm nL e0 (show e≤tot L by omega);have wP:=ZhV (p:=fun u=>u.length=wd) nL (QaX 0) e0 ok.wid;have wO:=ZhV (p:=fun u=>u.length=wd) nL e0 (show e≤tot L by omega) ok.wid;have mO:=ZhV (p:=Zl2) nL e0 (show e≤tot L by omega) ok.num;have tP:tot (paF 0 e L)=e:=by rw[Toy.paF_0 pos];exact Toy.tot_takeF pos e0 (by omega)
 have tO:tot (paF e (tot L) L)=tot L-e:=by rw[Toy.paF_n nL e0 (by omega)];exact Toy.tot_dropF pos e0 (by omega)
 have hq3:=s13 _ _ hq;refine⟨_,rfl,q,_,_,_,rfl,rfl,SqT.of hq3,rfl,_,rfl,?_⟩
 cases hb:p.2.2.2 with
 |true=>
  have m3:=m2 hb;refine Zc7 ⟨_,rfl,_,rfl,q,_,_,_,rfl,rfl,SqT.of hq3,rfl,_,rfl,b2,z2,rfl,SqL.of h3,fun c hc=> ?_⟩;have s4:=Zak.nw (o:=.lst z2.reverse) (Zak.refl H3) hc;have f4:(upd H3 c (.lst z2.reverse)) c=some (.lst z2.reverse):=Zad;generalize upd H3 c (.lst z2.reverse)=H4 at s4 f4⊢;refine⟨b1,c,z1,z2.reverse,paF 0 e L,(paF e (tot L) L).reverse,p.1,wd,rfl,(s23.trans s4) _ _ h1,f4,g1.up (s23.trans s4).tups,(Zqp g3).up s4.tups,nP,fun d hd=>nO.pos d (QdM.mp hd),p0,by rw[Toy.tot_revC,tO,tP];omega,by omega,by rw[Qb2];omega,w2,wP,fun d hd=>wO d (QdM.mp hd),fun r zr R H5 f5 h5 g5 pt s5=> ?_⟩;refine k r zr R H5 (s13.free (s4.free f5)) h5 g5 ?_ (s13.trans (s4.trans s5));show Toy.IsCut L p.1 (p.2.1-p.1) e p.2.2.2 wd R;rw[hb];exact Toy.cut_turn nL ok.wid p0 e0 (by omega) (by omega) pt
 |false=>
  refine Zcu ⟨_,rfl,q,p,rfl,hq3,?_⟩;refine⟨_,rfl,_,rfl,_,rfl,_,_,rfl,rfl,_,rfl,b2,z2,_,rfl,SqL.of h3,g3,by omega,fun H4 s4=> ?_⟩;refine⟨_,rfl,_,_,rfl,rfl,_,rfl,Zda (fun c=> ?_) (fun c=> ?_)⟩
  ·have c:tot (paF e (tot L) L)≤p.2.1-p.1:=Qao c;refine⟨_,rfl,b1,b2,z1,z2,paF 0 e L,paF e (tot L) L,e-(p.2.1-p.1),wd,rfl,(s23.trans s4) _ _ h1,s4 _ _ h3,g1.up (s23.trans s4).tups,g3.up s4.tups,nP,fun d hd=>nO.pos d hd,by omega,by rw[tO,tP];omega,by omega,by omega,w2,wP,wO,fun r zr R H5 f5 h5 g5 pt s5=> ?_⟩;refine k r zr R H5 (s13.free (s4.free f5)) h5 g5 ?_ (s13.trans (s4.trans s5));show Toy.IsCut L p.1 (p.2.1-p.1) e p.2.2.2 wd R;rw[hb];exact Toy.cut_off nL ok.wid e0 (by omega) (by omega) (by omega) (by omega) pt
  ·have c:¬tot (paF e (tot L) L)≤p.2.1-p.1:=fun z=>c (Qar z)
   have big:∀d∈paF e (tot L) L,d.1<10^66:=fun d hd=>by
    have:=Toy.tot_ge (fun x hx=>by have:=nO.pos x hx;omega) hd;exact Qdo (show d.1≤10^60 by omega) (by decide)
   refine⟨_,rfl,_,rfl,b2,z2,paF e (tot L) L,wd,p.2.1-p.1,rfl,s4 _ _ h3,g3.up s4.tups,fun z=>by rw[z,Zaw] at tO;omega,by omega,w2,wO,fun d hd=>⟨nO.pos d hd,big d hd⟩,fun d hd z hz=> ?_,by omega,Qdo (show p.2.1-p.1≤10^60 by omega) (by decide),fun r zr W H5 f5 h5 g5 hp s5=> ?_⟩
   ·have:=mO d hd z hz;exact⟨Qd6 (by decide) this.1,Qd6 this.2 (by decide)⟩
   have s45:=s4.trans s5;have tW:tot W=p.2.1-p.1:=by rw[hp.sum];omega
   refine⟨b1,r,z1,zr,paF 0 e L,W,e-(p.2.1-p.1),wd,rfl,(s23.trans s45) _ _ h1,h5,g1.up (s23.trans s45).tups,g5,nP,fun d hd=>hp.nrm.pos d hd,by omega,by rw[tW,tP];omega,by omega,by have:=hp.len;omega,w2,wP,hp.wid,fun r2 zr2 R H6 f6 h6 g6 pt s6=> ?_⟩;refine k r2 zr2 R H6 (s13.free (s45.free f6)) h6 g6 ?_ (s13.trans (s45.trans s6));show Toy.IsCut L p.1 (p.2.1-p.1) e p.2.2.2 wd R;rw[hb];exact Toy.cut_wound nL ok.wid e0 (by omega) (by omega) (by omega) hp pt
theorem ZnC (i j:Int):decide (V.int i=V.int j)=decide (i=j):=by
 by_cases c:i=j
 ·rw[Qar c,c];exact Qar rfl
 ·rw[QaN c];exact QaN fun z=>c (V.int.inj z)
theorem Zh4 {ya yb:List V}(h:ZaU H a pa pb n ps L ya yb)(hl:ps.length≤400)(hd:ZmN H q n ps L o)
  (k1:o=none→∀H',Zak H H'→E (.ref cN) none H')
  (k2:∀out:Out,o=some out→∀(c a' pa' pb' pc':Addr) (ya' yb' yc':List V) (H':Hp),Zak H H'→H c=none→H pa'=none→H pb'=none→H pc'=none→pa'≠pb'→pa'≠pc'→pb'≠pc'→ZbM H' c a' pa' pb' pc' out ya' yb' yc'→Q (.ref c) H'):
  ZpD K E cN {nx:=Z,rt:=Q } [some (.ref a),some (.ref q),none,none,none,none,none,none] H:=by
 obtain⟨j,e,p,wd,hq,e0,e1,ok,o1,o2⟩:=hd;obtain⟨q1,y1,f1⟩:=h.at ok.at';have jl:j<ya.length:=(Qaf.mp y1).1;have yl:=h.len;refine⟨_,rfl,a,_,rfl,SqT.of h.h,rfl,_,_,rfl,_,_,rfl,_,_,rfl,rfl,?_⟩;refine⟨_,rfl,1,rfl,q,_,rfl,SqT.of hq,?_,fun c hc=> ?_⟩
 ·rintro⟨z,_⟩;exact absurd (show(1:Nat)=0 from z) (by decide)
 rw[show Ze9 [V.str "cut",V.int (j:Int),V.int e] (some 1) none=[V.int (j:Int),V.int e] from ZcZ (k:=1) _ (by show 1≤3;decide)];have s1:=Zak.nw (o:=.tup [V.int (j:Int),V.int e]) (Zak.refl H) hc;have g1:(upd H c (.tup [V.int (j:Int),V.int e])) c=some (.tup [V.int (j:Int),V.int e]):=Zad;generalize upd H c (.tup [V.int (j:Int),V.int e])=H1 at s1 g1⊢;refine⟨c,_,rfl,SqT.of g1,rfl,_,_,rfl,_,_,rfl,rfl,?_⟩;have h1:=h.up s1;have f11:=s1 _ _ f1;refine⟨_,rfl,_,rfl,pa,_,_,_,rfl,rfl,SqL.of h1.ha,Zcb y1,?_⟩;refine⟨_,rfl,q1,p,rfl,f11,_,rfl,?_⟩;have no:∀{H2:Hp},Zak H H2→Zez n ps j p e=false→E (.ref cN) none H2:=fun s z=>k1 (o1 z) _ s
 cases c1:mlB p with
 |false=>exact Zcu ⟨false,rfl,(fun z=>by cases z),fun _=>no s1 (by unfold Zez;rw[c1];rfl)⟩
 |true=>
  refine Zc7 ⟨_,rfl,q1,p,rfl,f11,_,rfl,rfl,_,rfl,?_⟩;rw[ZnC]
  cases c2:decide (p.2.1+p.2.2.1=n) with
  |false=>exact Zcu ⟨false,rfl,(fun z=>by cases z),fun _=>no s1 (by unfold Zez;rw[c1,c2];rfl)⟩
  |true=>
   refine Zc7 ⟨_,rfl,q1,_,_,_,rfl,rfl,SqT.of f11,rfl,_,rfl,_,_,rfl,rfl,_,rfl,fun c3=> ?_,fun c3=>no s1 (by unfold Zez;rw[c1,c2,c3];rfl)⟩;have c3:=c3;refine⟨_,rfl,_,rfl,(by show 0≤sizeLine;decide),fun l hl1=> ?_⟩;have s2:=Zak.nw (o:=.lst []) (Zak.refl H1) hl1;have g2:(upd H1 l (.lst [])) l=some (.lst []):=Zad;generalize upd H1 l (.lst [])=H2 at s2 g2⊢;have s02:=s1.trans s2;refine⟨pa,l,j,ya,[],rfl,s02 _ _ h.ha,g2,jl,by omega,(by show 0≤4;decide),fun d H3 s3 fd hd3=> ?_⟩;have s03:=s02.trans s3
   have cr:CpL H3 (ya.take j++ []++ya.drop (j+1)) ((ps.take j++ps.drop (j+1)).map pV):=by
    rw[Qbo,Qaw,Qc1,Qc2];exact((h.ca.up s03.tups).take j).append ((h.ca.up s03.tups).drop (j+1))
   refine⟨_,rfl,d,_,ps.take j++ps.drop (j+1),e,rfl,hd3,cr,by rw[Qae,Qav,QaW];omega,fun H4 s4=>⟨_,rfl,fun c4=> ?_,fun c4=>no (s03.trans s4) (by unfold Zez;rw[c1,c2,c3,c4];rfl)⟩⟩;have s04:=s03.trans s4;have cb:Zez n ps j p e=true:=by unfold Zez;rw[c1,c2,c3,c4];rfl
   have e2:p.2.1+p.2.2.1=n:=Qao c2;have e3:p.2.1≤e:=Qao c3;refine⟨_,rfl,_,rfl,_,rfl,_,rfl,_,rfl,q1,p,e,rfl,s04 _ _ f1,c1,e3,by omega,fun kc ys H5 s5 fk hk ck=> ?_⟩;have s05:=s04.trans s5
   have kl:ys.length≤1:=by
    rw[ck.1,Qac];unfold Zfd;split<;>simp
   refine⟨pa,kc,j,ya,ys,rfl,s05 _ _ h.ha,hk,jl,by omega,by omega,fun d2 H6 s6 fd2 hd6=> ?_⟩;have s06:=s05.trans s6;refine⟨_,rfl,_,rfl,_,rfl,pb,q1,yb,n,L,p,e,wd,rfl,s06 _ _ h.hb,h.wb.up s06.tups,s06 _ _ f1,⟨ok.nrm,ok.len,ok.sum,ok.n1,ok.w1,ok.w2,ok.wid,ok.num,ok.pr,c1,e2,e3,e1⟩,fun w zw R H7 f7 h7 g7 ic s7=> ?_⟩;have s07:=s06.trans s7;have ndw:d2≠w:=Zav hd6 f7;refine⟨(by show 3≤sizeLine;decide),fun a' ha'=>⟨(by show 0≤sizeLine;decide),fun pc hpc=>⟨(by show 2≤sizeLine;decide),fun c' hc'=> ?_⟩⟩⟩;have s8:=Zak.nw (o:=.tup [.int e,.ref d2,.ref w]) (Zak.refl H7) ha';have g8:(upd H7 a' (.tup [.int e,.ref d2,.ref w])) a'=some (.tup [.int e,.ref d2,.ref w]):=Zad;generalize upd H7 a' (.tup [.int e,.ref d2,.ref w])=H8 at s8 g8 hpc hc'⊢;have s9:=Zak.nw (o:=.lst []) (Zak.refl H8) hpc;have g9:(upd H8 pc (.lst [])) pc=some (.lst []):=Zad;have hd8:=s8 _ _ (s7 _ _ hd6);have ndp:d2≠pc:=Zav hd8 hpc;have nwp:w≠pc:=Zav (s8 _ _ h7) hpc;generalize upd H8 pc (.lst [])=H9 at s9 g9 hc'⊢;have s10:=Zak.nw (o:=.tup [.ref a',.ref pc]) (Zak.refl H9) hc';have g10:(upd H9 c' (.tup [.ref a',.ref pc])) c'=some (.tup [.ref a',.ref pc]):=Zad;generalize upd H9 c' (.tup [.ref a',.ref pc])=H10 at s10 g10⊢;have s89:=s8.trans s9;have s810:=s89.trans s10;have s09:=s07.trans s89;have s010:=s07.trans s810;have s610:=s7.trans s810
   have cc:CpL H10 (ya.take j++ys++ya.drop (j+1)) ((ZdL ps j p e).map pV):=by
    unfold ZdL;rw[Qaw,Qaw,Qc1,Qc2];exact(((h.ca.up s010.tups).take j).append (ck.up (s6.trans s610).tups)).append ((h.ca.up s010.tups).drop (j+1))
   exact k2 _ (o2 cb R ic) c' a' d2 w pc _ zw [] H10 s010 (s09.free hc') (s05.free fd2) (s06.free f7) ((s07.trans s8).free hpc) ndw ndp nwp ⟨g10,⟨(s9.trans s10) _ _ g8,s610 _ _ hd6,cc,s810 _ _ h7,g7.up s810.tups⟩,s10 _ _ g9,SrL.nil _⟩
theorem Zlu:UpR ZjI:=by
 rintro H H' u n ps L o s ⟨q,j,e,p,wd,rfl,hq,r⟩;exact⟨q,j,e,p,wd,rfl,s _ _ hq,r⟩
theorem Zf9 {fs ds:List (Str×Addr)}{g:Addr}{u:V}{ya yb:List V}(hv:Zl1 fs "cut" =some g)(hg:∀H',SqT K H' g [.str "pairing",.str "place"])(hvd:Zl1 ds "cut" =some d)(h:ZaU H a pa pb n ps L ya yb)(hl:ps.length≤400)(hr:ZjI H u n ps L o)
  (k1:o=none→∀H',Zak H H'→E (.ref cN) none H')
  (k2:∀out:Out,o=some out→∀(c a' pa' pb' pc':Addr) (ya' yb' yc':List V) (H':Hp),Zak H H'→H c=none→H pa'=none→H pb'=none→H pc'=none→pa'≠pb'→pa'≠pc'→pb'≠pc'→ZbM H' c a' pa' pb' pc' out ya' yb' yc'→Q (.ref c) H'):
  Zpq K E fs ds d cN ZmN {nx:=Z,rt:=Q } [some (.ref a),some u,none] H:=by
 obtain⟨q,j,e,p,wd,rfl,hq,ok,r1,r2⟩:=hr;have jl:j<ps.length:=(Qaf.mp ok.at').1
 have ef:(((["pairing", "place"]:List Str).zip [(j:Int),e]).all fun x=>Zgm n ps x.1 x.2)=(decide (0≤e) && decide (e<n)):=by
  show(Zgm n ps "pairing" (j:Int) && (Zgm n ps "place" e && true))=_
  have f1:Zgm n ps "pairing" (j:Int)=true:=by
   unfold Zgm;rw[if_neg (by decide),Qar (show 0≤(j:Int) by omega),Qar (show(j:Int)<(ps.length:Int) by omega)];rfl
  rw[f1,Bool.true_and,Bool.and_true];unfold Zgm;rw[if_pos rfl]
 refine ZhX (w:= "cut") (is:=[(j:Int),e]) (kds:=["pairing", "place"]) h hl hq hv hg rfl (show 1≤2 by decide) (show 2≤3 by decide) (fun kd hkd=>by
  rcases Qas.mp hkd with z|z
  ·exact .inl z
  ·exact .inr (by simpa using z)) hvd (fun hf H' s=> ?_) (fun hf=> ?_) k1 k2
 ·rw[ef] at hf;simp only[QaY,decide_eq_true_eq] at hf;obtain⟨r5,r6⟩:=r1 hf;exact⟨j,e,p,wd,s _ _ hq,hf.1,hf.2,ok,r5,r6⟩
 ·rw[ef] at hf;refine r2 fun z=> ?_;rw[Qar z.1,Qar z.2] at hf;cases hf
end
section
variable {K:PySem.W.Frag}
open Toy (co ZiG ZdJ stL atW nS pcL)
theorem Zlv {xs:List V}(ha:H a=some (.lst xs))(g:Wg H xs L)(pos:∀d∈L,0<d.1)(x0:0≤x)(x1:x<tot L)(k:∀(w:Addr),H w=some (.tup ((atW L x).map V.int))→Q (.ref w) H):ZqS K {nx:=Z,rt:=Q } [some (.ref a),some (.int x),none,none] H:=by
 refine⟨_,rfl,a,rfl,⟨_,SqL.of ha⟩,Zbx (K:=K) (a:=a) (xs:=xs) (fun j σ H'=>∃(x2 x3:Option V),σ=[some (.ref a),some (.int (x-tot (L.take j))),x2,x3]∧H=H'∧tot (L.take j)≤x∧atW L x=atW (L.drop j) (x-tot (L.take j))) ⟨_,_,by rw[Qa8,Zaw,Qce],rfl,by rw[Qa8,Zaw];exact x0,by rw[Qa8,Zaw,Qce,Qds]⟩ (fun j σ H' _ h=>by obtain⟨_,_,_,e,_⟩:=h;rw[←e];exact SqL.of ha) ?_ ?_⟩
 ·rintro j y σ H1 hy ⟨x2,x3,rfl,rfl,t0,ea⟩;obtain⟨d,hd,q,w,rfl,hq,hw⟩:=g.at' hy;obtain⟨jl,ed⟩:=Qaf.mp hd;have edr:L.drop j=(d.1,d.2)::L.drop (j+1):=by rw[Qdt jl,ed]
  have ts:=Zcq hd;refine⟨q,_,rfl,SqT.of hq,rfl,_,_,rfl,_,_,rfl,rfl,?_⟩;refine⟨_,rfl,_,rfl,_,_,rfl,rfl,_,rfl,Zda (fun c=> ?_) (fun c=> ?_)⟩
  ·have c:x-tot (L.take j)<d.1:=Qao c;refine⟨_,rfl,k w ?_⟩;rw[ea,edr,Toy.atW_lt c];exact hw
  ·have c:¬x-tot (L.take j)<d.1:=fun z=>c (Qar z);refine⟨_,rfl,_,rfl,_,_,rfl,rfl,some (.int d.1),some (.ref w),?_,rfl,by omega,?_⟩
   ·rw[show x-tot (L.take (j+1))=x-tot (L.take j)-d.1 by omega];rfl
   ·rw[ea,edr,Toy.atW_ge (by omega),show x-tot (L.take j)-d.1=x-tot (L.take (j+1)) by omega]
 ·rintro σ H1 ⟨x2,x3,rfl,rfl,t0,ea⟩;rw[g.1,QaO] at t0;omega
theorem Zi2:∀(M:WL2) (lo:Int) (d:Int×List Int),stL lo (M++ [d])=stL lo M++ [lo+tot M]
 | [],lo,d=>by show [lo]=[]++ [lo+tot []];rw[Zaw,Qbe];rfl
 |e::M,lo,d=>by
  show lo::stL (lo+e.1) (M++ [d])=lo::stL (lo+e.1) M++ [lo+tot (e::M)];rw[Zi2 M (lo+e.1) d,Zat,show lo+e.1+tot M=lo+(e.1+tot M) by omega];rfl
theorem Zga:∀(M:WL2) (lo:Int),(stL lo M).length=M.length
 | [],_=>rfl
 |e::M,lo=>by show(stL (lo+e.1) M).length+1=M.length+1;rw[Zga]
theorem Zgb {xs:List V}(ha:H a=some (.lst xs))(g:Wg H xs L)(ll:L.length≤100)(k:∀(b:Addr) (H':Hp),H b=none→H' b=some (.lst ((stL 0 L).map V.int))→Zak H H'→Q (.ref b) H'):ZmO K {nx:=Z,rt:=Q } [some (.ref a),none,none,none,none] H:=by
 refine⟨(by show 0≤sizeLine;decide),fun b fb=> ?_⟩;have s0:=Zak.nw (o:=.lst []) (Zak.refl H) fb;have f0:(upd H b (.lst [])) b=some (.lst []):=Zad;generalize upd H b (.lst [])=H0 at s0 f0⊢;refine⟨_,rfl,a,rfl,⟨_,SqL.of (s0 _ _ ha)⟩,Zbx (K:=K) (a:=a) (xs:=xs) (fun j σ H'=>∃(x3 x4:Option V),σ=[some (.ref a),some (.ref b),some (.int (tot (L.take j))),x3,x4]∧Zak H H'∧H' b=some (.lst ((stL 0 (L.take j)).map V.int))) ⟨_,_,rfl,s0,f0⟩ (fun j σ H' _ h=>by obtain⟨_,_,_,s',_⟩:=h;exact SqL.of (s' _ _ ha)) ?_ ?_⟩
 ·rintro j y σ H1 hy ⟨x3,x4,rfl,s1,hb⟩;obtain⟨d,hd,q,w,rfl,hq,hw⟩:=g.at' hy;have jl:j<L.length:=(Qaf.mp hd).1;refine⟨q,_,rfl,SqT.of (s1 _ _ hq),rfl,_,_,rfl,_,_,rfl,rfl,?_⟩;refine⟨_,rfl,.inl ⟨rfl,_,SqL.of hb⟩,_,rfl,b,_,_,rfl,rfl,hb,Za7 (by rw[Qac,Zga,Qav];omega),?_⟩;refine⟨_,rfl,_,rfl,_,_,rfl,rfl,some (.int d.1),some (.ref w),?_,s1.ow fb,?_⟩
  ·rw[Zcq hd];rfl
  ·rw[Zad,ZaJ hd,Zi2,Qaw,QbT];rfl
 ·rintro σ H1 ⟨x3,x4,rfl,s1,hb⟩;rw[g.1,QaO] at hb;exact⟨_,rfl,k b H1 fb hb s1⟩
theorem Zlw {en t p:Int}{i:Nat}:∀(M:WL2) (lo:Int) (d:Int×List Int),nS en t p i (M++ [d]) lo=nS en t p i M lo+(if mx (lo+tot M) en<lo+tot M+d.1 then co d.2 i*((lo+tot M+d.1-1-p)/t-(mx (lo+tot M) en-1-p)/t) else 0)
 | [],lo,d=>by
  show(if mx lo en<lo+d.1 then co d.2 i*((lo+d.1-1-p)/t-(mx lo en-1-p)/t) else 0)+0=0+_;rw[Zaw,Qbe,Qbe,QbT]
 |e::M,lo,d=>by
  show _+nS en t p i (M++ [d]) (lo+e.1)=_+nS en t p i M (lo+e.1)+_;rw[Zlw M (lo+e.1) d,Zat,show lo+e.1+tot M=lo+(e.1+tot M) by omega];omega
theorem ZpJ {a:Int}(h0: -(10^61)≤a)(h1:a≤10^61)(ht:0<t): -(10^61)≤a/t∧a/t≤10^61:=by
 constructor
 ·refine Int.le_ediv_of_mul_le ht ?_
  have:(10^61:Int)*1≤10^61*t:=Qb6 (by omega) (by decide);omega
 ·refine Int.ediv_le_of_le_mul ht ?_
  have:(10^61:Int)*1≤10^61*t:=Qb6 (by omega) (by decide);omega
theorem ZqI (h: -(10^101)<z∧z<10^101):z.natAbs<2^9000:=by
 have h1:z.natAbs<10^101:=by omega
 exact Qcf h1 (by decide)
def ZjY (u v:List Int)(m:Int):List Int:=List.zipWith (fun a b=>a+m*b) u v
theorem Zi3 (h:u.length=v.length):(ZjY u v m).length=u.length:=by unfold ZjY;rw[Qbt,h];exact QcL _
theorem Zol (h:u.length=v.length)(i:Nat):co (ZjY u v m) i=co u i+m*co v i:=by
 unfold ZjY co;rw[Qam,Qam,Qam,QbS];by_cases z:i<u.length
 ·rw[Qah z,Qah (by omega)];rfl
 ·rw[Qay (by omega),Qay (by omega)];show(0:Int)=0+m*0;simp
theorem Zgc {xs:List V}(ha:H a=some (.lst xs))(g:Wg H xs L)(pos:∀d∈L,0<d.1)(sm:tot L=n)(n1:n<10^60)(w2:wd≤24)(wid:∀d∈L,d.2.length=wd)(num:∀d∈L,Zl2 d.2)(x0:0≤x)(x1:x<n)(xe:x<e)(e1:e<n)(ht:0<t)(t1:t<10^60)
  (k:∀(w:Addr) (u:List Int) (H':Hp),Zak H H'→H' w=some (.tup (u.map V.int))→u.length=wd→(∀i,co u i=co (atW L x) i+nS e t x i L 0)→Q (.ref w) H'):ZmP K {nx:=Z,rt:=Q } [some (.ref a),some (.int n),some (.int e),some (.int x),some (.int t),none,none,none,none,none,none] H:=by
 refine⟨_,rfl,_,rfl,a,xs,L,x,rfl,ha,g,pos,x0,by omega,fun w0 hw0=> ?_⟩;have l0:(atW L x).length=wd:=Toy.atW_lenC wid (by omega) x0;refine⟨_,rfl,a,rfl,⟨_,SqL.of ha⟩,Zbx (K:=K) (a:=a) (xs:=xs) (fun j σ H'=>∃(x7 x8 x9 x10:Option V) (w:Addr) (u:List Int),σ=[some (.ref a),some (.int n),some (.int e),some (.int x),some (.int t),some (.ref w),some (.int (tot (L.take j))),x7,x8,x9,x10]∧Zak H H'∧H' w=some (.tup (u.map V.int))∧u.length=wd∧∀i,co u i=co (atW L x) i+nS e t x i (L.take j) 0) ⟨_,_,_,_,w0,atW L x,rfl,Zak.refl H,hw0,l0,fun i=>by show _=_+0;rw[Qbe]⟩ (fun j σ H' _ h=>by obtain⟨_,_,_,_,_,_,_,s',_⟩:=h;exact SqL.of (s' _ _ ha)) ?_ ?_⟩
 ·rintro j y σ H1 hy ⟨x7,x8,x9,x10,w,u,rfl,s1,hw,ul,cu⟩;obtain⟨d,hd,q,wq,rfl,hq,hwq⟩:=g.at' hy;have md:=Qau hd;have ts:=Zcq hd;have dw:=wid d md;have p0:∀z∈L,0≤z.1:=fun z hz=>Qa5 (pos z hz);have tj0:0≤tot (L.take j):=Toy.tot_pos0 fun z hz=>p0 z (Qcj hz)
  have tj1:tot (L.take (j+1))≤n:=by
   have a1:tot L=tot (L.take (j+1))+tot (L.drop (j+1)):=by rw[←ZaV,QcI]
   have a2:0≤tot (L.drop (j+1)):=Toy.tot_pos0 fun z hz=>p0 z (List.mem_of_mem_drop hz);omega
  have hwq1:=s1 _ _ hwq;have pd:=pos d md;refine⟨q,_,rfl,SqT.of (s1 _ _ hq),rfl,_,_,rfl,_,_,rfl,rfl,?_⟩;refine⟨_,rfl,_,rfl,_,_,rfl,?_⟩;refine⟨_,rfl,_,rfl,_,_,rfl,rfl,?_⟩
  have nsj:∀i,nS e t x i (L.take (j+1)) 0=nS e t x i (L.take j) 0+(if mx (tot (L.take j)) e<tot (L.take j)+d.1 then co d.2 i*((tot (L.take j)+d.1-1-x)/t-(mx (tot (L.take j)) e-1-x)/t) else 0):=fun i=>by
   rw[ZaJ hd,Zlw];rw[QbT]
  refine⟨_,rfl,_,rfl,_,_,rfl,rfl,_,rfl,Zda (fun c=> ?_) (fun c=> ?_)⟩
  ·have c:mx (tot (L.take j)) e<tot (L.take j)+d.1:=Qao c;have mg:=Zo4 (tot (L.take j)) e;have b1:=ZpJ (a:=tot (L.take j)+d.1-1-x) (t:=t) (by omega) (by omega) ht;have b2:=ZpJ (a:=mx (tot (L.take j)) e-1-x) (t:=t) (by omega) (by omega) ht;have cd:ZcJ (tot (L.take j)+d.1-1-x) t:=⟨ht,ZdK ht (Qd6 t1 (by decide))⟩;have cd2:ZcJ (mx (tot (L.take j)) e-1-x) t:=⟨ht,ZdK ht (Qd6 t1 (by decide))⟩;refine⟨_,rfl,_,_,rfl,rfl,_,rfl,_,_,rfl,rfl,_,rfl,_,_,rfl,rfl,cd,_,rfl,_,_,rfl,rfl,_,rfl,_,_,rfl,rfl,_,rfl,_,_,rfl,rfl,cd2,_,_,rfl,rfl,?_⟩;have ob: -(10^101)<((tot (L.take j)+d.1-1-x)/t-(mx (tot (L.take j)) e-1-x)/t)∧((tot (L.take j)+d.1-1-x)/t-(mx (tot (L.take j)) e-1-x)/t)<10^101:=by omega
   refine⟨_,rfl,_,rfl,w,wq,rfl,⟨_,SqT.of hw⟩,⟨_,SqT.of hwq1⟩,ZiF (K:=K) (a:=w) (b:=wq) (xs:=u.map V.int) (ys:=d.2.map V.int) (n:=wd) (fun i zs H'=>zs=((ZjY u d.2 ((tot (L.take j)+d.1-1-x)/t-(mx (tot (L.take j)) e-1-x)/t)).take i).map V.int∧Zak H1 H') ⟨rfl,Zak.refl H1⟩ (by rw[Qac,Qac];omega) (by omega) (fun i zs H' h=>by rw[h.1,Qac,Qav];exact QbP _ _) (fun i zs H' _ h=>⟨SqT.of (h.2 _ _ hw),SqT.of (h.2 _ _ hwq1)⟩) ?_ ?_⟩
   ·rintro i a1 a2 zs H2 pre pp qu h1 h2 ⟨rfl,s2⟩ hp;rw[Qaq] at h1 h2
    cases ex:u[i]? with
    |none=>rw[ex] at h1;cases h1
    |some xi=>
     cases ey:d.2[i]? with
     |none=>rw[ey] at h2;cases h2
     |some yi=>
      rw[ex] at h1;rw[ey] at h2;cases h1;cases h2;rcases pre with _|⟨q0,_|⟨q1,_|⟨q2,pre⟩⟩⟩
      ·cases qu
      ·cases qu
      ·refine⟨pp,_,rfl,SqT.of Zad,rfl,_,_,rfl,_,_,rfl,rfl,⟨[some _,some _],rfl,rfl⟩,?_⟩;unfold Ze3;dsimp only;rw[if_pos (rfl:true=true)];have ny:=num d md yi (Qau ey);refine⟨_,rfl,_,rfl,_,rfl,_,_,rfl,rfl,⟨ZqI ob,ZqI (by omega)⟩,_,_,rfl,rfl,?_,s2.nw hp⟩;have ez:(ZjY u d.2 ((tot (L.take j)+d.1-1-x)/t-(mx (tot (L.take j)) e-1-x)/t))[i]?=some (xi+((tot (L.take j)+d.1-1-x)/t-(mx (tot (L.take j)) e-1-x)/t)*yi):=by unfold ZjY;rw[QbS,ex,ey]
       rw[ZaJ ez,Qaw];rfl
      ·cases qu
   ·rintro zs H2 ⟨rfl,s2⟩ D hD;have et:(ZjY u d.2 ((tot (L.take j)+d.1-1-x)/t-(mx (tot (L.take j)) e-1-x)/t)).take wd=ZjY u d.2 ((tot (L.take j)+d.1-1-x)/t-(mx (tot (L.take j)) e-1-x)/t):=Qba (by rw[Zi3 (by omega)];omega);rw[et];refine⟨D,_,rfl,.inl ⟨SqL.of Zad,fun l hl=> ?_⟩⟩;have s3:=(s2.nw (o:=.lst ((ZjY u d.2 ((tot (L.take j)+d.1-1-x)/t-(mx (tot (L.take j)) e-1-x)/t)).map V.int)) hD).nw (o:=.tup ((ZjY u d.2 ((tot (L.take j)+d.1-1-x)/t-(mx (tot (L.take j)) e-1-x)/t)).map V.int)) hl;refine⟨some (.int d.1),some (.ref wq),some (.int (mx (tot (L.take j)) e)),some (.int ((tot (L.take j)+d.1-1-x)/t-(mx (tot (L.take j)) e-1-x)/t)),l,ZjY u d.2 ((tot (L.take j)+d.1-1-x)/t-(mx (tot (L.take j)) e-1-x)/t),?_,s1.trans s3,Zad,by rw[Zi3 (by omega)];exact ul,fun i=> ?_⟩
    ·rw[ts];rfl
    ·rw[Zol (by omega),cu i,nsj i,if_pos c,Int.mul_comm ((tot (L.take j)+d.1-1-x)/t-(mx (tot (L.take j)) e-1-x)/t)];omega
  ·have c:¬mx (tot (L.take j)) e<tot (L.take j)+d.1:=fun z=>c (Qar z);refine⟨some (.int d.1),some (.ref wq),some (.int (mx (tot (L.take j)) e)),x10,w,u,?_,s1,hw,ul,fun i=> ?_⟩
   ·rw[ts];rfl
   ·rw[cu i,nsj i,if_neg c,Qbe]
 ·rintro σ H1 ⟨x7,x8,x9,x10,w,u,rfl,s1,hw,ul,cu⟩;rw[g.1,QaO] at cu;exact⟨_,rfl,k w u H1 s1 hw ul cu⟩
theorem Zlx {e:Int}{f:Int→List Int}:∀{ms:List Int} {k:Nat} {s:Int},ms[k]?=some s→(pcL e f ms)[k]?=some ((ms[k+1]?).getD e-s,f s)
 | [],k,s,h=>by cases h
 | [x],k,s,h=>by
  cases k with
  |zero=>cases h;rfl
  |succ k=>cases h
 |x::y::r,k,s,h=>by
  cases k with
  |zero=>cases h;rfl
  |succ k=>
   rw[List.getElem?_cons_succ] at h;show(pcL e f (y::r))[k]?=_;rw[Zlx h];rfl
theorem Zh5 {e:Int}{f:Int→List Int}:∀(ms:List Int),(pcL e f ms).length=ms.length
 | []=>rfl
 | [x]=>rfl
 |x::y::r=>by show(pcL e f (y::r)).length+1=_;rw[Zh5];rfl
theorem Zly {H0:Hp}{b dd0:Addr}{x0 x1 x4:Option V}{ys:List V}{S:WL2}{wq:Addr}{T:TE}(hT:∀(H':Hp) (P:VK),Zak H H'→P (.ref wq) H'→T [x0,x1,some (.ref dd0),some (.ref b),x4,some (.int m)] H' P)(hm:0<m)(hw:H wq=some (.tup (u.map V.int)))(fb:H0 b=none)(s0:Zak H0 H)(hb:H b=some (.lst ys))(g:Wg H ys S)(ly:ys.length≤900)
  (k:∀(ys':List V) (H':Hp),Zak H0 H'→(∀c o,H c=some o→c≠b→H' c=some o)→H' b=some (.lst ys')→Wg H' ys' (ZaW S (m,u))→D.nx [x0,x1,some (.ref dd0),some (.ref b),x4,some (.int m)] H'):
  (ZcP (ZnI (Za3 (tOp (Zjl K fun b=> !b) (Zah 3) (ZcK Zau))) (Za3 (tOp (Zjl K fun b=>b) (tOp (Zby K) (tOp (ZdA K) (Zah 3) (tUn (rU fun i=>V.int (-i)) (tC (V.int 1)))) (tC (V.int 1))) T))) (ZaY (ZdM (Zaa (tOp (rI0 fun i j=>V.int (i+j)) (tOp (Zby K) (tOp (ZdA K) (Zah 3) (tUn (rU fun i=>V.int (-i)) (tC (V.int 1)))) (tC (V.int 0))) (Zah 5)) (Zaa (tOp (Zby K) (tOp (ZdA K) (Zah 3) (tUn (rU fun i=>V.int (-i)) (tC (V.int 1)))) (tC (V.int 1))) Zau))) (ZoB (Zah 3) (tUn (rU fun i=>V.int (-i)) (tC (V.int 1))) Zjk)) (ZcI (tBM K "list" Zcc (Zah 3) (Zaa (ZdM (Zaa (Zah 5) (Zaa T Zau))) Zau)))) D [x0,x1,some (.ref dd0),some (.ref b),x4,some (.int m)] H:=by
 have app:(∀l0,S.getLast?=some l0→l0.2≠u)→∀Hx,Zak H Hx→(ZcI (tBM K "list" Zcc (Zah 3) (Zaa (ZdM (Zaa (Zah 5) (Zaa T Zau))) Zau))) D [x0,x1,some (.ref dd0),some (.ref b),x4,some (.int m)] Hx:=fun hlast Hx sx=>by
  have hxb:=sx _ _ hb;refine⟨_,rfl,.inl ⟨rfl,_,SqL.of hxb⟩,_,rfl,hT Hx _ sx ⟨(by show 2≤sizeLine;decide),fun p hp=> ?_⟩⟩;have npb:p≠b:=fun z=>by rw[z,hxb] at hp;cases hp
  have h8b:=(Zax (H:=Hx) (a:=p) (o:=.tup [.int m,.ref wq]) (Ne.symm npb)).trans hxb;refine⟨b,_,_,rfl,rfl,h8b,Za7 (by omega:ys.length≤1000),?_⟩;have T8:Zbd Hx (upd Hx p (.tup [.int m,.ref wq])):=(Zbd.refl _).new hp;have T9:Zbd (upd Hx p (.tup [.int m,.ref wq])) (upd (upd Hx p (.tup [.int m,.ref wq])) b (.lst (ys++ [.ref p]))):=(Zbd.refl _).lst h8b;refine k _ _ (Zak.ow (Zak.nw (s0.trans sx) hp) fb) (fun c o ec nc=>by rw[Zax nc];exact(Zak.nw sx hp) _ _ ec) Zad ?_;unfold ZaW;rw[if_pos (show 0<(m,u).1 from hm)];have fin:=Wg.snoc (g.up (sx.tups.trans (T8.trans T9))) ⟨p,wq,rfl,T9 _ _ Zad,T9 _ _ (T8 _ _ (sx _ _ hw))⟩ (e:=(m,u))
  cases z:S.getLast? with
  |none=>exact fin
  |some l0=>dsimp only;rw[if_neg (hlast l0 z)];exact fin
 refine⟨_,rfl,(by show 0≤sizeLine;decide),fun c0 hc0=> ?_⟩;have sx:=Zak.nw (o:=.lst []) (Zak.refl H) hc0;have f0:(upd H c0 (.lst [])) c0=some (.lst []):=Zad;generalize upd H c0 (.lst [])=Hx at sx f0⊢;refine⟨_,_,(g.up sx.tups).di (SqL.of (sx _ _ hb)),Znj (SqL.of f0),ZgE _,ZgE _,Zni _,_,rfl,?_⟩;rw[Znh]
 cases hlast:S.getLast? with
 |none=>
  have hnil:S=[]:=by
   cases z:S with
   |nil=>rfl
   |cons y r=>rw[z] at hlast;simp at hlast
  rw[Qar hnil];exact Zcu (Zcu (app (fun l0 z=>by rw[hlast] at z;cases z) Hx sx))
 |some l0=>
  have hne:S≠ []:=fun z=>by rw[z] at hlast;cases hlast
  rw[QaN hne];refine Zc7 ?_
  have hyn:ys≠ []:=fun z=>by
   have:=g.1;rw[z] at this;exact hne (Qb4.mp this.symm)
  have hl0:S[ys.length-1]?=some l0:=by rw[g.1,←Qa9];exact hlast
  obtain⟨y0,hy0,q0,w0,rfl,hq0,hw0⟩:=g.get hl0;have hyl:ys.getLast?=some (V.ref q0):=by rw[Qa9];exact hy0
  have hat:atI ys (-1)=some (V.ref q0):=by
   have:ys=ys.dropLast++ [V.ref q0]:=Zcr hyl;rw[this];exact Zep _ _
  refine⟨_,rfl,_,rfl,b,_,_,V.ref q0,rfl,rfl,SqL.of (sx _ _ hb),hat,q0,_,_,_,rfl,rfl,SqT.of (sx _ _ hq0),rfl,hT Hx _ sx ⟨_,_,Zdc (sx _ _ hw0),Zdc (sx _ _ hw),Zed _,Zed _,(by rw[ZgF];decide),_,rfl,?_⟩⟩;rw[Ziz];refine Zda (fun hE=> ?_) (fun hE=> ?_)
  ·have hE:=Qao hE;refine⟨_,rfl,_,rfl,b,_,_,V.ref q0,rfl,rfl,SqL.of (sx _ _ hb),hat,q0,_,_,_,rfl,rfl,SqT.of (sx _ _ hq0),rfl,_,rfl,_,_,rfl,rfl,_,rfl,_,rfl,b,_,_,V.ref q0,rfl,rfl,SqL.of (sx _ _ hb),hat,q0,_,_,_,rfl,rfl,SqT.of (sx _ _ hq0),rfl,(by show 2≤sizeLine;decide),fun p hp=> ?_⟩;have npb:p≠b:=fun z=>by rw[z,sx _ _ hb] at hp;cases hp
   have h8b:=(Zax (H:=Hx) (a:=p) (o:=.tup [.int (l0.1+m),.ref w0]) (Ne.symm npb)).trans (sx _ _ hb)
   have hix:ixN ys.length (-1)=some (ys.length-1):=by
    have:0<ys.length:=Qdb.mpr hyn;unfold ixN;rw[if_neg (by decide),if_pos (by omega)];congr 1;omega
   refine⟨_,rfl,_,rfl,b,ys,_,ys.length-1,rfl,rfl,h8b,hix,?_⟩;have T8:Zbd H (upd Hx p (.tup [.int (l0.1+m),.ref w0])):=sx.tups.trans ((Zbd.refl _).new hp);have T9:Zbd (upd Hx p (.tup [.int (l0.1+m),.ref w0])) (upd (upd Hx p (.tup [.int (l0.1+m),.ref w0])) b (.lst (ys.set (ys.length-1) (.ref p)))):=(Zbd.refl _).lst h8b;refine k _ _ (Zak.ow (Zak.nw (s0.trans sx) hp) fb) (fun c o ec nc=>by rw[Zax nc];exact(Zak.nw sx hp) _ _ ec) Zad ?_;unfold ZaW;rw[if_pos (show 0<(m,u).1 from hm),hlast];dsimp only;rw[if_pos hE,ZcL hyl];rw[ZcL hyl] at T9;refine Wg.snoc ((g.pop).up (T8.trans T9)) ⟨p,w0,rfl,?_,?_⟩
   ·show _=some (HO.tup [V.int (m+l0.1),V.ref w0]);rw[Qer m l0.1];exact T9 _ _ Zad
   ·show _=some (HO.tup (u.map V.int));rw[←hE];exact T9 _ _ (T8 _ _ hw0)
  ·have hE:=QbH (QbE.mpr hE);refine app (fun l1 z=> ?_) Hx sx;rw[hlast] at z;cases z;exact hE
theorem Zi4 (e:Int)(M:List Int)(s:Int):inE e (M++ [s])=inE e M++(if decide (0≤s∧s<e)=true then [s] else []):=by
 unfold inE;rw[Qcw];congr 1;rw[QcS,List.filter_nil]
theorem Zc0 (e:Int)(M:List Int):(inE e M).length≤M.length:=Qd7 _ _
theorem Zgd {f:Int→List Int}(ha:H a=some (.lst (ss.map V.int)))(ls:ss.length<40)(w2:wd≤24)(td:ZpA H d e wd ss f)
  (k:∀(b:Addr) (ys:List V) (ms:List Int) (H':Hp),H b=none→H' b=some (.lst ys)→ms.Perm (dd (inE e ss))→ms.Pairwise (· ≤ ·)→Wg H' ys (ZaM (pcL e f ms))→Zak H H'→Q (.ref b) H'):ZmQ K {nx:=Z,rt:=Q } [some (.ref a),some (.int e),some (.ref d),none,none,none] H:=by
 obtain⟨kvs,hd,tk⟩:=td;refine⟨(by show 0≤sizeLine;decide),fun b fb=> ?_⟩;have s0:=Zak.nw (o:=.lst []) (Zak.refl H) fb;have f0:(upd H b (.lst [])) b=some (.lst []):=Zad;generalize upd H b (.lst [])=H1 at s0 f0⊢;refine⟨_,rfl,a,rfl,⟨_,SqL.of (s0 _ _ ha)⟩,ZgC (K:=K) (a:=a) (xs:=ss.map V.int) (fun i ys H'=>ys=(inE e (ss.take i)).map V.int∧H1=H') ⟨rfl,rfl⟩ (by rw[Qac];omega) (fun i ys H' h=>by rw[h.1,Qac];exact QaD (Zc0 _ _) (by rw[Qav];exact QbP _ _)) (fun i ys H' _ h=>by rw[←h.2];exact SqL.of (s0 _ _ ha)) ?_ ?_⟩
 ·rintro i y ys H2 pre qu hy ⟨rfl,rfl⟩;rw[Qaq] at hy
  cases es:ss[i]? with
  |none=>rw[es] at hy;cases hy
  |some s=>
   rw[es] at hy;cases hy;rcases pre with _|⟨q0,_|⟨q1,pre⟩⟩
   ·cases qu
   ·refine⟨⟨[some _],rfl,rfl⟩,?_⟩;rw[ZaJ es,Zi4,Qaw];refine⟨_,rfl,_,_,rfl,rfl,_,rfl,Zda (fun c1=> ?_) (fun c1=> ?_)⟩
    ·have c1:0≤s:=Qao c1;refine⟨_,rfl,_,_,rfl,rfl,_,rfl,Zda (fun c2=> ?_) (fun c2=> ?_)⟩
     ·have c2:s<e:=Qao c2;refine⟨_,rfl,?_,rfl⟩;rw[if_pos (Qar ⟨c1,c2⟩)];rfl
     ·have c2:¬s<e:=fun z=>c2 (Qar z);refine⟨?_,rfl⟩;rw[if_neg (by rw[QaN fun z=>c2 z.2];decide)];simp
    ·have c1:¬0≤s:=fun z=>c1 (Qar z);refine⟨_,rfl,Zcu ⟨?_,rfl⟩⟩;rw[if_neg (by rw[QaN fun z=>c1 z.1];decide)];simp
   ·cases qu
 ·rintro ys H2 ⟨rfl,rfl⟩ D hD;rw[Qac,QaO];have s1:=Zak.nw (o:=.lst ((inE e ss).map V.int)) (Zak.refl H1) hD;have f1:(upd H1 D (.lst ((inE e ss).map V.int))) D=some (.lst ((inE e ss).map V.int)):=Zad;generalize upd H1 D (.lst ((inE e ss).map V.int))=H2 at s1 f1⊢;refine⟨D,inE e ss,rfl,SqL.of f1,by have:=Zc0 e ss;omega,fun q ms hq pm so=> ?_⟩;have ml:ms.length<40:=by rw[pm.length_eq];have:=ZgM (inE e ss);have:=Zc0 e ss;omega
  have min':∀s∈ms,s∈ss∧0≤s∧s<e:=fun s hs=>by
   have:=QbM.mp ((Znk _ _).mp (pm.mem_iff.mp hs));exact⟨this.1,Qao this.2⟩
  have nd:ms.Nodup:=pm.nodup_iff.mpr (ZiD _);have pw:ms.Pairwise (· < ·):=(so.and nd).imp fun h=>Int.lt_iff_le_and_ne.mpr h;have s2:=Zak.nw (o:=.lst (ms.map V.int)) (Zak.refl H2) hq;have f2:(upd H2 q (.lst (ms.map V.int))) q=some (.lst (ms.map V.int)):=Zad;generalize upd H2 q (.lst (ms.map V.int))=H3 at s2 f2⊢;have s03:=s0.trans (s1.trans s2);have fb3:H3 b=some (.lst []):=(s1.trans s2) _ _ f0;have nqb:q≠b:=Ne.symm (Zav (s1 _ _ f0) hq);have pp:=Toy.pcL_pos (f:=f) pw fun s hs=>(min' s hs).2.2;refine⟨_,rfl,q,_,rfl,.inl (SqL.of f2),_,rfl,by omega,by rw[Qac];omega,ZcQ (n:=(((ms.map V.int).length:Nat):Int).toNat) (fun i σ H'=>∃(x4 x5:Option V) (ys:List V),σ=[some (.ref q),some (.int e),some (.ref d),some (.ref b),x4,x5]∧Zak H H'∧H' q=some (.lst (ms.map V.int))∧H' b=some (.lst ys)∧Wg H' ys (ZaM ((pcL e f ms).take i))) ⟨_,_,[],rfl,s03,f2,fb3,Wg.nil _⟩ ?_ ?_⟩
  ·rintro i σ H4 hi ⟨x4,x5,ys,rfl,s4,hq4,hb4,g4⟩;dsimp only[Zan];rw[Qac] at hi;have il:i<ms.length:=by omega
   have em:ms[i]?=some ms[i]:=Qah il;have mm:ms[i]∈ms:=Qcl il;generalize ms[i]=s at em mm;obtain⟨m1,m2,m3⟩:=min' s mm;obtain⟨fl,wq,hv,hw⟩:=tk s m1 m2 m3;have hpc:=Zlx (e:=e) (f:=f) em;have mpos:=pp _ (Qau hpc);have ei:(0+(i:Int))=((i:Nat):Int):=by omega
   have ati:atI (ms.map V.int) (0+(i:Int))=some (V.int s):=by rw[ei];exact Zcb (by rw[Qaq,em];rfl)
   refine⟨_,rfl,_,rfl,_,_,rfl,rfl,((i+1:Nat):Int),(by rw[ei];rfl),q,_,rfl,SqL.of hq4,fun l1 hl1=> ?_⟩;rw[ZcZ _ (by rw[Qac];omega)];have s5:=Zak.nw (o:=.lst ((ms.map V.int).drop (i+1))) (Zak.refl H4) hl1;have f5:(upd H4 l1 (.lst ((ms.map V.int).drop (i+1)))) l1=some (.lst ((ms.map V.int).drop (i+1))):=Zad;generalize upd H4 l1 (.lst ((ms.map V.int).drop (i+1)))=H5 at s5 f5⊢;refine⟨_,rfl,(by show 1≤sizeLine;decide),fun l2 hl2=> ?_⟩;have s6:=Zak.nw (o:=.lst [.int e]) (Zak.refl H5) hl2;have f6:(upd H5 l2 (.lst [.int e])) l2=some (.lst [.int e]):=Zad;generalize upd H5 l2 (.lst [.int e])=H6 at s6 f6⊢;refine⟨l1,l2,_,_,rfl,rfl,s6 _ _ f5,f6,QaD (show _≤1000 by rw[QaW,Qac];show _+1≤1000;omega) (by decide),fun l3 hl3=> ?_⟩;have s7:=Zak.nw (o:=.lst ((ms.map V.int).drop (i+1)++ [.int e])) (Zak.refl H6) hl3;have f7:(upd H6 l3 (.lst ((ms.map V.int).drop (i+1)++ [.int e]))) l3=some (.lst ((ms.map V.int).drop (i+1)++ [.int e])):=Zad;generalize upd H6 l3 (.lst ((ms.map V.int).drop (i+1)++ [.int e]))=H7 at s7 f7⊢;have s47:=s5.trans (s6.trans s7)
   have at0:atI ((ms.map V.int).drop (i+1)++ [.int e]) 0=some (V.int ((ms[i+1]?).getD e)):=by
    refine Zcb (j:=0) ?_
    cases c:ms[i+1]? with
    |none=>
     have:ms.length≤i+1:=Qa7.mp c;rw[List.drop_eq_nil_of_le (by rw[Qac];exact this)];rfl
    |some z=>
     have zl:i+1<ms.length:=(Qaf.mp c).1;rw[QaK (by rw[QaW,Qac];omega),Qcb,Qaq];show(ms[i+1+0]?).map V.int=_;rw[Nat.add_zero,c];rfl
   refine⟨l3,_,_,_,rfl,rfl,SqL.of f7,at0,_,rfl,_,rfl,q,_,_,_,rfl,rfl,SqL.of (s47 _ _ hq4),ati,_,_,rfl,rfl,?_⟩;have hd4:=(s4.trans s47) _ _ hd
   have dg:∀{H':Hp},H' d=some (.dK kvs)→ZiN H' d (.int s) (some (.ref wq)):=fun{H'} h=>by
    have:=ZiN.k (k:=.inl s) h;rw[hv] at this;exact this
   have ysl:ys.length≤40:=by
    rw[g4.1]
    have:=ZbV ((pcL e f ms).take i);rw[Qav] at this;omega
   refine Zly (K:=K) (H0:=H) (u:=f s) (m:=(ms[i+1]?).getD e-s) (wq:=wq) (T:=ZkT (Zah 2) (tOp (ZdA K) (Zah 0) (Zah 4))) (fun H' P sx hP=>⟨_,rfl,_,rfl,_,rfl,q,_,_,_,rfl,rfl,SqL.of (sx _ _ (s47 _ _ hq4)),ati,d,_,rfl,dg (sx _ _ hd4),hP⟩) mpos ((s4.trans s47) _ _ hw) fb (s4.trans s47) (s47 _ _ hb4) (g4.up s47.tups) (by omega) fun ys' H' s' kp hb' g'=> ?_;refine⟨_,_,ys',rfl,s',kp _ _ (s47 _ _ hq4) nqb,hb',?_⟩
   ·rw[ZbE hpc];exact g'
  ·rintro σ H4 ⟨x4,x5,ys,rfl,s4,hq4,hb4,g4⟩;rw[Qac,QbZ,←Zh5 (e:=e) (f:=f) ms,QaO] at g4;exact⟨_,rfl,k b ys ms H4 fb hb4 pm so g4 s4⟩
end
section
variable {K:PySem.W.Frag}
open Toy (co ZiG ZdJ stL atW nS pcL Zdg)
def Gc (L:WL2)(low t e:Int)(tn:Bool)(wd:Nat)(x:Int):List Int:=(List.range wd).map fun i=>Zdg L low t e tn x i
theorem Zhg (L:WL2)(low t e:Int)(tn:Bool)(wd:Nat)(x:Int):(Gc L low t e tn wd x).length=wd:=by unfold Gc;rw[Qac,QcE]
theorem ZmR (hl:u.length=wd)(h:∀i,co u i=Zdg L low t e tn x i):u=Gc L low t e tn wd x:=by
 apply QcF;intro i;by_cases c:i<wd
 ·have e1:u[i]?=some (co u i):=by unfold co;rw[Qam,Qah (by rw[hl];exact c)];rfl
  unfold Gc;rw[e1,h i,Qaq,Qcp c];rfl
 ·rw[Qay (by omega),Qay (by rw[Zhg];omega)]
theorem Zge (h:mlB p=true):p.1<p.2.1:=by
 unfold mlB at h;rw[QaY] at h;exact Qao h.1
def DIn (H:Hp)(kvs:List (Key×V))(G:Int→List Int)(S:List Int):Prop:=∀s∈S,∃w:Addr,Zdf kvs (.inl s)=some (.ref w)∧H w=some (.tup ((G s).map V.int))
theorem ZjL {m:Nat}(hi:σ[i]?=some (some (.ref a)))(hm:σ[m]?=some (some (.int e)))(ha:H a=some (.lst (ss.map V.int)))(ls:ss.length≤900)(k:∀D,H D=none→Q (.ref D) (upd H D (.lst ((inE e ss).map V.int)))):ZbT 1 (Zci K (Zah i)) (Zan 0) (Za3 (Zec (rI0 fun i j=>V.bl (decide (i≤j))) (rI0 fun i j=>V.bl (decide (i<j))) (tC (V.int 0)) (Zah 0) (Zah (m+1)))) (Zah 0) σ H Q:=by
 refine⟨_,hi,a,rfl,⟨_,SqL.of ha⟩,ZgC (K:=K) (a:=a) (xs:=ss.map V.int) (fun i ys H'=>ys=(inE e (ss.take i)).map V.int∧H=H') ⟨rfl,rfl⟩ (by rw[Qac];omega) (fun i ys H' h=>by rw[h.1,Qac];exact QaD (Zc0 _ _) (by rw[Qav];exact QbP _ _)) (fun i ys H' _ h=>by rw[←h.2];exact SqL.of ha) ?_ ?_⟩
 ·rintro i y ys H2 pre qu hy ⟨rfl,rfl⟩;rw[Qaq] at hy
  cases es:ss[i]? with
  |none=>rw[es] at hy;cases hy
  |some s=>
   rw[es] at hy;cases hy;rcases pre with _|⟨q0,_|⟨q1,pre⟩⟩
   ·cases qu
   ·refine⟨⟨[some _],rfl,rfl⟩,?_⟩;rw[ZaJ es,Zi4,Qaw];refine⟨_,rfl,_,_,rfl,rfl,_,rfl,Zda (fun c1=> ?_) (fun c1=> ?_)⟩
    ·have c1:0≤s:=Qao c1;refine⟨_,hm,_,_,rfl,rfl,_,rfl,Zda (fun c2=> ?_) (fun c2=> ?_)⟩
     ·have c2:s<e:=Qao c2;refine⟨_,rfl,?_,rfl⟩;rw[if_pos (Qar ⟨c1,c2⟩)];rfl
     ·have c2:¬s<e:=fun z=>c2 (Qar z);refine⟨?_,rfl⟩;rw[if_neg (by rw[QaN fun z=>c2 z.2];decide)];simp
    ·have c1:¬0≤s:=fun z=>c1 (Qar z);refine⟨_,rfl,Zcu ⟨?_,rfl⟩⟩;rw[if_neg (by rw[QaN fun z=>c1 z.1];decide)];simp
   ·cases qu
 ·rintro ys H2 ⟨rfl,rfl⟩ D hD;rw[Qac,QaO];exact k D hD
theorem ZeX (p q:Int→Bool)(h:∀x,p x=true→q x=true→False):∀l:List Int,(l.filter p).length+(l.filter q).length≤l.length
 | []=>Qal _
 |x::l=>by
  have ih:=ZeX p q h l;rw[QcS,QcS];cases hp:p x<;>cases hq:q x
  ·simp only[Qb9,QdA,Qbb];omega
  ·simp only[Qb9,QdA,QdB,Qbb];omega
  ·simp only[Qb9,QdA,QdB,Qbb];omega
  ·exact(h x hp hq).elim
def gtE (e:Int)(l:List Int):List Int:=l.filter fun s=>decide (e<s)
theorem ZeY (e:Int)(a b:List Int):inE e (a++b)=inE e a++inE e b:=by unfold inE;rw[Qcw]
theorem ZpK (e:Int)(l:List Int):(inE e l).length+(gtE e l).length≤l.length:=ZeX _ _ (fun x h1 h2=>by
 have:=Qao h1
 have:=Qao h2
 omega) l
theorem Zlz (ok:Zhe n L p e wd)(pm:ms.Perm (dd (inE e ss)))(so:ms.Pairwise (· ≤ ·))(z0:(0:Int)∈ss)(few:(inE e ss).length≤17)
  (st:∀x,0≤x→x+1<e→x+1∉ss→∀i,Zdg L p.1 (p.2.1-p.1) e p.2.2.2 x i=Zdg L p.1 (p.2.1-p.1) e p.2.2.2 (x+1) i) (atc:∀s,0≤s→s<e→∀i,wd≤i→Zdg L p.1 (p.2.1-p.1) e p.2.2.2 s i=0):
  IsC L p e wd (ZaM (pcL e (Gc L p.1 (p.2.1-p.1) e p.2.2.2 wd) ms))∧(ZaM (pcL e (Gc L p.1 (p.2.1-p.1) e p.2.2.2 wd) ms)).length≤17:=by
 obtain⟨p0,p1,p2,p3⟩:=ok.pr;have lo:=ok.lo;have hi:=ok.hi;have sm:=ok.sum
 have mm:∀s,s∈ms↔s∈ss∧0≤s∧s<e:=fun s=>by
  rw[pm.mem_iff,Znk];unfold inE;rw[QbM];exact⟨fun h=>⟨h.1,Qao h.2⟩,fun h=>⟨h.1,Qar h.2⟩⟩
 have nd:ms.Nodup:=pm.nodup_iff.mpr (ZiD _);have pw:ms.Pairwise (· < ·):=(so.and nd).imp fun h=>Int.lt_iff_le_and_ne.mpr h;have ml:p.1<p.2.1:=(Zge ok.ml);refine⟨Toy.cut_law ok.nrm ok.wid (by omega) (by omega) pw (fun s hs=>((mm s).mp hs).2) ((mm 0).mpr ⟨z0,QaX 0,by omega⟩) (fun s _=>Zhg _ _ _ _ _ _ _) (fun s hs i=> ?_) (fun x x0 x1 hx=>st x x0 x1 fun z=>hx ((mm _).mpr ⟨z,by omega,x1⟩)),?_⟩
 ·by_cases c:i<wd
  ·unfold Gc co;rw[Qam,Qaq,Qcp c];rfl
  ·rw[atc s ((mm s).mp hs).2.1 ((mm s).mp hs).2.2 i (by omega)];unfold co;rw[Qam,Qay (by rw[Zhg];omega)];rfl
 ·have h1:=ZbV (pcL e (Gc L p.1 (p.2.1-p.1) e p.2.2.2 wd) ms);rw[Zh5,pm.length_eq] at h1
  have:=ZgM (inE e ss);omega
theorem Zi5 (wid:∀d∈L,d.2.length=wd)(x:Int)(hi:wd≤i):Zdg L low t e tn x i=0:=by
 have atfar:∀x,co (atW L x) i=0:=fun x=>by
  unfold co;rw[Qam,Qay]
  ·rfl
  ·have key:∀{M:WL2} {x:Int},(∀d∈M,d.2.length=wd)→(atW M x).length≤wd:=by
    intro M
    induction M with
    |nil=>intro x _;exact QaV _
    |cons d M ih=>
     intro x h;show(if x<d.1 then d.2 else atW M (x-d.1)).length≤wd;split
     ·rw[h d Qad];exact Qal _
     ·exact ih fun y hy=>h y (Qab _ hy)
   exact QaD (key wid) hi
 have nfar:∀{M:WL2} {lo x:Int},(∀d∈M,d.2.length=wd)→nS e t x i M lo=0:=by
  intro M
  induction M with
  |nil=>intro _ _ _;rfl
  |cons d M ih=>
   intro lo x h
   have c0:co d.2 i=0:=by
    unfold co;rw[Qam,Qay (by rw[h d Qad];exact hi)];rfl
   show(if _ then co d.2 i*_ else 0)+nS e t x i M (lo+d.1)=0;rw[ih fun y hy=>h y (Qab _ hy),c0];split<;>simp
 unfold Zdg;rw[atfar x,nfar wid,atfar _];simp
end
section
variable {K:PySem.W.Frag}
open Toy (co ZiG ZdJ stL atW nS pcL Zdg)
theorem Zfw {B:TS}{xs:List V}{x5 x9:Option V}{G:Int→List Int}(ha:H a=some (.lst xs))(g:Wg H xs L)(pos:∀d∈L,0<d.1)(en:e≤tot L)(hs:H sa=some (.lst (ss.map V.int)))(ls:ss.length<40)(w2:wd≤24)(gl:∀s,(G s).length=wd)
  (hB:∀(dk:Addr) (s:Int) (x8:Option V) (H3:Hp) (w:Addr) (kvs:List (Key×V)) (D:Zgk),H dk=none→Zak H H3→H3 dk=some (.dK kvs)→kvs.length≤500→Zdf kvs (.inl s)=some (.ref w)→H3 w=some (.tup ((atW L s).map V.int))→0≤s→s<e→(∀(x8':Option V) (H':Hp) (w':Addr) (kvs':List (Key×V)),(∀b o,b≠dk→H3 b=some o→H' b=some o)→H' dk=some (.dK kvs')→kvs'.length≤kvs.length+1→(∀z:Int,Zdf kvs' (.inl z)=if z=s then some (.ref w') else Zdf kvs (.inl z))→H' w'=some (.tup ((G s).map V.int))→D.nx [some (.ref q),some (.ref a),some (.int n),some (.int e),some (.ref sa),x5,some (.ref dk),some (.int s),x8',x9] H')→B D [some (.ref q),some (.ref a),some (.int n),some (.int e),some (.ref sa),x5,some (.ref dk),some (.int s),x8,x9] H3)
  (k:∀(b:Addr) (ys:List V) (ms:List Int) (H':Hp),H b=none→H' b=some (.lst ys)→ms.Perm (dd (inE e ss))→ms.Pairwise (· ≤ ·)→Wg H' ys (ZaM (pcL e G ms))→Zak H H'→Q (.ref b) H'):
  (ZaP (ZaY ZiO (Zan 6)) (ZaP (Ze5 (Zci K (ZbT 1 (Zci K (Zah 4)) (Zan 0) (Za3 (Zec (rI0 fun i j=>V.bl (decide (i≤j))) (rI0 fun i j=>V.bl (decide (i<j))) (tC (V.int 0)) (Zah 0) (Zah 4))) (Zah 0))) (Zan 7) (ZaP (Zjy (Zah 6) (Zah 7) (ZaF (Zhf K) [] E0 (Zaa (Zah 1) (Zaa (Zah 7) Zau)))) B)) (ZbY (ZaF Zdh [] E0 (Zaa (Zah 4) (Zaa (Zah 3) (Zaa (Zah 6) Zau))))))) {nx:=Z,rt:=Q } [some (.ref q),some (.ref a),some (.int n),some (.int e),some (.ref sa),x5,none,none,none,x9] H:=by
 intro dk fdk;have s1:=Zak.nw (o:=.dK []) (Zak.refl H) fdk;have f1:(upd H dk (.dK [])) dk=some (.dK []):=Zad;generalize upd H dk (.dK [])=H1 at s1 f1⊢;refine ZjL (K:=K) (i:=4) (m:=3) rfl rfl (s1 _ _ hs) (by omega) fun D hD=> ?_;have s2:=Zak.nw (o:=.lst ((inE e ss).map V.int)) (Zak.refl H1) hD;have f2:(upd H1 D (.lst ((inE e ss).map V.int))) D=some (.lst ((inE e ss).map V.int)):=Zad;generalize upd H1 D (.lst ((inE e ss).map V.int))=H2 at s2 f2⊢;have s02:=s1.trans s2;have ndk:D≠dk:=Ne.symm (Zav f1 hD);have il:=Zc0 e ss;refine⟨D,rfl,⟨_,SqL.of f2⟩,Zbx (K:=K) (a:=D) (xs:=(inE e ss).map V.int) (fun j σ H'=>∃(x7 x8:Option V) (kvs:List (Key×V)),σ=[some (.ref q),some (.ref a),some (.int n),some (.int e),some (.ref sa),x5,some (.ref dk),x7,x8,x9]∧Zak H H'∧H' D=some (.lst ((inE e ss).map V.int))∧H' dk=some (.dK kvs)∧kvs.length≤2*j∧DIn H' kvs G ((inE e ss).take j)) ⟨_,_,[],rfl,s02,f2,s2 _ _ f1,QaV _,fun s hs=>by rw[Qa8] at hs;cases hs⟩ (fun j σ H' _ h=>by obtain⟨_,_,_,_,_,h',_⟩:=h;exact SqL.of h') ?_ ?_⟩
 ·rintro j y σ H3 hy ⟨x7,x8,kvs,rfl,s3,hD3,hk3,kl,I⟩;rw[Qaq] at hy
  cases es:(inE e ss)[j]? with
  |none=>rw[es] at hy;cases hy
  |some s=>
   rw[es] at hy;cases hy;have jl:j<(inE e ss).length:=(Qaf.mp es).1;have sin:=QbM.mp (Qau es);obtain⟨s0,se⟩:=Qao sin.2;have g3:=g.up s3.tups;refine⟨_,rfl,_,rfl,a,xs,L,s,rfl,s3 _ _ ha,g3,pos,s0,by omega,fun w hw=> ?_⟩;refine⟨_,rfl,_,rfl,dk,_,rfl,Zmy.k (k:=.inl s) hk3 (QaG (show kvs.length≤1000 by omega) (by decide)),?_⟩;have k1:=Zb1 kvs (.inl s:Key) (.ref w);have wd':w≠dk:=fun z=>by rw[z,hk3] at hw;cases hw
   refine hB dk s x8 _ w (ZdD kvs (.inl s) (.ref w)) _ fdk (s3.ow fdk) Zad (by omega) (by rw[ZdV,if_pos rfl]) (by rw[Zax wd'];exact hw) s0 se fun x8' H' w' kvs' kp hk' kl' vv hw'=> ?_;have kp3:∀b o,b≠dk→H3 b=some o→H' b=some o:=fun b o nb hb=>kp b o nb (by rw[Zax nb];exact hb);refine⟨_,x8',kvs',rfl,fun b o hb=>kp3 b o (fun z=>by rw[z,fdk] at hb;cases hb) (s3 _ _ hb),kp3 _ _ ndk hD3,hk',by omega,fun z hz=> ?_⟩;rw[vv z];by_cases c:z=s
   ·rw[c,if_pos rfl];exact⟨w',rfl,hw'⟩
   ·rw[if_neg c,ZdV,if_neg fun q=>c (Qed q)];rw[ZaJ es] at hz;rcases Qaz.mp hz with q|q
    ·obtain⟨w2,h1,h2⟩:=I z q;exact⟨w2,h1,kp3 _ _ (fun z=>by rw[z,hk3] at h2;cases h2) h2⟩
    ·exact absurd (Qan.mp q) c
 ·rintro σ H3 ⟨x7,x8,kvs,rfl,s3,hD3,hk3,kl,I⟩;rw[Qac,QaO] at I;exact⟨_,rfl,_,rfl,_,rfl,sa,dk,ss,e,wd,G,rfl,s3 _ _ hs,ls,w2,⟨kvs,hk3,fun s hs s0 se=>⟨gl s,I s (QbM.mpr ⟨hs,Qar ⟨s0,se⟩⟩)⟩⟩,fun b ys ms H' fb hb pm so gw s4=>k b ys ms H' (s3.free fb) hb pm so gw (s3.trans s4)⟩
section
variable {xs:List V}
theorem ZlA (ha:H a=some (.lst xs))(g:Wg H xs L)(ok:Zhe n L p e wd)(tn:p.2.2.2=true)(hs:H sa=some (.lst (ss.map V.int)))(ls:ss.length<40)(z0:(0:Int)∈ss)(few:(inE e ss).length≤17)
  (st:∀x,0≤x→x+1<e→x+1∉ss→∀i,Zdg L p.1 (p.2.1-p.1) e p.2.2.2 x i=Zdg L p.1 (p.2.1-p.1) e p.2.2.2 (x+1) i)
  (k:∀(b:Addr) (ys:List V) (R:WL2) (H':Hp),H b=none→H' b=some (.lst ys)→Wg H' ys R→IsC L p e wd R→R.length≤17→Zak H H'→Q (.ref b) H'):ZqD K {nx:=Z,rt:=Q } [some (.ref q),some (.ref a),some (.int n),some (.int e),some (.ref sa),some (.int (p.1+n-1)),none,none,none,none] H:=by
 have sm:=ok.sum;have hi:=ok.hi;have lo:=ok.lo;have w2:=ok.w2;obtain⟨p0,p1,p2,p3⟩:=ok.pr;have pos:∀d∈L,0<d.1:=fun d hd=>ok.nrm.pos d hd;refine Zfw (K:=K) (G:=Gc L p.1 (p.2.1-p.1) e p.2.2.2 wd) ha g pos (by omega) hs ls w2 (fun s=>Zhg _ _ _ _ _ _ _) ?_ fun b ys ms H' fb hb pm so gw s4=> ?_
 ·intro dk s x8 H3 w kvs D fdk s3 hk3 kl vw hw s0 se kD;have la:(atW L s).length=wd:=Toy.atW_lenC ok.wid (by omega) s0
  have plain:¬(e≤p.1+n-1-s∧p.1+n-1-s<n)→atW L s=Gc L p.1 (p.2.1-p.1) e p.2.2.2 wd s:=fun c=>ZmR la fun i=>by
   unfold Zdg;rw[if_pos tn,sm,if_neg c,Qbe]
  have stay:¬(e≤p.1+n-1-s∧p.1+n-1-s<n)→D.nx [some (.ref q),some (.ref a),some (.int n),some (.int e),some (.ref sa),some (.int (p.1+n-1)),some (.ref dk),some (.int s),x8,none] H3:=fun c=>kD x8 H3 w kvs (fun b o _ h=>h) hk3 (Qc6 _) (fun z=>by
   by_cases cz:z=s
   ·rw[cz,if_pos rfl,vw]
   ·rw[if_neg cz]) (by rw[←plain c];exact hw)
  refine⟨_,rfl,_,rfl,_,rfl,_,_,rfl,rfl,_,_,rfl,rfl,_,rfl,Zda (fun c1=> ?_) (fun c1=> ?_)⟩
  ·have c1:e≤p.1+n-1-s:=Qao c1;refine⟨_,rfl,_,_,rfl,rfl,_,rfl,Zda (fun c2=> ?_) (fun c2=> ?_)⟩
   ·have c2:p.1+n-1-s<n:=Qao c2;have lb:(atW L (p.1+n-1-s)).length=wd:=Toy.atW_lenC ok.wid (by omega) (by omega);refine⟨_,rfl,_,rfl,_,rfl,_,_,rfl,rfl,a,xs,L,_,rfl,s3 _ _ ha,g.up s3.tups,pos,by omega,by omega,fun w1 hw1=> ?_⟩
    have eg:Toy.plusW (atW L s) (atW L (p.1+n-1-s))=Gc L p.1 (p.2.1-p.1) e p.2.2.2 wd s:=ZmR (by rw[Toy.plus_lenC (by omega)];exact la) fun i=>by
     rw[Toy.plus_coC (by omega)];unfold Zdg;rw[if_pos tn,sm,if_pos ⟨c1,c2⟩]
    refine⟨_,rfl,_,rfl,dk,.ref w,rfl,by
     have z:=ZiN.k (k:=.inl s) hk3
     rw[vw] at z
     exact z,_,rfl,w,w1,rfl,⟨_,SqT.of hw⟩,⟨_,SqT.of hw1⟩,ZiF (K:=K) (a:=w) (b:=w1) (xs:=(atW L s).map V.int) (ys:=(atW L (p.1+n-1-s)).map V.int) (n:=wd) (fun i zs H'=>zs=((Toy.plusW (atW L s) (atW L (p.1+n-1-s))).take i).map V.int∧Zak H3 H') ⟨rfl,Zak.refl H3⟩ (by rw[Qac,Qac];omega) (by omega) (fun i zs H' h=>by rw[h.1,Qac,Qav];exact QbP _ _) (fun i zs H' _ h=>⟨SqT.of (h.2 _ _ hw),SqT.of (h.2 _ _ hw1)⟩) ?_ ?_⟩
    ·rintro i a1 a2 zs H2 pre pp qu h1 h2 ⟨rfl,s2⟩ hp;rw[Qaq] at h1 h2
     cases ex:(atW L s)[i]? with
     |none=>rw[ex] at h1;cases h1
     |some xi=>
      cases ey:(atW L (p.1+n-1-s))[i]? with
      |none=>rw[ey] at h2;cases h2
      |some yi=>
       rw[ex] at h1;rw[ey] at h2;cases h1;cases h2;rcases pre with _|⟨q0,_|⟨q1,_|⟨q2,pre⟩⟩⟩
       ·cases qu
       ·cases qu
       ·refine⟨pp,_,rfl,SqT.of Zad,rfl,_,_,rfl,_,_,rfl,rfl,⟨[some _,some _],rfl,rfl⟩,?_⟩;unfold Ze3;dsimp only;rw[if_pos (rfl:true=true)];refine⟨_,rfl,_,rfl,_,_,rfl,rfl,?_,s2.nw hp⟩;have ez:(Toy.plusW (atW L s) (atW L (p.1+n-1-s)))[i]?=some (xi+yi):=by unfold Toy.plusW;rw[QbS,ex,ey]
        rw[ZaJ ez,Qaw];rfl
       ·cases qu
    ·rintro zs H2 ⟨rfl,s2⟩ D2 hD;have et:(Toy.plusW (atW L s) (atW L (p.1+n-1-s))).take wd=Gc L p.1 (p.2.1-p.1) e p.2.2.2 wd s:=by rw[Qba (by rw[Toy.plus_lenC (by omega)];omega),eg]
     rw[et];generalize Gc L p.1 (p.2.1-p.1) e p.2.2.2 wd s=G at*;refine⟨D2,_,rfl,.inl ⟨SqL.of Zad,fun l hl=> ?_⟩⟩;have s5:=(s2.nw (o:=.lst (G.map V.int)) hD).nw (o:=.tup (G.map V.int)) hl;have f5:(upd (upd H2 D2 (.lst (G.map V.int))) l (.tup (G.map V.int))) l=some (.tup (G.map V.int)):=Zad;generalize upd (upd H2 D2 (.lst (G.map V.int))) l (.tup (G.map V.int))=H5 at s5 f5⊢;have ld:l≠dk:=fun z=>by rw[z,s5 _ _ hk3] at f5;cases f5
     refine⟨_,rfl,_,rfl,dk,_,rfl,Zmy.k (k:=.inl s) (s5 _ _ hk3) (QaG (show kvs.length≤1000 by omega) (by decide)),?_⟩;refine kD _ _ l (ZdD kvs (.inl s) (.ref l)) (fun b o nb hb=>by rw[Zax nb];exact s5 _ _ hb) Zad (Zb1 _ _ _) (fun z=> ?_) (by rw[Zax ld];exact f5);rw[ZdV];by_cases cz:z=s
     ·rw[cz,if_pos rfl,if_pos rfl]
     ·rw[if_neg cz,if_neg fun q=>cz (Qed q)]
   ·exact stay fun z=>c2 (Qar z.2)
  ·exact⟨_,rfl,Zcu (stay fun z=>c1 (Qar z.1))⟩
 ·have cf:=Zlz ok pm so z0 few st fun s _ _ i hi=>Zi5 ok.wid s hi;exact k b ys _ H' fb hb gw cf.1 cf.2 s4
theorem ZlB (ha:H a=some (.lst xs))(g:Wg H xs L)(ok:Zhe n L p e wd)(tn:p.2.2.2=false)(hs:H sa=some (.lst (ss.map V.int)))(ls:ss.length<40)(z0:(0:Int)∈ss)(few:(inE e ss).length≤17)
  (st:∀x,0≤x→x+1<e→x+1∉ss→∀i,Zdg L p.1 (p.2.1-p.1) e p.2.2.2 x i=Zdg L p.1 (p.2.1-p.1) e p.2.2.2 (x+1) i)
  (k:∀(b:Addr) (ys:List V) (R:WL2) (H':Hp),H b=none→H' b=some (.lst ys)→Wg H' ys R→IsC L p e wd R→R.length≤17→Zak H H'→Q (.ref b) H'):ZqE K {nx:=Z,rt:=Q } [some (.ref q),some (.ref a),some (.int n),some (.int e),some (.ref sa),none,none,none,none,some (.int (p.2.1-p.1))] H:=by
 have sm:=ok.sum;have hi:=ok.hi;have lo:=ok.lo;have w2:=ok.w2;have n1:=ok.n1;have ml:=Zge ok.ml;obtain⟨p0,p1,p2,p3⟩:=ok.pr;have pos:∀d∈L,0<d.1:=fun d hd=>ok.nrm.pos d hd;have tn':¬p.2.2.2=true:=by rw[tn];decide
 refine Zfw (K:=K) (G:=Gc L p.1 (p.2.1-p.1) e p.2.2.2 wd) ha g pos (by omega) hs ls w2 (fun s=>Zhg _ _ _ _ _ _ _) ?_ fun b ys ms H' fb hb pm so gw s4=> ?_
 ·intro dk s x8 H3 w kvs D fdk s3 hk3 kl vw hw s0 se kD;have la:(atW L s).length=wd:=Toy.atW_lenC ok.wid (by omega) s0;refine⟨_,rfl,_,rfl,_,rfl,_,_,rfl,rfl,_,_,rfl,rfl,_,rfl,Zda (fun c1=> ?_) (fun c1=> ?_)⟩
  ·have c1:e-(p.2.1-p.1)≤s:=Qao c1;refine⟨_,rfl,_,rfl,_,rfl,_,rfl,_,rfl,a,xs,L,n,e,s,p.2.1-p.1,wd,rfl,s3 _ _ ha,g.up s3.tups,pos,sm,n1,w2,ok.wid,ok.num,s0,by omega,se,hi,by omega,by omega,fun l u H5 s5 f5 ul cu=> ?_⟩
   have eg:u=Gc L p.1 (p.2.1-p.1) e p.2.2.2 wd s:=ZmR ul fun i=>by
    rw[cu i];unfold Zdg;rw[if_neg tn',if_pos c1]
   have ld:l≠dk:=fun z=>by rw[z,s5 _ _ hk3] at f5;cases f5
   refine⟨_,rfl,_,rfl,dk,_,rfl,Zmy.k (k:=.inl s) (s5 _ _ hk3) (QaG (show kvs.length≤1000 by omega) (by decide)),?_⟩;refine kD _ _ l (ZdD kvs (.inl s) (.ref l)) (fun b o nb hb=>by rw[Zax nb];exact s5 _ _ hb) Zad (Zb1 _ _ _) (fun z=> ?_) (by rw[Zax ld,←eg];exact f5);rw[ZdV];by_cases cz:z=s
   ·rw[cz,if_pos rfl,if_pos rfl]
   ·rw[if_neg cz,if_neg fun q=>cz (Qed q)]
  ·have c1:¬e-(p.2.1-p.1)≤s:=fun z=>c1 (Qar z);refine kD x8 H3 w kvs (fun b o _ h=>h) hk3 (Qc6 _) (fun z=> ?_) ?_
   ·by_cases cz:z=s
    ·rw[cz,if_pos rfl,vw]
    ·rw[if_neg cz]
   ·rw[←ZmR la fun i=> ?_]
    ·exact hw
    ·unfold Zdg;rw[if_neg tn',if_neg c1,Qbe]
 ·have cf:=Zlz ok pm so z0 few st fun s _ _ i hi=>Zi5 ok.wid s hi;exact k b ys _ H' fb hb gw cf.1 cf.2 s4
theorem ZmS (e:Int)(M:List Int)(s:Int):gtE e (M++ [s])=gtE e M++(if decide (e<s)=true then [s] else []):=by
 unfold gtE;rw[Qcw,QcS];split<;>rfl
theorem Zh6 (e:Int)(M:List Int):(gtE e M).length≤M.length:=Qd7 _ _
theorem Zfx {m:Nat}{D:Addr}{te:TE}{f:Int→Int}(hm:σ[m]?=some (some (.int e)))(hD:H D=some (.lst (ms.map V.int)))(ls:ms.length≤900)(ht:∀s∈ms,e<s→∀P:VK,P (.int (f s)) H→te (some (.int s)::σ) H P)(k:∀c,H c=none→Q (.ref c) (upd H c (.lst (((gtE e ms).map f).map V.int)))):CGo 1 (Itl K D) (Zan 0) (Za3 (tOp (rI0 fun i j=>V.bl (decide (j<i))) (Zah 0) (Zah (m+1)))) te Q σ H:=by
 refine ZgC (K:=K) (a:=D) (xs:=ms.map V.int) (fun i ys H'=>ys=((gtE e (ms.take i)).map f).map V.int∧H=H') ⟨rfl,rfl⟩ (by rw[Qac];omega) (fun i ys H' h=>by rw[h.1,Qac,Qac];exact QaD (Zh6 _ _) (by rw[Qav];exact QbP _ _)) (fun i ys H' _ h=>by rw[←h.2];exact SqL.of hD) ?_ ?_
 ·rintro i y ys H2 pre qu hy ⟨rfl,rfl⟩;rw[Qaq] at hy
  cases es:ms[i]? with
  |none=>rw[es] at hy;cases hy
  |some s=>
   rw[es] at hy;cases hy;rcases pre with _|⟨q0,_|⟨q1,pre⟩⟩
   ·cases qu
   ·refine⟨⟨[some _],rfl,rfl⟩,?_⟩;rw[ZaJ es,ZmS,Qaw,Qaw];refine⟨_,rfl,_,hm,_,_,rfl,rfl,_,rfl,Zda (fun c1=> ?_) (fun c1=> ?_)⟩
    ·rw[if_pos c1];exact ht s (Qau es) (Qao c1) _ ⟨rfl,rfl⟩
    ·rw[if_neg c1];exact⟨by simp,rfl⟩
   ·cases qu
 ·rintro ys H2 ⟨rfl,rfl⟩ c hc;rw[Qac,QaO];exact k c hc
theorem ZlC (hq:H q=some (.tup (pV p)))(ha:H a=some (.lst xs))(g:Wg H xs L)(ok:Zhe n L p e wd)(tn:p.2.2.2=false)(hs:H sa=some (.lst ((stL 0 L).map V.int)))
  (k:∀(b:Addr) (ys:List V) (R:WL2) (H':Hp),H b=none→H' b=some (.lst ys)→Wg H' ys R→IsC L p e wd R→R.length≤17→Zak H H'→Q (.ref b) H'):ZqF K {nx:=Z,rt:=Q } [some (.ref q),some (.ref a),some (.int n),some (.int e),some (.ref sa),none,none,none,none,none] H:=by
 have sm:=ok.sum;have hi:=ok.hi;have lo:=ok.lo;have len:=ok.len;have ml:=Zge ok.ml;obtain⟨p0,p1,p2,p3⟩:=ok.pr;have pos:∀d∈L,0<d.1:=fun d hd=>ok.nrm.pos d hd;have sl:=Zga L 0;refine⟨_,rfl,_,_,_,_,rfl,rfl,SqT.of hq,rfl,_,rfl,_,_,_,_,rfl,rfl,SqT.of hq,rfl,_,_,rfl,rfl,?_⟩;refine⟨_,rfl,_,rfl,_,rfl,_,_,rfl,rfl,(by show 1≤sizeLine;decide),fun b1 fb1=> ?_⟩;have s1:=Zak.nw (o:=.lst [.int (e-(p.2.1-p.1))]) (Zak.refl H) fb1;have f1:(upd H b1 (.lst [.int (e-(p.2.1-p.1))])) b1=some (.lst [.int (e-(p.2.1-p.1))]):=Zad;generalize upd H b1 (.lst [.int (e-(p.2.1-p.1))])=H1 at s1 f1⊢;refine⟨sa,b1,_,_,rfl,rfl,s1 _ _ hs,f1,QaD (by rw[Qac,sl];show _+1≤40;omega) (show 40≤sizeLine by decide),fun b2 fb2=> ?_⟩;have e2:(stL 0 L).map V.int++ [V.int (e-(p.2.1-p.1))]=(stL 0 L++ [e-(p.2.1-p.1)]).map V.int:=by rw[Qaw];rfl
 rw[e2];have s2:=Zak.nw (o:=.lst ((stL 0 L++ [e-(p.2.1-p.1)]).map V.int)) (Zak.refl H1) fb2;have f2:(upd H1 b2 (.lst ((stL 0 L++ [e-(p.2.1-p.1)]).map V.int))) b2=some (.lst ((stL 0 L++ [e-(p.2.1-p.1)]).map V.int)):=Zad;generalize upd H1 b2 (.lst ((stL 0 L++ [e-(p.2.1-p.1)]).map V.int))=H2 at s2 f2⊢;have t2:=s1.trans s2;refine⟨_,rfl,_,rfl,(by show 1≤sizeLine;decide),fun b3 fb3=> ?_⟩;have s3:=Zak.nw (o:=.lst [.int n]) (Zak.refl H2) fb3;have f3:(upd H2 b3 (.lst [.int n])) b3=some (.lst [.int n]):=Zad;generalize upd H2 b3 (.lst [.int n])=H3 at s3 f3⊢;have t3:=t2.trans s3;refine⟨sa,b3,_,_,rfl,rfl,t3 _ _ hs,f3,QaD (by rw[Qac,sl];show _+1≤40;omega) (show 40≤sizeLine by decide),fun b4 fb4=> ?_⟩;have e4:(stL 0 L).map V.int++ [V.int n]=(stL 0 L++ [n]).map V.int:=by rw[Qaw];rfl
 rw[e4];have s4:=Zak.nw (o:=.lst ((stL 0 L++ [n]).map V.int)) (Zak.refl H3) fb4;have f4:(upd H3 b4 (.lst ((stL 0 L++ [n]).map V.int))) b4=some (.lst ((stL 0 L++ [n]).map V.int)):=Zad;generalize upd H3 b4 (.lst ((stL 0 L++ [n]).map V.int))=H4 at s4 f4⊢;have t4:=t3.trans s4;have l4:(stL 0 L++ [n]).length≤9:=by rw[Qae,sl];show _+1≤9;omega
 refine⟨b4,rfl,⟨_,SqL.of f4⟩,Zfx (K:=K) (m:=3) (f:=fun s=>e-(p.2.1-p.1)+(s-e) %(p.2.1-p.1)) rfl f4 (by omega) (fun s _ _ P hP=>⟨_,rfl,_,rfl,_,_,rfl,rfl,_,rfl,_,rfl,_,_,rfl,rfl,_,rfl,_,_,rfl,rfl,by show 0<p.2.1-p.1;omega,_,_,rfl,rfl,hP⟩) fun b5 fb5=> ?_⟩;have gl:=Zh6 e (stL 0 L++ [n]);generalize hT:(gtE e (stL 0 L++ [n])).map (fun s=>e-(p.2.1-p.1)+(s-e) %(p.2.1-p.1))=T;have Tl:T.length≤9:=by rw[←hT,Qac];omega
 have s5:=Zak.nw (o:=.lst (T.map V.int)) (Zak.refl H4) fb5;have f5:(upd H4 b5 (.lst (T.map V.int))) b5=some (.lst (T.map V.int)):=Zad;generalize upd H4 b5 (.lst (T.map V.int))=H5 at s5 f5⊢;have t5:=t4.trans s5;refine⟨b2,b5,_,_,rfl,rfl,((s3.trans s4).trans s5) _ _ f2,f5,QaD (by rw[Qac,Qac,Qae,sl];show _+1+_≤40;omega) (show 40≤sizeLine by decide),fun b6 fb6=> ?_⟩;have e6:(stL 0 L++ [e-(p.2.1-p.1)]).map V.int++T.map V.int=(stL 0 L++ [e-(p.2.1-p.1)]++T).map V.int:=by rw[Qaw (l₂:=T)]
 rw[e6];have s6:=Zak.nw (o:=.lst ((stL 0 L++ [e-(p.2.1-p.1)]++T).map V.int)) (Zak.refl H5) fb6;have f6:(upd H5 b6 (.lst ((stL 0 L++ [e-(p.2.1-p.1)]++T).map V.int))) b6=some (.lst ((stL 0 L++ [e-(p.2.1-p.1)]++T).map V.int)):=Zad;generalize upd H5 b6 (.lst ((stL 0 L++ [e-(p.2.1-p.1)]++T).map V.int))=H6 at s6 f6⊢;have t6:=t5.trans s6
 have z0:(0:Int)∈stL 0 L:=by
  cases hL:L with
  |nil=>rw[hL] at sm;have:tot ([]:WL2)=0:=rfl;omega
  |cons d L'=>exact Qad
 refine ZlB (K:=K) (ss:=stL 0 L++ [e-(p.2.1-p.1)]++T) (t6 _ _ ha) (g.up t6.tups) ok tn f6 ?_ ?_ ?_ ?_ fun b ys R H' fb hb gw ic rl s7=>k b ys R H' (t6.free fb) hb gw ic rl (t6.trans s7)
 ·rw[Qae,Qae,sl];show _+1+_<40;omega
 ·exact QaM _ (QaM _ z0)
 ·rw[ZeY,ZeY,Qae,Qae];have i1:=ZpK e (stL 0 L++ [n]);rw[ZeY,Qae] at i1;have i2:=Zc0 e [e-(p.2.1-p.1)];have i2:(inE e [e-(p.2.1-p.1)]).length≤1:=i2;have i3:=Zc0 e T;have i4:T.length=(gtE e (stL 0 L++ [n])).length:=by rw[←hT,Qac]
  omega
 ·intro x x0 x1 hx i;rw[Qaz,Qaz,Qan] at hx;rw[tn]
  exact Toy.cutF_shift pos (by omega) (by omega) (by omega) x0 x1 (fun z=>hx (.inl (.inl z))) (fun z=>hx (.inl (.inr z))) (fun s hs es z=>hx (.inr (by
   rw[←hT,z]
   exact Qbm.mpr ⟨s,QbM.mpr ⟨by rw[←sm];exact hs,Qar es⟩,rfl⟩))) i
theorem Zh7 (hq:H q=some (.tup (pV p)))(ha:H a=some (.lst xs))(g:Wg H xs L)(ok:Zhe n L p e wd)
  (k:∀(b:Addr) (ys:List V) (R:WL2) (H':Hp),H b=none→H' b=some (.lst ys)→Wg H' ys R→IsC L p e wd R→R.length≤17→Zak H H'→Q (.ref b) H'):ZpE K {nx:=Z,rt:=Q } [some (.ref q),some (.ref a),some (.int n),some (.int e),none,none,none,none,none,none] H:=by
 have sm:=ok.sum;have hi:=ok.hi;have lo:=ok.lo;have len:=ok.len;have ml:=Zge ok.ml;have en:=ok.en;obtain⟨p0,p1,p2,p3⟩:=ok.pr;have pos:∀d∈L,0<d.1:=fun d hd=>ok.nrm.pos d hd;have sl:=Zga L 0;refine⟨_,rfl,rfl,_,rfl,Zda (fun z=>absurd (V.int.inj (Qao z)) (by omega)) (fun _=> ?_)⟩;refine⟨_,rfl,a,xs,L,rfl,ha,g,by omega,fun sa H1 fsa hs s1=> ?_⟩;have q1:=s1 _ _ hq;have g1:=g.up s1.tups;refine⟨_,rfl,q,_,_,_,rfl,rfl,SqT.of q1,rfl,_,rfl,?_⟩
 cases tn:p.2.2.2 with
 |false=>exact ZlC (K:=K) q1 (s1 _ _ ha) g1 ok tn hs fun b ys R H' fb hb gw ic rl s7=>k b ys R H' (s1.free fb) hb gw ic rl (s1.trans s7)
 |true=>
  refine Zc7 ?_;refine⟨_,rfl,q,_,_,_,rfl,rfl,SqT.of q1,rfl,_,rfl,q,p,rfl,q1,_,_,rfl,rfl,_,_,rfl,rfl,?_⟩;have tE:p.1+(p.2.1+p.2.2.1)-1=p.1+n-1:=by omega
  show Zan 5 (.int (p.1+(p.2.1+p.2.2.1)-1)) _ _ _;rw[tE];refine⟨_,rfl,_,rfl,_,rfl,_,_,rfl,rfl,_,_,rfl,rfl,_,rfl,_,rfl,_,_,rfl,rfl,_,_,rfl,rfl,(by show 2≤sizeLine;decide),fun b1 fb1=> ?_⟩;have s2:=Zak.nw (o:=.lst ([p.1+n-1-n+1,p.1+n-1-e+1].map V.int)) (Zak.refl H1) fb1;have f2:(upd H1 b1 (.lst ([p.1+n-1-n+1,p.1+n-1-e+1].map V.int))) b1=some (.lst ([p.1+n-1-n+1,p.1+n-1-e+1].map V.int)):=Zad;rw[show HO.lst [V.int (p.1+n-1-n+1),V.int (p.1+n-1-e+1)]= .lst ([p.1+n-1-n+1,p.1+n-1-e+1].map V.int) from rfl];generalize hA:[p.1+n-1-n+1,p.1+n-1-e+1]=A at s2 f2⊢;have Al:A.length=2:=by rw[←hA];rfl
  generalize upd H1 b1 (.lst (A.map V.int))=H2 at s2 f2⊢;refine⟨sa,b1,_,_,rfl,rfl,s2 _ _ hs,f2,QaD (by rw[Qac,Qac,sl];show _≤40;omega) (show 40≤sizeLine by decide),fun b2 fb2=> ?_⟩;rw[←Qaw];have s3:=Zak.nw (o:=.lst ((stL 0 L++A).map V.int)) (Zak.refl H2) fb2;have f3:(upd H2 b2 (.lst ((stL 0 L++A).map V.int))) b2=some (.lst ((stL 0 L++A).map V.int)):=Zad;generalize upd H2 b2 (.lst ((stL 0 L++A).map V.int))=H3 at s3 f3⊢;refine⟨_,rfl,sa,rfl,⟨_,SqL.of (s3 _ _ (s2 _ _ hs))⟩,Zfx (K:=K) (m:=3) (f:=fun s=>p.1+n-1-s+1) rfl (s3 _ _ (s2 _ _ hs)) (by omega) (fun s _ _ P hP=>⟨_,rfl,_,rfl,_,_,rfl,rfl,_,_,rfl,rfl,hP⟩) fun b4 fb4=> ?_⟩;have gl:=Zh6 e (stL 0 L);generalize hT:(gtE e (stL 0 L)).map (fun s=>p.1+n-1-s+1)=T;have Tl:T.length≤8:=by rw[←hT,Qac];omega
  have s4:=Zak.nw (o:=.lst (T.map V.int)) (Zak.refl H3) fb4;have f4:(upd H3 b4 (.lst (T.map V.int))) b4=some (.lst (T.map V.int)):=Zad;generalize upd H3 b4 (.lst (T.map V.int))=H4 at s4 f4⊢;refine⟨b2,b4,_,_,rfl,rfl,s4 _ _ f3,f4,QaD (by rw[Qac,Qac,Qae,sl];show _≤40;omega) (show 40≤sizeLine by decide),fun b5 fb5=> ?_⟩;rw[←Qaw];have s5:=Zak.nw (o:=.lst ((stL 0 L++A++T).map V.int)) (Zak.refl H4) fb5;have f5:(upd H4 b5 (.lst ((stL 0 L++A++T).map V.int))) b5=some (.lst ((stL 0 L++A++T).map V.int)):=Zad;generalize upd H4 b5 (.lst ((stL 0 L++A++T).map V.int))=H5 at s5 f5⊢;have t5:=(((s1.trans s2).trans s3).trans s4).trans s5
  have z0:(0:Int)∈stL 0 L:=by
   cases hL:L with
   |nil=>rw[hL] at sm;have:tot ([]:WL2)=0:=rfl;omega
   |cons d L'=>exact Qad
  refine ZlA (K:=K) (ss:=stL 0 L++A++T) (t5 _ _ ha) (g.up t5.tups) ok tn f5 ?_ ?_ ?_ ?_ fun b ys R H' fb hb gw ic rl s7=>k b ys R H' (t5.free fb) hb gw ic rl (t5.trans s7)
  ·rw[Qae,Qae,sl];omega
  ·exact QaM _ (QaM _ z0)
  ·rw[ZeY,ZeY,Qae,Qae];have i1:=ZpK e (stL 0 L);have i2:=Zc0 e A;have i3:=Zc0 e T;have i4:T.length=(gtE e (stL 0 L)).length:=by rw[←hT,Qac]
   omega
  ·intro x x0 x1 hx i;rw[Qaz,Qaz,←hA,Qas,Qan] at hx;rw[tn]
   exact Toy.cutF_turn pos p0 (by omega) (by omega) x0 x1 (fun z=>hx (.inl (.inl z))) (fun z=>hx (.inl (.inr (.inl (by rw[sm] at z;exact z))))) (fun z=>hx (.inl (.inr (.inr (by rw[sm] at z;exact z))))) (fun s hs es z=>hx (.inr (by
    rw[←hT,z,sm]
    exact Qbm.mpr ⟨s,QbM.mpr ⟨hs,Qar es⟩,rfl⟩))) i
end
end
section
variable {K:PySem.W.Frag}
section
variable {ya yb:List V}
theorem ZmT (v:V)(h:0≤m):Ze9 [v] none (some m)=if m=0 then [] else [v]:=by
 obtain⟨k,rfl⟩:=QdK h;by_cases c:(k:Int)=0
 ·rw[if_pos c,c];exact Zft (k:=0) _ (QaV _)
 ·rw[if_neg c];unfold Ze9;rw[HT.sIx_nat,HT.sIx_none,Qds,Nat.min_eq_right (by show 1≤k;omega),QdW];rfl
theorem ZlD {x7:Option V}(h:ZaU H a pa pb n ps L ya yb)(hl:ps.length≤400)(ok:ZnA n ps L j p wd)(hq:H q=some (.tup (pV p)))(e1:e<n)(cb:Zez n ps j p e=true)
  (k:∀(R:WL2) (c pa' pb':Addr) (ya' yb':List V) (H':Hp),IsC L p e wd R→R.length≤17→Zak H H'→ZaU H' c pa' pb' e (ZdL ps j p e) R ya' yb'→Q (.ref c) H'):
  ZqH K {nx:=Z,rt:=Q } [some (.ref a),some (.int (j:Int)),some (.int e),some (.int n),some (.ref pa),some (.ref pb),some (.ref q),x7,none,none,none] H:=by
 have cb':=cb;unfold Zez at cb';rw[QaY,QaY,QaY] at cb';obtain⟨c1,c2,c3,c4⟩:=cb';have e2:p.2.1+p.2.2.1=n:=Qao c2;have e3:p.2.1≤e:=Qao c3;have jl:j<ps.length:=(Qaf.mp ok.at').1;have yl:=h.len;refine⟨_,rfl,_,rfl,q,_,_,_,rfl,rfl,SqT.of hq,rfl,_,_,rfl,rfl,?_⟩;refine⟨_,rfl,q,_,_,_,rfl,rfl,SqT.of hq,rfl,?_⟩;refine⟨_,rfl,q,_,_,_,rfl,rfl,SqT.of hq,rfl,_,rfl,?_⟩
 have fin:∀lw:Int,lw=(if p.2.2.2=true then p.1+p.2.2.1-(e-p.2.1) else p.1)→ZqG K {nx:=Z,rt:=Q } [some (.ref a),some (.int (j:Int)),some (.int e),some (.int n),some (.ref pa),some (.ref pb),some (.ref q),x7,some (.int (e-p.2.1)),some (.int lw),none] H:=by
  intro lw hlw;refine⟨_,rfl,_,rfl,q,_,_,_,rfl,rfl,SqT.of hq,rfl,_,rfl,_,rfl,q,_,_,_,rfl,rfl,SqT.of hq,rfl,(by show 4≤sizeLine;decide),fun t1 ft1=> ?_⟩;have s1:=Zak.nw (o:=.tup (pV (lw,p.2.1,e-p.2.1,p.2.2.2))) (Zak.refl H) ft1;have g1:(upd H t1 (.tup (pV (lw,p.2.1,e-p.2.1,p.2.2.2)))) t1=some (.tup (pV (lw,p.2.1,e-p.2.1,p.2.2.2))):=Zad;rw[show HO.tup [V.int lw,V.int p.2.1,V.int (e-p.2.1),V.bl p.2.2.2]= .tup (pV (lw,p.2.1,e-p.2.1,p.2.2.2)) from rfl];generalize upd H t1 (.tup (pV (lw,p.2.1,e-p.2.1,p.2.2.2)))=H1 at s1 g1⊢;refine⟨(by show 1≤sizeLine;decide),fun l1 fl1=> ?_⟩;have s2:=Zak.nw (o:=.lst [.ref t1]) (Zak.refl H1) fl1;have g2:(upd H1 l1 (.lst [.ref t1])) l1=some (.lst [.ref t1]):=Zad;change ∃v,_;generalize upd H1 l1 (.lst [.ref t1])=H2 at s2 g2⊢;refine⟨_,rfl,_,rfl,l1,_,rfl,SqL.of g2,fun l2 fl2=> ?_⟩;rw[ZmT _ (by omega)]
  have ck:CpL H1 (if e-p.2.1=0 then [] else [V.ref t1]) ((Zfd p e).map pV):=by
   unfold Zfd;by_cases z:e-p.2.1=0
   ·rw[if_pos z,if_pos z];exact CpL.nil _
   ·rw[if_neg z,if_neg z,←hlw];exact(CpL.nil H1).snoc g1
  generalize hK:(if e-p.2.1=0 then [] else [V.ref t1])=ys at ck⊢;have kl:ys.length≤1:=by rw[←hK];split<;>simp
  have s3:=Zak.nw (o:=.lst ys) (Zak.refl H2) fl2;have g3:(upd H2 l2 (.lst ys)) l2=some (.lst ys):=Zad;generalize upd H2 l2 (.lst ys)=H3 at s3 g3⊢;have s13:=s2.trans s3;have s03:=s1.trans s13;refine⟨_,rfl,_,rfl,_,rfl,_,rfl,pa,ya,rfl,SqL.of (s03 _ _ h.ha),fun d1 fd1=> ?_⟩;rw[Zft ya (by omega)];have s4:=Zak.nw (o:=.lst (ya.take j)) (Zak.refl H3) fd1;have g4:(upd H3 d1 (.lst (ya.take j))) d1=some (.lst (ya.take j)):=Zad;change ∃v,_;generalize upd H3 d1 (.lst (ya.take j))=H4 at s4 g4⊢;refine⟨_,rfl,d1,l2,_,_,rfl,rfl,g4,s4 _ _ g3,ZdE (by rw[Qav];omega),fun d2 fd2=> ?_⟩;have s5:=Zak.nw (o:=.lst (ya.take j++ys)) (Zak.refl H4) fd2;have g5:(upd H4 d2 (.lst (ya.take j++ys))) d2=some (.lst (ya.take j++ys)):=Zad;change ∃v,_;generalize upd H4 d2 (.lst (ya.take j++ys))=H5 at s5 g5⊢;have s05:=s03.trans (s4.trans s5);refine⟨_,rfl,_,rfl,_,_,rfl,rfl,_,rfl,pa,ya,rfl,SqL.of (s05 _ _ h.ha),fun d3 fd3=> ?_⟩;rw[show Ze9 ya (some ((j:Int)+1)) none=ya.drop (j+1) from ZcZ (k:=j+1) ya (by omega)];have s6:=Zak.nw (o:=.lst (ya.drop (j+1))) (Zak.refl H5) fd3;have g6:(upd H5 d3 (.lst (ya.drop (j+1)))) d3=some (.lst (ya.drop (j+1))):=Zad;generalize upd H5 d3 (.lst (ya.drop (j+1)))=H6 at s6 g6⊢;refine⟨d2,d3,_,_,rfl,rfl,s6 _ _ g5,g6,ZdE (by rw[Qae,Qav,QaW];omega),fun d4 fd4=> ?_⟩;have s7:=Zak.nw (o:=.lst (ya.take j++ys++ya.drop (j+1))) (Zak.refl H6) fd4;have g7:(upd H6 d4 (.lst (ya.take j++ys++ya.drop (j+1)))) d4=some (.lst (ya.take j++ys++ya.drop (j+1))):=Zad;change ∃v,_;generalize upd H6 d4 (.lst (ya.take j++ys++ya.drop (j+1)))=H7 at s7 g7⊢;have s07:=s05.trans (s6.trans s7);refine⟨_,rfl,_,rfl,_,rfl,_,rfl,q,pb,yb,n,L,p,e,wd,rfl,s07 _ _ hq,s07 _ _ h.hb,h.wb.up s07.tups,⟨ok.nrm,ok.len,ok.sum,ok.n1,ok.w1,ok.w2,ok.wid,ok.num,ok.pr,c1,e2,e3,e1⟩,fun w zw R H8 f8 h8 g8 ic rl s8=> ?_⟩;refine⟨(by show 3≤sizeLine;decide),fun c fc=> ?_⟩;have s9:=Zak.nw (o:=.tup [.int e,.ref d4,.ref w]) (Zak.refl H8) fc;have g9:(upd H8 c (.tup [.int e,.ref d4,.ref w])) c=some (.tup [.int e,.ref d4,.ref w]):=Zad;generalize upd H8 c (.tup [.int e,.ref d4,.ref w])=H9 at s9 g9⊢;have s79:=s8.trans s9;have s09:=s07.trans s79;have s19:=((s13.trans (s4.trans s5)).trans (s6.trans s7)).trans s79
  have cc:CpL H9 (ya.take j++ys++ya.drop (j+1)) ((ZdL ps j p e).map pV):=by
   unfold ZdL;rw[Qaw,Qaw,Qc1,Qc2];exact(((h.ca.up s09.tups).take j).append (ck.up s19.tups)).append ((h.ca.up s09.tups).drop (j+1))
  exact k R c d4 w _ zw H9 ic rl s09 ⟨g9,s79 _ _ g7,cc,s9 _ _ h8,g8.up s9.tups⟩
 cases hb:p.2.2.2 with
 |false=>exact fin p.1 (by rw[hb];rfl)
 |true=>
  exact Zc7 ⟨_,rfl,_,rfl,q,_,_,_,rfl,rfl,SqT.of hq,rfl,_,_,rfl,rfl,_,rfl,_,_,rfl,rfl,fin _ (by rw[hb,if_pos rfl])⟩
theorem ZjM (h:ZaU H a pa pb n ps L ya yb)(hl:ps.length≤400)(ok:ZnA n ps L j p wd)
  (k1:(¬(e<n∧Zez n ps j p e=true))→∀H',Zak H H'→Q .non H')
  (k2:e<n→Zez n ps j p e=true→∀(R:WL2) (c pa' pb':Addr) (ya' yb':List V) (H':Hp),IsC L p e wd R→R.length≤17→Zak H H'→ZaU H' c pa' pb' e (ZdL ps j p e) R ya' yb'→Q (.ref c) H'):
  Zqn K {nx:=Z,rt:=Q } [some (.ref a),some (.int (j:Int)),some (.int e),none,none,none,none,none,none,none,none] H:=by
 obtain⟨q1,y1,f1⟩:=h.at ok.at';have jl:j<ya.length:=(Qaf.mp y1).1;have yl:=h.len;refine⟨_,rfl,a,_,rfl,SqT.of h.h,rfl,_,_,rfl,_,_,rfl,_,_,rfl,rfl,?_⟩;refine⟨_,rfl,_,rfl,pa,_,_,_,rfl,rfl,SqL.of h.ha,Zcb y1,?_⟩;refine⟨_,rfl,_,rfl,_,rfl,pa,ya,rfl,SqL.of h.ha,fun d1 fd1=> ?_⟩;rw[Zft ya (by omega)];have s1:=Zak.nw (o:=.lst (ya.take j)) (Zak.refl H) fd1;have g1:(upd H d1 (.lst (ya.take j))) d1=some (.lst (ya.take j)):=Zad;change ∃v,_;generalize upd H d1 (.lst (ya.take j))=H1 at s1 g1⊢;refine⟨_,rfl,_,rfl,_,_,rfl,rfl,_,rfl,pa,ya,rfl,SqL.of (s1 _ _ h.ha),fun d2 fd2=> ?_⟩;rw[show Ze9 ya (some ((j:Int)+1)) none=ya.drop (j+1) from ZcZ (k:=j+1) ya (by omega)];have s2:=Zak.nw (o:=.lst (ya.drop (j+1))) (Zak.refl H1) fd2;have g2:(upd H1 d2 (.lst (ya.drop (j+1)))) d2=some (.lst (ya.drop (j+1))):=Zad;generalize upd H1 d2 (.lst (ya.drop (j+1)))=H2 at s2 g2⊢;refine⟨d1,d2,_,_,rfl,rfl,s2 _ _ g1,g2,ZdE (by rw[Qav,QaW];omega),fun d3 fd3=> ?_⟩;have s3:=Zak.nw (o:=.lst (ya.take j++ya.drop (j+1))) (Zak.refl H2) fd3;have g3:(upd H2 d3 (.lst (ya.take j++ya.drop (j+1)))) d3=some (.lst (ya.take j++ya.drop (j+1))):=Zad;generalize upd H2 d3 (.lst (ya.take j++ya.drop (j+1)))=H3 at s3 g3⊢;have s03:=s1.trans (s2.trans s3);have f3:=s03 _ _ f1;refine⟨_,rfl,q1,p,rfl,f3,_,rfl,?_⟩
 have no:¬(mlB p=true∧p.2.1+p.2.2.1=n∧p.2.1≤e∧e<n∧ZhW (ps.take j++ps.drop (j+1)) e=true)→∀{H2:Hp},Zak H H2→Q .non H2:=fun z H2 s=>k1 (fun w=>z (by
  have w2:=w.2
  unfold Zez at w2
  rw[QaY,QaY,QaY] at w2
  exact⟨w2.1,Qao w2.2.1,Qao w2.2.2.1,w.1,w2.2.2.2⟩)) H2 s
 dsimp only
 cases c1:mlB p with
 |false=>exact Zc7 (Zc7 (no (fun z=>by rw[c1] at z;cases z.1) s03))
 |true=>
  refine Zcu ⟨_,rfl,q1,p,rfl,f3,_,rfl,rfl,_,rfl,?_⟩;rw[ZnC];by_cases c2:p.2.1+p.2.2.1=n
  rotate_left
  ·rw[QaN c2];exact Zc7 (Zc7 (no (fun z=>c2 z.2.1) s03))
  rw[Qar c2];refine Zcu ⟨_,rfl,q1,_,_,_,rfl,rfl,SqT.of f3,rfl,_,rfl,_,_,rfl,rfl,_,rfl,?_⟩;by_cases c3:p.2.1≤e
  rotate_left
  ·rw[QaN c3];exact Zcu ⟨_,rfl,Zc7 (no (fun z=>c3 z.2.2.1) s03)⟩
  rw[Qar c3];refine Zc7 ⟨_,rfl,_,_,rfl,rfl,_,rfl,?_⟩;by_cases c4:e<n
  rotate_left
  ·rw[QaN c4];exact Zc7 (no (fun z=>c4 z.2.2.2.1) s03)
  rw[Qar c4];refine Zcu ?_;have h3:=h.up s03
  have cr:CpL H3 (ya.take j++ya.drop (j+1)) ((ps.take j++ps.drop (j+1)).map pV):=by
   rw[Qaw,Qc1,Qc2];exact(h3.ca.take j).append (h3.ca.drop (j+1))
  unfold Zbv ZaP ZcP Zgl tB;dsimp only;refine Zha (K:=K) (i:=7) (j:=2) (ps:=ps.take j++ps.drop (j+1)) (e:=e) rfl rfl g3 cr (by rw[Qae,Qav,QaW];omega) fun H4 s4=>⟨_,rfl,?_⟩;have s04:=s03.trans s4
  cases c5:ZhW (ps.take j++ps.drop (j+1)) e with
  |false=>exact Zc7 (no (fun z=>by rw[c5] at z;cases z.2.2.2.2) s04)
  |true=>
   have cb:Zez n ps j p e=true:=by unfold Zez;rw[c1,Qar c2,Qar c3,c5];rfl
   exact Zcu (ZlD (K:=K) (h.up s04) hl ok (s4 _ _ f3) c4 cb fun R c pa' pb' ya' yb' H' ic rl s h'=>k2 c4 cb R c pa' pb' ya' yb' H' ic rl (s04.trans s) h')
theorem ZjN (h:ZaU H a pa pb n ps L ya yb)(hl:ps.length≤400)(ok:ZnA n ps L j p wd)
  (k1:(¬(e<n∧Zez n ps j p e=true))→∀H',Zak H H'→Q .non H')
  (k2:e<n→Zez n ps j p e=true→∀(R:WL2) (c a' pa' pb' pc':Addr) (ya' yb':List V) (H':Hp),IsC L p e wd R→R.length≤17→Zak H H'→ZbM H' c a' pa' pb' pc' (e,ZdL ps j p e,R,[]) ya' yb' []→Q (.ref c) H'):
  Zqo K {nx:=Z,rt:=Q } [some (.ref a),some (.int (j:Int)),some (.int e),none] H:=by
 refine⟨_,rfl,_,rfl,_,rfl,a,pa,pb,n,ps,L,ya,yb,j,e,p,wd,rfl,h,hl,ok,fun no H1 s1=> ?_,fun e1 cb R c pa' pb' ya' yb' H1 ic rl s1 h1=> ?_⟩
 ·exact⟨_,rfl,_,rfl,Zc7 (k1 no H1 s1)⟩
 ·refine⟨_,rfl,_,rfl,Zcu ?_⟩;refine⟨_,rfl,(by show 0≤sizeLine;decide),fun l fl=> ?_⟩;have s2:=Zak.nw (o:=.lst []) (Zak.refl H1) fl;have g2:(upd H1 l (.lst [])) l=some (.lst []):=Zad;generalize upd H1 l (.lst [])=H2 at s2 g2⊢;refine⟨(by show 2≤sizeLine;decide),fun c2 fc2=> ?_⟩;have s3:=Zak.nw (o:=.tup [.ref c,.ref l]) (Zak.refl H2) fc2;have g3:(upd H2 c2 (.tup [.ref c,.ref l])) c2=some (.tup [.ref c,.ref l]):=Zad;generalize upd H2 c2 (.tup [.ref c,.ref l])=H3 at s3 g3⊢;exact k2 e1 cb R c2 c pa' pb' l ya' yb' H3 ic rl (s1.trans (s2.trans s3)) ⟨g3,h1.up (s2.trans s3),s3 _ _ g2,SrL.nil _⟩
end
end
section
variable {K:PySem.W.Frag}
theorem ZmU {r:Int}(h0:0≤r)(h1:r<4):∃z:Int,atI [V.int 1,V.int 1,V.int 2,V.int 9] r=some (.int z)∧1≤z∧z≤9:=by
 have hc:r=0∨r=1∨r=2∨r=3:=by omega
 rcases hc with rfl|rfl|rfl|rfl
 ·exact⟨1,rfl,by decide,by decide⟩
 ·exact⟨1,rfl,by decide,by decide⟩
 ·exact⟨2,rfl,by decide,by decide⟩
 ·exact⟨9,rfl,by decide,by decide⟩
theorem Zom (hn:1<n)(h1:1≤z):(if(n-1)/z>1 then(n-1)/z else 1)≤n-1∧1≤(if(n-1)/z>1 then(n-1)/z else 1):=by
 have hd:(n-1)/z≤n-1:=by
  have a:=Int.ediv_mul_le (n-1) (b:=z) (by omega);have b:=Qd8 (a:=n-1) (b:=z) (by omega) (by omega);have c:(n-1)/z*1≤(n-1)/z*z:=Qb6 h1 b;omega
 by_cases c:(n-1)/z>1
 ·rw[if_pos c];omega
 ·rw[if_neg c];omega
theorem Zhh (n1:1<n)(b0:0≤b)(k:∀(q:Addr) (p:PR) (H':Hp),Zak H H'→H q=none→H' q=some (.tup (pV p))→Zht n p→Q (.ref q) H'):Zok K {nx:=Z,rt:=Q } [some (.int n),some (.int b),none,none] H:=by
 obtain⟨z,az,z1,z2⟩:=ZmU (QaT (b/5) (by decide:(4:Int)≠0)) (QaU (b/5) (by decide:(0:Int)<4));obtain⟨d1,d2⟩:=Zom n1 z1;refine⟨_,rfl,_,rfl,_,_,rfl,rfl,(by show 4≤sizeLine;decide),fun l fl=> ?_⟩;have s1:=Zak.nw (o:=.lst [V.int 1,V.int 1,V.int 2,V.int 9]) (Zak.refl H) fl;have g1:(upd H l (.lst [V.int 1,V.int 1,V.int 2,V.int 9])) l=some (.lst [V.int 1,V.int 1,V.int 2,V.int 9]):=Zad;change ∃v,_;generalize upd H l (.lst [V.int 1,V.int 1,V.int 2,V.int 9])=H1 at s1 g1⊢;refine⟨_,rfl,_,_,rfl,rfl,Zg6 (by decide) (by decide),_,_,rfl,rfl,(by show(0:Int)<4;decide),l,_,_,_,rfl,rfl,SqL.of g1,az,_,_,rfl,rfl,Zg6 (by omega) (Qdo z2 (by decide)),_,_,rfl,_,_,rfl,rfl,by show 0<(if(n-1)/z>1 then(n-1)/z else 1);omega,_,_,rfl,rfl,?_⟩;generalize(if(n-1)/z>1 then(n-1)/z else 1)=m at d1 d2⊢;have r0:=QaT b (show m≠0 by omega);have r1:=QaU b (show 0<m by omega);show Zan 2 (.int (1+b%m)) _ _ _;generalize b%m=r at r0 r1⊢;refine⟨_,rfl,_,_,rfl,rfl,Zg6 (by decide) (by decide),_,rfl,_,rfl,_,_,rfl,rfl,_,_,rfl,rfl,by show 0<n-(1+r);omega,?_⟩;show Zan 3 (.int (b/7%(n-(1+r)))) _ _ _;have q0:=QaT (b/7) (show n-(1+r)≠0 by omega);have q1:=QaU (b/7) (show 0<n-(1+r) by omega);generalize b/7%(n-(1+r))=lw at q0 q1⊢;refine⟨_,rfl,_,_,rfl,rfl,Zg6 (by decide) (by decide),_,_,rfl,rfl,(by show(0:Int)<2;decide),rfl,_,rfl,Zda (fun _=> ?_) (fun _=> ?_)⟩
 ·refine⟨_,rfl,_,rfl,_,rfl,_,_,rfl,rfl,_,rfl,(by show 4≤sizeLine;decide),fun q fq=> ?_⟩;exact k q (lw,n-(1+r),1+r,false) _ (s1.nw fq) (s1.free fq) Zad ⟨q0,by show lw≤n-(1+r);omega,by show 1≤1+r;omega,by show n-(1+r)+(1+r)≤n;omega⟩
 ·refine⟨_,rfl,_,rfl,_,_,rfl,rfl,Zg6 (by decide) (by decide),_,_,rfl,?_⟩;show Zan 2 (.int (mn (1+r) (n/2))) _ _ _;have m1:=ZfP (1+r) (n/2);have m2:1≤mn (1+r) (n/2):=by unfold mn;split<;>omega
  have m3:2*(n/2)≤n:=by omega
  generalize mn (1+r) (n/2)=m at m1 m2⊢;refine⟨_,rfl,_,rfl,_,rfl,_,_,rfl,rfl,?_⟩;refine⟨.inl ⟨by decide,by decide⟩,_,_,rfl,rfl,_,_,rfl,_,rfl,_,rfl,_,_,rfl,rfl,_,rfl,(by show 4≤sizeLine;decide),fun q fq=> ?_⟩;have w1:=ZfP lw (n-2*m);have w2:0≤mn lw (n-2*m):=by unfold mn;split<;>omega
  exact k q (mn lw (n-2*m),n-m,m,true) _ (s1.nw fq) (s1.free fq) Zad ⟨w2,by show mn lw (n-2*m)≤n-m;omega,m2,by show n-m+m≤n;omega⟩
theorem Zh8 {yc:List V}(n1:1<n)(b0:0≤b)(hq:H q=some (.tup (pV p)))(pk:Zht n p)(hc:H c=some (.lst yc))(cc:CpL H yc (ps.map pV))(hl:ps.length≤90)(k:∀(l:Addr) (es:List Int) (H':Hp),Zak H H'→H l=none→H' l=some (.lst (es.map V.int))→es.length≤10→(∀x∈es,0≤x)→Q (.ref l) H'):ZpF K {nx:=Z,rt:=Q } [some (.int n),some (.ref q),some (.ref c),some (.int b),none] H:=by
 obtain⟨p0,p1,p2,p3⟩:=pk;have yl:yc.length=ps.length:=by rw[cc.1,Qac]
 refine⟨_,rfl,q,_,_,_,rfl,rfl,SqT.of hq,rfl,(by show 1≤sizeLine;decide),fun l1 f1=> ?_⟩;have s1:=Zak.nw (o:=.lst [.int p.2.1]) (Zak.refl H) f1;have g1:(upd H l1 (.lst [.int p.2.1])) l1=some (.lst [.int p.2.1]):=Zad;change ∃v,_;generalize upd H l1 (.lst [.int p.2.1])=H1 at s1 g1⊢;have cc1:=cc.up s1.tups;refine⟨_,rfl,c,rfl,⟨_,SqL.of (s1 _ _ hc)⟩,ZgC (K:=K) (a:=c) (xs:=yc) (fun i ys H'=>ys=((ps.take i).map fun p=>p.2.1+p.2.2.1).map V.int∧H1=H') ⟨rfl,rfl⟩ (by omega) (fun n ys H' h=>by rw[h.1,Qac,Qac,Qav];exact QbP _ _) (fun n ys H' _ h=>by rw[←h.2];exact SqL.of (s1 _ _ hc)) ?_ ?_⟩
 ·rintro i x ys H' pre hpl hx ⟨rfl,rfl⟩;obtain⟨q,p,ep,rfl,hq⟩:=cc1.at' hx;rcases pre with _|⟨q0,_|⟨q1,pre⟩⟩
  ·cases hpl
  ·refine⟨⟨[some _],rfl,rfl⟩,?_⟩;unfold Ze3;dsimp only;rw[if_pos (rfl:true=true)];refine⟨_,rfl,q,p,rfl,hq,?_,rfl⟩;rw[ZaJ ep,Qaw,Qaw];rfl
  ·cases hpl
 ·rintro ys H' ⟨rfl,rfl⟩ D2 hD2;have e3:(ps.take yc.length)=ps:=by rw[yl,QaO]
  rw[e3];have s3:=Zak.nw (o:=.lst ((ps.map fun p=>p.2.1+p.2.2.1).map V.int)) (Zak.refl H1) hD2;have f3:(upd H1 D2 (.lst ((ps.map fun p=>p.2.1+p.2.2.1).map V.int))) D2=some (.lst ((ps.map fun p=>p.2.1+p.2.2.1).map V.int)):=Zad;generalize upd H1 D2 (.lst ((ps.map fun p=>p.2.1+p.2.2.1).map V.int))=H3 at s3 f3⊢;refine⟨l1,D2,_,_,rfl,rfl,s3 _ _ g1,f3,ZdE (by rw[Qac,Qac];show 1+ps.length≤1000;omega),fun p3 e4=> ?_⟩;have s4:=Zak.nw (o:=.lst ([V.int p.2.1]++(ps.map fun p=>p.2.1+p.2.2.1).map V.int)) (Zak.refl H3) e4;have f4:(upd H3 p3 (.lst ([V.int p.2.1]++(ps.map fun p=>p.2.1+p.2.2.1).map V.int))) p3=some (.lst ([V.int p.2.1]++(ps.map fun p=>p.2.1+p.2.2.1).map V.int)):=Zad;generalize upd H3 p3 (.lst ([V.int p.2.1]++(ps.map fun p=>p.2.1+p.2.2.1).map V.int))=H4 at s4 f4⊢;refine⟨p3,p.2.1::(ps.map fun p:PR=>p.2.1+p.2.2.1),rfl,SqL.of f4,(by intro z;cases z),fun lt _ lmax=> ?_⟩;have l0:p.2.1≤lt:=lmax _ Qad;have s04:=s1.trans (s3.trans s4);have hq4:=s04 _ _ hq;refine⟨_,rfl,q,_,_,_,rfl,rfl,SqT.of hq4,rfl,_,rfl,_,rfl,_,rfl,_,_,rfl,rfl,_,_,rfl,_,rfl,_,_,rfl,rfl,_,_,rfl,_,rfl,q,_,_,_,rfl,rfl,SqT.of hq4,rfl,_,rfl,_,rfl,q,_,_,_,rfl,rfl,SqT.of hq4,rfl,_,_,rfl,rfl,_,_,rfl,rfl,by show 0<p.2.2.1+1;omega,_,_,rfl,rfl,_,rfl,_,_,rfl,rfl,Zg6 (by decide) (by decide),_,rfl,_,_,rfl,rfl,_,_,rfl,rfl,by show 0<n+1;omega,(by show 6≤sizeLine;decide),fun l fl=> ?_⟩;have m1:0≤mn n (lt+1):=by unfold mn;split<;>omega
  have m2:0≤(if lt-1>0 then lt-1 else 0):=by split<;>omega
  have m3:=QaT b (show p.2.2.1+1≠0 by omega);have m4:=QaT (b/3) (show n+1≠0 by omega);refine k l [p.2.1,lt,mn n (lt+1),if lt-1>0 then lt-1 else 0,p.2.1+b%(p.2.2.1+1),b/3%(n+1)] _ (s04.nw fl) (s04.free fl) Zad (by show 6≤10;decide) ?_;intro x hx;simp only[Qas,QaZ,Qca] at hx;rcases hx with rfl|rfl|rfl|rfl|rfl|rfl
  ·omega
  ·omega
  ·exact m1
  ·exact m2
  ·omega
  ·exact m4
end
section
variable {K:PySem.W.Frag}
theorem Zqq (w:WOk n L)(n1:n<10^60)(ha:ps[j]?=some p)(pk:Zht n p):∃wd,ZnA n ps L j p wd:=by
 have nL:=ZmL w;have lL:=w.ook.1;obtain⟨wd,P,rfl,l,w1,w2,h,tP⟩:=w;exact⟨wd,nL,lL,by rw[Zkq fun e he=>(h e he).1];exact tP,n1,w1,w2,Zcj (p:=fun ws=>ws.length=wd) fun e he=>(h e he).2.1,Zcj (p:=fun ws=>Zl2 ws) fun e he=>(h e he).2.2,pk,ha⟩
theorem ZlE (ps:List PR)(j:Nat)(p:PR)(e:Int):(ZdL ps j p e).length≤ps.length+1:=by
 have kl:(Zfd p e).length≤1:=by unfold Zfd;split<;>simp
 unfold ZdL;rw[Qae,Qae,Qav,QaW];omega
theorem ZmV {σ:L2.St}{m:Nat}{ya yb:List V}{k:Nat}(hi:σ[i]?=some (some (.ref a)))(hj:σ[j]?=some (some (.int (k:Int))))(hm:σ[m]?=some (some (.int e)))(h:ZaU H a pa pb n ps L ya yb)(hl:ps.length≤90)(n1:n<10^60)(w:WOk n L)(e0:0≤e)(ha:ps[k]?=some p)(pk:Zht n p)(kk:∀H',Zak H H'→Q (.bl true) H'):
  (ZaF (Zev K ZjI) [] E0 (Zaa (Zah i) (Zaa (ZdM (Zaa (tC (V.str "cut")) (Zaa (Zah j) (Zaa (Zah m) Zau)))) (Zaa (ZaF Zi1 [] E0 (Zaa (Zah i) (Zaa (Zah j) (Zaa (Zah m) Zau)))) Zau)))) σ H Q:=by
 obtain⟨wd,ok⟩:=Zqq w n1 ha pk;refine⟨_,hi,_,hj,_,hm,(by show 3≤sizeLine;decide),fun q hq=> ?_⟩;have s1:=Zak.nw (o:=.tup [.str "cut",.int (k:Int),.int e]) (Zak.refl H) hq;have f1:(upd H q (.tup [.str "cut",.int (k:Int),.int e])) q=some (.tup [.str "cut",.int (k:Int),.int e]):=Zad;generalize upd H q (.tup [.str "cut",.int (k:Int),.int e])=H1 at s1 f1⊢;have h1:=h.up s1;refine⟨_,hi,_,hj,_,hm,a,pa,pb,n,ps,L,ya,yb,k,e,p,wd,rfl,h1,by omega,ok,fun no H2 s2=> ?_,fun e1 cb R c a' pa' pb' pc' ya' yb' H2 ic rl s2 t=> ?_⟩
 ·refine⟨a,pa,pb,.ref q,n,ps,L,ya,yb,.non,none,rfl,h1.up s2,by omega,⟨q,k,e,p,wd,rfl,s2 _ _ f1,ok,fun hr=>⟨fun _=>rfl,fun cb=>absurd ⟨hr.2,cb⟩ no⟩,fun _=>rfl⟩,(fun _=>rfl),(fun out e=>by cases e),fun H' s=>kk _ (s1.trans (s2.trans s))⟩
 ·have cl:=ZlE ps k p e;refine⟨a,pa,pb,.ref q,n,ps,L,ya,yb,.ref c,some (e,ZdL ps k p e,R,[]),rfl,h1.up s2,by omega,⟨q,k,e,p,wd,rfl,s2 _ _ f1,ok,fun hr=>⟨fun z=>(by rw[cb] at z;cases z),fun _ R' ic'=>by rw[ic.uni ic']⟩,fun z=>absurd ⟨e0,e1⟩ z⟩,(fun e=>by cases e),(fun out' eo=>by cases eo;exact⟨⟨by show(ZdL ps k p e).length≤100;omega,rl,fun d hd=>QaD (Nat.le_of_eq (ic.wid d hd)) ok.w2,QaV _,fun d hd=>by cases hd⟩,c,a',pa',pb',pc',ya',yb',[],rfl,t⟩),fun H' s=>kk _ (s1.trans (s2.trans s))⟩
theorem ZjO {x0 x1 x3 x4 x5 x8 x12:Option V}{m:Addr}{yc ya yb:List V}{k:Nat}(h:ZaU H m pa pb n ps L ya yb)(hl:ps.length≤90)(n2:1<n)(n1:n<10^60)(b0:0≤b)(w:WOk n L)(hq:H q=some (.tup (pV p)))(hc:H c=some (.lst yc))(cc:CpL H yc (po.map pV))(pl:po.length≤90)(ha:ps[k]?=some p)(pk:Zht n p)
  (kk:∀(x12:Option V) H',Zak H H'→D.nx [x0,x1,some (.int n),x3,x4,x5,some (.int b),some (.ref q),x8,some (.ref c),some (.int (k:Int)),some (.ref m),x12] H'):
  ZpG K D [x0,x1,some (.int n),x3,x4,x5,some (.int b),some (.ref q),x8,some (.ref c),some (.int (k:Int)),some (.ref m),x12] H:=by
 refine⟨_,rfl,_,rfl,_,rfl,_,rfl,_,_,rfl,rfl,Zg6 (by decide) (by decide),n,b/17,q,c,p,yc,po,rfl,n2,Qd8 b0 (by decide),hq,pk,hc,cc,pl,fun sl es H9 s9 _ f9 el ge=> ?_⟩;refine⟨sl,rfl,⟨_,SqL.of f9⟩,Zbx (K:=K) (a:=sl) (xs:=es.map V.int) (fun z σ H'=>∃(x12:Option V),σ=[x0,x1,some (.int n),x3,x4,x5,some (.int b),some (.ref q),x8,some (.ref c),some (.int (k:Int)),some (.ref m),x12]∧Zak H9 H') ⟨_,rfl,Zak.refl _⟩ (fun i σ H' _ z=>by obtain⟨_,_,z⟩:=z;exact SqL.of (z _ _ f9)) ?_ ?_⟩
 ·rintro z u σ HA hu ⟨x12,rfl,sA⟩;rw[Qaq] at hu
  cases ez:es[z]? with
  |none=>rw[ez] at hu;cases hu
  |some e=>
   rw[ez] at hu;cases hu;exact ZmV (K:=K) (i:=11) (j:=10) (m:=12) (e:=e) (σ:=[x0,x1,some (.int n),x3,x4,x5,some (.int b),some (.ref q),x8,some (.ref c),some (.int (k:Int)),some (.ref m),some (.int e)]) rfl rfl rfl (h.up (s9.trans sA)) hl n1 w (ge e (Qau ez)) ha pk fun H8 s8=>⟨_,rfl,Zcu ⟨_,rfl,sA.trans s8⟩⟩
 ·rintro σ HA ⟨x12,rfl,sA⟩;exact kk _ HA (s9.trans sA)
theorem Zfy {x0 x1 x3 x5 x8 x10 x11 x12:Option V}{yc yb:List V}(n2:1<n)(n1:n<10^60)(b0:0≤b)(w:WOk n L)(hq:H q=some (.tup (pV p)))(hc:H c=some (.lst yc))(cc:CpL H yc (po.map pV))(pl:po.length≤62)(pk:Zht n p)(hb:H pb=some (.lst yb))(wb:Wg H yb L)
  (kk:∀(x10 x11 x12:Option V) H',Zak H H'→D.nx [x0,x1,some (.int n),x3,some (.ref pb),x5,some (.int b),some (.ref q),x8,some (.ref c),x10,x11,x12] H'):
  ZpH K D [x0,x1,some (.int n),x3,some (.ref pb),x5,some (.int b),some (.ref q),x8,some (.ref c),x10,x11,x12] H:=by
 have yl:yc.length=po.length:=by rw[cc.1,Qac]
 have a0:=QaT b (show(yc.length:Int)+1≠0 by omega);have a1:=QaU b (show 0<(yc.length:Int)+1 by omega);refine⟨_,rfl,_,rfl,c,yc,rfl,.inl (SqL.of hc),_,_,rfl,rfl,_,_,rfl,rfl,(by show 0<(yc.length:Int)+1;omega),?_⟩;show Zan 10 (.int (b%((yc.length:Int)+1))) _ _ _;obtain⟨sp,esp⟩:=QdK a0;rw[esp] at a1⊢;have spl:sp≤yc.length:=by omega
 refine⟨_,rfl,_,rfl,_,rfl,(sp:Int),rfl,c,yc,rfl,SqL.of hc,fun p1 h1=> ?_⟩;rw[Zft yc spl];have s1:=Zak.nw (o:=.lst (yc.take sp)) (Zak.refl H) h1;have f1:(upd H p1 (.lst (yc.take sp))) p1=some (.lst (yc.take sp)):=Zad;change ∃v,_;generalize upd H p1 (.lst (yc.take sp))=H1 at s1 f1⊢;refine⟨_,rfl,(by show 1≤sizeLine;decide),fun p2 h2=> ?_⟩;have s3:=Zak.nw (o:=.lst [.ref q]) (Zak.refl H1) h2;have f3:(upd H1 p2 (.lst [.ref q])) p2=some (.lst [.ref q]):=Zad;generalize upd H1 p2 (.lst [.ref q])=H3 at s3 f3⊢;refine⟨p1,p2,_,_,rfl,rfl,s3 _ _ f1,f3,ZdE (by rw[Qav];show min sp yc.length+1≤1000;omega),fun p3 h3=> ?_⟩;have s4:=Zak.nw (o:=.lst (yc.take sp++ [.ref q])) (Zak.refl H3) h3;have f4:(upd H3 p3 (.lst (yc.take sp++ [.ref q]))) p3=some (.lst (yc.take sp++ [.ref q])):=Zad;change ∃v,_;generalize upd H3 p3 (.lst (yc.take sp++ [.ref q]))=H4 at s4 f4⊢;have s04:=s1.trans (s3.trans s4);refine⟨_,rfl,_,rfl,(sp:Int),rfl,c,yc,rfl,SqL.of (s04 _ _ hc),fun p4 h4=> ?_⟩;rw[ZcZ yc spl];have s5:=Zak.nw (o:=.lst (yc.drop sp)) (Zak.refl H4) h4;have f5:(upd H4 p4 (.lst (yc.drop sp))) p4=some (.lst (yc.drop sp)):=Zad;generalize upd H4 p4 (.lst (yc.drop sp))=H5 at s5 f5⊢;refine⟨p3,p4,_,_,rfl,rfl,s5 _ _ f4,f5,ZdE (by rw[Qae,Qav,QaW];show min sp yc.length+1+(yc.length-sp)≤1000;omega),fun p5 h5=> ?_⟩;have s6:=Zak.nw (o:=.lst (yc.take sp++ [.ref q]++yc.drop sp)) (Zak.refl H5) h5;have f6:(upd H5 p5 (.lst (yc.take sp++ [.ref q]++yc.drop sp))) p5=some (.lst (yc.take sp++ [.ref q]++yc.drop sp)):=Zad;change ∃v,_;generalize upd H5 p5 (.lst (yc.take sp++ [.ref q]++yc.drop sp))=H6 at s6 f6⊢;have s06:=s04.trans (s5.trans s6);refine⟨_,rfl,(by show 3≤sizeLine;decide),fun m hm=> ?_⟩;have s7:=Zak.nw (o:=.tup [.int n,.ref p5,.ref pb]) (Zak.refl H6) hm;have f7:(upd H6 m (.tup [.int n,.ref p5,.ref pb])) m=some (.tup [.int n,.ref p5,.ref pb]):=Zad;generalize upd H6 m (.tup [.int n,.ref p5,.ref pb])=H7 at s7 f7⊢;have s07:=s06.trans s7;have cc7:=cc.up s07.tups
 have hm7:ZaU H7 m p5 pb n (po.take sp++ [p]++po.drop sp) L (yc.take sp++ [.ref q]++yc.drop sp) yb:=by
  refine⟨f7,s7 _ _ f6,?_,s07 _ _ hb,wb.up s07.tups⟩;rw[Qaw,Qaw,Qc1,Qc2];exact((cc7.take sp).snoc (s07 _ _ hq)).append (cc7.drop sp)
 have pl2:(po.take sp++ [p]++po.drop sp).length=po.length+1:=by
  rw[Qae,Qae,Qav,QaW,Qa3];omega
 have at':(po.take sp++ [p]++po.drop sp)[sp]?=some p:=by
  rw[Qa2,QaF (by rw[Qav];omega),Qav,show sp-min sp po.length=0 by omega];rfl
 exact ZjO (K:=K) hm7 (by omega) n2 n1 b0 w (s07 _ _ hq) (s07 _ _ hc) cc7 (by omega) at' pk fun x12 H' s=>kk _ _ x12 H' (s07.trans s)
theorem Zh9 {sc:Addr}{ns:List Int}(hS:SqL K H sc (ns.map V.int))(k:∀H',Q (.bl true) H'):
  ZpI K {nx:=Z,rt:=Q } [some (.ref sc),none,none,none,none,none,none,none,none,none,none,none,none] H:=by
 refine⟨_,rfl,sc,ns,1,rfl,hS,fun c pa pb n ps L ya yb H1 s1 e1 e2 e3 ne h ok=> ?_⟩;refine⟨_,rfl,c,_,rfl,SqT.of h.h,rfl,_,_,rfl,_,_,rfl,_,_,rfl,rfl,?_⟩;have yl:=h.len;have l62:=ok.len;refine⟨_,rfl,_,_,rfl,rfl,.inr ⟨_,rfl,_,_,rfl,rfl,.inl ⟨by decide,by decide⟩,?_⟩⟩
 have rb:0≤8*(if decide (1<n)=true then(1:Int) else 0)∧8*(if decide (1<n)=true then(1:Int) else 0)≤8∧(0<8*(if decide (1<n)=true then(1:Int) else 0)→1<n):=by
  by_cases hn:1<n
  ·rw[Qar hn,if_pos rfl];exact⟨by decide,by decide,fun _=>hn⟩
  ·rw[QaN hn,if_neg (by decide)];exact⟨by decide,by decide,fun z=>absurd z (by decide)⟩
 refine⟨_,rfl,by have:=rb.1;omega,by have:=rb.2.1;omega,?_⟩;generalize 8*(if decide (1<n)=true then(1:Int) else 0)=M at rb⊢;obtain⟨M0,M1,M2⟩:=rb;refine ZcQ (n:=M.toNat) (fun j σ H'=>∃(x5 x6 x7 x8 x9 x10 x11 x12:Option V),σ=[some (.ref sc),some (.ref c),some (.int n),some (.ref pa),some (.ref pb),x5,x6,x7,x8,x9,x10,x11,x12]∧Zak H1 H') ⟨_,_,_,_,_,_,_,_,rfl,Zak.refl _⟩ ?_ ?_
 ·rintro j σ H2 hj ⟨x5,x6,x7,x8,x9,x10,x11,x12,rfl,s2⟩;have n2:1<n:=M2 (by omega);have ec:(41:Int)+(0+(j:Int))=((41+j:Nat):Int):=by omega
  refine⟨_,rfl,_,rfl,_,_,rfl,rfl,sc,ns,41+j,?_,(s1.trans s2).seq hS,fun b hb=> ?_⟩
  ·show [V.ref sc,V.int ((41:Int)+(0+(j:Int)))]=_;rw[ec]
  refine⟨_,rfl,_,rfl,n,b,rfl,n2,hb,fun q p H3 s3 fq hq pk=> ?_⟩;have pk':=pk;obtain⟨p0,p1,p2,p3⟩:=pk';have h3:=h.up (s2.trans s3);refine⟨_,rfl,q,_,_,_,rfl,rfl,SqT.of hq,rfl,_,rfl,_,_,rfl,rfl,Zg6 (by decide) (by decide),_,rfl,q,_,_,_,rfl,rfl,SqT.of hq,rfl,_,_,rfl,rfl,_,_,rfl,rfl,by show 0<p.2.2.1+1;omega,_,_,rfl,rfl,?_⟩;refine⟨_,rfl,pa,rfl,⟨_,SqL.of h3.ha⟩,ZgC (K:=K) (a:=pa) (xs:=ya) (fun i ys H'=>(∃ps':List PR,CpL H3 ys (ps'.map pV)∧ys.length≤i)∧H3=H') ⟨⟨[],CpL.nil _,Qal _⟩,rfl⟩ (by omega) (fun n ys H' h=>by obtain⟨⟨_,_,z⟩,_⟩:=h;exact z) (fun n ys H' _ h=>by rw[←h.2];exact SqL.of h3.ha) ?_ ?_⟩
  ·rintro i x ys H' pre hpl hx ⟨⟨ps',cp,lp⟩,rfl⟩;obtain⟨q,p,ep,rfl,hq⟩:=h3.ca.at' hx;rcases pre with _|⟨q0,_|⟨q1,pre⟩⟩
   ·cases hpl
   ·refine⟨⟨[some _],rfl,rfl⟩,?_⟩;refine⟨_,rfl,q,p,rfl,hq,_,rfl,_,_,rfl,rfl,_,rfl,?_⟩;refine Zda (fun _=>⟨_,rfl,⟨ps'++ [p],?_,?_⟩,rfl⟩) (fun _=>⟨⟨ps',cp,by omega⟩,rfl⟩)
    ·rw[Qaw];exact cp.snoc hq
    ·rw[Qae,Qa3];omega
   ·cases hpl
  ·rintro ys H' ⟨⟨ps',cp,lp⟩,rfl⟩ D2 hD2;have s4:=Zak.nw (o:=.lst ys) (Zak.refl H3) hD2;have f4:(upd H3 D2 (.lst ys)) D2=some (.lst ys):=Zad;generalize upd H3 D2 (.lst ys)=H4 at s4 f4⊢;have s24:=s3.trans s4;have h4:=h3.up s4;have hq4:=s4 _ _ hq;refine⟨_,rfl,rfl,_,rfl,Zda (fun _=> ?_) (fun _=> ?_)⟩
   ·refine⟨_,rfl,?_⟩;exact Zfy (K:=K) (c:=pa) n2 ok.n1 hb ok.w hq4 h4.ha h4.ca (by omega) pk h4.hb h4.wb fun x10 x11 x12 H' s=>⟨_,_,_,_,_,x10,x11,x12,rfl,s2.trans (s24.trans s)⟩
   ·have pl:ps'.length≤62:=by have:=cp.1;rw[Qac] at this;omega
    exact Zfy (K:=K) (c:=D2) n2 ok.n1 hb ok.w hq4 f4 (cp.up s4.tups) pl pk h4.hb h4.wb fun x10 x11 x12 H' s=>⟨_,_,_,_,_,x10,x11,x12,rfl,s2.trans (s24.trans s)⟩
 ·rintro σ H2 ⟨x5,x6,x7,x8,x9,x10,x11,x12,rfl,s2⟩;exact k _
end
end L2
namespace Toy
open PySem L2 PyProof.Rows
variable {f qc qe qb qo qg qh qi qf c_NoName aF aD aS g1 g2 g3 g4 g5 g6 d1 d2 d3 d4 d6 d5:Addr}{fd:FuncData}{mg:Str→Option Value}{w:World}{P:Program}{base:Heap}{ms u:List Int}{j i:Nat}{H H':Hp}{A M:Wl}{p m x y c z:Int}{o:HO}{l:PySem.W.OpenLaw}
def top (i:Nat):Stmt:=PySem.Challenge.pw_farcords_k29_cut.main.body.getD i (.Pass ⟨0,0,0,0⟩)
structure Kn (P:Program)(w:World)(K:PySem.W.Frag)(mg:Str→Option Value)(base:Heap)(x:Str)(k:Nat)(ps:List Str)(sp:Sp):Prop where
 ex:∃(f:Addr) (fd:FuncData),ZbW P w K mg base CX0 k f fd ps sp∧mg x=some (.ref f)∧PySem.W.keepIn K (.ref f)=true∧ZfH K fd ps []
theorem Zai {X:Cx}{x:Str}{k:Nat}{ps:List Str}{sp:Sp}{e:Expr}{es:List Expr}{t:TA}{p pos:PySem.Pos}(G:Kn X.prog X.w X.K X.mg X.base x k ps sp)(hr:Zef j X.A)(hg:Gl X x)(ha:PA X (e::es) t)(hle:k≤j:=by decide)
  (hdb:(x==("__debug__" :Str))=false:=by decide)
  (he:starEach (e::es) X.env=(false,eval e X.env)::starEach es X.env:=by rfl) (hpl:(backTo pos (starEach es X.env)).any (·.1)=false:=by rfl):PE X (.Call (.Name x p) (e::es) [] pos) (ZaF sp [] E0 t):=by
 obtain⟨f,fd,F,hm,hk,hb⟩:=G.ex;exact ZnL F (hr.mono hle) hg hm hk hb .nil Zp3 ha hdb he hpl
structure Txt (mg:Str→Option Value):Prop where
 len:mg "len" =none
 range:mg "range" =none
 min:mg "min" =none
 max:mg "max" =none
 isinstance:mg "isinstance" =none
 bool:mg "bool" =none
 int:mg "int" =none
 tuple:mg "tuple" =none
 list:mg "list" =none
 str:mg "str" =none
 all:mg "all" =none
 sum:mg "sum" =none
 sorted:mg "sorted" =none
theorem Zak.new {p:Addr}(a:Zak H H')(h:H' p=none):Zak H (L2.upd H' p o):=fun c u e=>by
 have:=a c u e;rw[Zax (Zav this h)];exact this
structure Gb (mg:Str→Option Value):Prop where
 ab:mg "abs" =none
 zp:mg "zip" =none
 dm:mg "divmod" =none
 ve:mg "ValueError" =none
 st:mg "set" =none
structure Exs (K:PySem.W.Frag)(mg:Str→Option Value)(qc qe qb qo qg qh qi qf c_NoName:Addr):Prop where
 m_CordError:mg "CordError" =some (.ref qc)
 m_TooMany:mg "TooMany" =some (.ref qe)
 m_NoDeed:mg "NoDeed" =some (.ref qb)
 m_NoRow:mg "NoRow" =some (.ref qo)
 m_NoCord:mg "NoCord" =some (.ref qg)
 m_NoTurn:mg "NoTurn" =some (.ref qh)
 m_NoText:mg "NoText" =some (.ref qi)
 m_NoSheet:mg "NoSheet" =some (.ref qf)
 m_NoName:mg "NoName" =some (.ref c_NoName)
 x_CordError:Zdy K qc
 x_TooMany:Zdy K qe
 x_NoDeed:Zdy K qb
 x_NoRow:Zdy K qo
 x_NoCord:Zdy K qg
 x_NoTurn:Zdy K qh
 x_NoText:Zdy K qi
 x_NoSheet:Zdy K qf
 x_NoName:Zdy K c_NoName
 e_NoDeed:PySem.W.excIn K qb bmV "ValueError.__new__" =true
 v_NoDeed:PySem.W.subIn K (.ref qb) (.type "ValueError")=some true
 s_NoDeed_CordError:PySem.W.subIn K (.ref qb) (.ref qc)=some true
 s_NoDeed_TooMany:PySem.W.subIn K (.ref qb) (.ref qe)=some false
 s_NoDeed_NoDeed:PySem.W.subIn K (.ref qb) (.ref qb)=some true
 s_NoDeed_NoRow:PySem.W.subIn K (.ref qb) (.ref qo)=some false
 s_NoDeed_NoCord:PySem.W.subIn K (.ref qb) (.ref qg)=some false
 s_NoDeed_NoTurn:PySem.W.subIn K (.ref qb) (.ref qh)=some false
 s_NoDeed_NoText:PySem.W.subIn K (.ref qb) (.ref qi)=some false
 s_NoDeed_NoSheet:PySem.W.subIn K (.ref qb) (.ref qf)=some false
 s_NoDeed_NoName:PySem.W.subIn K (.ref qb) (.ref c_NoName)=some false
structure Nms (w:World)(K:PySem.W.Frag)(mg:Str→Option Value)(aF aD aS g1 g2 g3 g4 g5 g6 d1 d2 d3 d4 d5 d6:Addr):Prop where
 mF:mg "FORMS" =some (.ref aF)
 mD:mg "DEEDS" =some (.ref aD)
 mS:mg "SIDES" =some (.ref aS)
 kF:ZkV w K aF [("gone",g1),("folded",g2),("joined",g3),("carried",g4),("cut",g5),("free",g6)]
 kD:ZkV w K aD [("gone",d1),("folded",d2),("joined",d3),("carried",d4),("cut",d5),("free",d6)]
 tS:∀H,SqT K H aS [.str "low",.str "high"]
 t1:∀H,SqT K H g1 [.str "pairing"]
 t2:∀H,SqT K H g2 [.str "pairing"]
 t3:∀H,SqT K H g3 [.str "pairing",.str "pairing"]
 t4:∀H,SqT K H g4 [.str "pairing",.str "pairing",.str "side"]
 t5:∀H,SqT K H g5 [.str "pairing",.str "place"]
 t6:∀H,SqT K H g6 [.str "place"]
structure KnF (P:Program)(w:World)(K:PySem.W.Frag)(mg:Str→Option Value)(base:Heap)(f:Addr)(k:Nat)(ps:List Str)(sp:Sp):Prop where
 ex:∃(fd:FuncData),ZbW P w K mg base (CXE P w) k f fd ps sp∧PySem.W.keepIn K (.ref f)=true∧ZfH K fd ps []
theorem Zak.own {p:Addr}(a:Zak H H')(h:H p=none):Zak H (L2.upd H' p o):=fun c u e=>by
 rw[Zax (Zav e h)];exact a c u e
section
variable {K:PySem.W.Frag}
abbrev ZcA:Stmt:=top 11
theorem Zia:ZaC ["thing"] ["thing"] (Zag ZcA):=⟨rfl,rfl,rfl,by decide +kernel,rfl,by decide +kernel,by decide +kernel⟩
theorem ZmW (F:Fun K "is_whole" "is_whole" ZcA f fd)(M:Txt mg):ZbW P w K mg base CX0 1 f fd ["thing"] ZjE:=by
 have sc:=Zia;refine F.ok sc (fun vs H Q E h=> ?_) (fun cdv A outer s H vs Q E hr h=> ?_)
 ·obtain⟨i,rfl,_⟩:=h;rfl
 ·obtain⟨i,rfl,k⟩:=h;refine⟨_,(Zaj (ZaD (Zc2 (Zap (ZaT (T:= "int") (K:=K)) (by rfl) M.isinstance QaP (Zab (pv 0) (Zab (ZbX (v:=.ty "int") rfl M.int boot_int rfl) Zac))) (Zc8 (Zir (Zap (ZaT (T:= "bool") (K:=K)) (by rfl) M.isinstance QaP (Zab (pv 0) (Zab (ZbX (v:=.ty "bool") rfl M.bool boot_bool rfl) Zac)))))))),?_⟩;exact Zg0 (K:=K) k
abbrev Zbh:Stmt:=top 12
theorem Zej:ZaC ["thing", "least"] ["thing", "least"] (Zag Zbh):=⟨rfl,rfl,rfl,by decide +kernel,rfl,by decide +kernel,by decide +kernel⟩
theorem Zon (F:Fun K "is_whole_from" "is_whole_from" Zbh f fd)(M:Txt mg)(ji:Kn P w K mg base "is_whole" 1 ["thing"] ZjE):ZbW P w K mg base CX0 2 f fd ["thing", "least"] Zf0:=by
 have sc:=Zej;refine F.ok sc (fun vs H Q E h=> ?_) (fun cdv A outer s H vs Q E hr h=> ?_)
 ·obtain⟨i,l,rfl,_⟩:=h;rfl
 ·obtain⟨i,l,rfl,k⟩:=h;refine⟨_,(Zaj (ZaD (Zc2 (Zai ji hr rfl (Zab (pv 0) Zac)) (Zc8 (ZbO Zkc (pv 0) (pv 1) (ZaH _)))))),?_⟩;exact ZhT k
abbrev Zdn:Stmt:=top 50
theorem ZlF:ZaC ["is_deed"] ["is_deed"] (Zag Zdn):=⟨rfl,rfl,rfl,by decide +kernel,rfl,by decide +kernel,by decide +kernel⟩
theorem ZlG (F:Fun K "demand" "demand" Zdn f fd)(M:Txt mg)(Z:Exs K mg qc qe qb qo qg qh qi qf c_NoName):ZbW P w K mg base (CXE P w) 1 f fd ["is_deed"] (Zdk qb):=by
 have sc:=ZlF;refine F.okX sc (fun vs H Q E h=> ?_) (fun cdv A outer s H vs Q E hd0 hr h=> ?_)
 ·obtain⟨b,rfl,_⟩:=h;rfl
 ·obtain⟨b,rfl,k1,k2⟩:=h;refine⟨_,(Zaj (Zbj (PT.nox (Zcs (Zb9 (pv 0)))) (Zaj (Zmu Z.e_NoDeed hd0 Z.m_NoDeed Ziq rfl)) ZaO)),?_⟩;exact ZgX k1 k2
abbrev ZcB:Stmt:=top 51
theorem Zib:ZaC ["pairings", "k", "coming"] ["pairings", "k", "coming"] (Zag ZcB):=⟨rfl,rfl,rfl,by decide +kernel,rfl,by decide +kernel,by decide +kernel⟩
theorem Zic (F:Fun K "replaced" "replaced" ZcB f fd)(M:Txt mg):ZbW P w K mg base CX0 1 f fd ["pairings", "k", "coming"] Zdl:=by
 have sc:=Zib;refine F.ok sc (fun vs H Q E h=> ?_) (fun cdv A outer s H vs Q E hr h=> ?_)
 ·obtain⟨a,c,k,xs,zs,rfl,_⟩:=h;rfl
 ·obtain⟨a,c,k,xs,zs,rfl,h1,h2,h3,h4,h5,kk⟩:=h;refine⟨_,(Zaj (ZaD (Zam Zb5 (Zam Zb5 (Zbl Zcv (pv 0) Zb0 (ZbP (pv 1))) (pv 2)) (Zbl Zcv (pv 0) (ZbP (Zam ZaG (pv 1) Zaf)) Zb0)))),?_⟩;exact Zfb (K:=K) h1 h2 h3 h4 h5 kk
abbrev Zfz:Stmt:=top 60
theorem Zoo:ZaC ["thing", "kind", "hall", "bound"] ["thing", "kind", "hall"] (Zag Zfz):=⟨rfl,rfl,rfl,by decide +kernel,rfl,by decide +kernel,by decide +kernel⟩
theorem Zop (F:Fun K "fits" "fits" Zfz f fd)(M:Txt mg)(qH:Kn P w K mg base "is_whole_from" 2 ["thing", "least"] Zf0)(N:Nms w K mg aF aD aS g1 g2 g3 g4 g5 g6 d1 d2 d3 d4 d5 d6):ZbW P w K mg base CX0 3 f fd ["thing", "kind", "hall"] Zk9:=by
 have sc:=Zoo;refine F.ok sc (fun vs H Q E h=> ?_) (fun cdv A outer s H vs Q E hr h=> ?_)
 ·obtain⟨i,kd,a,pa,pb,n,ps,L,ya,yb,rfl,_⟩:=h;rfl
 ·obtain⟨i,kd,a,pa,pb,n,ps,L,ya,yb,rfl,h,hk,k⟩:=h
  refine⟨_,(Zae (Zbj (ZaI Zdv (pv 1) Ziq (ZaH _)) (Zaj (ZaD (Zc2 (Zap (ZaT (T:= "str") (K:=K)) (by rfl) M.isinstance QaP (Zab (pv 0) (Zab (ZbX (v:=.ty "str") rfl M.str boot_str rfl) Zac))) (Zc8 (ZbO (Zpo (K:=K)) (pv 0) (ZcX (v:=.ref _) rfl N.mS rfl) rfl))))) ZaO)
   (Zae (Zar (i:=3) sc.nd rfl (Or.inl rfl) (Zeo (ZaI Zdv (pv 1) Ziq (ZaH _)) (ZaA (Zao (K:=K)) (pv 2) Zaf (fun _ _=>rfl)) (Zap (ZbS (K:=K)) (by rfl) M.len QbF (Zaz (ZaA (Zao (K:=K)) (pv 2) Zaf (fun _ _=>rfl)) Zac))))
   (Zaj (ZaD (Zc2 (Zai qH hr rfl (Zab (pv 0) (Zas Zaf Zac))) (Zc8 (ZbO ZdO (pv 0) (pv 3) (ZaH _)))))))),?_⟩
  exact ZjA (K:=K) (aS:=aS) h hk k
abbrev Zb2:Stmt:=top 61
theorem Zhi:ZaC ["hall", "deed", "form"] ["hall", "deed"] (Zag Zb2):=⟨rfl,rfl,rfl,by decide +kernel,rfl,by decide +kernel,by decide +kernel⟩
theorem ZlH (F:Fun K "is_formed" "is_formed" Zb2 f fd)(M:Txt mg)(Gfits:Kn P w K mg base "fits" 3 ["thing", "kind", "hall"] Zk9)(N:Nms w K mg aF aD aS g1 g2 g3 g4 g5 g6 d1 d2 d3 d4 d5 d6)(B:Gb mg):ZbW P w K mg base CX0 4 f fd ["hall", "deed"] (Zf1 K [("gone",g1),("folded",g2),("joined",g3),("carried",g4),("cut",g5),("free",g6)]):=by
 have sc:=Zhi;refine F.ok sc (fun vs H Q E h=> ?_) (fun cdv A outer s H vs Q E hr h=> ?_)
 ·obtain⟨a,pa,pb,q,g,n,ps,L,ya,yb,wo,is,kds,rfl,_⟩:=h;rfl
 ·obtain⟨a,pa,pb,q,g,n,ps,L,ya,yb,wo,is,kds,rfl,h,hq,hv,hg,hl,h1,h3,hk,k⟩:=h
  refine⟨_,(Zae (Zbj (PW.pt (ZdF (Zcs (Zb9 (Zap (ZaT (T:= "tuple") (K:=K)) (by rfl) M.isinstance QaP (Zab (pv 1) (Zab (ZbX (v:=.ty "tuple") rfl M.tuple Qch rfl) Zac))))) (ZdF (Zcs (ZfF (pv 1) (fun _=>rfl))) (ZdF (Zcs (Zb9 (Zap (ZaT (T:= "str") (K:=K)) (by rfl) M.isinstance QaP (Zaz (ZaA (Zao (K:=K)) (pv 1) Zaf (fun _ _=>rfl)) (Zab (ZbX (v:=.ty "str") rfl M.str boot_str rfl) Zac))))) (Zeb (Zj3 (ZkZ N.kF rfl N.mF (ZaA (Zao (K:=K)) (pv 1) Zaf (fun _ _=>rfl))))))))) (Zaj (ZaD ZdN)) ZaO)
   (Zae (Zar (i:=2) sc.nd rfl (Or.inl rfl) (ZkX N.kF rfl N.mF (ZaA (Zao (K:=K)) (pv 1) Zaf (fun _ _=>rfl)) (fun _ _=>rfl)) ZdS)
   (Zae (Zbj (ZaI Zkb (Zap (ZbS (K:=K)) (by rfl) M.len QbF (Zab (pv 1) Zac)) (Zam ZaG Zaf (Zap (ZbS (K:=K)) (by rfl) M.len QbF (Zab (pv 2) Zac))) (ZaH _)) (Zaj (ZaD ZdN)) ZaO)
   (Zaj (ZaD (Zap (Zer rfl) (by rfl) M.all boot_all (ZaQ (Zbg (xs:=["thing", "kind"]) (Nb:=["hall", "deed", "form"]) rfl (ZfS rfl B.zp (Zaz (Zbl (ZfY (K:=K)) (pv 1) (ZbP Zaf) Zb0) (Zab (pv 2) Zac))) rfl (by show∀p∈(List.zip ["hall", "deed", "form"] ["hall", "deed", "form"]:List (Str×Str)),_;decide +kernel) (by decide +kernel) (fun cl C s₂ H₂ fp=>(ZeE (K:=K) (n:=2) rfl (Zaq (Zal (i:=0) (by show List.Nodup (["thing", "kind", "hall", "deed", "form"]:List Str);decide +kernel) rfl (Or.inl (Qai rfl)) (Or.inr (Qai rfl))) (Zaq (Zal (i:=1) (by show List.Nodup (["thing", "kind", "hall", "deed", "form"]:List Str);decide +kernel) rfl (Or.inl (Qai rfl)) (Or.inr (Qai rfl))) Za2)))) (fun cl C s₂ H₂ fp=>Zcw) (fun cl C s₂ H₂ fp=>(Zai Gfits hr rfl (Zab (pv 0) (Zab (pv 1) (Zab (pv 2) Zac))))) (by decide +kernel) rfl (by decide +kernel) (by show∀y∈(_:List (Str×NameKind)),y.2=NameKind.free→(Zag Zb2).names.lookup y.1=some .cell;decide +kernel)) Zac))))))),?_⟩
  exact ZgY (K:=K) h hq hv hg hl h1 h3 hk k
abbrev Zdo:Stmt:=top 15
theorem ZlI:ZaC ["pairing"] ["pairing"] (Zag Zdo):=⟨rfl,rfl,rfl,by decide +kernel,rfl,by decide +kernel,by decide +kernel⟩
theorem ZmX (F:Fun K "end_of" "end_of" Zdo f fd)(M:Txt mg):ZbW P w K mg base CX0 1 f fd ["pairing"] ZbQ:=by
 have sc:=ZlI;refine F.ok sc (fun vs H Q E h=> ?_) (fun cdv A outer s H vs Q E hr h=> ?_)
 ·obtain⟨q,p,rfl,_⟩:=h;rfl
 ·obtain⟨q,p,rfl,h1,k⟩:=h;refine⟨_,(Zaj (ZaD (Zam ZaG (ZaA (Zao (K:=K)) (pv 0) Zaf (fun _ _=>rfl)) (ZaA (Zao (K:=K)) (pv 0) Zaf (fun _ _=>rfl))))),?_⟩;exact ZeQ (K:=K) h1 k
abbrev ZcC:Stmt:=top 16
theorem Zid:ZaC ["pairing"] ["pairing"] (Zag ZcC):=⟨rfl,rfl,rfl,by decide +kernel,rfl,by decide +kernel,by decide +kernel⟩
theorem ZjP (F:Fun K "shift_of" "shift_of" ZcC f fd)(M:Txt mg):ZbW P w K mg base CX0 1 f fd ["pairing"] ZeR:=by
 have sc:=Zid;refine F.ok sc (fun vs H Q E h=> ?_) (fun cdv A outer s H vs Q E hr h=> ?_)
 ·obtain⟨q,p,rfl,_⟩:=h;rfl
 ·obtain⟨q,p,rfl,h1,k⟩:=h;refine⟨_,(Zaj (ZaD (Zam ZaR (ZaA (Zao (K:=K)) (pv 0) Zaf (fun _ _=>rfl)) (ZaA (Zao (K:=K)) (pv 0) Zaf (fun _ _=>rfl))))),?_⟩;exact Zf4 (K:=K) h1 k
abbrev Zdp:Stmt:=top 14
theorem ZlJ:ZaC ["one", "other", "long", "turned"] ["one", "other", "long", "turned"] (Zag Zdp):=⟨rfl,rfl,rfl,by decide +kernel,rfl,by decide +kernel,by decide +kernel⟩
theorem ZlK (F:Fun K "paired" "paired" Zdp f fd)(M:Txt mg):ZbW P w K mg base CX0 1 f fd ["one", "other", "long", "turned"] Zhc:=by
 have sc:=ZlJ;refine F.ok sc (fun vs H Q E h=> ?_) (fun cdv A outer s H vs Q E hr h=> ?_)
 ·obtain⟨i,j,l,t,rfl,_⟩:=h;rfl
 ·obtain⟨i,j,l,t,rfl,k⟩:=h;refine⟨_,(Zaj (ZaD (Zba (Zdx (Zap (Zbz rfl) (by rfl) M.min QcG (Zab (pv 0) (Zab (pv 1) Zac))) (Zap (Zca rfl) (by rfl) M.max Qc3 (Zab (pv 0) (Zab (pv 1) Zac))) (pv 2) (pv 3) Zac)))),?_⟩;refine⟨_,rfl,_,rfl,_,_,rfl,_,rfl,_,rfl,_,_,rfl,_,rfl,_,rfl,(by show 4≤sizeLine;decide),fun p hp=>k p hp⟩
abbrev Zd6:Stmt:=top 19
theorem ZmY:ZaC ["pairing", "skip", "many", "low", "high", "long", "turned", "ahead"] ["pairing", "skip", "many"] (Zag Zd6):=⟨rfl,rfl,rfl,by decide +kernel,rfl,by decide +kernel,by decide +kernel⟩
theorem ZmZ (F:Fun K "short" "short" Zd6 f fd)(M:Txt mg)(Gpaired:Kn P w K mg base "paired" 1 ["one", "other", "long", "turned"] Zhc):ZbW P w K mg base CX0 2 f fd ["pairing", "skip", "many"] Zey:=by
 have sc:=ZmY;refine F.ok sc (fun vs H Q E h=> ?_) (fun cdv A outer s H vs Q E hr h=> ?_)
 ·obtain⟨p,low,high,long,t,u,m,rfl,_⟩:=h;rfl
 ·obtain⟨p,low,high,long,t,u,m,rfl,hp,k⟩:=h
  refine⟨_,(Zae (Zc3 (pv 0) (ZbR rfl (Zaq (Zal (i:=3) sc.nd rfl (Or.inl rfl)) (Zaq (Zal (i:=4) sc.nd rfl (Or.inl rfl)) (Zaq (Zal (i:=5) sc.nd rfl (Or.inl rfl)) (Zaq (Zal (i:=6) sc.nd rfl (Or.inl rfl)) Za2))))))
   (Zae (Zar (i:=7) sc.nd rfl (Or.inl rfl) (Zeo (Zb9 (pv 6)) (Zam ZaR (Zam ZaR (pv 5) (pv 1)) (pv 2)) (pv 1)))
   (Zaj (ZaD (Zai Gpaired hr rfl (ZaL (Zam ZaG (pv 3) (pv 1)) (ZaL (Zam ZaG (pv 4) (pv 7)) (Zab (pv 2) (Zab (pv 6) Zac))))))))),?_⟩
  refine⟨_,rfl,p,_,rfl,SqT.of hp,rfl,_,_,rfl,_,_,rfl,_,_,rfl,_,_,rfl,rfl,?_⟩;refine⟨_,rfl,_,rfl,?_⟩
  cases t with
  |true=>
   refine Zc7 ?_;refine⟨_,rfl,_,rfl,_,_,rfl,rfl,_,rfl,_,_,rfl,rfl,?_⟩;exact⟨_,rfl,_,rfl,_,_,rfl,rfl,_,rfl,_,rfl,_,_,rfl,rfl,_,rfl,_,rfl,_,_,_,_,rfl,k⟩
  |false=>
   refine Zcu ?_;refine⟨_,rfl,?_⟩;exact⟨_,rfl,_,rfl,_,_,rfl,rfl,_,rfl,_,rfl,_,_,rfl,rfl,_,rfl,_,rfl,_,_,_,_,rfl,k⟩
abbrev Zdq:Stmt:=top 22
theorem ZlL:ZaC ["pieces", "runs", "many", "weights"] ["pieces"] (Zag Zdq):=⟨rfl,rfl,rfl,by decide +kernel,rfl,by decide +kernel,by decide +kernel⟩
theorem ZlM (F:Fun K "shaped" "shaped" Zdq f fd)(M:Txt mg):ZbW P w K mg base CX0 1 f fd ["pieces"] (Zdm K):=by
 have sc:=ZlL;refine F.ok sc (fun vs H Q E h=> ?_) (fun cdv A outer s H vs Q E hr h=> ?_)
 ·obtain⟨a,xs,L,rfl,_⟩:=h;rfl
 ·obtain⟨a,xs,L,rfl,h1,h2,h3,h4,k⟩:=h
  refine⟨_,(Zae (Zar (i:=1) sc.nd rfl (Or.inl rfl) (ZaS Zac))
   (Zae (ZbK QaQ rfl (ZaZ (pv 0)) (ZbR rfl (Zaq (Zal (i:=2) sc.nd rfl (Or.inl rfl)) (Zaq (Zal (i:=3) sc.nd rfl (Or.inl rfl)) Za2)))
   (Zae (Zbj (ZaI Zdv (pv 2) Zaf (ZaH _)) (Zaj Zhw) ZaO)
   (Zaj (Zbj (PW.pt (Zgn (ZfF (pv 1) (fun _=>rfl)) (ZfC (ZaI (Zkn hr) (ZaA (Zao (K:=K)) (ZaA (ZaK (K:=K)) (pv 1) (Zdu Zcx Zaf) (fun _ _=>rfl)) Zaf (fun _ _=>rfl)) (pv 3) (ZaH _))))) (Zaj (Zc3 (Zba (Zdd (Zam ZaG (ZaA (Zao (K:=K)) (ZaA (ZaK (K:=K)) (pv 1) (Zdu Zcx Zaf) (fun _ _=>rfl)) Zaf (fun _ _=>rfl)) (pv 2)) (pv 3) Zac)) (Zis (pv 1) (Zdu Zcx Zaf) Zeq))) (Zaj (Zbb (Zc6 QaE QaI QaJ Za6 (pv 1) (ZbG (Zba (Zdd (pv 2) (pv 3) Zac)) Zac))))))))
   (Zaj (ZaD (pv 1))))),?_⟩
  exact Zg7 h1 h2 h3 h4 k
abbrev Zck:Stmt:=top 24
theorem Zhj:ZaC ["weighing", "begin", "stretches", "many", "weights"] ["weighing", "begin"] (Zag Zck):=⟨rfl,rfl,rfl,by decide +kernel,rfl,by decide +kernel,by decide +kernel⟩
theorem Zoq (F:Fun K "laid_from" "laid_from" Zck f fd)(M:Txt mg):ZbW P w K mg base CX0 1 f fd ["weighing", "begin"] (Zg8 K):=by
 have sc:=Zhj;refine F.ok sc (fun vs H Q E h=> ?_) (fun cdv A outer s H vs Q E hr h=> ?_)
 ·obtain⟨a,xs,L,bg,rfl,_⟩:=h;rfl
 ·obtain⟨a,xs,L,bg,rfl,h1,h2,h3,k⟩:=h
  refine⟨_,(Zae (Zar (i:=2) sc.nd rfl (Or.inl rfl) (ZaS Zac))
   (Zae (ZbK QaQ rfl (ZaZ (pv 0)) (ZbR rfl (Zaq (Zal (i:=3) sc.nd rfl (Or.inl rfl)) (Zaq (Zal (i:=4) sc.nd rfl (Or.inl rfl)) Za2)))
   (Zae (Zbb (Zc6 QaE QaI QaJ Za6 (pv 2) (ZbG (Zba (Zei (pv 1) (Zam ZaG (pv 1) (pv 3)) (pv 4) Zac)) Zac)))
   (Zaj (Zj4 (i:=1) sc.nd rfl (Or.inl rfl) (pv 3) Zj5))))
   (Zaj (ZaD (pv 2))))),?_⟩
  exact ZjG h1 h2 h3 k
abbrev ZfA:Stmt:=top 25
theorem Zor:ZaC ["weighing", "begin", "end", "pieces", "low", "high", "weights"] ["weighing", "begin", "end"] (Zag ZfA):=⟨rfl,rfl,rfl,by decide +kernel,rfl,by decide +kernel,by decide +kernel⟩
theorem Zos (F:Fun K "part" "part" ZfA f fd)(M:Txt mg)(qt:Kn P w K mg base "laid_from" 1 ["weighing", "begin"] (Zg8 K))(qx:Kn P w K mg base "shaped" 1 ["pieces"] (Zdm K)):ZbW P w K mg base CX0 2 f fd ["weighing", "begin", "end"] (Zg9 K):=by
 have sc:=Zor;refine F.ok sc (fun vs H Q E h=> ?_) (fun cdv A outer s H vs Q E hr h=> ?_)
 ·obtain⟨a,xs,L,bg,en,rfl,_⟩:=h;rfl
 ·obtain⟨a,xs,L,bg,en,rfl,h1,h2,h3,h4,h5,k⟩:=h
  refine⟨_,(Zae (Zar (i:=3) sc.nd rfl (Or.inl rfl) (ZaS Zac))
   (Zae (ZbK QaQ rfl (ZaZ (Zai qt hr rfl (Zab (pv 0) (Zas Zaf Zac)))) (ZbR rfl (Zaq (Zal (i:=4) sc.nd rfl (Or.inl rfl)) (Zaq (Zal (i:=5) sc.nd rfl (Or.inl rfl)) (Zaq (Zal (i:=6) sc.nd rfl (Or.inl rfl)) Za2))))
   (Zaj (Zbj (PW.pt (Zgn (ZaI ZdO (pv 4) (pv 2) (ZaH _)) (ZfC (ZaI ZdO (pv 1) (pv 5) (ZaH _))))) (Zaj (Zbb (Zc6 QaE QaI QaJ Za6 (pv 3) (ZbG (Zba (Zdd (Zam ZaR (Zap (Zbz rfl) (by rfl) M.min QcG (Zab (pv 5) (Zab (pv 2) Zac))) (Zap (Zca rfl) (by rfl) M.max Qc3 (Zab (pv 4) (Zab (pv 1) Zac)))) (pv 6) Zac)) Zac)))) ZaO)))
   (Zaj (ZaD (Zai qx hr rfl (Zab (pv 3) Zac)))))),?_⟩
  exact ZjH h1 h2 h3 h4 h5 k
end
section
variable {K:PySem.W.Frag}
abbrev Zc1:Stmt:=top 23
theorem ZlN:ZaC ["weighing"] ["weighing"] (Zag Zc1):=⟨rfl,rfl,rfl,by decide +kernel,rfl,by decide +kernel,by decide +kernel⟩
theorem ZlO (F:Fun K "length" "length" Zc1 f fd)(M:Txt mg):ZbW P w K mg base CX0 1 f fd ["weighing"] (Zhd K):=by
 have sc:=ZlN;refine F.ok sc (fun vs H Q E h=> ?_) (fun cdv A outer s H vs Q E hr h=> ?_)
 ·obtain⟨a,xs,L,rfl,_⟩:=h;rfl
 ·obtain⟨a,xs,L,rfl,hS,g,hL,k⟩:=h;refine⟨_,(Zaj (ZaD (Zap (Zmg rfl) (by rfl) M.sum boot_sum (ZaQ (Zbg (xs:=["many", "weights"]) (Nb:=["weighing"]) rfl (ZaZ (pv 0)) rfl (by show∀p∈(List.zip ["weighing"] ["weighing"]:List (Str×Str)),_;decide +kernel) (by decide +kernel) (fun cl C s₂ H₂ fp=>(ZeE (K:=K) (n:=2) rfl (Zaq (Zal (i:=0) (by show List.Nodup (["many", "weights", "weighing"]:List Str);decide +kernel) rfl (Or.inl (Qai rfl)) (Or.inr (Qai rfl))) (Zaq (Zal (i:=1) (by show List.Nodup (["many", "weights", "weighing"]:List Str);decide +kernel) rfl (Or.inl (Qai rfl)) (Or.inr (Qai rfl))) Za2)))) (fun cl C s₂ H₂ fp=>Zcw) (fun cl C s₂ H₂ fp=>(pv 0)) (by decide +kernel) rfl (by decide +kernel) (by show∀y∈(_:List (Str×NameKind)),y.2=NameKind.free→(Zag Zc1).names.lookup y.1=some .cell;decide +kernel)) Zac)))),?_⟩;refine⟨_,rfl,a,rfl,⟨_,hS⟩,ZgC (K:=K) (a:=a) (xs:=xs) (fun i ys H'=>ys=((L.take i).map (·.1)).map V.int∧H=H') ⟨rfl,rfl⟩ (by rw[g.1];exact hL) (fun i ys H' h=>by rw[h.1,Qac,Qac,Qav];omega) (fun i ys H' _ h=>by rw[←h.2];exact hS) ?_ ?_⟩
  ·rintro i x ys H' pre hp hx ⟨rfl,rfl⟩;obtain⟨e,hei,q,wq,rfl,hq,hw⟩:=g.at' hx;rcases pre with _|⟨p0,_|⟨p1,_|⟨p2,pre⟩⟩⟩
   ·cases hp
   ·cases hp
   ·refine⟨q,_,rfl,SqT.of hq,rfl,_,_,rfl,_,_,rfl,rfl,⟨[some _,some _],rfl,rfl⟩,?_⟩;unfold Ze3;dsimp only;rw[if_pos (rfl:true=true)];refine⟨_,rfl,?_,rfl⟩;rw[ZaJ hei];simp
   ·cases hp
  ·rintro ys H' ⟨rfl,rfl⟩ D hD;refine⟨D,_,rfl,SqL.of Zad,?_⟩;have e:L.take xs.length=L:=by rw[g.1];exact QaO
   rw[e];exact k _ (Zak.new (Zak.refl _) hD)
end
section
variable {K:PySem.W.Frag}
def Zi6:Sp:=fun vs H Q _=>∃(p q:Addr) (us ws:List Int),vs=[.ref p,.ref q]∧H p=some (.tup (us.map V.int))∧H q=some (.tup (ws.map V.int))∧us.length≤100∧us.length=ws.length∧∀(r:Addr) (H':Hp),H r=none→H' r=some (.tup ((plusW us ws).map V.int))→Zak H H'→Q (.ref r) H'
abbrev Za4:Stmt:=top 27
theorem Zd7:ZaC ["one", "other"] ["one", "other"] (Zag Za4):=⟨rfl,rfl,rfl,by decide +kernel,rfl,by decide +kernel,by decide +kernel⟩
theorem ZpL (F:Fun K "sum_of_weights" "sum_of_weights" Za4 f fd)(M:Txt mg)(B:Gb mg):ZbW P w K mg base CX0 1 f fd ["one", "other"] Zi6:=by
 have sc:=Zd7;refine F.ok sc (fun vs H Q E h=> ?_) (fun cdv A outer s H vs Q E hr h=> ?_)
 ·obtain⟨p,q,us,ws,rfl,_⟩:=h;rfl
 ·obtain⟨p,q,us,ws,rfl,hp,hq,hl,he,k⟩:=h;refine⟨_,(Zaj (ZaD (Zbf ZbD (by rfl) M.tuple Qch (ZaQ (Zbg (xs:=["weight", "more"]) (Nb:=["one", "other"]) rfl (ZfS rfl B.zp (Zab (pv 0) (Zab (pv 1) Zac))) rfl (by show∀p∈(List.zip ["one", "other"] ["one", "other"]:List (Str×Str)),_;decide +kernel) (by decide +kernel) (fun cl C s₂ H₂ fp=>(ZeE (K:=K) (n:=2) rfl (Zaq (Zal (i:=0) (by show List.Nodup (["weight", "more", "one", "other"]:List Str);decide +kernel) rfl (Or.inl (Qai rfl)) (Or.inr (Qai rfl))) (Zaq (Zal (i:=1) (by show List.Nodup (["weight", "more", "one", "other"]:List Str);decide +kernel) rfl (Or.inl (Qai rfl)) (Or.inr (Qai rfl))) Za2)))) (fun cl C s₂ H₂ fp=>Zcw) (fun cl C s₂ H₂ fp=>(Zam ZaG (pv 0) (pv 1))) (by decide +kernel) rfl (by decide +kernel) (by show∀y∈(_:List (Str×NameKind)),y.2=NameKind.free→(Zag Za4).names.lookup y.1=some .cell;decide +kernel)) Zac)))),?_⟩;refine⟨_,rfl,_,rfl,p,q,rfl,⟨_,SqT.of hp⟩,⟨_,SqT.of hq⟩,ZiF (K:=K) (a:=p) (b:=q) (xs:=us.map V.int) (ys:=ws.map V.int) (n:=us.length) (fun i zs H'=>zs=((plusW us ws).take i).map V.int∧Zak H H') ⟨rfl,Zak.refl H⟩ (by rw[Qac,Qac,←he,QcL]) (by omega) (fun i zs H' h=>by rw[h.1,Qac,Qav];omega) (fun i zs H' _ h=>⟨SqT.of (h.2 _ _ hp),SqT.of (h.2 _ _ hq)⟩) ?_ ?_⟩
  ·rintro i x y zs H' pre r qu hx hy ⟨rfl,s1⟩ hr'
   have hx':∃m,us[i]?=some m∧x=V.int m:=by
    rw[Qaq] at hx
    cases zz:us[i]? with
    |none=>rw[zz] at hx;cases hx
    |some m=>rw[zz] at hx;cases hx;exact⟨m,rfl,rfl⟩
   have hy':∃m,ws[i]?=some m∧y=V.int m:=by
    rw[Qaq] at hy
    cases zz:ws[i]? with
    |none=>rw[zz] at hy;cases hy
    |some m=>rw[zz] at hy;cases hy;exact⟨m,rfl,rfl⟩
   obtain⟨m,hm,rfl⟩:=hx';obtain⟨m',hm',rfl⟩:=hy';rcases pre with _|⟨p0,_|⟨p1,_|⟨p2,pre⟩⟩⟩
   ·cases qu
   ·cases qu
   ·refine⟨r,_,rfl,SqT.of Zad,rfl,_,_,rfl,_,_,rfl,rfl,⟨[some _,some _],rfl,rfl⟩,?_⟩;unfold Ze3;dsimp only;rw[if_pos (rfl:true=true)];refine⟨_,rfl,_,rfl,_,_,rfl,rfl,?_,Zak.new s1 hr'⟩;have ez:(plusW us ws)[i]?=some (m+m'):=by unfold plusW;rw[QbS,hm,hm']
    rw[ZaJ ez,Qaw];rfl
   ·cases qu
  ·rintro zs H' ⟨rfl,s1⟩ D hD;have et:(plusW us ws).take us.length=plusW us ws:=Qba (by unfold plusW;rw[Qbt];omega);rw[et];refine⟨D,_,rfl,.inl ⟨SqL.of Zad,fun l hl'=> ?_⟩⟩;have s2:=Zak.new (o:=.lst ((plusW us ws).map V.int)) s1 hD;exact k l _ (Zak.free s2 hl') Zad (Zak.new s2 hl')
end
structure Zqr (A B R:Wl):Prop where
 nrm:Zcd R
 sum:tot R=tot A
 at':∀p,0≤p→p<tot A→atW R p=plusW (atW A p) (atW B p)
 wid:∀n:Nat,(∀e∈A,e.2.length=n)→(∀e∈B,e.2.length=n)→∀e∈R,e.2.length=n
 len:R.length≤A.length+B.length+1
theorem ZnD {e:Int×List Int}(hA:∀e∈A,0≤e.1)(he:A[i]?=some e)(h1:tot (A.take i)≤p)(h2:p<tot (A.take (i+1))):atW A p=e.2:=by
 obtain⟨hi,ee⟩:=Qaf.mp he
 have sp:A=A.take i++e::A.drop (i+1):=by
  conv=>lhs;rw[←QcI i A,Qdt hi,ee]
 rw[Zcq he] at h2;obtain⟨m,u⟩:=e;have h2:p<tot (A.take i)+m:=h2;rw[congrArg (fun z=>atW z p) sp];show atW (A.take i++(m,u)::A.drop (i+1)) p=u;rw[Zce (fun e he=>hA e (Qcj he)) h1,atW_lt (by omega)]
theorem Zot (hM:∀e∈M,0≤e.1)(h1:tot M≤p)(h2:p<tot M+m):atW (M++ [(m,u)]) p=u:=by
 rw[Zce hM h1,atW_lt (by omega)]
def Cur (A:Wl)(i:Nat)(bg:Int):Prop:=(∃e,A[i]?=some e∧tot (A.take i)≤bg∧bg<tot (A.take (i+1)))∨(i=A.length∧bg=tot A)
theorem ZfB (pA:∀e∈A,0<e.1)(h:i≤A.length):Cur A i (tot (A.take i)):=by
 by_cases z:i<A.length
 ·refine .inl ⟨_,Qah z,QaX _,?_⟩;rw[Zcq (Qah z)]
  have:=pA _ (Qcl z);omega
 ·have e:i=A.length:=by omega
  exact .inr ⟨e,by rw[e,QaO]⟩
section
variable {K:PySem.W.Frag}
def ZlP:Sp:=fun vs H Q _=>∃(a b:Addr) (xs ys:List V) (A B:Wl) (wd:Nat),vs=[.ref a,.ref b]∧H a=some (.lst xs)∧H b=some (.lst ys)∧Wg H xs A∧Wg H ys B∧(∀e∈A,0<e.1)∧(∀e∈B,0<e.1)∧tot A=tot B∧A.length≤200∧B.length≤200∧wd≤24∧(∀e∈A,e.2.length=wd)∧(∀e∈B,e.2.length=wd)∧
 ∀(r:Addr) (zs:List V) (R:Wl) (H':Hp),H r=none→H' r=some (.lst zs)→Wg H' zs R→Zqr A B R→Zak H H'→Q (.ref r) H'
abbrev Zd8:Stmt:=top 31
theorem Zm0:ZaC ["one", "other", "stretches", "others", "pieces", "begin", "at", "by", "end"] ["one", "other"] (Zag Zd8):=⟨rfl,rfl,rfl,by decide +kernel,rfl,by decide +kernel,by decide +kernel⟩
theorem Zm1 (F:Fun K "added" "added" Zd8 f fd)(M:Txt mg)(qt:Kn P w K mg base "laid_from" 1 ["weighing", "begin"] (Zg8 K))(qj:Kn P w K mg base "sum_of_weights" 1 ["one", "other"] Zi6)(qx:Kn P w K mg base "shaped" 1 ["pieces"] (Zdm K)):ZbW P w K mg base CX0 2 f fd ["one", "other"] ZlP:=by
 have sc:=Zm0;refine F.ok sc (fun vs H Q E h=> ?_) (fun cdv A' outer s H vs Q E hr h=> ?_)
 ·obtain⟨a,b,xs,ys,A,B,wd,rfl,_⟩:=h;rfl
 ·obtain⟨a,b,xs,ys,A,B,wd,rfl,ha,hb,ga,gb,pA,pB,ht,lA,lB,w24,wA,wB,k⟩:=h
  refine⟨_,(Zae (Zar (i:=2) sc.nd rfl (Or.inl rfl) (Zai qt hr rfl (Zab (pv 0) (Zas Zaf Zac))))
   (Zae (Zar (i:=3) sc.nd rfl (Or.inl rfl) (Zai qt hr rfl (Zab (pv 1) (Zas Zaf Zac))))
   (Zae (Zar (i:=4) sc.nd rfl (Or.inl rfl) (ZaS Zac))
   (Zae (ZnU Zaf (Zal (i:=5) sc.nd rfl (Or.inl rfl)) (Zal (i:=6) sc.nd rfl (Or.inl rfl)) (Zal (i:=7) sc.nd rfl (Or.inl rfl)))
   (Zae (Zl8 QaQ (ZaI ZdO (pv 6) (Zap (ZbS (K:=K)) (by rfl) M.len QbF (Zab (pv 2) Zac)) (ZaH _)) (Zae (Zar (i:=8) sc.nd rfl (Or.inl rfl) (Zap (Zbz rfl) (by rfl) M.min QcG (Zaz (ZaA (Zao (K:=K)) (ZaA (ZaK (K:=K)) (pv 2) (pv 6) (fun _ _=>rfl)) Zaf (fun _ _=>rfl)) (Zaz (ZaA (Zao (K:=K)) (ZaA (ZaK (K:=K)) (pv 3) (pv 7) (fun _ _=>rfl)) Zaf (fun _ _=>rfl)) Zac))))
   (Zae (Zbb (Zc6 QaE QaI QaJ Za6 (pv 4) (ZbG (Zba (Zdd (Zam ZaR (pv 8) (pv 5)) (Zai qj hr rfl (Zaz (ZaA (Zao (K:=K)) (ZaA (ZaK (K:=K)) (pv 2) (pv 6) (fun _ _=>rfl)) Zaf (fun _ _=>rfl)) (Zaz (ZaA (Zao (K:=K)) (ZaA (ZaK (K:=K)) (pv 3) (pv 7) (fun _ _=>rfl)) Zaf (fun _ _=>rfl)) Zac))) Zac)) Zac)))
   (Zae (Zar (i:=5) sc.nd rfl (Or.inl rfl) (pv 8))
   (Zae (Zbj (ZaI Zdv (ZaA (Zao (K:=K)) (ZaA (ZaK (K:=K)) (pv 2) (pv 6) (fun _ _=>rfl)) Zaf (fun _ _=>rfl)) (pv 8) (ZaH _)) (Zaj (Zj4 (i:=6) sc.nd rfl (Or.inl rfl) Zaf Zj5)) ZaO)
   (Zaj (Zbj (ZaI Zdv (ZaA (Zao (K:=K)) (ZaA (ZaK (K:=K)) (pv 3) (pv 7) (fun _ _=>rfl)) Zaf (fun _ _=>rfl)) (pv 8) (ZaH _)) (Zaj (Zj4 (i:=7) sc.nd rfl (Or.inl rfl) Zaf Zj5)) ZaO)))))))
   (Zaj (ZaD (Zai qx hr rfl (Zab (pv 4) Zac))))))))),?_⟩
  have nA:∀e∈A,0≤e.1:=fun e he=>Qa5 (pA e he);have nB:∀e∈B,0≤e.1:=fun e he=>Qa5 (pB e he);refine⟨_,rfl,a,xs,A,0,rfl,SqL.of ha,ga,by omega,fun la za H1 f1 h1 y1 s1=> ?_⟩;refine⟨_,rfl,b,ys,B,0,rfl,SqL.of (s1 _ _ hb),gb.up s1.tups,by omega,fun lb zb H2 f2 h2 y2 s2=> ?_⟩;refine⟨(by show 0≤sizeLine;decide),fun c hc=> ?_⟩;have s3:=Zak.new (o:=.lst []) (Zak.refl H2) hc;have hc3:(upd H2 c (.lst [])) c=some (.lst []):=Zad;generalize upd H2 c (.lst [])=H3 at s3 hc3⊢;have fc:H c=none:=(s1.trans s2).free hc;have hla:=s3 _ _ (s2 _ _ h1);have hlb:=s3 _ _ h2;have ya:=y1.up (s2.trans s3).tups;have yb:=y2.up s3.tups;have s03:=(s1.trans s2).trans s3;have nca:c≠la:=fun z=>by rw[z,s2 _ _ h1] at hc;cases hc
  have ncb:c≠lb:=fun z=>by rw[z,h2] at hc;cases hc
  refine Zmb (fun σ H'=>∃(i j:Nat) (bg:Int) (x8:Option V) (zs:List V) (M:Wl),σ=[some (.ref a),some (.ref b),some (.ref la),some (.ref lb),some (.ref c),some (.int bg),some (.int i),some (.int j),x8]∧0≤bg∧Cur A i bg∧Cur B j bg∧i≤A.length∧j≤B.length∧H' c=some (.lst zs)∧Wg H' zs M∧(∀e∈M,0<e.1)∧tot M=bg∧(∀p,0≤p→p<bg→atW M p=plusW (atW A p) (atW B p))∧(∀e∈M,e.2.length=wd)∧M.length≤i+j∧Zak H H'∧H' la=some (.lst za)∧H' lb=some (.lst zb)∧Zbd H3 H')
   (fun σ _=>(A.length+B.length)-((match σ[6]? with|some (some (V.int i))=>i.toNat|_=>0)+(match σ[7]? with|some (some (V.int i))=>i.toNat|_=>0)))
   ⟨0,0,0,_,[],[],rfl,QaX _,by have:=ZfB pA (QaV A.length);rw[Qa8,Zaw] at this;exact this,by have:=ZfB pB (QaV B.length);rw[Qa8,Zaw] at this;exact this,QaV _,QaV _,hc3,Wg.nil _,fun e he=>(by cases he),rfl,fun p p0 p1=>(by omega),fun e he=>(by cases he),QaV _,s03,hla,hlb,Zbd.refl _⟩ ?_ ?_
  ·rintro σ H4 ⟨i,j,bg,x8,zs,M,rfl,b0,cA,cB,li,lj,hc4,g4,pM,tM,aM,wM,lM,s4,hla4,hlb4,T4⟩;refine⟨_,rfl,_,rfl,la,_,rfl,.inl (SqL.of hla4),_,_,rfl,rfl,_,rfl,Zda (fun q=> ?_) (fun q=> ?_)⟩
   ·have q:(i:Int)<(za.length:Int):=Qao q;have hi:i<A.length:=by rw[←y1.1];omega
    obtain⟨e,he,ea1,ea2⟩:∃e,A[i]?=some e∧tot (A.take i)≤bg∧bg<tot (A.take (i+1)):=by
     rcases cA with z|⟨z,_⟩
     ·exact z
     ·omega
    have bgA:bg<tot A:=Int.lt_of_lt_of_le ea2 (ZdI (fun e he=>pA e he) (i+1))
    obtain⟨f',hf,fb1,fb2⟩:∃e,B[j]?=some e∧tot (B.take j)≤bg∧bg<tot (B.take (j+1)):=by
     rcases cB with z|⟨_,z⟩
     ·exact z
     ·omega
    have hj:j<B.length:=(Qaf.mp hf).1;obtain⟨pa,wa,ha1,ha2,ha3⟩:=(ya.up T4).2 i e he;obtain⟨pb,wb,hb1,hb2,hb3⟩:=(yb.up T4).2 j f' hf;refine⟨_,rfl,_,rfl,la,_,_,V.ref pa,rfl,rfl,SqL.of hla4,Zcb ha1,pa,_,_,_,rfl,rfl,SqT.of ha2,rfl,_,rfl,_,rfl,lb,_,_,V.ref pb,rfl,rfl,SqL.of hlb4,Zcb hb1,pb,_,_,_,rfl,rfl,SqT.of hb2,rfl,_,_,rfl,?_⟩;have key:∃en:Int,(if 0+tot (B.take (j+1))<0+tot (A.take (i+1)) then 0+tot (B.take (j+1)) else 0+tot (A.take (i+1)))=en∧bg<en∧en≤tot (A.take (i+1))∧en≤tot (B.take (j+1))∧(en=tot (A.take (i+1))∨en=tot (B.take (j+1))):=⟨_,rfl,by split<;>omega,by split<;>omega,by split<;>omega,by split<;>omega⟩;obtain⟨en,een,en0,en1,en2,en3⟩:=key;rw[een];refine⟨_,rfl,.inl ⟨rfl,_,SqL.of hc4⟩,_,rfl,_,rfl,_,_,rfl,rfl,_,rfl,_,rfl,la,_,_,V.ref pa,rfl,rfl,SqL.of hla4,Zcb ha1,pa,_,_,_,rfl,rfl,SqT.of ha2,rfl,?_⟩;refine⟨_,rfl,_,rfl,lb,_,_,V.ref pb,rfl,rfl,SqL.of hlb4,Zcb hb1,pb,_,_,_,rfl,rfl,SqT.of hb2,rfl,wa,wb,e.2,f'.2,rfl,ha3,hb3,by rw[wA e (Qau he)];omega,by rw[wA e (Qau he),wB f' (Qau hf)],fun r H5 fr hr5 s5=>⟨(by show 2≤sizeLine;decide),fun pp hpp=> ?_⟩⟩;have s6:=Zak.new (o:=.tup [.int (en-bg),.ref r]) s5 hpp;have h6p:(upd H5 pp (.tup [.int (en-bg),.ref r])) pp=some (.tup [.int (en-bg),.ref r]):=Zad;have h6r:(upd H5 pp (.tup [.int (en-bg),.ref r])) r=some (.tup ((plusW e.2 f'.2).map V.int)):=by rw[Zax (Zav hr5 hpp)];exact hr5
    generalize upd H5 pp (.tup [.int (en-bg),.ref r])=H6 at s6 h6p h6r⊢;have hzl:zs.length≤400:=by rw[g4.1];omega
    refine⟨c,zs,_,rfl,rfl,s6 _ _ hc4,QaG (by omega:zs.length≤1000) (by decide),?_⟩;have T7:Zbd H6 (upd H6 c (.lst (zs++ [.ref pp]))):=(Zbd.refl H6).lst (s6 _ _ hc4);have h7c:(upd H6 c (.lst (zs++ [.ref pp]))) c=some (.lst (zs++ [.ref pp])):=Zad;have h7a:(upd H6 c (.lst (zs++ [.ref pp]))) la=some (.lst za):=by rw[Zax (Ne.symm nca)];exact s6 _ _ hla4
    have h7b:(upd H6 c (.lst (zs++ [.ref pp]))) lb=some (.lst zb):=by rw[Zax (Ne.symm ncb)];exact s6 _ _ hlb4
    have s7:Zak H (upd H6 c (.lst (zs++ [.ref pp]))):=fun d o z=>by rw[Zax (Zav z fc)];exact s6 _ _ (s4 _ _ z)
    generalize upd H6 c (.lst (zs++ [.ref pp]))=H7 at T7 h7c h7a h7b s7⊢;have T47:Zbd H4 H7:=s6.tups.trans T7;have g7:Wg H7 (zs++ [.ref pp]) (M++ [(en-bg,plusW e.2 f'.2)]):=Wg.snoc (g4.up T47) ⟨pp,r,rfl,T7 _ _ h6p,T7 _ _ h6r⟩;have nM:∀e∈M,0≤e.1:=fun e he=>Qa5 (pM e he)
    have pM7:∀x∈M++ [(en-bg,plusW e.2 f'.2)],0<x.1:=fun x hx=>by
     rcases Qaz.mp hx with z|z
     ·exact pM x z
     ·rw[Qan.mp z];show 0<en-bg;omega
    have tM7:tot (M++ [(en-bg,plusW e.2 f'.2)])=en:=by rw[ZaV,Zat,Zaw,tM];show bg+(en-bg+0)=en;omega
    have aM7:∀p,0≤p→p<en→atW (M++ [(en-bg,plusW e.2 f'.2)]) p=plusW (atW A p) (atW B p):=fun p p0 p1=>by
     by_cases z:p<bg
     ·rw[ZcN nM p0 (by omega)];exact aM p p0 z
     ·rw[Zot nM (by omega) (by omega),ZnD nA he (by omega) (by omega),ZnD nB hf (by omega) (by omega)]
    have wM7:∀x∈M++ [(en-bg,plusW e.2 f'.2)],x.2.length=wd:=fun x hx=>by
     rcases Qaz.mp hx with z|z
     ·exact wM x z
     ·rw[Qan.mp z];show(plusW e.2 f'.2).length=wd;unfold plusW;rw[Qbt,wA e (Qau he),wB f' (Qau hf),QcL]
    have lM7:(M++ [(en-bg,plusW e.2 f'.2)]).length=M.length+1:=by rw[Qae];rfl
    have sq7:=SqL.of (K:=K) h7a;have ha27:=T47 _ _ ha2;have hb27:=T47 _ _ hb2;have T37:=T4.trans T47;refine⟨_,rfl,?_⟩;refine⟨_,rfl,_,rfl,la,_,_,V.ref pa,rfl,rfl,SqL.of h7a,Zcb ha1,pa,_,_,_,rfl,rfl,SqT.of ha27,rfl,_,rfl,rfl,_,rfl,Zda (fun u=> ?_) (fun u=> ?_)⟩
    ·have u:0+tot (A.take (i+1))=en:=V.int.inj (Qao u);refine⟨_,rfl,_,_,rfl,rfl,?_⟩;refine⟨_,rfl,_,rfl,lb,_,_,V.ref pb,rfl,rfl,SqL.of h7b,Zcb hb1,pb,_,_,_,rfl,rfl,SqT.of hb27,rfl,_,rfl,rfl,_,rfl,Zda (fun u2=> ?_) (fun u2=> ?_)⟩
     ·have u2:0+tot (B.take (j+1))=en:=V.int.inj (Qao u2);refine⟨_,rfl,_,_,rfl,rfl,⟨i+1,j+1,en,_,_,_,rfl,by omega,by rw[←show tot (A.take (i+1))=en by omega];exact ZfB pA hi,by rw[←show tot (B.take (j+1))=en by omega];exact ZfB pB hj,hi,hj,h7c,g7,pM7,tM7,aM7,wM7,by omega,s7,h7a,h7b,T37⟩,?_⟩;show(A.length+B.length)-(((i:Int)+1).toNat+((j:Int)+1).toNat)<(A.length+B.length)-((i:Int).toNat+(j:Int).toNat);omega
     ·have u2:¬0+tot (B.take (j+1))=en:=fun z=>u2 (Qar (congrArg V.int z));refine⟨⟨i+1,j,en,_,_,_,rfl,by omega,by rw[←show tot (A.take (i+1))=en by omega];exact ZfB pA hi,.inl ⟨f',hf,by omega,by omega⟩,hi,lj,h7c,g7,pM7,tM7,aM7,wM7,by omega,s7,h7a,h7b,T37⟩,?_⟩;show(A.length+B.length)-(((i:Int)+1).toNat+(j:Int).toNat)<(A.length+B.length)-((i:Int).toNat+(j:Int).toNat);omega
    ·have u:¬0+tot (A.take (i+1))=en:=fun z=>u (Qar (congrArg V.int z));refine⟨_,rfl,_,rfl,lb,_,_,V.ref pb,rfl,rfl,SqL.of h7b,Zcb hb1,pb,_,_,_,rfl,rfl,SqT.of hb27,rfl,_,rfl,rfl,_,rfl,Zda (fun u2=> ?_) (fun u2=> ?_)⟩
     ·have u2:0+tot (B.take (j+1))=en:=V.int.inj (Qao u2);refine⟨_,rfl,_,_,rfl,rfl,⟨i,j+1,en,_,_,_,rfl,by omega,.inl ⟨e,he,by omega,by omega⟩,by rw[←show tot (B.take (j+1))=en by omega];exact ZfB pB hj,li,hj,h7c,g7,pM7,tM7,aM7,wM7,by omega,s7,h7a,h7b,T37⟩,?_⟩;show(A.length+B.length)-((i:Int).toNat+((j:Int)+1).toNat)<(A.length+B.length)-((i:Int).toNat+(j:Int).toNat);omega
     ·have u2:¬0+tot (B.take (j+1))=en:=fun z=>u2 (Qar (congrArg V.int z));omega
   ·have q:¬(i:Int)<(za.length:Int):=fun z=>q (Qar z);have e:i=A.length:=by rw[y1.1] at q;omega
    have ebg:bg=tot A:=by
     rcases cA with⟨x,hx,_⟩|⟨_,z⟩
     ·have:=(Qaf.mp hx).1;omega
     ·exact z
    subst ebg;have nM:∀e∈M,0≤e.1:=fun e he=>Qa5 (pM e he);refine⟨_,rfl,c,zs,M,rfl,SqL.of hc4,g4,by omega,nM,fun r zr H5 f5 h5 g5 s5=> ?_⟩;refine k r zr (ZaM M) H5 (s4.free f5) h5 g5 ⟨ZbF M,by rw[Toy.shape_tot nM];exact tM,fun p p0 p1=>by rw[Zes nM p0];exact aM p p0 p1,fun n hA hB=> ?_,QaD (ZbV M) (by omega)⟩ (s4.trans s5)
    have ew:∀x∈M,x.2.length=n:=fun x hx=>by
     rw[wM x hx]
     cases A with
     |nil=>rw[Zaw] at tM;exact absurd (tot_ge (fun e he=>pM e he) hx) (by have:=pM x hx;omega)
     |cons y A=>rw[←wA y Qad];exact hA y Qad
    exact Zcj (p:=fun u=>u.length=n) ew
  ·intro σ H' Q1 Q2 hQ h;obtain⟨v0,e0,v1,e1,p1,l1,a1,a2,i3,j3,c1,c2,v4,c3,q4⟩:=h;exact⟨v0,e0,v1,e1,p1,l1,a1,a2,i3,j3,c1,c2,v4,c3,hQ _ _ q4⟩
end
def ZnE (L:List (Int×List Int))(i:Nat):List Int:=(List.range (i+1)).map fun j=>tot (L.take j)
theorem Zi7 (L:List (Int×List Int))(i:Nat):(ZnE L i).length=i+1:=by simp[ZnE]
section
variable {K:PySem.W.Frag}
def Few (us:List Int):Prop:=∀z∈us,z.natAbs<2^9000
abbrev Za8:Stmt:=top 28
theorem Zek:ZaC ["weights", "times"] ["weights", "times"] (Zag Za8):=⟨rfl,rfl,rfl,by decide +kernel,rfl,by decide +kernel,by decide +kernel⟩
def Zgf:Sp:=fun vs H Q _=>∃(p:Addr) (us:List Int) (k:Int),vs=[.ref p,.int k]∧H p=some (.tup (us.map V.int))∧us.length≤100∧Few us∧k.natAbs<2^9000∧∀(r:Addr) (H':Hp),H r=none→H' r=some (.tup ((us.map (· *k)).map V.int))→Zak H H'→Q (.ref r) H'
theorem Zm2 (F:Fun K "weights_times" "weights_times" Za8 f fd)(M:Txt mg):ZbW P w K mg base CX0 1 f fd ["weights", "times"] Zgf:=by
 have sc:=Zek;refine F.ok sc (fun vs H Q E h=> ?_) (fun cdv A outer s H vs Q E hr h=> ?_)
 ·obtain⟨p,us,k0,rfl,_⟩:=h;rfl
 ·obtain⟨p,us,k0,rfl,hp,hl,fw,kw,k⟩:=h;refine⟨_,(Zaj (ZaD (Zbf ZbD (by rfl) M.tuple Qch (ZaQ (Zbg (xs:=["weight"]) (Nb:=["weights", "times"]) rfl (ZoM (pv 0)) rfl (by show∀p∈(List.zip ["weights", "times"] ["weights", "times"]:List (Str×Str)),_;decide +kernel) (by decide +kernel) (fun cl C s₂ H₂ fp=>(Zal (i:=0) (by show List.Nodup (["weight", "weights", "times"]:List Str);decide +kernel) rfl (Or.inl (Qai rfl)) (Or.inr (Qai rfl)))) (fun cl C s₂ H₂ fp=>Zcw) (fun cl C s₂ H₂ fp=>(Zam Zk1 (pv 0) (pv 2))) (by decide +kernel) rfl (by decide +kernel) (by show∀y∈(_:List (Str×NameKind)),y.2=NameKind.free→(Zag Za8).names.lookup y.1=some .cell;decide +kernel)) Zac)))),?_⟩;refine⟨_,rfl,p,rfl,⟨_,SqT.of hp⟩,Zp4 (K:=K) (a:=p) (xs:=us.map V.int) (fun i zs H'=>zs=((us.map (· *k0)).take i).map V.int∧H=H') ⟨rfl,rfl⟩ (by rw[Qac];omega) (fun i zs H' h=>by rw[h.1,Qac,Qav];omega) (fun i zs H' _ h=>by rw[←h.2];exact SqT.of hp) ?_ ?_⟩
  ·rintro i x zs H' pre qu hx ⟨rfl,rfl⟩
   have hx':∃m,us[i]?=some m∧x=V.int m:=by
    rw[Qaq] at hx
    cases zz:us[i]? with
    |none=>rw[zz] at hx;cases hx
    |some m=>rw[zz] at hx;cases hx;exact⟨m,rfl,rfl⟩
   obtain⟨m,hm,rfl⟩:=hx';rcases pre with _|⟨p0,_|⟨p1,pre⟩⟩
   ·cases qu
   ·refine⟨⟨[some _],rfl,rfl⟩,?_⟩;unfold Ze3;dsimp only;rw[if_pos (rfl:true=true)];refine⟨_,rfl,_,rfl,_,_,rfl,rfl,⟨fw m (Qau hm),kw⟩,?_,rfl⟩;have ez:(us.map (· *k0))[i]?=some (m*k0):=by rw[Qaq,hm];rfl
    rw[ZaJ ez,Qaw];rfl
   ·cases qu
  ·rintro zs H' ⟨rfl,rfl⟩ D hD;have et:(us.map (· *k0)).take (us.map V.int).length=us.map (· *k0):=Qba (by rw[Qac,Qac];exact Qal _);rw[et];refine⟨D,_,rfl,.inl ⟨SqL.of Zad,fun l hl'=> ?_⟩⟩;have s2:=Zak.new (o:=.lst ((us.map (· *k0)).map V.int)) (Zak.refl H) hD;exact k l _ (Zak.free s2 hl') Zad (Zak.new s2 hl')
abbrev ZcD:Stmt:=top 29
theorem Zie:ZaC ["stretches", "rises", "begin", "end", "weights", "noughts", "fall"] ["stretches"] (Zag ZcD):=⟨rfl,rfl,rfl,by decide +kernel,rfl,by decide +kernel,by decide +kernel⟩
def ZlQ:Sp:=fun vs H Q _=>∃(a:Addr) (xs:List V) (S:Sl) (n:Nat),vs=[.ref a]∧H a=some (.lst xs)∧Stg H xs S∧S.length≤600∧n≤24∧(∀s∈S,s.2.2.length=n)∧(∀s∈S,Few s.2.2)∧∀(d:Addr) (kvs:List (Key×V)) (H':Hp),H d=none→DR H' d n (evs S) kvs→Zak H H'→Q (.ref d) H'
theorem Zm3 (F:Fun K "rises_of" "rises_of" ZcD f fd)(M:Txt mg)(qm:Kn P w K mg base "weights_times" 1 ["weights", "times"] Zgf)(qj:Kn P w K mg base "sum_of_weights" 1 ["one", "other"] Zi6):ZbW P w K mg base CX0 2 f fd ["stretches"] ZlQ:=by
 have sc:=Zie;refine F.ok sc (fun vs H Q E h=> ?_) (fun cdv A outer s H vs Q E hr h=> ?_)
 ·obtain⟨a,xs,S,n,rfl,_⟩:=h;rfl
 ·obtain⟨a,xs,S,n,rfl,ha,g,hl,hn,wid,fw,k⟩:=h
  refine⟨_,(Zae (Zar (i:=1) sc.nd rfl (Or.inl rfl) ZfW)
   (Zae (ZbK QaQ rfl (ZaZ (pv 0)) (ZbR rfl (Zaq (Zal (i:=2) sc.nd rfl (Or.inl rfl)) (Zaq (Zal (i:=3) sc.nd rfl (Or.inl rfl)) (Zaq (Zal (i:=4) sc.nd rfl (Or.inl rfl)) Za2))))
   (Zae (Zar (i:=5) sc.nd rfl (Or.inl rfl) (Zai qm hr rfl (Zab (pv 4) (Zas Zaf Zac))))
   (Zae (Zar (i:=6) sc.nd rfl (Or.inl rfl) (Zai qm hr rfl (Zab (pv 4) (Zjq (Zdu Zcx Zaf) Zac))))
   (Zae (Zd3 (Zeh hr) (pv 1) (pv 2) (Zai qj hr rfl (Zbe (ZiP (Zeh hr) (pv 1) (pv 2) (pv 5) ⟨rfl,rfl,rfl,rfl⟩) (Zab (pv 4) Zac))) rfl)
   (Zaj (Zd3 (Zeh hr) (pv 1) (pv 3) (Zai qj hr rfl (Zbe (ZiP (Zeh hr) (pv 1) (pv 3) (pv 5) ⟨rfl,rfl,rfl,rfl⟩) (Zab (pv 6) Zac))) rfl))))))
   (Zaj (ZaD (pv 1))))),?_⟩
  intro d fd0;have s1:=Zak.new (o:=.dK []) (Zak.refl H) fd0;have D0:DR (upd H d (.dK [])) d n [] []:=DR.new Zad;generalize upd H d (.dK [])=H1 at s1 D0⊢;refine⟨_,rfl,a,rfl,⟨xs,SqL.of (s1 _ _ ha)⟩,Zbx (K:=K) (a:=a) (xs:=xs) (fun i σ H'=>∃(x2 x3 x4 x5 x6:Option V) (kvs:List (Key×V)),σ=[some (.ref a),some (.ref d),x2,x3,x4,x5,x6]∧DR H' d n (evs (S.take i)) kvs∧kvs.length≤2*i∧Zak H H') ⟨_,_,_,_,_,[],rfl,D0,Qal _,s1⟩ (fun i σ H' _ ⟨_,_,_,_,_,_,_,_,_,s⟩=>SqL.of (s _ _ ha)) ?_ ?_⟩
  ·rintro i x σ H' hx ⟨x2,x3,x4,x5,x6,kvs,rfl,D,lk,s2⟩;obtain⟨s,hsi,q,wq,rfl,hq,hw⟩:=g.at' hx;have hmem:s∈S:=Qau hsi;have hi:i<S.length:=(Qaf.mp hsi).1;have hw2:=s2 _ _ hw;have hws:=wid s hmem;refine⟨q,_,rfl,SqT.of (s2 _ _ hq),rfl,_,_,rfl,_,_,rfl,_,_,rfl,rfl,?_⟩;refine⟨_,rfl,wq,s.2.2,0,rfl,hw2,by omega,fw s hmem,by decide,fun r5 H3 f5 h5 s3=> ?_⟩;refine⟨_,rfl,_,rfl,wq,s.2.2,-1,rfl,s3 _ _ hw2,by omega,fw s hmem,by decide,fun r6 H4 f6 h6 s4=> ?_⟩;have s34:=s3.trans s4;have D4:=D.up (s34 _ _ D.hd) s34.tups;have h54:=s4 _ _ h5;have hw4:=s34 _ _ hw2;obtain⟨p,us,he,hp,lu,cu⟩:=D4.get s.1 h54 hws;refine⟨_,rfl,d,rfl,.inl ⟨_,.inl D4.hd⟩,_,rfl,_,rfl,_,ZiN.k (k:=Sum.inl s.1) D4.hd,_,rfl,p,wq,us,s.2.2,by show [_,_]=_;rw[he],hp,hw4,by omega,by omega,fun r7 H5 f7 h7 s5=> ?_⟩;have hd5:=s5 _ _ D4.hd;refine⟨_,rfl,_,rfl,d,_,rfl,Zmy.k (k:=Sum.inl s.1) hd5 (QaG (show kvs.length≤2000 by omega) (by decide)),?_⟩;have T6:Zbd H4 (upd H5 d (.dK (ZdD kvs (Sum.inl s.1) (.ref r7)))):=Zbd.dk s5.tups hd5;have n7:r7≠d:=Zl3 h7 hd5 (by intro z;cases z);have h76:(upd H5 d (.dK (ZdD kvs (Sum.inl s.1) (.ref r7)))) r7=some (.tup ((plusW us s.2.2).map V.int)):=by rw[Zax n7];exact h7
   have lpu:(plusW us s.2.2).length=n:=by unfold plusW;rw[Qbt];omega
   have D6:=D4.put (H':=upd H5 d (.dK (ZdD kvs (Sum.inl s.1) (.ref r7)))) (k:=s.1) (u:=s.2.2) h76 lpu (fun i=>by unfold plusW;rw[ZdJ i (by omega),cu]) Zad T6;have s6:Zak H (upd H5 d (.dK (ZdD kvs (Sum.inl s.1) (.ref r7)))):=Zak.own ((s2.trans s34).trans s5) fd0;have h56:=T6 _ _ h54;have h66:=T6 _ _ h6;have lk6:=Zb1 kvs (Sum.inl s.1) (V.ref r7);generalize upd H5 d (.dK (ZdD kvs (Sum.inl s.1) (.ref r7)))=H6 at D6 s6 h56 h66⊢;generalize ZdD kvs (Sum.inl s.1) (.ref r7)=kv6 at D6 lk6;obtain⟨p2,us2,he2,hp2,lu2,cu2⟩:=D6.get s.2.1 h56 hws;refine⟨_,rfl,d,rfl,.inl ⟨_,.inl D6.hd⟩,_,rfl,_,rfl,_,ZiN.k (k:=Sum.inl s.2.1) D6.hd,_,rfl,p2,r6,us2,s.2.2.map (· * -1),by show [_,_]=_;rw[he2],hp2,h66,by omega,by rw[Qac];omega,fun r8 H7 f8 h8 s7=> ?_⟩;have hd7:=s7 _ _ D6.hd;refine⟨_,rfl,_,rfl,d,_,rfl,Zmy.k (k:=Sum.inl s.2.1) hd7 (QaG (show kv6.length≤2000 by omega) (by decide)),?_⟩;have T8:Zbd H6 (upd H7 d (.dK (ZdD kv6 (Sum.inl s.2.1) (.ref r8)))):=Zbd.dk s7.tups hd7;have n8:r8≠d:=Zl3 h8 hd7 (by intro z;cases z);have h88:(upd H7 d (.dK (ZdD kv6 (Sum.inl s.2.1) (.ref r8)))) r8=some (.tup ((plusW us2 (s.2.2.map (· * -1))).map V.int)):=by rw[Zax n8];exact h8
   have lpu2:(plusW us2 (s.2.2.map (· * -1))).length=n:=by unfold plusW;rw[Qbt,Qac];omega
   have D8:=D6.put (H':=upd H7 d (.dK (ZdD kv6 (Sum.inl s.2.1) (.ref r8)))) (k:=s.2.1) (u:=s.2.2.map (· * -1)) h88 lpu2 (fun i=>by unfold plusW;rw[ZdJ i (by rw[Qac];omega),cu2]) Zad T8;have lk8:=Zb1 kv6 (Sum.inl s.2.1) (V.ref r8);refine⟨_,_,_,_,_,ZdD kv6 (Sum.inl s.2.1) (.ref r8),rfl,?_,?_,Zak.own (s6.trans s7) fd0⟩
   ·rw[ZaJ hsi,ZnY];rw[Qa2] at D8;exact D8
   ·omega
  ·rintro σ H' ⟨x2,x3,x4,x5,x6,kvs,rfl,D,lk,s2⟩;have et:S.take xs.length=S:=by rw[g.1];exact QaO
   rw[et] at D;exact⟨_,rfl,k d kvs H' fd0 D s2⟩
theorem Zgg (so:ms.Pairwise (· < ·))(hi:ms[i]?=some x)(hj:ms[j]?=some y)(h:i<j):x<y:=by
 obtain⟨a,rfl⟩:=Qaf.mp hi;obtain⟨b,rfl⟩:=Qaf.mp hj;exact QbV.mp so i j a b h
theorem Zhk (so:ms.Pairwise (· < ·)){k:Int}(hj:ms[j]?=some x)(hn:ms[j+1]?=some y)(hk:k∈ms)(h:k<y):k≤x:=by
 obtain⟨i,hi⟩:=Qbu.mp hk;rcases Nat.lt_trichotomy i j with z|z|z
 ·exact Qa5 (Zgg so hi hj z)
 ·subst z;rw[hi] at hj;cases hj;exact QaX _
 ·rcases Qdm (show j+1≤i from z) with q|q
  ·have:=Zgg so hn hi q;omega
  ·subst q;rw[hi] at hn;cases hn;omega
theorem ZjQ (so:ms.Pairwise (· < ·))(hc:c∈ms)(h:∀k∈ms,c≤k):ms[0]?=some c:=by
 cases ms with
 |nil=>cases hc
 |cons a ms=>
  have h1:=h a Qad;rcases Qas.mp hc with z|z
  ·rw[z];rfl
  ·have:=(Qbl.mp so).1 c z;omega
theorem ZlR (so:ms.Pairwise (· < ·))(hc:c∈ms)(h:∀k∈ms,k≤c):ms[ms.length-1]?=some c:=by
 obtain⟨i,hi⟩:=Qbu.mp hc;have hl:=(Qaf.mp hi).1;have hg:ms[ms.length-1]?=some ms[ms.length-1]:=Qah (by omega);have h1:=h _ (Qau hg);rcases Nat.lt_or_ge i (ms.length-1) with z|z
 ·have:=Zgg so hi hg z;omega
 ·have e:i=ms.length-1:=by omega
  rw[←e];exact hi
theorem Zm4 (hM:∀e∈M,0≤e.1)(h1:tot M≤p)(h2:p<tot M+m):atW (M++ [(m,u)]) p=u:=by
 rw[Zce hM h1,atW_lt (by omega)]
abbrev Zdr:Stmt:=top 30
theorem ZlS:ZaC ["stretches", "rises", "cuts", "weights", "pieces", "begin", "end"] ["stretches"] (Zag Zdr):=⟨rfl,rfl,rfl,by decide +kernel,rfl,by decide +kernel,by decide +kernel⟩
def Zi8:Sp:=fun vs H Q _=>∃(a:Addr) (xs:List V) (S:Sl) (n:Nat) (c0 c1:Int) (kk:List Int),vs=[.ref a]∧H a=some (.lst xs)∧Stg H xs S∧S≠ []∧S.length≤600∧n≤24∧(∀s∈S,s.2.2.length=n)∧(∀s∈S,Few s.2.2)∧kk.length≤60∧(∀k,ZeL S k→k∈kk)∧ZeL S c0∧ZeL S c1∧(∀k,ZeL S k→c0≤k∧k≤c1)∧
 ∀(r:Addr) (zs:List V) (R:Wl) (H':Hp),H r=none→H' r=some (.lst zs)→Wg H' zs R→HeapOf n S c0 c1 R kk.length→Zak H H'→Q (.ref r) H'
theorem ZlT (F:Fun K "heaped" "heaped" Zdr f fd)(M:Txt mg)(jj:Kn P w K mg base "rises_of" 2 ["stretches"] ZlQ)(qm:Kn P w K mg base "weights_times" 1 ["weights", "times"] Zgf)(qj:Kn P w K mg base "sum_of_weights" 1 ["one", "other"] Zi6)(qx:Kn P w K mg base "shaped" 1 ["pieces"] (Zdm K))(B:Gb mg):ZbW P w K mg base CX0 3 f fd ["stretches"] Zi8:=by
 have sc:=ZlS;refine F.ok sc (fun vs H Q E h=> ?_) (fun cdv A outer s H vs Q E hr h=> ?_)
 ·obtain⟨a,xs,S,n,c0,c1,kk,rfl,_⟩:=h;rfl
 ·obtain⟨a,xs,S,n,c0,c1,kk,rfl,ha,g,ne,hl,hn,wid,fw,lk,hkk,k0,k1,kb,k⟩:=h
  refine⟨_,(Zae (Zbj (Zcs (ZfF (pv 0) (fun _=>rfl))) (Zaj (ZaD (ZaS Zac))) ZaO)
   (Zae (Zar (i:=1) sc.nd rfl (Or.inl rfl) (Zai jj hr rfl (Zab (pv 0) Zac)))
   (Zae (Zar (i:=2) sc.nd rfl (Or.inl rfl) (Zap (ZgV rfl) (by rfl) M.sorted boot_sorted (Zbe (ZmB (pv 1)) Zac)))
   (Zae (Zar (i:=3) sc.nd rfl (Or.inl rfl) (Zai qm hr rfl (Zaz (ZaA (Zao (K:=K)) (ZaA (ZaK (K:=K)) (pv 0) Zaf (fun _ _=>rfl)) Zaf (fun _ _=>rfl)) (Zas Zaf Zac))))
   (Zae (Zar (i:=4) sc.nd rfl (Or.inl rfl) (ZaS Zac))
   (Zae (ZbK QaQ rfl (Zo5 rfl B.zp (Zab (pv 2) (Zaz (Zbl Zcv (pv 2) (ZbP Zaf) Zb0) Zac))) (ZbR rfl (Zaq (Zal (i:=5) sc.nd rfl (Or.inl rfl)) (Zaq (Zal (i:=6) sc.nd rfl (Or.inl rfl)) Za2)))
   (Zae (Zar (i:=3) sc.nd rfl (Or.inl rfl) (Zai qj hr rfl (Zab (pv 3) (Zaz (ZfV (Zeh hr) (pv 1) (pv 5) (fun _ _=>rfl)) Zac))))
   (Zaj (Zbb (Zc6 QaE QaI QaJ Za6 (pv 4) (ZbG (Zba (Zdd (Zam ZaR (pv 6) (pv 5)) (pv 3) Zac)) Zac))))))
   (Zaj (ZaD (Zai qx hr rfl (Zab (pv 4) Zac)))))))))),?_⟩
  have hxl:∃x0,xs[0]?=some x0:=by
   cases xs with
   |nil=>exact absurd (Qb5 g.1.symm) ne
   |cons x _=>exact⟨x,rfl⟩
  obtain⟨x0,hx0⟩:=hxl
  have hemp:true= !xs.isEmpty:=by cases xs with
   |nil=>cases hx0
   |cons _ _=>rfl
  refine⟨_,rfl,true,.inl ⟨xs,SqL.of ha,hemp⟩,Zcu ?_⟩;refine⟨_,rfl,a,xs,S,n,rfl,ha,g,hl,hn,wid,fw,fun d kvs H1 f1 D s1=> ?_⟩;obtain⟨ks,hks,nd,hkm⟩:=D.keys;have km:∀k,k∈ks↔ZeL S k:=fun k=>(hkm k).trans ZnZ;have lks:ks.length≤kk.length:=ZiI nd fun x hx=>hkk x ((km x).mp hx);refine⟨_,rfl,d,kvs,rfl,D.hd,fun v fv=> ?_⟩;have s2:=Zak.new (o:=.ext (ZgU v d)) (Zak.refl H1) fv;have hv2:(upd H1 v (.ext (ZgU v d))) v=some (.ext (ZgU v d)):=Zad;generalize upd H1 v (.ext (ZgU v d))=H2 at s2 hv2⊢;refine⟨v,d,kvs,ks,rfl,hv2,s2 _ _ D.hd,hks,by omega,fun c ms fc hp hw=> ?_⟩;have s3:=Zak.new (o:=.lst (ms.map V.int)) (Zak.refl H2) fc;have hc3:(upd H2 c (.lst (ms.map V.int))) c=some (.lst (ms.map V.int)):=Zad;generalize upd H2 c (.lst (ms.map V.int))=H3 at s3 hc3⊢;have s13:=s2.trans s3;have s03:=s1.trans s13;have so:ms.Pairwise (· < ·):=ZeU hw ((hp.nodup_iff).mpr nd);have mm:∀k,k∈ms↔ZeL S k:=fun k=>hp.mem_iff.trans (km k);have lms:ms.length≤kk.length:=by rw[hp.length_eq];exact lks
  obtain⟨e0,he0,q0,w0,rfl,hq0,hw0⟩:=g.at' hx0;have me0:e0∈S:=Qau he0;have we0:=wid e0 me0;refine⟨_,rfl,a,_,_,_,rfl,rfl,SqL.of (s03 _ _ ha),Zcb (j:=0) hx0,q0,_,_,_,rfl,rfl,SqT.of (s03 _ _ hq0),rfl,w0,e0.2.2,0,rfl,s03 _ _ hw0,by omega,fw e0 me0,by decide,fun wr H4 fw4 hwr s4=> ?_⟩;refine⟨(by show 0≤sizeLine;decide),fun pc fpc=> ?_⟩;have s5:=Zak.new (o:=.lst []) (Zak.refl H4) fpc;have hpc5:(upd H4 pc (.lst [])) pc=some (.lst []):=Zad;generalize upd H4 pc (.lst [])=H5 at s5 hpc5⊢;have s35:=s4.trans s5;refine⟨_,rfl,_,rfl,?_⟩;refine⟨_,rfl,c,_,rfl,SqL.of (s35 _ _ hc3),fun c2 fc2=> ?_⟩;rw[Zoj];have s6:=Zak.new (o:=.lst ((ms.map V.int).drop 1)) (Zak.refl H5) fc2;have hc6:(upd H5 c2 (.lst ((ms.map V.int).drop 1))) c2=some (.lst ((ms.map V.int).drop 1)):=Zad;have hc56:=s6 _ _ (s35 _ _ hc3);have hpc6:=s6 _ _ hpc5;have npc2:pc≠c2:=Zav hpc5 fc2;have fpcH:H pc=none:=(s03.trans s4).free fpc;have npcc:pc≠c:=fun z=>by rw[z,s4 _ _ hc3] at fpc;cases fpc
  have hd5:=s6 _ _ (s35 _ _ (s13 _ _ D.hd));have npcd:pc≠d:=fun z=>by rw[z,s4 _ _ (s13 _ _ D.hd)] at fpc;cases fpc
  generalize upd H5 c2 (.lst ((ms.map V.int).drop 1))=H6 at s6 hc6 hc56 hpc6 hd5⊢;have s36:=s35.trans s6;have hm0:ms[0]?=some c0:=ZjQ so ((mm c0).mpr k0) fun k hk=>(kb k ((mm k).mp hk)).1;have hml:ms[ms.length-1]?=some c1:=ZlR so ((mm c1).mpr k1) fun k hk=>(kb k ((mm k).mp hk)).2;have lm1:1≤ms.length:=by have:=(Qaf.mp hm0).1;omega
  have low:∀i,FF S (c0-1) i=0:=fun i=>Znn i fun k hk=>by have:=(kb k hk).1;omega
  refine⟨c,c2,rfl,⟨_,SqL.of hc56⟩,⟨_,SqL.of hc6⟩,ZnX (K:=K) (a:=c) (b:=c2) (n:=ms.length-1) (xs:=ms.map V.int) (ys:=(ms.map V.int).drop 1) (fun j σ H'=>∃(x5 x6:Option V) (wq:Addr) (us:List Int) (zs:List V) (M:Wl) (cj pv:Int),σ=[some (.ref a),some (.ref d),some (.ref c),some (.ref wq),some (.ref pc),x5,x6]∧H' wq=some (.tup (us.map V.int))∧us.length=n∧ms[j]?=some cj∧pv<cj∧(∀k∈ms,k<cj→k≤pv)∧(∀i,co us i=FF S pv i)∧H' pc=some (.lst zs)∧Wg H' zs M∧M.length=j∧(∀e∈M,0<e.1)∧tot M=cj-c0∧(∀p,c0≤p→p<cj→∀i,co (atW M (p-c0)) i=FF S p i)∧(∀e∈M,e.2.length=n)∧Zak H H'∧H' c=some (.lst (ms.map V.int))∧H' c2=some (.lst ((ms.map V.int).drop 1))∧H' d=some (.dK kvs)∧Zbd H3 H')
   ⟨_,_,wr,e0.2.2.map (· *0),[],[],c0,c0-1,rfl,s6 _ _ (s5 _ _ hwr),by rw[Qac];exact we0,hm0,by omega,fun k hk hlt=>by have:=(kb k ((mm k).mp hk)).1;omega,fun i=>by rw[Zet,low,Qd4],hpc6,Wg.nil _,rfl,fun e he=>(by cases he),by rw[Zaw];omega,fun p p0 p1=>(by omega),fun e he=>(by cases he),s03.trans s36,hc56,hc6,hd5,s36.tups⟩ (by rw[QaW,Qac];omega) (fun j σ H' _ ⟨_,_,_,_,_,_,_,_,_,_,_,_,_,_,_,_,_,_,_,_,_,_,_,q1,q2,_⟩=>⟨SqL.of q1,SqL.of q2⟩) ?_ ?_⟩
  ·rintro j x y σ H7 pr hx hy ⟨x5,x6,wq,us,zs,M,cj,pv,rfl,hwq,lus,hcj,pvl,pvk,cus,hpc7,g7,lM,pM,tM,aM,wM,s7,h7c,h7c2,h7d,T7⟩ hpr;have ex:x=V.int cj:=by rw[Qaq,hcj] at hx;cases hx;rfl
   obtain⟨cn,hcn,ey⟩:∃cn,ms[j+1]?=some cn∧y=V.int cn:=by
    rw[Qcb,Qaq,Nat.add_comm 1 j] at hy
    cases z:ms[j+1]? with
    |none=>rw[z] at hy;cases hy
    |some cn=>rw[z] at hy;cases hy;exact⟨cn,rfl,rfl⟩
   subst ex ey;have ltn:cj<cn:=Zgg so hcj hcn (QcN _);have hj1:j+1<ms.length:=(Qaf.mp hcn).1;have s8:=Zak.new (o:=.tup [.int cj,.int cn]) (Zak.refl H7) hpr;have f8:(upd H7 pr (.tup [.int cj,.int cn])) pr=some (.tup [.int cj,.int cn]):=Zad;generalize upd H7 pr (.tup [.int cj,.int cn])=H8 at s8 f8⊢;refine⟨pr,_,rfl,SqT.of f8,rfl,_,_,rfl,_,_,rfl,rfl,?_⟩;have D8:DR H8 d n (evs S) kvs:=D.up (s8 _ _ h7d) ((s13.tups.trans T7).trans s8.tups);have mcj:ZeL S cj:=(mm cj).mp (Qau hcj)
   cases zv:Zdf kvs (Sum.inl cj:Key) with
   |none=>exact absurd (by rw[hks];exact Qbm.mpr ⟨cj,(km cj).mpr mcj,rfl⟩) (ZfX zv)
   |some vv=>
    obtain⟨p,vs,rfl,hp8,lvs,cvs⟩:=D8.vals cj vv zv
    have dg:ZiN H8 d (.int cj) (some (.ref p)):=by
     have q:=ZiN.k (k:=Sum.inl cj) D8.hd;rw[zv] at q;exact q
    refine⟨_,rfl,_,rfl,_,rfl,d,_,rfl,dg,wq,p,us,vs,rfl,s8 _ _ hwq,hp8,by omega,by omega,fun r H9 fr hr9 s9=> ?_⟩;have s89:=s8.trans s9;refine⟨_,rfl,.inl ⟨rfl,_,SqL.of (s89 _ _ hpc7)⟩,_,rfl,_,rfl,_,_,rfl,rfl,_,rfl,(by show 2≤sizeLine;decide),fun pp hpp=> ?_⟩;have sA:=Zak.new (o:=.tup [.int (cn-cj),.ref r]) s89 hpp;have fA:(upd H9 pp (.tup [.int (cn-cj),.ref r])) pp=some (.tup [.int (cn-cj),.ref r]):=Zad;have rA:(upd H9 pp (.tup [.int (cn-cj),.ref r])) r=some (.tup ((plusW us vs).map V.int)):=by rw[Zax (Zav hr9 hpp)];exact hr9
    generalize upd H9 pp (.tup [.int (cn-cj),.ref r])=HA at sA fA rA⊢;refine⟨pc,zs,_,rfl,rfl,sA _ _ hpc7,QaG (by rw[g7.1];omega:zs.length≤1000) (by decide),?_⟩;have TA:Zbd HA (upd HA pc (.lst (zs++ [.ref pp]))):=(Zbd.refl HA).lst (sA _ _ hpc7)
    have cw:∀i,co (plusW us vs) i=FF S cj i:=fun i=>by
     unfold plusW;rw[ZdJ i (by omega),cus,cvs,Znp];refine(ZkH i pvl fun k hk hle=> ?_).symm;rcases Int.lt_or_eq_of_le hle with q|q
     ·exact .inl (pvk k ((mm k).mpr hk) q)
     ·exact .inr q
    have btw:∀k∈ms,k<cn→k≤cj:=fun k hk hlt=>Zhk so hcj hcn hk hlt;refine⟨_,_,r,plusW us vs,_,M++ [(cn-cj,plusW us vs)],cn,cj,rfl,TA _ _ rA,by unfold plusW;rw[Qbt];omega,hcn,ltn,btw,cw,Zad,Wg.snoc (g7.up (sA.tups.trans TA)) ⟨pp,r,rfl,TA _ _ fA,TA _ _ rA⟩,by rw[Qae,lM];rfl,?_,?_,?_,?_,?_,by rw[Zax (Ne.symm npcc)];exact sA _ _ h7c,by rw[Zax (Ne.symm npc2)];exact sA _ _ h7c2,by rw[Zax (Ne.symm npcd)];exact sA _ _ h7d,T7.trans (sA.tups.trans TA)⟩
    ·intro z hz;rcases Qaz.mp hz with q|q
     ·exact pM z q
     ·rw[Qan.mp q];show 0<cn-cj;omega
    ·rw[ZaV,Zat,Zaw,tM];show cj-c0+(cn-cj+0)=_;omega
    ·intro p' p0 p1 i;have nM:∀e∈M,0≤e.1:=fun e he=>Qa5 (pM e he);by_cases z:p'<cj
     ·rw[ZcN nM (by omega) (by omega)];exact aM p' p0 z i
     ·have e9:atW (M++ [(cn-cj,plusW us vs)]) (p'-c0)=plusW us vs:=Zm4 nM (by omega) (by omega);rw[e9,cw];exact(ZkI i (by omega) fun k hk hle=>btw k ((mm k).mpr hk) (by omega)).symm
    ·intro z hz;rcases Qaz.mp hz with q|q
     ·exact wM z q
     ·rw[Qan.mp q];show(plusW us vs).length=n;unfold plusW;rw[Qbt];omega
    ·intro b o z;rw[Zax (Zav z fpcH)];exact sA _ _ (s7 _ _ z)
  ·rintro σ H7 ⟨x5,x6,wq,us,zs,M,cj,pv,rfl,hwq,lus,hcj,pvl,pvk,cus,hpc7,g7,lM,pM,tM,aM,wM,s7,h7c,h7c2,h7d,T7⟩;rw[hml] at hcj;cases hcj;have nM:∀e∈M,0≤e.1:=fun e he=>Qa5 (pM e he);refine⟨_,rfl,pc,zs,M,rfl,SqL.of hpc7,g7,by omega,nM,fun r zr H8 f8 h8 g8 s8=> ?_⟩;refine k r zr (ZaM M) H8 (s7.free f8) h8 g8 ⟨ZbF M,by rw[Toy.shape_tot nM,tM],Zcj (p:=fun u=>u.length=n) wM,fun p p0 p1 i=> ?_,?_⟩ (s7.trans s8)
   ·rw[Zes nM (by omega)];exact aM p p0 p1 i
   ·have:=ZbV M;omega
theorem Zif {t:Int}:∀{A:Wl} {lo:Int},(wst t A lo).length=3*A.length
 | [],_=>rfl
 |e::A,lo=>by
  show(ws1 t e lo++wst t A (lo+e.1)).length=3*(A.length+1);rw[Qae,Zif];show 3+_=_;omega
theorem Zi9 {t:Int}:∀{A:Wl} {lo:Int} {s:Int×Int×List Int},s∈wst t A lo→∃e∈A,s.2.2=e.2∨s.2.2=e.2.map (· *(e.1/t))
 | [],lo,s,h=>by cases h
 |e::A,lo,s,h=>by
  rcases Qaz.mp (show s∈ws1 t e lo++wst t A (lo+e.1) from h) with h|h
  ·refine⟨e,Qad,?_⟩;unfold ws1 at h;rcases Qas.mp h with rfl|h
   ·exact .inr rfl
   rcases Qas.mp h with rfl|h
   ·exact .inl rfl
   ·rw[Qan.mp h];exact .inl rfl
  ·obtain⟨d,hd,q⟩:=Zi9 h;exact⟨d,Qab _ hd,q⟩
theorem Zig (h: -(10^200)<z∧z<10^200):z.natAbs<2^9000:=by
 have h1:z.natAbs<10^200:=by omega
 exact Qcf h1 (by decide)
theorem Zhl {a t:Int}(h0:0<a)(h1:a<10^66)(ht:0<t):0≤a/t∧a/t<10^66:=by
 refine⟨Qd8 (by omega) (by omega),?_⟩
 have:=Int.ediv_le_self t (by omega:0≤a);omega
theorem Zou {k:Int}(h: -(10^130)<z∧z<10^130)(h0:0≤k)(h1:k<10^66):(z*k).natAbs<2^9000:=by
 rw[Int.natAbs_mul];have a1:z.natAbs≤10^130:=by omega
 have a2:k.natAbs≤10^66:=by omega
 exact QaG (Nat.mul_le_mul a1 a2) (by decide)
abbrev Zd9:Stmt:=top 33
theorem Zm5:ZaC ["weighing", "t", "stretches", "low", "high", "weights", "rounds", "left", "begin"] ["weighing", "t"] (Zag Zd9):=⟨rfl,rfl,rfl,by decide +kernel,rfl,by decide +kernel,by decide +kernel⟩
theorem Zm6 (F:Fun K "wound" "wound" Zd9 f fd)(M:Txt mg)(qt:Kn P w K mg base "laid_from" 1 ["weighing", "begin"] (Zg8 K))(qm:Kn P w K mg base "weights_times" 1 ["weights", "times"] Zgf)(Gheaped:Kn P w K mg base "heaped" 3 ["stretches"] Zi8)(B:Gb mg):ZbW P w K mg base CX0 4 f fd ["weighing", "t"] Zf7:=by
 have sc:=Zm5;refine F.ok sc (fun vs H Q E h=> ?_) (fun cdv A outer s H vs Q E hr h=> ?_)
 ·obtain⟨a,xs,A,n,t,rfl,_⟩:=h;rfl
 ·obtain⟨a,xs,A,n,t,rfl,ha,g,ne,hl,hn,wid,pos,num,t0,t1,k⟩:=h
  refine⟨_,(Zae (Zar (i:=2) sc.nd rfl (Or.inl rfl) (ZaS Zac))
   (Zae (ZbK QaQ rfl (ZaZ (Zai qt hr rfl (Zab (pv 0) (Zas Zaf Zac)))) (ZbR rfl (Zaq (Zal (i:=3) sc.nd rfl (Or.inl rfl)) (Zaq (Zal (i:=4) sc.nd rfl (Or.inl rfl)) (Zaq (Zal (i:=5) sc.nd rfl (Or.inl rfl)) Za2))))
   (Zae (Zc3 (Zap ZgT (by rfl) B.dm boot_divmod (ZaL (Zam ZaR (pv 4) (pv 3)) (Zab (pv 1) Zac))) (ZbR rfl (Zaq (Zal (i:=6) sc.nd rfl (Or.inl rfl)) (Zaq (Zal (i:=7) sc.nd rfl (Or.inl rfl)) Za2))))
   (Zae (Zar (i:=8) sc.nd rfl (Or.inl rfl) (Zam ZbL (pv 3) (pv 1)))
   (Zae (Zbb (Zc6 QaE QaI QaJ Za6 (pv 2) (ZbG (Zba (Zei Zaf (pv 1) (Zai qm hr rfl (Zab (pv 5) (Zab (pv 6) Zac))) Zac)) Zac)))
   (Zae (Zbb (Zc6 QaE QaI QaJ Za6 (pv 2) (ZbG (Zba (Zei (pv 8) (Zap (Zbz rfl) (by rfl) M.min QcG (ZaL (Zam ZaG (pv 8) (pv 7)) (Zab (pv 1) Zac))) (pv 5) Zac)) Zac)))
   (Zaj (Zbb (Zc6 QaE QaI QaJ Za6 (pv 2) (ZbG (Zba (Zei Zaf (Zap (Zca rfl) (by rfl) M.max Qc3 (ZaL (Zam ZaR (Zam ZaG (pv 8) (pv 7)) (pv 1)) (Zas Zaf Zac))) (pv 5) Zac)) Zac)))))))))
   (Zaj (ZaD (Zai Gheaped hr rfl (Zab (pv 2) Zac)))))),?_⟩
  refine⟨(by show 0≤sizeLine;decide),fun st fst=> ?_⟩;have s1:=Zak.new (o:=.lst []) (Zak.refl H) fst;have hst1:(upd H st (.lst [])) st=some (.lst []):=Zad;generalize upd H st (.lst [])=H1 at s1 hst1⊢;refine⟨_,rfl,a,xs,A,0,rfl,SqL.of (s1 _ _ ha),g.up s1.tups,by omega,fun lb lz H2 f2 h2 ly s2=>⟨lb,rfl,⟨lz,SqL.of h2⟩,?_⟩⟩;have s12:=s1.trans s2;have hst2:=s2 _ _ hst1;have nsl:st≠lb:=fun z=>by rw[z] at hst1;rw[hst1] at f2;cases f2
  have ft:∀e∈A,Few e.2:=fun e he z hz=>Zig (by have:=num e he z hz;omega);have lt9:t.natAbs.log2<9000:=(Qeg (by omega)).mpr (Zig (by omega));refine Zbx (K:=K) (a:=lb) (xs:=lz) (fun i σ H'=>∃(x3 x4 x5 x6 x7 x8:Option V) (zs:List V),σ=[some (.ref a),some (.int t),some (.ref st),x3,x4,x5,x6,x7,x8]∧H' st=some (.lst zs)∧Stg H' zs (wst t (A.take i) 0)∧Zak H H'∧H' lb=some (.lst lz)∧Zbd H2 H') ⟨_,_,_,_,_,_,[],rfl,hst2,Stg.nil _,s12,h2,Zbd.refl _⟩ (fun i σ H' _ ⟨_,_,_,_,_,_,_,_,_,_,_,q,_⟩=>SqL.of q) ?_ ?_
  ·rintro i x σ H3 hx ⟨x3,x4,x5,x6,x7,x8,zs,rfl,hst3,g3,s3,hlb3,T3⟩;have hi:i<A.length:=by have:=(Qaf.mp hx).1;rw[ly.1] at this;exact this
   obtain⟨e,he⟩:∃e,A[i]?=some e:=⟨A[i],Qah hi⟩;have hem:e∈A:=Qau he;obtain⟨q,wq,hq1,hq2,hq3⟩:=ly.2 i e he;rw[hx] at hq1;cases hq1;have hw3:=T3 _ _ hq3;have ehl:(0+tot (A.take (i+1)))-(0+tot (A.take i))=e.1:=by rw[Zcq he];omega
   have lzs:zs.length≤450:=by rw[g3.1,Zif,Qav];omega
   obtain⟨d0,d1⟩:=Zhl (pos e hem).1 (pos e hem).2 t0;have wlen:=wid e hem;refine⟨q,_,rfl,SqT.of (T3 _ _ hq2),rfl,_,_,rfl,_,_,rfl,_,_,rfl,rfl,?_⟩;refine⟨_,rfl,_,rfl,_,_,rfl,rfl,_,rfl,_,t,rfl,⟨t0,lt9⟩,fun dp hdp=> ?_⟩;rw[ehl];have s4:=Zak.new (o:=.tup [.int (e.1/t),.int (e.1%t)]) (Zak.refl H3) hdp;have f4:(upd H3 dp (.tup [.int (e.1/t),.int (e.1%t)])) dp=some (.tup [.int (e.1/t),.int (e.1%t)]):=Zad;generalize upd H3 dp (.tup [.int (e.1/t),.int (e.1%t)])=H4 at s4 f4⊢;refine⟨dp,_,rfl,SqT.of f4,rfl,_,_,rfl,_,_,rfl,rfl,?_⟩;refine⟨_,rfl,_,rfl,_,_,rfl,rfl,t0,?_⟩;refine⟨_,rfl,.inl ⟨rfl,_,SqL.of (s4 _ _ hst3)⟩,_,rfl,_,rfl,_,rfl,wq,e.2,e.1/t,rfl,s4 _ _ hw3,by omega,ft e hem,Zig (by omega),fun r5 H5 f5 h5 s5=>⟨(by show 3≤sizeLine;decide),fun p1 hp1=> ?_⟩⟩;have s6:=Zak.new (o:=.tup [.int 0,.int t,.ref r5]) (s4.trans s5) hp1;have f6:(upd H5 p1 (.tup [.int 0,.int t,.ref r5])) p1=some (.tup [.int 0,.int t,.ref r5]):=Zad;have r6:(upd H5 p1 (.tup [.int 0,.int t,.ref r5])) r5=some (.tup ((e.2.map (· *(e.1/t))).map V.int)):=by rw[Zax (Zav h5 hp1)];exact h5
   generalize upd H5 p1 (.tup [.int 0,.int t,.ref r5])=H6 at s6 f6 r6⊢;have hst6:=s6 _ _ hst3;refine⟨st,zs,_,rfl,rfl,hst6,QaG (by omega:zs.length≤1000) (by decide),?_⟩;have T7:Zbd H6 (upd H6 st (.lst (zs++ [.ref p1]))):=(Zbd.refl H6).lst hst6;have hst7:(upd H6 st (.lst (zs++ [.ref p1]))) st=some (.lst (zs++ [.ref p1])):=Zad;have s7:Zak H (upd H6 st (.lst (zs++ [.ref p1]))):=Zak.own (s3.trans s6) fst;have hlb7:(upd H6 st (.lst (zs++ [.ref p1]))) lb=some (.lst lz):=by rw[Zax (Ne.symm nsl)];exact s6 _ _ hlb3
   have g7:=Stg.snoc (g3.up (s6.tups.trans T7)) (s:=(0,t,e.2.map (· *(e.1/t)))) ⟨p1,r5,rfl,T7 _ _ f6,T7 _ _ r6⟩;have hw7:=T7 _ _ (s6.tups _ _ hw3);have T37:=T3.trans (s6.tups.trans T7);generalize upd H6 st (.lst (zs++ [.ref p1]))=H7 at hst7 s7 hlb7 g7 hw7 T37⊢;refine⟨_,rfl,.inl ⟨rfl,_,SqL.of hst7⟩,_,rfl,_,rfl,_,rfl,_,_,rfl,rfl,_,rfl,_,_,rfl,_,rfl,(by show 3≤sizeLine;decide),fun p2 hp2=> ?_⟩;have sh:∀z:HO,upd H7 p2 z p2=some z:=fun z=>Zad;generalize hlo:0+tot (A.take i)=lo at*;have s8:=Zak.new (o:=.tup [.int (lo%t),.int (mn (lo%t+e.1%t) t),.ref wq]) (Zak.refl H7) hp2;have f8:(upd H7 p2 (.tup [.int (lo%t),.int (mn (lo%t+e.1%t) t),.ref wq])) p2=some (.tup [.int (lo%t),.int (mn (lo%t+e.1%t) t),.ref wq]):=Zad;have e8:(HO.tup [(fun i j=>V.int (i%j)) lo t,V.int (if t<lo%t+e.1%t then t else lo%t+e.1%t),V.ref wq])= .tup [.int (lo%t),.int (mn (lo%t+e.1%t) t),.ref wq]:=rfl;rw[e8];generalize upd H7 p2 (.tup [.int (lo%t),.int (mn (lo%t+e.1%t) t),.ref wq])=H8 at s8 f8⊢;have hst8:=s8 _ _ hst7;have l8:(zs++ [V.ref p1]).length=zs.length+1:=by rw[Qae];rfl
   refine⟨st,_,_,rfl,rfl,hst8,QaG (by omega:(zs++ [V.ref p1]).length≤1000) (by decide),?_⟩;have T9:Zbd H8 (upd H8 st (.lst ((zs++ [.ref p1])++ [.ref p2]))):=(Zbd.refl H8).lst hst8;have hst9:(upd H8 st (.lst ((zs++ [.ref p1])++ [.ref p2]))) st=some (.lst ((zs++ [.ref p1])++ [.ref p2])):=Zad;have s9:Zak H (upd H8 st (.lst ((zs++ [.ref p1])++ [.ref p2]))):=Zak.own (s7.trans s8) fst;have hlb9:(upd H8 st (.lst ((zs++ [.ref p1])++ [.ref p2]))) lb=some (.lst lz):=by rw[Zax (Ne.symm nsl)];exact s8 _ _ hlb7
   have hw9:=T9 _ _ (s8.tups _ _ hw7);have g9:=Stg.snoc (g7.up (s8.tups.trans T9)) (s:=(lo%t,mn (lo%t+e.1%t) t,e.2)) ⟨p2,wq,rfl,T9 _ _ f8,hw9⟩;have T39:=T37.trans (s8.tups.trans T9);generalize upd H8 st (.lst ((zs++ [.ref p1])++ [.ref p2]))=H9 at hst9 s9 hlb9 g9 hw9 T39⊢;refine⟨_,rfl,.inl ⟨rfl,_,SqL.of hst9⟩,_,rfl,_,rfl,_,_,rfl,rfl,_,rfl,_,_,rfl,rfl,_,_,rfl,_,rfl,(by show 3≤sizeLine;decide),fun p3 hp3=> ?_⟩;have sA:=Zak.new (o:=.tup [.int 0,.int (mx (lo%t+e.1%t-t)),.ref wq]) (Zak.refl H9) hp3;have fA:(upd H9 p3 (.tup [.int 0,.int (mx (lo%t+e.1%t-t)),.ref wq])) p3=some (.tup [.int 0,.int (mx (lo%t+e.1%t-t)),.ref wq]):=Zad;have eA:(HO.tup [V.int 0,V.int (if(0:Int)>lo%t+e.1%t-t then 0 else lo%t+e.1%t-t),V.ref wq])= .tup [.int 0,.int (mx (lo%t+e.1%t-t)),.ref wq]:=rfl;rw[eA];generalize upd H9 p3 (.tup [.int 0,.int (mx (lo%t+e.1%t-t)),.ref wq])=HA at sA fA⊢;have hstA:=sA _ _ hst9;have lA:((zs++ [V.ref p1])++ [V.ref p2]).length=zs.length+2:=by rw[Qae,l8];rfl
   refine⟨st,_,_,rfl,rfl,hstA,QaG (by omega:((zs++ [V.ref p1])++ [V.ref p2]).length≤1000) (by decide),?_⟩;have TB:Zbd HA (upd HA st (.lst (((zs++ [.ref p1])++ [.ref p2])++ [.ref p3]))):=(Zbd.refl HA).lst hstA;have gB:=Stg.snoc (g9.up (sA.tups.trans TB)) (s:=(0,mx (lo%t+e.1%t-t),e.2)) ⟨p3,wq,rfl,TB _ _ fA,TB _ _ (sA.tups _ _ hw9)⟩;refine⟨_,_,_,_,_,_,_,rfl,Zad,?_,Zak.own (s9.trans sA) fst,by rw[Zax (Ne.symm nsl)];exact sA _ _ hlb9,T39.trans (sA.tups.trans TB)⟩
   have ew:wst t (A.take (i+1)) 0=((wst t (A.take i) 0++ [(0,t,e.2.map (· *(e.1/t)))])++ [(lo%t,mn (lo%t+e.1%t) t,e.2)])++ [(0,mx (lo%t+e.1%t-t),e.2)]:=by
    rw[ZaJ he,ZiH,hlo,Qa2,Qa2];rfl
   rw[ew];exact gB
  ·rintro σ H3 ⟨x3,x4,x5,x6,x7,x8,zs,rfl,hst3,g3,s3,hlb3,T3⟩;have et:A.take lz.length=A:=by rw[ly.1];exact QaO
   rw[et] at g3
   have nA:∃e A',A=e::A':=by
    cases A with
    |nil=>exact absurd rfl ne
    |cons e A'=>exact⟨e,A',rfl⟩
   have kin:∀s∈wst t A 0,(s.1=0∨s.1∈(ZnE A A.length).map (· %t))∧(s.2.1=0∨s.2.1=t∨s.2.1∈(ZnE A A.length).map (· %t)):=fun s hs=>by
    obtain⟨_,_,_,_,_,q1,q2⟩:=ZfT t0 hs
    have key:∀z,(∃j,j≤A.length∧z=(0+tot (A.take j)) %t)→z∈(ZnE A A.length).map (· %t):=fun z ⟨j,hj,e⟩=>by
     refine Qbm.mpr ⟨tot (A.take j),?_,by rw[e,QbT]⟩;unfold ZnE;exact Qbm.mpr ⟨j,Qd9.mpr (by omega),rfl⟩
    exact⟨q1.imp id (key _),q2.imp id (Or.imp id (key _))⟩
   obtain⟨e0,A',eA⟩:=nA;have k0:(0,t,e0.2.map (· *(e0.1/t)))∈wst t A 0:=by rw[eA];exact QaM _ Qad
   refine⟨_,rfl,st,zs,wst t A 0,n,0,t,0::t::(ZnE A A.length).map (· %t),rfl,hst3,g3,fun z=>(by rw[z] at k0;cases k0),by rw[Zif];omega,hn,fun s hs=> ?_,fun s hs=> ?_,?_,fun z ⟨s,hs,hz⟩=> ?_,⟨_,k0,.inl rfl⟩,⟨_,k0,.inr rfl⟩,fun z ⟨s,hs,hz⟩=> ?_,fun r zr R H4 f4 h4 g4 hR s4=> ?_⟩
   ·obtain⟨_,_,_,_,⟨e,he,q⟩,_⟩:=ZfT t0 hs;rw[q];exact wid e he
   ·obtain⟨e,he,q|q⟩:=Zi9 hs
    ·rw[q];exact ft e he
    ·rw[q];intro z hz;obtain⟨y,hy,rfl⟩:=Qbm.mp hz;obtain⟨d0,d1⟩:=Zhl (pos e he).1 (pos e he).2 t0;exact Zou (num e he y hy) d0 d1
   ·simp only[Qbb,Qac,Zi7];omega
   ·obtain⟨q1,q2⟩:=kin s hs;rcases hz with rfl|rfl
    ·rcases q1 with q|q
     ·rw[q];exact Qad
     ·exact Qab _ (Qab _ q)
    ·rcases q2 with q|q|q
     ·rw[q];exact Qad
     ·rw[q];exact Qab _ Qad
     ·exact Qab _ (Qab _ q)
   ·obtain⟨q1,q2,q3,q4,_⟩:=ZfT t0 hs;rcases hz with rfl|rfl
    ·exact⟨q1,q2⟩
    ·exact⟨q3,q4⟩
   ·have ek:(0::t::(ZnE A A.length).map (· %t)).length=A.length+3:=by simp only[Qbb,Qac,Zi7]
    rw[ek] at hR;exact k r zr R H4 (s3.free f4) h4 g4 hR (s3.trans s4)
end
theorem ZnF {xs ys:List V}{B:Wl}(a:Wg H xs A)(b:Wg H ys B):Wg H (xs++ys) (A++B):=by
 refine⟨by rw[Qae,Qae,a.1,b.1],fun i x e h1 h2=> ?_⟩;by_cases z:i<xs.length
 ·rw[QaK z] at h1;rw[QaK (a.1 ▸ z)] at h2;exact a.2 i x e h1 h2
 ·rw[QaF (by omega)] at h1;rw[QaF (by have:=a.1;omega),←a.1] at h2;exact b.2 _ x e h1 h2
section
variable {K:PySem.W.Frag}
abbrev Zds:Stmt:=top 32
theorem ZlU:ZaC ["weighing", "begin", "other", "end", "between"] ["weighing", "begin", "other"] (Zag Zds):=⟨rfl,rfl,rfl,by decide +kernel,rfl,by decide +kernel,by decide +kernel⟩
theorem ZpM (F:Fun K "put_to" "put_to" Zds f fd)(M:Txt mg)(qK:Kn P w K mg base "length" 1 ["weighing"] (Zhd K))(jg:Kn P w K mg base "part" 2 ["weighing", "begin", "end"] (Zg9 K))(Gadded:Kn P w K mg base "added" 2 ["one", "other"] ZlP)(qx:Kn P w K mg base "shaped" 1 ["pieces"] (Zdm K)):ZbW P w K mg base CX0 3 f fd ["weighing", "begin", "other"] Zi0:=by
 have sc:=ZlU;refine F.ok sc (fun vs H Q E h=> ?_) (fun cdv A' outer s H vs Q E hr h=> ?_)
 ·obtain⟨a,b,xs,ys,A,C,bg,wd,rfl,_⟩:=h;rfl
 ·obtain⟨a,b,xs,ys,A,C,bg,wd,rfl,ha,hb,ga,gc,nA,pC,b0,b1,lA,lC,w24,wA,wC,k⟩:=h
  refine⟨_,(Zae (Zar (i:=3) sc.nd rfl (Or.inl rfl) (Zam ZaG (pv 1) (Zai qK hr rfl (Zab (pv 2) Zac))))
   (Zae (Zar (i:=4) sc.nd rfl (Or.inl rfl) (Zai Gadded hr rfl (Zbe (Zai jg hr rfl (Zab (pv 0) (Zab (pv 1) (Zab (pv 3) Zac)))) (Zab (pv 2) Zac))))
   (Zaj (ZaD (Zai qx hr rfl (ZaL (Zam Zb5 (Zam Zb5 (Zai jg hr rfl (Zab (pv 0) (Zas Zaf (Zab (pv 1) Zac)))) (pv 4)) (Zai jg hr rfl (Zab (pv 0) (Zab (pv 3) (Zbe (Zai qK hr rfl (Zab (pv 0) Zac)) Zac))))) Zac)))))),?_⟩
  have pA:∀e∈A,0<e.1:=nA.pos;have c0:0≤tot C:=tot_pos0 fun e he=>Qa5 (pC e he);refine⟨_,rfl,_,rfl,b,ys,C,rfl,SqL.of hb,gc,by omega,fun H1 s1=>⟨_,_,rfl,rfl,?_⟩⟩;refine⟨_,rfl,_,rfl,_,rfl,a,xs,A,bg,bg+tot C,rfl,SqL.of (s1 _ _ ha),ga.up s1.tups,by omega,pA,by omega,fun p1 z1 H2 f2 h2 g2 s2=> ?_⟩;have s02:=s1.trans s2;have l2:(ZaM (Zcz bg (bg+tot C) 0 A)).length≤200:=QaD (ZbV _) (QaD (ZcY _ _ _ _) lA);have w2:∀e∈ZaM (Zcz bg (bg+tot C) 0 A),e.2.length=wd:=Zcj (p:=fun u=>u.length=wd) (ZfR (p:=fun u=>u.length=wd) wA);have l0:(ZaM (Zcz 0 bg 0 A)).length≤200:=QaD (ZbV _) (QaD (ZcY _ _ _ _) lA);have l9:(ZaM (Zcz (bg+tot C) (tot A) 0 A)).length≤200:=QaD (ZbV _) (QaD (ZcY _ _ _ _) lA);have e2:ZaM (Zcz bg (bg+tot C) 0 A)=Zbw (tot C) (Zbp bg A):=by rw[ZfQ nA b0 (by omega),show bg+tot C-bg=tot C by omega]
  have e0:ZaM (Zcz 0 bg 0 A)=Zbw bg (Zbp 0 A):=by rw[ZfQ nA (QaX _) b0,Qce]
  have e9:ZaM (Zcz (bg+tot C) (tot A) 0 A)=Zbw (tot A-(bg+tot C)) (Zbp (bg+tot C) A):=ZfQ nA (by omega) b1;have pD:∀x,∀e∈Zbp x A,0<e.1:=fun x=>(Zb6 nA).pos;have p2:∀e∈ZaM (Zcz bg (bg+tot C) 0 A),0<e.1:=(ZbF _).pos;have p0:∀e∈ZaM (Zcz 0 bg 0 A),0<e.1:=(ZbF _).pos;have p9:∀e∈ZaM (Zcz (bg+tot C) (tot A) 0 A),0<e.1:=(ZbF _).pos;have t2:tot (ZaM (Zcz bg (bg+tot C) 0 A))=tot C:=by rw[e2,tot_takeF (pD _) c0 (by rw[tot_dropF pA b0 (by omega)];omega)]
  have t0:tot (ZaM (Zcz 0 bg 0 A))=bg:=by rw[e0,tot_takeF (pD _) b0 (by rw[tot_dropF pA (QaX _) (by omega)];omega)]
  have t9:tot (ZaM (Zcz (bg+tot C) (tot A) 0 A))=tot A-(bg+tot C):=by rw[e9,tot_takeF (pD _) (by omega) (by rw[tot_dropF pA (by omega) b1];omega)]
  have a2:∀p,0≤p→p<tot C→atW (ZaM (Zcz bg (bg+tot C) 0 A)) p=atW A (p+bg):=fun p q0 q1=>by rw[e2,ZcS (pD _) q0 q1,ZcT pA b0 q0]
  have a0:∀p,0≤p→p<bg→atW (ZaM (Zcz 0 bg 0 A)) p=atW A p:=fun p q0 q1=>by rw[e0,ZcS (pD _) q0 q1,ZcT pA (QaX _) q0,Qbe]
  have a9:∀p,0≤p→p<tot A-(bg+tot C)→atW (ZaM (Zcz (bg+tot C) (tot A) 0 A)) p=atW A (p+(bg+tot C)):=fun p q0 q1=>by rw[e9,ZcS (pD _) q0 q1,ZcT pA (by omega) q0]
  generalize ZaM (Zcz bg (bg+tot C) 0 A)=X2 at*;refine⟨_,rfl,p1,b,z1,ys,X2,C,wd,rfl,h2,s02 _ _ hb,g2,gc.up s02.tups,p2,pC,t2,l2,lC,w24,w2,wC,fun r zr R H3 f3 h3 g3 so s3=> ?_⟩;have s03:=s02.trans s3;refine⟨_,rfl,_,rfl,a,xs,A,0,bg,rfl,SqL.of (s03 _ _ ha),ga.up s03.tups,by omega,pA,b0,fun q0 y0 H4 f4 h4 g4 s4=> ?_⟩;have tR:tot R=tot C:=by rw[so.sum];exact t2
  have lR:R.length≤401:=by have:=so.len;omega
  have nX0:∀e∈ZaM (Zcz 0 bg 0 A),0≤e.1:=fun e he=>Qa5 (p0 e he);have nR:∀e∈R,0≤e.1:=fun e he=>Qa5 (so.nrm.pos e he);have nX9:∀e∈ZaM (Zcz (bg+tot C) (tot A) 0 A),0≤e.1:=fun e he=>Qa5 (p9 e he);have ly0:y0.length≤200:=by rw[g4.1];exact l0
  have lzr:zr.length≤401:=by rw[g3.1];exact lR
  refine⟨_,rfl,q0,r,_,_,rfl,rfl,h4,s4 _ _ h3,QaD (show y0.length+zr.length≤1000 by omega) (by decide),fun c1 hc1=> ?_⟩;have s5:=Zak.new (o:=.lst (y0++zr)) (Zak.refl H4) hc1;have f5:(upd H4 c1 (.lst (y0++zr))) c1=some (.lst (y0++zr)):=Zad;generalize upd H4 c1 (.lst (y0++zr))=H5 at s5 f5⊢;have s05:=(s03.trans s4).trans s5;refine⟨_,rfl,_,rfl,_,rfl,a,xs,A,rfl,SqL.of (s05 _ _ ha),ga.up s05.tups,by omega,fun H6 s6=> ?_⟩;have s06:=s05.trans s6;refine⟨a,xs,A,bg+tot C,tot A,rfl,SqL.of (s06 _ _ ha),ga.up s06.tups,by omega,pA,b1,fun q9 y9 H7 f7 h7 g7 s7=> ?_⟩;have s07:=s06.trans s7;have ly9:y9.length≤200:=by rw[g7.1];exact l9
  refine⟨c1,q9,_,_,rfl,rfl,s7 _ _ (s6 _ _ f5),h7,QaD (show(y0++zr).length+y9.length≤1000 by rw[Qae];omega) (by decide),fun c2 hc2=> ?_⟩;have s8:=Zak.new (o:=.lst ((y0++zr)++y9)) (Zak.refl H7) hc2;have f8:(upd H7 c2 (.lst ((y0++zr)++y9))) c2=some (.lst ((y0++zr)++y9)):=Zad;generalize upd H7 c2 (.lst ((y0++zr)++y9))=H8 at s8 f8⊢;have s48:=((s5.trans s6).trans s7).trans s8;have gL:Wg H8 ((y0++zr)++y9) ((ZaM (Zcz 0 bg 0 A)++R)++ZaM (Zcz (bg+tot C) (tot A) 0 A)):=ZnF (ZnF (g4.up s48.tups) (g3.up (s4.trans s48).tups)) (g7.up s8.tups);have lL:((ZaM (Zcz 0 bg 0 A)++R)++ZaM (Zcz (bg+tot C) (tot A) 0 A)).length≤900:=by rw[Qae,Qae];omega
  have nX:∀e∈ZaM (Zcz 0 bg 0 A)++R,0≤e.1:=fun e he=>(Qaz.mp he).elim (nX0 e) (nR e);have nL:∀e∈(ZaM (Zcz 0 bg 0 A)++R)++ZaM (Zcz (bg+tot C) (tot A) 0 A),0≤e.1:=fun e he=>(Qaz.mp he).elim (nX e) (nX9 e);have tX:tot (ZaM (Zcz 0 bg 0 A)++R)=bg+tot C:=by rw[ZaV,t0,tR]
  refine⟨c2,_,_,rfl,SqL.of f8,gL,by omega,nL,fun rr zz H9 f9 h9 g9 s9=> ?_⟩;refine k rr zz _ H9 ((s07.trans s8).free f9) h9 g9 ⟨ZbF _,by rw[Toy.shape_tot nL,ZaV,tX,t9];omega,fun p q1 q2=> ?_,QaD (ZbV _) lL⟩ ((s07.trans s8).trans s9);rw[Zes nL q1];by_cases z:p<bg
  ·rw[if_neg (by omega),Qa2,ZcN nX0 q1 (by omega)];exact a0 p q1 z
  ·by_cases z2:p<bg+tot C
   ·rw[if_pos (by omega),ZcN nX q1 (by omega),Zce nX0 (by omega),t0,so.at' (p-bg) (by omega) (by omega),a2 (p-bg) (by omega) (by omega),show p-bg+bg=p by omega]
   ·rw[if_neg (by omega),Zce nX (by omega),tX,a9 _ (by omega) (by omega),show p-(bg+tot C)+(bg+tot C)=p by omega]
end
section
variable {K:PySem.W.Frag}
abbrev ZcE:Stmt:=top 26
theorem Zih:ZaC ["weighing"] ["weighing"] (Zag ZcE):=⟨rfl,rfl,rfl,by decide +kernel,rfl,by decide +kernel,by decide +kernel⟩
theorem Zii (F:Fun K "backward" "backward" ZcE f fd)(M:Txt mg):ZbW P w K mg base CX0 1 f fd ["weighing"] (ZhZ K):=by
 have sc:=Zih;refine F.ok sc (fun vs H Q E h=> ?_) (fun cdv A outer s H vs Q E hr h=> ?_)
 ·obtain⟨a,xs,rfl,_⟩:=h;rfl
 ·obtain⟨a,xs,rfl,hS,k⟩:=h;refine⟨_,(Zaj (ZaD (Zo3 (pv 0) (ZbP (Zdu Zcx Zaf))))),?_⟩;exact⟨_,rfl,_,rfl,_,rfl,rfl,a,xs,rfl,hS,k⟩
end
section
variable {K:PySem.W.Frag}
abbrev ZcF:Stmt:=top 44
theorem Zij:ZaC ["pairing", "low", "high", "long", "turned"] ["pairing"] (Zag ZcF):=⟨rfl,rfl,rfl,by decide +kernel,rfl,by decide +kernel,by decide +kernel⟩
theorem ZjR (F:Fun K "may_lead" "may_lead" ZcF f fd)(M:Txt mg):ZbW P w K mg base CX0 1 f fd ["pairing"] ZcV:=by
 have sc:=Zij;refine F.ok sc (fun vs H Q E h=> ?_) (fun cdv A outer s H vs Q E hr h=> ?_)
 ·obtain⟨q,p,rfl,_⟩:=h;rfl
 ·obtain⟨q,p,rfl,h1,k⟩:=h
  refine⟨_,(Zae (Zc3 (pv 0) (ZbR rfl (Zaq (Zal (i:=1) sc.nd rfl (Or.inl rfl)) (Zaq (Zal (i:=2) sc.nd rfl (Or.inl rfl)) (Zaq (Zal (i:=3) sc.nd rfl (Or.inl rfl)) (Zaq (Zal (i:=4) sc.nd rfl (Or.inl rfl)) Za2))))))
   (Zaj (ZaD (Zc2 (ZbO ZdO (pv 1) (pv 2) (ZaH _)) (Zc8 (ZoK (Zir (pv 4)) (Zc8 (ZbO Zkc (pv 2) (Zam ZaG (pv 1) (pv 3)) (ZaH _))))))))),?_⟩
  exact Zf6 (K:=K) h1 k
abbrev Zb7:Stmt:=top 48
theorem Zgh:ZaC ["pairing", "end", "low", "high", "long", "turned", "many"] ["pairing", "end"] (Zag Zb7):=⟨rfl,rfl,rfl,by decide +kernel,rfl,by decide +kernel,by decide +kernel⟩
theorem Zov (F:Fun K "kept_below" "kept_below" Zb7 f fd)(M:Txt mg)(Gshort:Kn P w K mg base "short" 2 ["pairing", "skip", "many"] Zey):ZbW P w K mg base CX0 3 f fd ["pairing", "end"] Zh0:=by
 have sc:=Zgh;refine F.ok sc (fun vs H Q E h=> ?_) (fun cdv A outer s H vs Q E hr h=> ?_)
 ·obtain⟨q,p,e,rfl,_⟩:=h;rfl
 ·obtain⟨q,p,e,rfl,h1,h2,h3,h4,k⟩:=h
  refine⟨_,(Zae (Zc3 (pv 0) (ZbR rfl (Zaq (Zal (i:=2) sc.nd rfl (Or.inl rfl)) (Zaq (Zal (i:=3) sc.nd rfl (Or.inl rfl)) (Zaq (Zal (i:=4) sc.nd rfl (Or.inl rfl)) (Zaq (Zal (i:=5) sc.nd rfl (Or.inl rfl)) Za2))))))
   (Zae (Zar (i:=6) sc.nd rfl (Or.inl rfl) (Zam ZaR (pv 1) (pv 3)))
   (Zae (Zbj (ZaI Zdv (pv 6) Zaf (ZaH _)) (Zaj (ZaD (ZaS Zac))) ZaO)
   (Zaj (ZaD (ZaS (Zbe (Zai Gshort hr rfl (Zab (pv 0) (ZaQ (Zeo (Zb9 (pv 5)) (Zam ZaR (pv 4) (pv 6)) Zaf) (Zab (pv 6) Zac)))) Zac))))))),?_⟩
  exact ZjJ (K:=K) h1 h2 h3 h4 k
abbrev Zbq:Stmt:=top 49
theorem ZeZ:ZaC ["weighing", "leader", "end", "kept", "off", "shift"] ["weighing", "leader", "end"] (Zag Zbq):=⟨rfl,rfl,rfl,by decide +kernel,rfl,by decide +kernel,by decide +kernel⟩
theorem Zow (F:Fun K "cut_weighing" "cut_weighing" Zbq f fd)(M:Txt mg)(jg:Kn P w K mg base "part" 2 ["weighing", "begin", "end"] (Zg9 K))(qK:Kn P w K mg base "length" 1 ["weighing"] (Zhd K))(jp:Kn P w K mg base "put_to" 3 ["weighing", "begin", "other"] Zi0)(jk:Kn P w K mg base "backward" 1 ["weighing"] (ZhZ K))(jm:Kn P w K mg base "shift_of" 1 ["pairing"] ZeR)(Gwound:Kn P w K mg base "wound" 4 ["weighing", "t"] Zf7):ZbW P w K mg base CX0 5 f fd ["weighing", "leader", "end"] Zh1:=by
 have sc:=ZeZ;refine F.ok sc (fun vs H Q E h=> ?_) (fun cdv A outer s H vs Q E hr h=> ?_)
 ·obtain⟨a,q,xs,n,L,p,e,wd,rfl,_⟩:=h;rfl
 ·obtain⟨a,q,xs,n,L,p,e,wd,rfl,h1,h2,h3,h4,k⟩:=h
  refine⟨_,(Zae (Zar (i:=3) sc.nd rfl (Or.inl rfl) (Zai jg hr rfl (Zab (pv 0) (Zas Zaf (Zab (pv 2) Zac)))))
   (Zae (Zar (i:=4) sc.nd rfl (Or.inl rfl) (Zai jg hr rfl (Zab (pv 0) (Zab (pv 2) (Zbe (Zai qK hr rfl (Zab (pv 0) Zac)) Zac)))))
   (Zae (Zbj (Zb9 (ZaA (Zao (K:=K)) (pv 1) Zaf (fun _ _=>rfl))) (Zaj (ZaD (Zai jp hr rfl (Zab (pv 3) (Zaz (ZaA (Zao (K:=K)) (pv 1) Zaf (fun _ _=>rfl)) (Zbe (Zai jk hr rfl (Zab (pv 4) Zac)) Zac)))))) ZaO)
   (Zae (Zar (i:=5) sc.nd rfl (Or.inl rfl) (Zai jm hr rfl (Zab (pv 1) Zac)))
   (Zaj (ZaD (Zai jp hr rfl (Zab (pv 3) (ZaL (Zam ZaR (pv 2) (pv 5)) (ZaQ (Zeo (ZaI Ze6 (Zai qK hr rfl (Zab (pv 4) Zac)) (pv 5) (ZaH _)) (pv 4) (Zai Gwound hr rfl (Zab (pv 4) (Zab (pv 5) Zac)))) Zac)))))))))),?_⟩
  exact ZjK (K:=K) h1 h2 h3 h4 k
abbrev ZbA:Stmt:=top 52
theorem Zgi:ZaC ["pairings", "end"] ["pairings", "end"] (Zag ZbA):=⟨rfl,rfl,rfl,by decide +kernel,rfl,by decide +kernel,by decide +kernel⟩
theorem ZlV (F:Fun K "all_end_by" "all_end_by" ZbA f fd)(M:Txt mg)(qS:Kn P w K mg base "end_of" 1 ["pairing"] ZbQ):ZbW P w K mg base CX0 2 f fd ["pairings", "end"] Zf5:=by
 have sc:=Zgi;refine F.ok sc (fun vs H Q E h=> ?_) (fun cdv A outer s H vs Q E hr h=> ?_)
 ·obtain⟨a,ya,ps,e,rfl,_⟩:=h;rfl
 ·obtain⟨a,ya,ps,e,rfl,h1,h2,h3,k⟩:=h;refine⟨_,(Zaj (ZaD (Zap (Zer rfl) (by rfl) M.all boot_all (ZaQ (Zbg (xs:=["pairing"]) (Nb:=["pairings", "end"]) rfl (ZaZ (pv 0)) rfl (by show∀p∈(List.zip ["pairings", "end"] ["pairings", "end"]:List (Str×Str)),_;decide +kernel) (by decide +kernel) (fun cl C s₂ H₂ fp=>(Zal (i:=0) (by show List.Nodup (["pairing", "pairings", "end"]:List Str);decide +kernel) rfl (Or.inl (Qai rfl)) (Or.inr (Qai rfl)))) (fun cl C s₂ H₂ fp=>Zcw) (fun cl C s₂ H₂ fp=>(ZbO Ze6 (Zai qS hr rfl (Zab (pv 0) Zac)) (pv 2) (ZaH _))) (by decide +kernel) rfl (by decide +kernel) (by show∀y∈(_:List (Str×NameKind)),y.2=NameKind.free→(Zag ZbA).names.lookup y.1=some .cell;decide +kernel)) Zac)))),?_⟩;exact Zhb (K:=K) h1 h2 h3 k
abbrev Zdt:Stmt:=top 57
theorem ZlW:ZaC ["hall", "deed", "n", "pairings", "weighing", "j", "end", "leader"] ["hall", "deed"] (Zag Zdt):=⟨rfl,rfl,rfl,by decide +kernel,rfl,by decide +kernel,by decide +kernel⟩
theorem Zja (F:Fun K "do_cut" "do_cut" Zdt f fd)(M:Txt mg)(qL:KnX P w K mg base "demand" 1 ["is_deed"] (Zdk qb))(qY:Kn P w K mg base "may_lead" 1 ["pairing"] ZcV)(qS:Kn P w K mg base "end_of" 1 ["pairing"] ZbQ)(qM:Kn P w K mg base "all_end_by" 2 ["pairings", "end"] Zf5)(qR:Kn P w K mg base "replaced" 1 ["pairings", "k", "coming"] Zdl)(qN:Kn P w K mg base "kept_below" 3 ["pairing", "end"] Zh0)(qD:Kn P w K mg base "cut_weighing" 5 ["weighing", "leader", "end"] Zh1):ZbW P w K mg base (CXE P w) 6 f fd ["hall", "deed"] (Zqg ZmN qb):=by
 have sc:=ZlW;refine F.okX sc (fun vs H Q E h=> ?_) (fun cdv A outer s H vs Q E hd0 hr h=> ?_)
 ·obtain⟨a,pa,pb,q,n,ps,L,ya,yb,o,rfl,_⟩:=h;rfl
 ·obtain⟨a,pa,pb,q,n,ps,L,ya,yb,o,rfl,h,hl,hd,k1,k2⟩:=h
  refine⟨_,(Zae (PS.nox (Zc3 (pv 0) (ZbR rfl (Zaq (Zal (i:=2) sc.nd rfl (Or.inl rfl)) (Zaq (Zal (i:=3) sc.nd rfl (Or.inl rfl)) (Zaq (Zal (i:=4) sc.nd rfl (Or.inl rfl)) Za2))))))
   (Zae (PS.nox (Zc3 (Zbl (ZfY (K:=K)) (pv 1) (ZbP Zaf) Zb0) (ZbR rfl (Zaq (Zal (i:=5) sc.nd rfl (Or.inl rfl)) (Zaq (Zal (i:=6) sc.nd rfl (Or.inl rfl)) Za2)))))
   (Zae (PS.nox (Zar (i:=7) sc.nd rfl (Or.inl rfl) (ZaA (ZaK (K:=K)) (pv 3) (pv 5) (fun _ _=>rfl)) ZdS))
   (Zae (Zbb (ZdU qL Zmt hr rfl (ZaQ (PE.nox (Zc2 (Zai qY hr rfl (Zab (pv 7) Zac)) (Zc2 (ZbO Zdv (Zai qS hr rfl (Zab (pv 7) Zac)) (pv 2) (ZaH _)) (Zc8 (ZbO Ze6 (ZaA (Zao (K:=K)) (pv 7) Zaf (fun _ _=>rfl)) (pv 6) (ZaH _)))))) Zac)))
   (Zae (Zbb (ZdU qL Zmt hr rfl (Zbe (PE.nox (Zai qM hr rfl (Zbe (Zai qR hr rfl (Zab (pv 3) (Zab (pv 5) (ZnP (ZaS Zac) Zac)))) (Zab (pv 6) Zac)))) Zac)))
   (Zaj (PS.nox (ZaD (Zba (Zdd (Zba (Zei (pv 6) (Zai qR hr rfl (Zab (pv 3) (Zab (pv 5) (Zbe (Zai qN hr rfl (Zab (pv 7) (Zab (pv 6) Zac))) Zac)))) (Zai qD hr rfl (Zab (pv 4) (Zab (pv 7) (Zab (pv 6) Zac)))) Zac)) (ZaS Zac) Zac)))))))))),?_⟩
  exact Zh4 (K:=K) h hl hd k1 k2
abbrev Zcl:Stmt:=top 62
theorem Zhm:ZaC ["hall", "deed", "doing"] ["hall", "deed"] (Zag Zcl):=⟨rfl,rfl,rfl,by decide +kernel,rfl,by decide +kernel,by decide +kernel⟩
theorem Zox (F:Fun K "deed_done" "deed_done" Zcl f fd)(M:Txt mg)(qL:KnX P w K mg base "demand" 1 ["is_deed"] (Zdk qb))(qZ:Kn P w K mg base "is_formed" 4 ["hall", "deed"] (Zf1 K [("gone",g1),("folded",g2),("joined",g3),("carried",g4),("cut",g5),("free",g6)]))(N:Nms w K mg aF aD aS g1 g2 g3 g4 g5 g6 d1 d2 d3 d4 d5 d6)(GF:KnF P w K mg base d5 6 ["hall", "deed"] (Zqg ZmN qb)):ZbW P w K mg base (CXE P w) 7 f fd ["hall", "deed"] (ZeP qb ZjI):=by
 have sc:=Zhm;refine F.okX sc (fun vs H Q E h=> ?_) (fun cdv A outer s H vs Q E hd0 hr h=> ?_)
 ·obtain⟨a,pa,pb,u,n,ps,L,ya,yb,o,rfl,_⟩:=h;rfl
 ·obtain⟨a,pa,pb,u,n,ps,L,ya,yb,o,rfl,h,hl,hf,k1,k2⟩:=h;obtain⟨fdL,FL,kL,bL⟩:=GF.ex
  refine⟨_,(Zae (Zbb (ZdU qL Zmt hr rfl (Zbe (PE.nox (Zai qZ hr rfl (Zab (pv 0) (Zab (pv 1) Zac)))) Zac)))
   (Zae (PS.nox (Zar (i:=2) sc.nd rfl (Or.inl rfl) (ZkX N.kD rfl N.mD (ZaA (Zao (K:=K)) (pv 1) Zaf (fun _ _=>rfl)) (fun _ _=>rfl)) ZdS))
   (Zaj (ZaD (ZmA FL kL bL Zmt hr (pv 2) (Zab (PE.nox (pv 0)) (Zab (PE.nox (pv 1)) Zac))))))),?_⟩
  exact Zf9 (K:=K) (g:=g5) rfl (fun H=>N.t5 H) rfl h hl hf k1 k2
abbrev Zbr:Stmt:=top 64
theorem Ze0:ZaC ["_law_script", "_law_k"] ["_law_script", "_law_k"] (Zag Zbr):=⟨rfl,rfl,rfl,by decide +kernel,rfl,by decide +kernel,by decide +kernel⟩
theorem Zoy (F:Fun K "_law_cell_at" "_law_cell_at" Zbr f fd)(M:Txt mg):ZbW P w K mg base CX0 1 f fd ["_law_script", "_law_k"] (Zd4 K):=by
 have sc:=Ze0;refine F.ok sc (fun vs H Q E h=> ?_) (fun cdv A outer s H vs Q E hr h=> ?_)
 ·obtain⟨a,ns,k,rfl,_⟩:=h;rfl
 ·obtain⟨a,ns,k,rfl,hS,kk⟩:=h
  refine⟨_,(Zae (Zbj (ZaI ZdO (pv 1) (Zap (ZbS (K:=K)) (by rfl) M.len QbF (Zab (pv 0) Zac)) (ZaH _)) (Zaj (ZaD (ZaA (ZaK (K:=K)) (pv 0) (pv 1) (fun _ _=>rfl)))) ZaO)
   (Zaj (ZaD Zaf))),?_⟩
  exact ZhH hS kk
abbrev ZcG:Stmt:=top 65
theorem Zik:ZaC ["_law_script", "_law_k", "_law_x", "_law_total", "_law_j"] ["_law_script", "_law_k"] (Zag ZcG):=⟨rfl,rfl,rfl,by decide +kernel,rfl,by decide +kernel,by decide +kernel⟩
theorem ZpN (F:Fun K "_law_big" "_law_big" ZcG f fd)(M:Txt mg)(qv:Kn P w K mg base "_law_cell_at" 1 ["_law_script", "_law_k"] (Zd4 K))(B:Gb mg):ZbW P w K mg base CX0 2 f fd ["_law_script", "_law_k"] (Zc4 K):=by
 have sc:=Zik;refine F.ok sc (fun vs H Q E h=> ?_) (fun cdv A outer s H vs Q E hr h=> ?_)
 ·obtain⟨a,ns,k,rfl,_⟩:=h;rfl
 ·obtain⟨a,ns,k,rfl,hS,kk⟩:=h
  refine⟨_,(Zae (Zbj (ZaI Zkc (Zap Ziu (by rfl) B.ab boot_abs (Zbe (Zai qv hr rfl (Zab (pv 0) (Zab (pv 1) Zac))) Zac)) (Zam Zgp Zaf Zaf) (ZaH _)) (Zaj (ZaD (Zam ZaR (Zap Ziu (by rfl) B.ab boot_abs (Zbe (Zai qv hr rfl (Zab (pv 0) (Zab (pv 1) Zac))) Zac)) (Zam Zgp Zaf Zaf)))) ZaO)
   (Zae (Zar (i:=2) sc.nd rfl (Or.inl rfl) (Zam ZaG (Zam ZaG (Zam ZaG (Zam ZbL (Zai qv hr rfl (Zab (pv 0) (Zas Zaf Zac))) Zaf) (Zam Zc9 Zaf (pv 1))) (Zam Zc9 Zaf (Zai qv hr rfl (Zab (pv 0) (Zab (pv 1) Zac))))) Zaf))
   (Zae (Zar (i:=2) sc.nd rfl (Or.inl rfl) (Zam ZaG (Zam ZbL (pv 2) Zaf) Zaf))
   (Zae (Zar (i:=3) sc.nd rfl (Or.inl rfl) Zaf)
   (Zae (ZbK QaQ rfl (Zct rfl M.range (Zas Zaf Zac)) (Zal (i:=4) sc.nd rfl (Or.inl rfl))
   (Zae (Zar (i:=2) sc.nd rfl (Or.inl rfl) (Zam ZbL (Zam ZaG (Zam ZaG (Zam ZaG (Zam Zc9 (pv 2) Zaf) (Zam Zbm (pv 2) Zaf)) (Zam Zc9 (Zam Zc9 Zaf (pv 4)) (pv 4))) (pv 1)) Zaf))
   (Zaj (Zar (i:=3) sc.nd rfl (Or.inl rfl) (Zam ZaG (Zam Zc9 (pv 3) Zaf) (Zam ZbL (Zam Zc9 (pv 2) Zaf) Zaf))))))
   (Zaj (ZaD (pv 3)))))))),?_⟩
  exact ZjB hS kk
abbrev Zcm:Stmt:=top 66
theorem Zhn:ZaC ["_law_bag", "_law_many", "_law_found"] ["_law_bag", "_law_many"] (Zag Zcm):=⟨rfl,rfl,rfl,by decide +kernel,rfl,by decide +kernel,by decide +kernel⟩
theorem Zoz (F:Fun K "_law_take" "_law_take" Zcm f fd)(M:Txt mg):ZbW P w K mg base CX0 1 f fd ["_law_bag", "_law_many"] Za0:=by
 have sc:=Zhn;refine F.ok sc (fun vs H Q E h=> ?_) (fun cdv A outer s H vs Q E hr h=> ?_)
 ·obtain⟨d,m,rfl,_⟩:=h;rfl
 ·obtain⟨d,m,rfl,h1,h2,h3,k⟩:=h
  refine⟨_,(Zae (Zar (i:=2) sc.nd rfl (Or.inl rfl) (Zam ZbL (ZaA (ZaK (K:=K)) (pv 0) Zaf (fun _ _=>rfl)) (pv 1)))
   (Zae (Zc3 (Zam Zbm (ZaA (ZaK (K:=K)) (pv 0) Zaf (fun _ _=>rfl)) (pv 1)) (Zis (pv 0) Zaf Zeq))
   (Zaj (ZaD (pv 2))))),?_⟩
  exact ZhI (K:=K) h1 h2 h3 k
abbrev Za1:Stmt:=top 67
theorem Zel:ZaC ["_law_n", "_law_head", "_law_script", "_law_at_here", "_law_bag", "_law_wide", "_law_high", "_law_pieces", "_law_k", "_law_drawn", "_law_weights", "_law_many", "_law_found"] ["_law_n", "_law_head", "_law_script", "_law_at_here"] (Zag Za1):=⟨rfl,rfl,rfl,by decide +kernel,rfl,by decide +kernel,by decide +kernel⟩
theorem ZlX (F:Fun K "_law_weighing" "_law_weighing" Za1 f fd)(M:Txt mg)(qd:Kn P w K mg base "_law_take" 1 ["_law_bag", "_law_many"] Za0)(qp:Kn P w K mg base "_law_big" 2 ["_law_script", "_law_k"] (Zc4 K)):ZbW P w K mg base CX0 3 f fd ["_law_n", "_law_head", "_law_script", "_law_at_here"] (Zf2 K):=by
 have sc:=Zel;refine F.ok sc (fun vs H Q E h=> ?_) (fun cdv A outer s H vs Q E hr h=> ?_)
 ·obtain⟨n,hd,a,ns,at0,rfl,_⟩:=h;rfl
 ·obtain⟨n,hd,a,ns,at0,rfl,hS,h0,h1,k⟩:=h
  refine⟨_,(Zae (Zar (i:=4) sc.nd rfl (Or.inl rfl) (ZaS (Zab (pv 1) Zac)))
   (Zae (Zar (i:=5) sc.nd rfl (Or.inl rfl) (ZaA (ZaK (K:=K)) (ZaS (Zdx Zaf Zaf Zaf Zaf (Zdx Zaf Zaf Zaf Zaf Zac))) (Zai qd hr rfl (Zab (pv 4) (Zas Zaf Zac))) (fun _ _=>rfl)) ZdS)
   (Zae (Zar (i:=6) sc.nd rfl (Or.inr rfl) (ZaA (ZaK (K:=K)) (ZaS (Zdx Zaf Zaf Zaf (Zam Zgp Zaf Zaf) Zac)) (Zai qd hr rfl (Zab (pv 4) (Zas Zaf Zac))) (fun _ _=>rfl)) ZdS)
   (Zae (Zar (i:=7) sc.nd rfl (Or.inl rfl) (ZaS (ZbG (Zba (Zdd (pv 0) (Zbf ZbD (by rfl) M.tuple Qch (ZaQ (Zbg (xs:=["_law_j"]) (Nb:=["_law_n", "_law_head", "_law_script", "_law_at_here", "_law_bag", "_law_wide", "_law_high", "_law_pieces", "_law_k", "_law_drawn", "_law_weights", "_law_many", "_law_found"]) rfl (Zct rfl M.range (Zab (pv 5) Zac)) rfl (by show∀p∈(List.zip ["_law_n", "_law_head", "_law_script", "_law_at_here", "_law_bag", "_law_wide", "_law_high", "_law_pieces", "_law_k", "_law_drawn", "_law_weights", "_law_many", "_law_found"] ["_law_n", "_law_head", "_law_script", "_law_at_here", "_law_bag", "_law_wide", "_law_high", "_law_pieces", "_law_k", "_law_drawn", "_law_weights", "_law_many", "_law_found"]:List (Str×Str)),_;decide +kernel) (by decide +kernel) (fun cl C s₂ H₂ fp=>(Zal (i:=0) (by show List.Nodup (["_law_j", "_law_n", "_law_head", "_law_script", "_law_at_here", "_law_bag", "_law_wide", "_law_high", "_law_pieces", "_law_k", "_law_drawn", "_law_weights", "_law_many", "_law_found"]:List Str);decide +kernel) rfl (Or.inl (Qai rfl)) (Or.inr (Qai rfl)))) (fun cl C s₂ H₂ fp=>Zcw) (fun cl C s₂ H₂ fp=>Zaf) (by decide +kernel) rfl (by decide +kernel) (by show∀y∈(_:List (Str×NameKind)),y.2=NameKind.free→(Zag Za1).names.lookup y.1=some .cell;decide +kernel)) Zac)) Zac)) Zac)))
   (Zae (ZbK QaQ rfl (Zct rfl M.range (Zbe (Zai qd hr rfl (Zab (pv 4) (Zas Zaf Zac))) Zac)) (Zal (i:=8) sc.nd rfl (Or.inl rfl))
   (Zae (Zar (i:=9) sc.nd rfl (Or.inr rfl) (ZaS (Zbe (Zai qp hr rfl (Zab (pv 2) (ZaL (Zam ZaG (pv 3) (pv 8)) Zac))) Zac)))
   (Zae (Zar (i:=10) sc.nd rfl (Or.inl rfl) (Zbf ZbD (by rfl) M.tuple Qch (ZaQ (Zbg (xs:=["_law_j"]) (Nb:=["_law_n", "_law_head", "_law_script", "_law_at_here", "_law_bag", "_law_wide", "_law_high", "_law_pieces", "_law_k", "_law_drawn", "_law_weights", "_law_many", "_law_found"]) rfl (Zct rfl M.range (Zab (pv 5) Zac)) rfl (by show∀p∈(List.zip ["_law_n", "_law_head", "_law_script", "_law_at_here", "_law_bag", "_law_wide", "_law_high", "_law_pieces", "_law_k", "_law_drawn", "_law_weights", "_law_many", "_law_found"] ["_law_n", "_law_head", "_law_script", "_law_at_here", "_law_bag", "_law_wide", "_law_high", "_law_pieces", "_law_k", "_law_drawn", "_law_weights", "_law_many", "_law_found"]:List (Str×Str)),_;decide +kernel) (by decide +kernel) (fun cl C s₂ H₂ fp=>(Zal (i:=0) (by show List.Nodup (["_law_j", "_law_n", "_law_head", "_law_script", "_law_at_here", "_law_bag", "_law_wide", "_law_high", "_law_pieces", "_law_k", "_law_drawn", "_law_weights", "_law_many", "_law_found"]:List Str);decide +kernel) rfl (Or.inl (Qai rfl)) (Or.inr (Qai rfl)))) (fun cl C s₂ H₂ fp=>Zcw) (fun cl C s₂ H₂ fp=>(Zam ZaR (Zai qd hr rfl (Zab (pv 10) (Zab (pv 7) Zac))) (Zam Zbm (pv 7) Zaf))) (by decide +kernel) rfl (by decide +kernel) (by show∀y∈(_:List (Str×NameKind)),y.2=NameKind.free→(Zag Za1).names.lookup y.1=some .cell;decide +kernel)) Zac)))
   (Zae (Zar (i:=11) sc.nd rfl (Or.inl rfl) (Zai qd hr rfl (Zab (pv 9) (ZaL (Zam ZaG (ZaA (Zao (K:=K)) (ZaA (ZaK (K:=K)) (pv 7) (Zdu Zcx Zaf) (fun _ _=>rfl)) Zaf (fun _ _=>rfl)) Zaf) Zac))))
   (Zaj (Zar (i:=7) sc.nd rfl (Or.inl rfl) (Zam Zb5 (Zbl Zcv (pv 7) Zb0 (ZbP (Zdu Zcx Zaf))) (ZaS (Zdd (Zba (Zdd (pv 11) (pv 10) Zac)) (Zba (Zdd (Zam ZaR (ZaA (Zao (K:=K)) (ZaA (ZaK (K:=K)) (pv 7) (Zdu Zcx Zaf) (fun _ _=>rfl)) Zaf (fun _ _=>rfl)) (pv 11)) (ZaA (Zao (K:=K)) (ZaA (ZaK (K:=K)) (pv 7) (Zdu Zcx Zaf) (fun _ _=>rfl)) Zaf (fun _ _=>rfl)) Zac)) Zac)))))))))
   (Zae (Zar (i:=12) sc.nd rfl (Or.inl rfl) (ZaS Zac))
   (Zae (ZbK QaQ rfl (ZaZ (pv 7)) (ZbR rfl (Zaq (Zal (i:=11) sc.nd rfl (Or.inl rfl)) (Zaq (Zal (i:=10) sc.nd rfl (Or.inl rfl)) Za2)))
   (Zaj (Zbj (PW.pt (Zgn (ZaI Zhx (pv 11) Zaf (ZaH _)) (Zgn (ZaI (Zix hr) (pv 12) (ZaS Zac) (ZaH _)) (ZfC (ZaI (Zkn hr) (ZaA (Zao (K:=K)) (ZaA (ZaK (K:=K)) (pv 12) (Zdu Zcx Zaf) (fun _ _=>rfl)) Zaf (fun _ _=>rfl)) (pv 10) (ZaH _)))))) (Zaj (Zc3 (Zba (Zdd (Zam ZaG (ZaA (Zao (K:=K)) (ZaA (ZaK (K:=K)) (pv 12) (Zdu Zcx Zaf) (fun _ _=>rfl)) Zaf (fun _ _=>rfl)) (pv 11)) (pv 10) Zac)) (Zis (pv 12) (Zdu Zcx Zaf) Zeq))) (Zaj (Zbj (ZaI Zhx (pv 11) Zaf (ZaH _)) (Zaj (Zbb (Zc6 QaE QaI QaJ Za6 (pv 12) (ZbG (Zba (Zdd (pv 11) (pv 10) Zac)) Zac)))) ZaO)))))
   (Zaj (ZaD (pv 12)))))))))),?_⟩
  exact ZhL hS h0 h1 k
abbrev Zbs:Stmt:=top 68
theorem Ze1:ZaC ["_law_n", "_law_head", "_law_script", "_law_at_here", "_law_bag", "_law_way", "_law_long", "_law_one", "_law_other"] ["_law_n", "_law_head", "_law_script", "_law_at_here"] (Zag Zbs):=⟨rfl,rfl,rfl,by decide +kernel,rfl,by decide +kernel,by decide +kernel⟩
theorem Zil (F:Fun K "_law_pairing" "_law_pairing" Zbs f fd)(M:Txt mg)(qd:Kn P w K mg base "_law_take" 1 ["_law_bag", "_law_many"] Za0)(qp:Kn P w K mg base "_law_big" 2 ["_law_script", "_law_k"] (Zc4 K)):ZbW P w K mg base CX0 3 f fd ["_law_n", "_law_head", "_law_script", "_law_at_here"] (ZhM K):=by
 have sc:=Ze1;refine F.ok sc (fun vs H Q E h=> ?_) (fun cdv A outer s H vs Q E hr h=> ?_)
 ·obtain⟨n,hd,a,ns,at0,rfl,_⟩:=h;rfl
 ·obtain⟨n,hd,a,ns,at0,rfl,hS,h1,k⟩:=h
  refine⟨_,(Zae (Zar (i:=4) sc.nd rfl (Or.inl rfl) (ZaS (Zab (pv 1) Zac)))
   (Zae (Zar (i:=5) sc.nd rfl (Or.inl rfl) (Zai qd hr rfl (Zab (pv 4) (Zas Zaf Zac))))
   (Zae (Zar (i:=6) sc.nd rfl (Or.inl rfl) (Zam ZaG Zaf (Zam ZbL (Zai qp hr rfl (Zab (pv 2) (Zab (pv 3) Zac))) (ZaA (ZaK (K:=K)) (ZaS (Zdx (pv 0) (pv 0) (pv 0) (Zap (Zca rfl) (by rfl) M.max Qc3 (Zas Zaf (ZaL (Zam Zbm (pv 0) Zaf) Zac))) (Zdx (Zap (Zca rfl) (by rfl) M.max Qc3 (Zas Zaf (ZaL (Zam Zbm (pv 0) Zaf) Zac))) (Zap (Zbz rfl) (by rfl) M.min QcG (Zab (pv 0) (Zas Zaf Zac))) (pv 0) (Zap (Zbz rfl) (by rfl) M.min QcG (Zab (pv 0) (Zas Zaf Zac))) Zac))) (pv 5) (fun _ _=>rfl)))))
   (Zae (Zar (i:=7) sc.nd rfl (Or.inl rfl) (Zam ZbL (Zai qp hr rfl (Zab (pv 2) (ZaL (Zam ZaG (pv 3) Zaf) Zac))) (Zam ZaG (Zam ZaR (pv 0) (pv 6)) Zaf)))
   (Zae (Zar (i:=8) sc.nd rfl (Or.inl rfl) (Zam ZbL (Zai qp hr rfl (Zab (pv 2) (ZaL (Zam ZaG (pv 3) Zaf) Zac))) (Zam ZaG (Zam ZaR (pv 0) (pv 6)) Zaf)))
   (Zae (Zbj (PW.pt (ZdF (ZaI Zdv (pv 5) Zaf (ZaH _)) (Zeb (ZaI Zdv (pv 5) Zaf (ZaH _))))) (Zaj (Zar (i:=8) sc.nd rfl (Or.inl rfl) (Zap (Zbz rfl) (by rfl) M.min QcG (ZaL (Zam ZaR (pv 0) (pv 6)) (ZaL (Zam ZaG (Zam ZaG (pv 7) Zaf) (Zam ZbL (pv 8) (pv 6))) Zac))))) ZaO)
   (Zae (Zbj (PW.pt (ZdF (ZaI Zdv (pv 5) Zaf (ZaH _)) (Zeb (ZaI Zdv (pv 5) Zaf (ZaH _))))) (Zaj (Zar (i:=8) sc.nd rfl (Or.inl rfl) (Zam ZaR (pv 0) (pv 6)))) ZaO)
   (Zaj (ZaD (Zba (Zdx (Zap (Zbz rfl) (by rfl) M.min QcG (Zab (pv 7) (Zab (pv 8) Zac))) (Zap (Zca rfl) (by rfl) M.max Qc3 (Zab (pv 7) (Zab (pv 8) Zac))) (pv 6) (ZbO Zdv (Zai qd hr rfl (Zab (pv 4) (Zas Zaf Zac))) Zaf (ZaH _)) Zac))))))))))),?_⟩
  exact ZhP hS h1 k
abbrev Zcn:Stmt:=top 69
theorem Zho:ZaC ["_law_script", "_law_at_here", "_law_bag", "_law_way", "_law_n", "_law_many", "_law_weighing_here", "_law_pairings", "_law_k"] ["_law_script", "_law_at_here"] (Zag Zcn):=⟨rfl,rfl,rfl,by decide +kernel,rfl,by decide +kernel,by decide +kernel⟩
theorem Zm7 (F:Fun K "_law_hall" "_law_hall" Zcn f fd)(M:Txt mg)(qp:Kn P w K mg base "_law_big" 2 ["_law_script", "_law_k"] (Zc4 K))(qd:Kn P w K mg base "_law_take" 1 ["_law_bag", "_law_many"] Za0)(qI:Kn P w K mg base "_law_weighing" 3 ["_law_n", "_law_head", "_law_script", "_law_at_here"] (Zf2 K))(qO:Kn P w K mg base "_law_pairing" 3 ["_law_n", "_law_head", "_law_script", "_law_at_here"] (ZhM K)):ZbW P w K mg base CX0 4 f fd ["_law_script", "_law_at_here"] (ZhQ K):=by
 have sc:=Zho;refine F.ok sc (fun vs H Q E h=> ?_) (fun cdv A outer s H vs Q E hr h=> ?_)
 ·obtain⟨a,ns,at0,rfl,_⟩:=h;rfl
 ·obtain⟨a,ns,at0,rfl,hS,k⟩:=h
  refine⟨_,(Zae (Zar (i:=2) sc.nd rfl (Or.inl rfl) (ZaS (Zbe (Zai qp hr rfl (Zab (pv 0) (Zab (pv 1) Zac))) Zac)))
   (Zae (Zar (i:=3) sc.nd rfl (Or.inl rfl) (Zai qd hr rfl (Zab (pv 2) (Zas Zaf Zac))))
   (Zae (Zar (i:=4) sc.nd rfl (Or.inl rfl) (Zam ZbL (Zai qp hr rfl (Zab (pv 0) (ZaL (Zam ZaG (pv 1) Zaf) Zac))) (ZaA (ZaK (K:=K)) (ZaS (Zdx Zaf Zaf Zaf Zaf (Zdx Zaf Zaf (Zam Zgp Zaf Zaf) (Zam Zgp Zaf Zaf) Zac))) (pv 3) (fun _ _=>rfl))))
   (Zae (Zar (i:=5) sc.nd rfl (Or.inl rfl) (ZaA (ZaK (K:=K)) (ZaS (Zdx (Zai qd hr rfl (Zab (pv 2) (Zas Zaf Zac))) (Zai qd hr rfl (Zab (pv 2) (Zas Zaf Zac))) Zaf (Zai qd hr rfl (Zab (pv 2) (Zas Zaf Zac))) Zac)) (Zai qd hr rfl (Zab (pv 2) (Zas Zaf Zac))) (fun _ _=>rfl)) ZdS)
   (Zae (Zbj (ZaI Zdv (Zai qd hr rfl (Zab (pv 2) (Zas Zaf Zac))) Zaf (ZaH _)) (Zaj (Zar (i:=5) sc.nd rfl (Or.inl rfl) (Zam ZaG Zaf (Zai qd hr rfl (Zab (pv 2) (Zas Zaf Zac)))))) ZaO)
   (Zae (Zbj (ZaI Zhx (pv 3) Zaf (ZaH _)) (Zaj (Zar (i:=5) sc.nd rfl (Or.inl rfl) (Zam ZbL (pv 5) Zaf))) ZaO)
   (Zae (Zar (i:=6) sc.nd rfl (Or.inl rfl) (Zai qI hr rfl (Zab (pv 4) (Zbe (Zai qd hr rfl (Zab (pv 2) (Zas Zaf Zac))) (Zab (pv 0) (ZaL (Zam ZaG (pv 1) Zaf) Zac))))))
   (Zae (Zar (i:=7) sc.nd rfl (Or.inl rfl) (ZaS Zac))
   (Zae (ZbK QaQ rfl (Zct rfl M.range (ZaL (Zam Zc9 (pv 5) (Zbf Zgr (by rfl) M.int boot_int (ZaQ (ZbO Zhx (pv 4) Zaf (ZaH _)) Zac))) Zac)) (Zal (i:=8) sc.nd rfl (Or.inl rfl))
   (Zaj (Zbb (Zc6 QaE QaI QaJ Za6 (pv 7) (Zbe (Zai qO hr rfl (Zab (pv 4) (Zbe (Zai qd hr rfl (Zab (pv 2) (Zas Zaf Zac))) (Zab (pv 0) (ZaL (Zam ZaG (Zam ZaG (pv 1) Zaf) (Zam ZbL (Zam Zc9 (pv 8) Zaf) Zaf)) Zac))))) Zac)))))
   (Zaj (ZaD (Zba (Zei (pv 4) (pv 7) (pv 6) Zac))))))))))))),?_⟩
  exact ZhS hS k
abbrev Zbi:Stmt:=top 79
theorem Zem:ZaC ["_law_thing"] ["_law_thing"] (Zag Zbi):=⟨rfl,rfl,rfl,by decide +kernel,rfl,by decide +kernel,by decide +kernel⟩
theorem Zim (F:Fun K "_law_is_whole" "_law_is_whole" Zbi f fd)(M:Txt mg):ZbW P w K mg base CX0 1 f fd ["_law_thing"] ZjE:=by
 have sc:=Zem;refine F.ok sc (fun vs H Q E h=> ?_) (fun cdv A outer s H vs Q E hr h=> ?_)
 ·obtain⟨i,rfl,_⟩:=h;rfl
 ·obtain⟨i,rfl,k⟩:=h;refine⟨_,(Zaj (ZaD (Zc2 (Zap (ZaT (T:= "int") (K:=K)) (by rfl) M.isinstance QaP (Zab (pv 0) (Zab (ZbX (v:=.ty "int") rfl M.int boot_int rfl) Zac))) (Zc8 (Zir (Zap (ZaT (T:= "bool") (K:=K)) (by rfl) M.isinstance QaP (Zab (pv 0) (Zab (ZbX (v:=.ty "bool") rfl M.bool boot_bool rfl) Zac)))))))),?_⟩;exact Zg0 (K:=K) k
end
section
variable {K:PySem.W.Frag}
theorem noD {K:PySem.W.Frag}(Z:Exs K mg qc qe qb qo qg qh qi qf c_NoName):NoD K qc qe qb qo qg qh qi qf c_NoName:=⟨Z.x_NoDeed,Z.x_TooMany,Z.x_NoRow,Z.x_NoCord,Z.x_NoTurn,Z.x_NoText,Z.x_NoSheet,Z.x_NoName,Z.v_NoDeed,Z.s_NoDeed_CordError,Z.s_NoDeed_NoDeed,Z.s_NoDeed_TooMany,Z.s_NoDeed_NoRow,Z.s_NoDeed_NoCord,Z.s_NoDeed_NoTurn,Z.s_NoDeed_NoText,Z.s_NoDeed_NoSheet,Z.s_NoDeed_NoName⟩
abbrev ZaX:Stmt:=top 80
theorem ZdW:ZaC ["_law_told", "_law_numbers", "_law_pairing_here", "_law_one", "_law_other"] ["_law_told"] (Zag ZaX):=⟨rfl,rfl,rfl,by decide +kernel,rfl,by decide +kernel,by decide +kernel⟩
theorem Zhp (F:Fun K "_law_told_right" "_law_told_right" ZaX f fd)(M:Txt mg)(qJ:Kn P w K mg base "_law_is_whole" 1 ["_law_thing"] ZjE):ZbW P w K mg base CX0 2 f fd ["_law_told"] Zqk:=by
 have sc:=ZdW;refine F.ok sc (fun vs H Q E h=> ?_) (fun cdv A outer s H vs Q E hr h=> ?_)
 ·obtain⟨c,a,pa,pb,pc,o,ya,yb,yc,rfl,_⟩:=h;rfl
 ·obtain⟨c,a,pa,pb,pc,o,ya,yb,yc,rfl,t,oo,k⟩:=h
  refine⟨_,(Zae (Zbj (PW.pt (ZdF (Zcs (Zb9 (Zap (ZaT (T:= "tuple") (K:=K)) (by rfl) M.isinstance QaP (Zab (pv 0) (Zab (ZbX (v:=.ty "tuple") rfl M.tuple Qch rfl) Zac))))) (ZdF (ZaI Zkb (Zap (ZbS (K:=K)) (by rfl) M.len QbF (Zab (pv 0) Zac)) Zaf (ZaH _)) (ZdF (Zcs (Zb9 (Zap (ZaT (T:= "tuple") (K:=K)) (by rfl) M.isinstance QaP (Zaz (ZaA (Zao (K:=K)) (pv 0) Zaf (fun _ _=>rfl)) (Zab (ZbX (v:=.ty "tuple") rfl M.tuple Qch rfl) Zac))))) (Zeb (ZaI Zkb (Zap (ZbS (K:=K)) (by rfl) M.len QbF (Zaz (ZaA (Zao (K:=K)) (pv 0) Zaf (fun _ _=>rfl)) Zac)) Zaf (ZaH _))))))) (Zaj (ZaD ZdN)) ZaO)
   (Zae (Zbj (PW.pt (ZdF (Zcs (Zb9 (Zap (ZaT (T:= "list") (K:=K)) (by rfl) M.isinstance QaP (Zaz (ZaA (Zao (K:=K)) (ZaA (Zao (K:=K)) (pv 0) Zaf (fun _ _=>rfl)) Zaf (fun _ _=>rfl)) (Zab (ZbX (v:=.ty "list") rfl M.list QcM rfl) Zac))))) (ZdF (Zcs (Zb9 (Zap (ZaT (T:= "list") (K:=K)) (by rfl) M.isinstance QaP (Zaz (ZaA (Zao (K:=K)) (ZaA (Zao (K:=K)) (pv 0) Zaf (fun _ _=>rfl)) Zaf (fun _ _=>rfl)) (Zab (ZbX (v:=.ty "list") rfl M.list QcM rfl) Zac))))) (Zeb (Zcs (Zb9 (Zap (ZaT (T:= "list") (K:=K)) (by rfl) M.isinstance QaP (Zaz (ZaA (Zao (K:=K)) (pv 0) Zaf (fun _ _=>rfl)) (Zab (ZbX (v:=.ty "list") rfl M.list QcM rfl) Zac))))))))) (Zaj (ZaD ZdN)) ZaO)
   (Zae (Zar (i:=1) sc.nd rfl (Or.inl rfl) (ZaS (Zaz (ZaA (Zao (K:=K)) (ZaA (Zao (K:=K)) (pv 0) Zaf (fun _ _=>rfl)) Zaf (fun _ _=>rfl)) Zac)))
   (Zae (ZbK QaQ rfl (ZaZ (ZaA (Zao (K:=K)) (ZaA (Zao (K:=K)) (pv 0) Zaf (fun _ _=>rfl)) Zaf (fun _ _=>rfl))) (Zal (i:=2) sc.nd rfl (Or.inl rfl))
   (Zae (Zbj (PW.pt (ZdF (Zcs (Zb9 (Zap (ZaT (T:= "tuple") (K:=K)) (by rfl) M.isinstance QaP (Zab (pv 2) (Zab (ZbX (v:=.ty "tuple") rfl M.tuple Qch rfl) Zac))))) (ZdF (ZaI Zkb (Zap (ZbS (K:=K)) (by rfl) M.len QbF (Zab (pv 2) Zac)) Zaf (ZaH _)) (Zeb (Zcs (Zb9 (Zap (ZaT (T:= "bool") (K:=K)) (by rfl) M.isinstance QaP (Zaz (ZaA (Zao (K:=K)) (pv 2) Zaf (fun _ _=>rfl)) (Zab (ZbX (v:=.ty "bool") rfl M.bool boot_bool rfl) Zac))))))))) (Zaj (ZaD ZdN)) ZaO)
   (Zaj (Zbb (Zc6 QaE Qcs Qct ZjD (pv 1) (Zaz (Zbl (ZfY (K:=K)) (pv 2) Zb0 (ZbP Zaf)) Zac))))))
   (Zae (ZbK QaQ rfl (ZaZ (ZaA (Zao (K:=K)) (ZaA (Zao (K:=K)) (pv 0) Zaf (fun _ _=>rfl)) Zaf (fun _ _=>rfl))) (ZbR rfl (Zaq (Zal (i:=3) sc.nd rfl (Or.inl rfl)) (Zaq (Zal (i:=4) sc.nd rfl (Or.inl rfl)) Za2)))
   (Zaj (Zbb (Zc6 QaE Qcs Qct ZgA (pv 1) (ZaL (Zam Zb5 (Zbf Zb4 (by rfl) M.list QcM (Zab (pv 4) Zac)) (ZaS (Zab (pv 3) Zac))) Zac)))))
   (Zae (ZbK QaQ rfl (ZaZ (ZaA (Zao (K:=K)) (pv 0) Zaf (fun _ _=>rfl))) (ZbR rfl (Zaq (Zal (i:=3) sc.nd rfl (Or.inl rfl)) (Zaq (Zal (i:=4) sc.nd rfl (Or.inl rfl)) Za2)))
   (Zaj (Zbb (Zc6 QaE Qcs Qct ZgA (pv 1) (ZaL (Zam Zb5 (Zbf Zb4 (by rfl) M.list QcM (Zab (pv 3) Zac)) (ZaS (Zab (pv 4) Zac))) Zac)))))
   (Zaj (ZaD (Zap (Zer rfl) (by rfl) M.all boot_all (ZaQ (Zbg (xs:=["_law_amount"]) (Nb:=["_law_told", "_law_numbers", "_law_pairing_here", "_law_one", "_law_other"]) rfl (ZaZ (pv 1)) rfl (by show∀p∈(List.zip ["_law_told", "_law_numbers", "_law_pairing_here", "_law_one", "_law_other"] ["_law_told", "_law_numbers", "_law_pairing_here", "_law_one", "_law_other"]:List (Str×Str)),_;decide +kernel) (by decide +kernel) (fun cl C s₂ H₂ fp=>(Zal (i:=0) (by show List.Nodup (["_law_amount", "_law_told", "_law_numbers", "_law_pairing_here", "_law_one", "_law_other"]:List Str);decide +kernel) rfl (Or.inl (Qai rfl)) (Or.inr (Qai rfl)))) (fun cl C s₂ H₂ fp=>Zcw) (fun cl C s₂ H₂ fp=>(Zai qJ hr rfl (Zab (pv 0) Zac))) (by decide +kernel) rfl (by decide +kernel) (by show∀y∈(_:List (Str×NameKind)),y.2=NameKind.free→(Zag ZaX).names.lookup y.1=some .cell;decide +kernel)) Zac)))))))))),?_⟩
  exact ZmH t oo k
abbrev Zbt:Stmt:=top 81
theorem Ze2:ZaC ["_law_hall_here", "_law_deed", "_law_handed", "e", "_law_kinds"] ["_law_hall_here", "_law_deed"] (Zag Zbt):=⟨rfl,rfl,rfl,by decide +kernel,rfl,by decide +kernel,by decide +kernel⟩
theorem ZjS (F:Fun K "_law_refused" "_law_refused" Zbt f fd)(M:Txt mg)(qA:KnX P w K mg base "deed_done" 7 ["hall", "deed"] (ZeP qb ZjI))(Z:Exs K mg qc qe qb qo qg qh qi qf c_NoName)(B:Gb mg):ZbW P w K mg base CX0 8 f fd ["_law_hall_here", "_law_deed"] (Zd5 K ZjI):=by
 have sc:=Ze2;refine F.ok sc (fun vs H Q E h=> ?_) (fun cdv A outer s H vs Q E hr h=> ?_)
 ·obtain⟨a,pa,pb,u,n,ps,L,ya,yb,rfl,_⟩:=h;rfl
 ·obtain⟨a,pa,pb,u,n,ps,L,ya,yb,rfl,h,hl,hf,k⟩:=h
  refine⟨_,(Zae (Zar (i:=2) sc.nd rfl (Or.inl rfl) (Zba (Zei (ZaA (Zao (K:=K)) (pv 0) Zaf (fun _ _=>rfl)) (Zbf Zb4 (by rfl) M.list QcM (Zaz (ZaA (Zao (K:=K)) (pv 0) Zaf (fun _ _=>rfl)) Zac)) (Zbf Zb4 (by rfl) M.list QcM (Zaz (ZaA (Zao (K:=K)) (pv 0) Zaf (fun _ _=>rfl)) Zac)) Zac)))
   (Zae (Zpg (i:=3) sc.nd rfl rfl rfl rfl Z.m_CordError rfl Z.x_CordError (fun qa xe Ex px=>(Zaj (Zbb (ZdU qA px hr rfl (Zab (PE.nox (pv 2)) (Zab (PE.nox (pv 1)) Zac)))))) (fun C ea oe ho=>(Zae (Zar (i:=4) sc.nd rfl (Or.inl rfl) (ZaS (Zdx (Zap (Zcf (K:=K) ho) (by rfl) M.isinstance QaP (Zab (pv 3) (Zab (ZcX (v:=.ref _) rfl Z.m_TooMany rfl) Zac))) (Zap (Zcf (K:=K) ho) (by rfl) M.isinstance QaP (Zab (pv 3) (Zab (ZcX (v:=.ref _) rfl Z.m_NoRow rfl) Zac))) (Zap (Zcf (K:=K) ho) (by rfl) M.isinstance QaP (Zab (pv 3) (Zab (ZcX (v:=.ref _) rfl Z.m_NoCord rfl) Zac))) (Zap (Zcf (K:=K) ho) (by rfl) M.isinstance QaP (Zab (pv 3) (Zab (ZcX (v:=.ref _) rfl Z.m_NoTurn rfl) Zac))) Zac)))
   (Zae (Zar (i:=4) sc.nd rfl (Or.inl rfl) (Zam Zb5 (pv 4) (ZaS (Zei (Zap (Zcf (K:=K) ho) (by rfl) M.isinstance QaP (Zab (pv 3) (Zab (ZcX (v:=.ref _) rfl Z.m_NoText rfl) Zac))) (Zap (Zcf (K:=K) ho) (by rfl) M.isinstance QaP (Zab (pv 3) (Zab (ZcX (v:=.ref _) rfl Z.m_NoSheet rfl) Zac))) (Zap (Zcf (K:=K) ho) (by rfl) M.isinstance QaP (Zab (pv 3) (Zab (ZcX (v:=.ref _) rfl Z.m_NoName rfl) Zac))) Zac))))
   (Zaj (ZaD (Zc2 (Zap (Zcf (K:=K) ho) (by rfl) M.isinstance QaP (Zab (pv 3) (Zab (ZcX (v:=.ref _) rfl Z.m_NoDeed rfl) Zac))) (Zc2 (Zap (Zcf (K:=K) ho) (by rfl) M.isinstance QaP (Zab (pv 3) (Zab (ZbX (v:=.ty "ValueError") rfl B.ve PyProof.Rows.Boot.«ValueError» rfl) Zac))) (Zc2 (ZbO (Zla (K:=K)) ZdN (pv 4) rfl) (Zc8 (ZbO (Zn6 (K:=K) hr) (pv 2) (pv 0) (ZaH _))))))))))))
   (Zaj (ZaD ZdN)))),?_⟩
  exact Zfc (noD Z) h hl Zlu hf k
abbrev Za5:Stmt:=top 82
theorem ZdX:ZaC ["_law_hall_here", "_law_deed", "_law_due_here", "_law_handed", "_law_turn", "_law_told"] ["_law_hall_here", "_law_deed", "_law_due_here"] (Zag Za5):=⟨rfl,rfl,rfl,by decide +kernel,rfl,by decide +kernel,by decide +kernel⟩
theorem Zhq (F:Fun K "_law_done_right" "_law_done_right" Za5 f fd)(M:Txt mg)(qA:KnX P w K mg base "deed_done" 7 ["hall", "deed"] (ZeP qb ZjI))(qB:Kn P w K mg base "_law_told_right" 2 ["_law_told"] Zqk):ZbW P w K mg base CX0 8 f fd ["_law_hall_here", "_law_deed", "_law_due_here"] (Zf3 K ZjI):=by
 have sc:=ZdX;refine F.ok sc (fun vs H Q E h=> ?_) (fun cdv A outer s H vs Q E hr h=> ?_)
 ·obtain⟨a,pa,pb,u,n,ps,L,ya,yb,c0,a0,pa0,pb0,pc0,out,ya0,yb0,yc0,rfl,_⟩:=h;rfl
 ·obtain⟨a,pa,pb,u,n,ps,L,ya,yb,c0,a0,pa0,pb0,pc0,out,ya0,yb0,yc0,rfl,h,hl,hf,t,oo,k⟩:=h
  refine⟨_,(Zae (Zar (i:=3) sc.nd rfl (Or.inl rfl) (Zba (Zei (ZaA (Zao (K:=K)) (pv 0) Zaf (fun _ _=>rfl)) (Zbf Zb4 (by rfl) M.list QcM (Zaz (ZaA (Zao (K:=K)) (pv 0) Zaf (fun _ _=>rfl)) Zac)) (Zbf Zb4 (by rfl) M.list QcM (Zaz (ZaA (Zao (K:=K)) (pv 0) Zaf (fun _ _=>rfl)) Zac)) Zac)))
   (Zae (ZbK QaQ rfl (Zct rfl M.range (Zas Zaf Zac)) (Zal (i:=4) sc.nd rfl (Or.inl rfl))
   (Zae (Zar (i:=5) sc.nd rfl (Or.inl rfl) (ZdU qA Zqa hr rfl (Zab (pv 3) (Zab (pv 1) Zac))))
   (Zae (Zbj (PW.pt (ZdF (Zcs (Zb9 (Zai qB hr rfl (Zab (pv 5) Zac)))) (Zeb (ZaI (Zix hr) (pv 5) (pv 2) (ZaH _))))) (Zaj (ZaD ZdN)) ZaO)
   (Zae (Zbb (Zc6 QaE QaI QaJ Za6 (ZaA (Zao (K:=K)) (ZaA (Zao (K:=K)) (pv 5) Zaf (fun _ _=>rfl)) Zaf (fun _ _=>rfl)) (Zas ZeA Zac)))
   (Zae (Zbb (Zc6 QaE QaI QaJ Za6 (ZaA (Zao (K:=K)) (ZaA (Zao (K:=K)) (pv 5) Zaf (fun _ _=>rfl)) Zaf (fun _ _=>rfl)) (Zas ZeA Zac)))
   (Zae (Zbb (Zc6 QaE QaI QaJ Za6 (ZaA (Zao (K:=K)) (pv 5) Zaf (fun _ _=>rfl)) (Zas ZeA Zac)))
   (Zaj (Zbj (ZaI (Zix hr) (pv 3) (pv 0) (ZaH _)) (Zaj (ZaD ZdN)) ZaO))))))))
   (Zaj (ZaD ZdN)))),?_⟩
  exact Zg4 (cN:=qb) h hl Zlu hf t oo k
abbrev Zb8:Stmt:=top 83
theorem Zgj:ZaC ["_law_hall_here", "_law_deed", "_law_due_here"] ["_law_hall_here", "_law_deed", "_law_due_here"] (Zag Zb8):=⟨rfl,rfl,rfl,by decide +kernel,rfl,by decide +kernel,by decide +kernel⟩
theorem Zm8 (F:Fun K "_law_right" "_law_right" Zb8 f fd)(M:Txt mg)(qP:Kn P w K mg base "_law_refused" 8 ["_law_hall_here", "_law_deed"] (Zd5 K ZjI))(qC:Kn P w K mg base "_law_done_right" 8 ["_law_hall_here", "_law_deed", "_law_due_here"] (Zf3 K ZjI)):ZbW P w K mg base CX0 9 f fd ["_law_hall_here", "_law_deed", "_law_due_here"] (Zev K ZjI):=by
 have sc:=Zgj;refine F.ok sc (fun vs H Q E h=> ?_) (fun cdv A outer s H vs Q E hr h=> ?_)
 ·obtain⟨a,pa,pb,u,n,ps,L,ya,yb,dv,o,rfl,_⟩:=h;rfl
 ·obtain⟨a,pa,pb,u,n,ps,L,ya,yb,dv,o,rfl,h,hl,hf,e1,e2,k⟩:=h
  refine⟨_,(Zae (Zbj (Zj3 (Znd (pv 2))) (Zaj (ZaD (Zai qP hr rfl (Zab (pv 0) (Zab (pv 1) Zac))))) ZaO)
   (Zaj (ZaD (Zai qC hr rfl (Zab (pv 0) (Zab (pv 1) (Zab (pv 2) Zac))))))),?_⟩
  exact Zg5 h hl hf e1 e2 k
end
section
variable {K:PySem.W.Frag}
def Zm9 (K:PySem.W.Frag):Sp:=fun vs H Q _=>∃(a:Addr) (ns:List Int),vs=[.ref a]∧SqL K H a (ns.map V.int)∧ns.length≤63∧∀H',Q (.bl true) H'
abbrev Zco:Stmt:=top 71
theorem Zhr:ZaC ["_law_pairing_here"] ["_law_pairing_here"] (Zag Zco):=⟨rfl,rfl,rfl,by decide +kernel,rfl,by decide +kernel,by decide +kernel⟩
theorem Zna (F:Fun K "_law_lead" "_law_lead" Zco f fd)(M:Txt mg):ZbW P w K mg base CX0 1 f fd ["_law_pairing_here"] ZcV:=by
 have sc:=Zhr;refine F.ok sc (fun vs H Q E h=> ?_) (fun cdv A outer s H vs Q E hr h=> ?_)
 ·obtain⟨q,p,rfl,_⟩:=h;rfl
 ·obtain⟨q,p,rfl,h1,k⟩:=h;refine⟨_,(Zaj (ZaD (Zc2 (ZbO ZdO (ZaA (Zao (K:=K)) (pv 0) Zaf (fun _ _=>rfl)) (ZaA (Zao (K:=K)) (pv 0) Zaf (fun _ _=>rfl)) (ZaH _)) (Zc8 (ZoK (Zir (ZaA (Zao (K:=K)) (pv 0) Zaf (fun _ _=>rfl))) (Zc8 (ZbO Zkc (ZaA (Zao (K:=K)) (pv 0) Zaf (fun _ _=>rfl)) (Zam ZaG (ZaA (Zao (K:=K)) (pv 0) Zaf (fun _ _=>rfl)) (ZaA (Zao (K:=K)) (pv 0) Zaf (fun _ _=>rfl))) (ZaH _)))))))),?_⟩;exact ZhY (K:=K) h1 k
abbrev ZbH:Stmt:=top 72
theorem Zfe:ZaC ["_law_pairing_here"] ["_law_pairing_here"] (Zag ZbH):=⟨rfl,rfl,rfl,by decide +kernel,rfl,by decide +kernel,by decide +kernel⟩
theorem ZlY (F:Fun K "_law_behind" "_law_behind" ZbH f fd)(M:Txt mg):ZbW P w K mg base CX0 1 f fd ["_law_pairing_here"] ZbQ:=by
 have sc:=Zfe;refine F.ok sc (fun vs H Q E h=> ?_) (fun cdv A outer s H vs Q E hr h=> ?_)
 ·obtain⟨q,p,rfl,_⟩:=h;rfl
 ·obtain⟨q,p,rfl,h1,k⟩:=h;refine⟨_,(Zaj (ZaD (Zam ZaG (ZaA (Zao (K:=K)) (pv 0) Zaf (fun _ _=>rfl)) (ZaA (Zao (K:=K)) (pv 0) Zaf (fun _ _=>rfl))))),?_⟩;exact ZeQ (K:=K) h1 k
abbrev ZcW:Stmt:=top 73
theorem ZjT:ZaC ["_law_weighing_here", "_law_place", "_law_many", "_law_weights"] ["_law_weighing_here", "_law_place"] (Zag ZcW):=⟨rfl,rfl,rfl,by decide +kernel,rfl,by decide +kernel,by decide +kernel⟩
theorem ZpO (F:Fun K "_law_at" "_law_at" ZcW f fd)(M:Txt mg):ZbW P w K mg base CX0 1 f fd ["_law_weighing_here", "_law_place"] (Zhf K):=by
 have sc:=ZjT;refine F.ok sc (fun vs H Q E h=> ?_) (fun cdv A outer s H vs Q E hr h=> ?_)
 ·obtain⟨a,xs,L,x,rfl,_⟩:=h;rfl
 ·obtain⟨a,xs,L,x,rfl,h1,h2,h3,h4,h5,k⟩:=h
  refine⟨_,(Zae (ZbK QaQ rfl (ZaZ (pv 0)) (ZbR rfl (Zaq (Zal (i:=2) sc.nd rfl (Or.inl rfl)) (Zaq (Zal (i:=3) sc.nd rfl (Or.inl rfl)) Za2)))
   (Zae (Zbj (ZaI ZdO (pv 1) (pv 2) (ZaH _)) (Zaj (ZaD (pv 3))) ZaO)
   (Zaj (Zar (i:=1) sc.nd rfl (Or.inl rfl) (Zam ZaR (pv 1) (pv 2))))))
   (Zaj (ZaD ZeA))),?_⟩
  exact Zlv (K:=K) h1 h2 h3 h4 h5 k
abbrev ZbI:Stmt:=top 74
theorem Zff:ZaC ["_law_weighing_here", "_law_found", "_law_place", "_law_many", "_law_weights"] ["_law_weighing_here"] (Zag ZbI):=⟨rfl,rfl,rfl,by decide +kernel,rfl,by decide +kernel,by decide +kernel⟩
theorem ZjU (F:Fun K "_law_starts" "_law_starts" ZbI f fd)(M:Txt mg):ZbW P w K mg base CX0 1 f fd ["_law_weighing_here"] ZeV:=by
 have sc:=Zff;refine F.ok sc (fun vs H Q E h=> ?_) (fun cdv A outer s H vs Q E hr h=> ?_)
 ·obtain⟨a,xs,L,rfl,_⟩:=h;rfl
 ·obtain⟨a,xs,L,rfl,h1,h2,h3,k⟩:=h
  refine⟨_,(Zae (Zar (i:=1) sc.nd rfl (Or.inl rfl) (ZaS Zac))
   (Zae (Zar (i:=2) sc.nd rfl (Or.inl rfl) Zaf)
   (Zae (ZbK QaQ rfl (ZaZ (pv 0)) (ZbR rfl (Zaq (Zal (i:=3) sc.nd rfl (Or.inl rfl)) (Zaq (Zal (i:=4) sc.nd rfl (Or.inl rfl)) Za2)))
   (Zae (Zbb (Zc6 QaE QaI QaJ Za6 (pv 1) (Zab (pv 2) Zac)))
   (Zaj (Zar (i:=2) sc.nd rfl (Or.inl rfl) (Zam ZaG (pv 2) (pv 3))))))
   (Zaj (ZaD (pv 1)))))),?_⟩
  exact Zgb (K:=K) h1 h2 h3 k
abbrev Zbn:Stmt:=top 75
theorem Zfg:ZaC ["_law_weighing_here", "_law_n", "_law_end", "_law_place", "_law_shift", "_law_total", "_law_begin", "_law_many", "_law_weights", "_law_first", "_law_often"] ["_law_weighing_here", "_law_n", "_law_end", "_law_place", "_law_shift"] (Zag Zbn):=⟨rfl,rfl,rfl,by decide +kernel,rfl,by decide +kernel,by decide +kernel⟩
theorem ZjV (F:Fun K "_law_number" "_law_number" Zbn f fd)(M:Txt mg)(qF:Kn P w K mg base "_law_at" 1 ["_law_weighing_here", "_law_place"] (Zhf K))(B:Gb mg):ZbW P w K mg base CX0 2 f fd ["_law_weighing_here", "_law_n", "_law_end", "_law_place", "_law_shift"] ZeW:=by
 have sc:=Zfg;refine F.ok sc (fun vs H Q E h=> ?_) (fun cdv A outer s H vs Q E hr h=> ?_)
 ·obtain⟨a,xs,L,n,e,x,t,wd,rfl,_⟩:=h;rfl
 ·obtain⟨a,xs,L,n,e,x,t,wd,rfl,h1,h2,h3,h4,h5,h6,h7,h8,x0,x1,xe,e1,ht,t1,k⟩:=h
  refine⟨_,(Zae (Zar (i:=5) sc.nd rfl (Or.inl rfl) (Zai qF hr rfl (Zab (pv 0) (Zab (pv 3) Zac))))
   (Zae (Zar (i:=6) sc.nd rfl (Or.inl rfl) Zaf)
   (Zae (ZbK QaQ rfl (ZaZ (pv 0)) (ZbR rfl (Zaq (Zal (i:=7) sc.nd rfl (Or.inl rfl)) (Zaq (Zal (i:=8) sc.nd rfl (Or.inl rfl)) Za2)))
   (Zae (Zar (i:=9) sc.nd rfl (Or.inl rfl) (Zap (Zca rfl) (by rfl) M.max Qc3 (Zab (pv 6) (Zab (pv 2) Zac))))
   (Zae (Zar (i:=6) sc.nd rfl (Or.inl rfl) (Zam ZaG (pv 6) (pv 7)))
   (Zaj (Zbj (ZaI ZdO (pv 9) (pv 6) (ZaH _)) (Zae (Zar (i:=10) sc.nd rfl (Or.inr rfl) (Zam ZaR (Zam Zbm (Zam ZaR (Zam ZaR (pv 6) Zaf) (pv 3)) (pv 4)) (Zam Zbm (Zam ZaR (Zam ZaR (pv 9) Zaf) (pv 3)) (pv 4))))
   (Zaj (Zar (i:=5) sc.nd rfl (Or.inl rfl) (Zbf ZbD (by rfl) M.tuple Qch (ZaQ (Zbg (xs:=["_law_here", "_law_there"]) (Nb:=["_law_weighing_here", "_law_n", "_law_end", "_law_place", "_law_shift", "_law_total", "_law_begin", "_law_many", "_law_weights", "_law_first", "_law_often"]) rfl (ZfS rfl B.zp (Zab (pv 5) (Zab (pv 8) Zac))) rfl (by show∀p∈(List.zip ["_law_weighing_here", "_law_n", "_law_end", "_law_place", "_law_shift", "_law_total", "_law_begin", "_law_many", "_law_weights", "_law_first", "_law_often"] ["_law_weighing_here", "_law_n", "_law_end", "_law_place", "_law_shift", "_law_total", "_law_begin", "_law_many", "_law_weights", "_law_first", "_law_often"]:List (Str×Str)),_;decide +kernel) (by decide +kernel) (fun cl C s₂ H₂ fp=>(ZeE (K:=K) (n:=2) rfl (Zaq (Zal (i:=0) (by show List.Nodup (["_law_here", "_law_there", "_law_weighing_here", "_law_n", "_law_end", "_law_place", "_law_shift", "_law_total", "_law_begin", "_law_many", "_law_weights", "_law_first", "_law_often"]:List Str);decide +kernel) rfl (Or.inl (Qai rfl)) (Or.inr (Qai rfl))) (Zaq (Zal (i:=1) (by show List.Nodup (["_law_here", "_law_there", "_law_weighing_here", "_law_n", "_law_end", "_law_place", "_law_shift", "_law_total", "_law_begin", "_law_many", "_law_weights", "_law_first", "_law_often"]:List Str);decide +kernel) rfl (Or.inl (Qai rfl)) (Or.inr (Qai rfl))) Za2)))) (fun cl C s₂ H₂ fp=>Zcw) (fun cl C s₂ H₂ fp=>(Zam ZaG (pv 0) (Zam Zk1 (pv 12) (pv 1)))) (by decide +kernel) rfl (by decide +kernel) (by show∀y∈(_:List (Str×NameKind)),y.2=NameKind.free→(Zag Zbn).names.lookup y.1=some .cell;decide +kernel)) Zac))))) ZaO)))))
   (Zaj (ZaD (pv 5)))))),?_⟩
  exact Zgc (K:=K) h1 h2 h3 h4 h5 h6 h7 h8 x0 x1 xe e1 ht t1 k
abbrev Zbo:Stmt:=top 76
theorem Zfh:ZaC ["_law_starts_here", "_law_end", "_law_told", "_law_found", "_law_k", "_law_many"] ["_law_starts_here", "_law_end", "_law_told"] (Zag Zbo):=⟨rfl,rfl,rfl,by decide +kernel,rfl,by decide +kernel,by decide +kernel⟩
theorem ZjW (F:Fun K "_law_shaped" "_law_shaped" Zbo f fd)(M:Txt mg)(B:Gb mg):ZbW P w K mg base CX0 1 f fd ["_law_starts_here", "_law_end", "_law_told"] Zdh:=by
 have sc:=Zfh;refine F.ok sc (fun vs H Q E h=> ?_) (fun cdv A outer s H vs Q E hr h=> ?_)
 ·obtain⟨a,d,ss,e,wd,f,rfl,_⟩:=h;rfl
 ·obtain⟨a,d,ss,e,wd,f,rfl,h1,h2,h3,h4,k⟩:=h
  refine⟨_,(Zae (Zar (i:=3) sc.nd rfl (Or.inl rfl) (ZaS Zac))
   (Zae (Zar (i:=0) sc.nd rfl (Or.inl rfl) (ZgP rfl (Zbg (xs:=["_law_start"]) (Nb:=["_law_starts_here", "_law_end", "_law_told", "_law_found", "_law_k", "_law_many"]) rfl (ZaZ (pv 0)) rfl (by show∀p∈(List.zip ["_law_starts_here", "_law_end", "_law_told", "_law_found", "_law_k", "_law_many"] ["_law_starts_here", "_law_end", "_law_told", "_law_found", "_law_k", "_law_many"]:List (Str×Str)),_;decide +kernel) (by decide +kernel) (fun cl C s₂ H₂ fp=>(Zal (i:=0) (by show List.Nodup (["_law_start", "_law_starts_here", "_law_end", "_law_told", "_law_found", "_law_k", "_law_many"]:List Str);decide +kernel) rfl (Or.inl (Qai rfl)) (Or.inr (Qai rfl)))) (fun cl C s₂ H₂ fp=>(Zd0 (ZdP Ze6 ZdO Zaf (pv 0) (pv 2)))) (fun cl C s₂ H₂ fp=>(pv 0)) (by decide +kernel) rfl (by decide +kernel) (by show∀y∈(_:List (Str×NameKind)),y.2=NameKind.free→(Zag Zbo).names.lookup y.1=some .cell;decide +kernel)) rfl M.sorted rfl B.st))
   (Zae (ZbK QaQ rfl (Zct rfl M.range (Zbe (Zap (ZbS (K:=K)) (by rfl) M.len QbF (Zab (pv 0) Zac)) Zac)) (Zal (i:=4) sc.nd rfl (Or.inl rfl))
   (Zae (Zar (i:=5) sc.nd rfl (Or.inl rfl) (Zam ZaR (ZaA (ZaK (K:=K)) (Zam Zb5 (Zbl Zcv (pv 0) (ZbP (Zam ZaG (pv 4) Zaf)) Zb0) (ZaS (Zab (pv 1) Zac))) Zaf (fun _ _=>rfl)) (ZaA (ZaK (K:=K)) (pv 0) (pv 4) (fun _ _=>rfl))))
   (Zaj (Zbj (PW.pt (Zgn (ZaI (Zix hr) (pv 3) (ZaS Zac) (ZaH _)) (ZfC (ZaI (Zkn hr) (ZaA (Zao (K:=K)) (ZaA (ZaK (K:=K)) (pv 3) (Zdu Zcx Zaf) (fun _ _=>rfl)) Zaf (fun _ _=>rfl)) (ZfV (Zeh hr) (pv 2) (ZaA (ZaK (K:=K)) (pv 0) (pv 4) (fun _ _=>rfl)) (fun _ _=>rfl)) (ZaH _))))) (Zaj (Zc3 (Zba (Zdd (Zam ZaG (ZaA (Zao (K:=K)) (ZaA (ZaK (K:=K)) (pv 3) (Zdu Zcx Zaf) (fun _ _=>rfl)) Zaf (fun _ _=>rfl)) (pv 5)) (ZaA (Zao (K:=K)) (ZaA (ZaK (K:=K)) (pv 3) (Zdu Zcx Zaf) (fun _ _=>rfl)) Zaf (fun _ _=>rfl)) Zac)) (Zis (pv 3) (Zdu Zcx Zaf) Zeq))) (Zaj (Zbb (Zc6 QaE QaI QaJ Za6 (pv 3) (ZbG (Zba (Zdd (pv 5) (ZfV (Zeh hr) (pv 2) (ZaA (ZaK (K:=K)) (pv 0) (pv 4) (fun _ _=>rfl)) (fun _ _=>rfl)) Zac)) Zac))))))))
   (Zaj (ZaD (pv 3)))))),?_⟩
  exact Zgd (K:=K) h1 h2 h3 h4 k
abbrev ZaE:Stmt:=top 77
theorem Zdz:ZaC ["_law_lead_here", "_law_weighing_here", "_law_n", "_law_end", "_law_starts_here", "_law_total", "_law_told", "_law_start", "_law_more", "_law_shift"] ["_law_lead_here", "_law_weighing_here", "_law_n", "_law_end"] (Zag ZaE):=⟨rfl,rfl,rfl,by decide +kernel,rfl,by decide +kernel,by decide +kernel⟩
theorem Znb (F:Fun K "_law_cut_weighing" "_law_cut_weighing" ZaE f fd)(M:Txt mg)(qT:Kn P w K mg base "_law_starts" 1 ["_law_weighing_here"] ZeV)(ql:Kn P w K mg base "_law_behind" 1 ["_law_pairing_here"] ZbQ)(qF:Kn P w K mg base "_law_at" 1 ["_law_weighing_here", "_law_place"] (Zhf K))(qG:Kn P w K mg base "_law_shaped" 1 ["_law_starts_here", "_law_end", "_law_told"] Zdh)(qU:Kn P w K mg base "_law_number" 2 ["_law_weighing_here", "_law_n", "_law_end", "_law_place", "_law_shift"] ZeW)(B:Gb mg):ZbW P w K mg base CX0 3 f fd ["_law_lead_here", "_law_weighing_here", "_law_n", "_law_end"] Zh2:=by
 have sc:=Zdz;refine F.ok sc (fun vs H Q E h=> ?_) (fun cdv A outer s H vs Q E hr h=> ?_)
 ·obtain⟨q,a,xs,n,L,p,e,wd,rfl,_⟩:=h;rfl
 ·obtain⟨q,a,xs,n,L,p,e,wd,rfl,h1,h2,h3,h4,k⟩:=h
  refine⟨_,(Zae (Zbj (ZaI Zdv (pv 3) Zaf (ZaH _)) (Zaj (ZaD (ZaS Zac))) ZaO)
   (Zae (Zar (i:=4) sc.nd rfl (Or.inl rfl) (Zai qT hr rfl (Zab (pv 1) Zac)))
   (Zae (Zbj (Zb9 (ZaA (Zao (K:=K)) (pv 0) Zaf (fun _ _=>rfl))) (Zae (Zar (i:=5) sc.nd rfl (Or.inr rfl) (Zam ZaR (Zam ZaG (ZaA (Zao (K:=K)) (pv 0) Zaf (fun _ _=>rfl)) (Zai ql hr rfl (Zab (pv 0) Zac))) Zaf))
   (Zae (Zar (i:=4) sc.nd rfl (Or.inl rfl) (Zam Zb5 (Zam Zb5 (pv 4) (ZaS (Zdd (Zam ZaG (Zam ZaR (pv 5) (pv 2)) Zaf) (Zam ZaG (Zam ZaR (pv 5) (pv 3)) Zaf) Zac))) (Zbg (xs:=["_law_start"]) (Nb:=["_law_lead_here", "_law_weighing_here", "_law_n", "_law_end", "_law_starts_here", "_law_total", "_law_told", "", "_law_more", "_law_shift"]) rfl (ZaZ (pv 4)) rfl (by show∀p∈(List.zip ["_law_lead_here", "_law_weighing_here", "_law_n", "_law_end", "_law_starts_here", "_law_total", "_law_told", "", "_law_more", "_law_shift"] ["_law_lead_here", "_law_weighing_here", "_law_n", "_law_end", "_law_starts_here", "_law_total", "_law_told", "_law_start", "_law_more", "_law_shift"]:List (Str×Str)),_;decide +kernel) (by decide +kernel) (fun cl C s₂ H₂ fp=>(Zal (i:=0) (by show List.Nodup (["_law_start", "_law_lead_here", "_law_weighing_here", "_law_n", "_law_end", "_law_starts_here", "_law_total", "_law_told", "", "_law_more", "_law_shift"]:List Str);decide +kernel) rfl (Or.inl (Qai rfl)) (Or.inr (Qai rfl)))) (fun cl C s₂ H₂ fp=>(Zd0 (ZaI Zhx (pv 0) (pv 4) (ZaH _)))) (fun cl C s₂ H₂ fp=>(Zam ZaG (Zam ZaR (pv 6) (pv 0)) Zaf)) (by decide +kernel) rfl (by decide +kernel) (by show∀y∈(_:List (Str×NameKind)),y.2=NameKind.free→(Zag ZaE).names.lookup y.1=some .cell;decide +kernel))))
   (Zae (Zar (i:=6) sc.nd rfl (Or.inl rfl) ZfW)
   (Zae (ZbK QaQ rfl (ZaZ (Zbg (xs:=["_law_start"]) (Nb:=["_law_lead_here", "_law_weighing_here", "_law_n", "_law_end", "_law_starts_here", "_law_total", "_law_told", "", "_law_more", "_law_shift"]) rfl (ZaZ (pv 4)) rfl (by show∀p∈(List.zip ["_law_lead_here", "_law_weighing_here", "_law_n", "_law_end", "_law_starts_here", "_law_total", "_law_told", "", "_law_more", "_law_shift"] ["_law_lead_here", "_law_weighing_here", "_law_n", "_law_end", "_law_starts_here", "_law_total", "_law_told", "_law_start", "_law_more", "_law_shift"]:List (Str×Str)),_;decide +kernel) (by decide +kernel) (fun cl C s₂ H₂ fp=>(Zal (i:=0) (by show List.Nodup (["_law_start", "_law_lead_here", "_law_weighing_here", "_law_n", "_law_end", "_law_starts_here", "_law_total", "_law_told", "", "_law_more", "_law_shift"]:List Str);decide +kernel) rfl (Or.inl (Qai rfl)) (Or.inr (Qai rfl)))) (fun cl C s₂ H₂ fp=>(Zd0 (ZdP Ze6 ZdO Zaf (pv 0) (pv 4)))) (fun cl C s₂ H₂ fp=>(pv 0)) (by decide +kernel) rfl (by decide +kernel) (by show∀y∈(_:List (Str×NameKind)),y.2=NameKind.free→(Zag ZaE).names.lookup y.1=some .cell;decide +kernel))) (Zal (i:=7) sc.nd rfl (Or.inl rfl))
   (Zae (Zd3 (Zeh hr) (pv 6) (pv 7) (Zai qF hr rfl (Zab (pv 1) (Zab (pv 7) Zac))) rfl)
   (Zaj (Zbj (ZdP Ze6 ZdO (pv 3) (Zam ZaR (pv 5) (pv 7)) (pv 2)) (Zae (Zar (i:=8) sc.nd rfl (Or.inl rfl) (Zai qF hr rfl (Zab (pv 1) (ZaL (Zam ZaR (pv 5) (pv 7)) Zac))))
   (Zaj (Zd3 (Zeh hr) (pv 6) (pv 7) (Zbf ZbD (by rfl) M.tuple Qch (ZaQ (Zbg (xs:=["_law_here", "_law_there"]) (Nb:=["_law_lead_here", "_law_weighing_here", "_law_n", "_law_end", "_law_starts_here", "_law_total", "_law_told", "_law_start", "_law_more", "_law_shift"]) rfl (ZfS rfl B.zp (Zaz (ZfV (Zeh hr) (pv 6) (pv 7) (fun _ _=>rfl)) (Zab (pv 8) Zac))) rfl (by show∀p∈(List.zip ["_law_lead_here", "_law_weighing_here", "_law_n", "_law_end", "_law_starts_here", "_law_total", "_law_told", "_law_start", "_law_more", "_law_shift"] ["_law_lead_here", "_law_weighing_here", "_law_n", "_law_end", "_law_starts_here", "_law_total", "_law_told", "_law_start", "_law_more", "_law_shift"]:List (Str×Str)),_;decide +kernel) (by decide +kernel) (fun cl C s₂ H₂ fp=>(ZeE (K:=K) (n:=2) rfl (Zaq (Zal (i:=0) (by show List.Nodup (["_law_here", "_law_there", "_law_lead_here", "_law_weighing_here", "_law_n", "_law_end", "_law_starts_here", "_law_total", "_law_told", "_law_start", "_law_more", "_law_shift"]:List Str);decide +kernel) rfl (Or.inl (Qai rfl)) (Or.inr (Qai rfl))) (Zaq (Zal (i:=1) (by show List.Nodup (["_law_here", "_law_there", "_law_lead_here", "_law_weighing_here", "_law_n", "_law_end", "_law_starts_here", "_law_total", "_law_told", "_law_start", "_law_more", "_law_shift"]:List Str);decide +kernel) rfl (Or.inl (Qai rfl)) (Or.inr (Qai rfl))) Za2)))) (fun cl C s₂ H₂ fp=>Zcw) (fun cl C s₂ H₂ fp=>(Zam ZaG (pv 0) (pv 1))) (by decide +kernel) rfl (by decide +kernel) (by show∀y∈(_:List (Str×NameKind)),y.2=NameKind.free→(Zag ZaE).names.lookup y.1=some .cell;decide +kernel)) Zac)) rfl))) ZaO))))
   (Zaj (ZaD (Zai qG hr rfl (Zab (pv 4) (Zab (pv 3) (Zab (pv 6) Zac)))))))))) ZaO)
   (Zae (Zar (i:=9) sc.nd rfl (Or.inr rfl) (Zam ZaR (ZaA (Zao (K:=K)) (pv 0) Zaf (fun _ _=>rfl)) (ZaA (Zao (K:=K)) (pv 0) Zaf (fun _ _=>rfl))))
   (Zae (Zar (i:=4) sc.nd rfl (Or.inl rfl) (Zam Zb5 (Zam Zb5 (pv 4) (ZaS (ZaL (Zam ZaR (pv 3) (pv 9)) Zac))) (Zbg (xs:=["_law_start"]) (Nb:=["_law_lead_here", "_law_weighing_here", "_law_n", "_law_end", "_law_starts_here", "_law_total", "_law_told", "", "_law_more", "_law_shift"]) rfl (ZaZ (Zam Zb5 (pv 4) (ZaS (Zab (pv 2) Zac)))) rfl (by show∀p∈(List.zip ["_law_lead_here", "_law_weighing_here", "_law_n", "_law_end", "_law_starts_here", "_law_total", "_law_told", "", "_law_more", "_law_shift"] ["_law_lead_here", "_law_weighing_here", "_law_n", "_law_end", "_law_starts_here", "_law_total", "_law_told", "_law_start", "_law_more", "_law_shift"]:List (Str×Str)),_;decide +kernel) (by decide +kernel) (fun cl C s₂ H₂ fp=>(Zal (i:=0) (by show List.Nodup (["_law_start", "_law_lead_here", "_law_weighing_here", "_law_n", "_law_end", "_law_starts_here", "_law_total", "_law_told", "", "_law_more", "_law_shift"]:List Str);decide +kernel) rfl (Or.inl (Qai rfl)) (Or.inr (Qai rfl)))) (fun cl C s₂ H₂ fp=>(Zd0 (ZaI Zhx (pv 0) (pv 4) (ZaH _)))) (fun cl C s₂ H₂ fp=>(Zam ZaG (Zam ZaR (pv 4) (pv 10)) (Zam ZbL (Zam ZaR (pv 0) (pv 4)) (pv 10)))) (by decide +kernel) rfl (by decide +kernel) (by show∀y∈(_:List (Str×NameKind)),y.2=NameKind.free→(Zag ZaE).names.lookup y.1=some .cell;decide +kernel))))
   (Zae (Zar (i:=6) sc.nd rfl (Or.inl rfl) ZfW)
   (Zae (ZbK QaQ rfl (ZaZ (Zbg (xs:=["_law_start"]) (Nb:=["_law_lead_here", "_law_weighing_here", "_law_n", "_law_end", "_law_starts_here", "_law_total", "_law_told", "", "_law_more", "_law_shift"]) rfl (ZaZ (pv 4)) rfl (by show∀p∈(List.zip ["_law_lead_here", "_law_weighing_here", "_law_n", "_law_end", "_law_starts_here", "_law_total", "_law_told", "", "_law_more", "_law_shift"] ["_law_lead_here", "_law_weighing_here", "_law_n", "_law_end", "_law_starts_here", "_law_total", "_law_told", "_law_start", "_law_more", "_law_shift"]:List (Str×Str)),_;decide +kernel) (by decide +kernel) (fun cl C s₂ H₂ fp=>(Zal (i:=0) (by show List.Nodup (["_law_start", "_law_lead_here", "_law_weighing_here", "_law_n", "_law_end", "_law_starts_here", "_law_total", "_law_told", "", "_law_more", "_law_shift"]:List Str);decide +kernel) rfl (Or.inl (Qai rfl)) (Or.inr (Qai rfl)))) (fun cl C s₂ H₂ fp=>(Zd0 (ZdP Ze6 ZdO Zaf (pv 0) (pv 4)))) (fun cl C s₂ H₂ fp=>(pv 0)) (by decide +kernel) rfl (by decide +kernel) (by show∀y∈(_:List (Str×NameKind)),y.2=NameKind.free→(Zag ZaE).names.lookup y.1=some .cell;decide +kernel))) (Zal (i:=7) sc.nd rfl (Or.inl rfl))
   (Zae (Zd3 (Zeh hr) (pv 6) (pv 7) (Zai qF hr rfl (Zab (pv 1) (Zab (pv 7) Zac))) rfl)
   (Zaj (Zbj (ZaI Zkc (pv 7) (Zam ZaR (pv 3) (pv 9)) (ZaH _)) (Zaj (Zd3 (Zeh hr) (pv 6) (pv 7) (Zai qU hr rfl (Zab (pv 1) (Zab (pv 2) (Zab (pv 3) (Zab (pv 7) (Zab (pv 9) Zac)))))) rfl)) ZaO))))
   (Zaj (ZaD (Zai qG hr rfl (Zab (pv 4) (Zab (pv 3) (Zab (pv 6) Zac))))))))))))),?_⟩
  exact Zh7 (K:=K) h1 h2 h3 h4 k
abbrev Zcp:Stmt:=top 78
theorem Zin:ZaC ["_law_hall_here", "_law_j", "_law_end", "_law_n", "_law_pairings", "_law_weighing_here", "_law_lead_here", "_law_others", "_law_many", "_law_low", "_law_made"] ["_law_hall_here", "_law_j", "_law_end"] (Zag Zcp):=⟨rfl,rfl,rfl,by decide +kernel,rfl,by decide +kernel,by decide +kernel⟩
theorem ZoA (F:Fun K "_law_cut" "_law_cut" Zcp f fd)(M:Txt mg)(ja:Kn P w K mg base "_law_lead" 1 ["_law_pairing_here"] ZcV)(ql:Kn P w K mg base "_law_behind" 1 ["_law_pairing_here"] ZbQ)(qy:Kn P w K mg base "_law_cut_weighing" 3 ["_law_lead_here", "_law_weighing_here", "_law_n", "_law_end"] Zh2):ZbW P w K mg base CX0 4 f fd ["_law_hall_here", "_law_j", "_law_end"] Zlt:=by
 have sc:=Zin;refine F.ok sc (fun vs H Q E h=> ?_) (fun cdv A outer s H vs Q E hr h=> ?_)
 ·obtain⟨a,pa,pb,n,ps,L,ya,yb,j,e,p,wd,rfl,_⟩:=h;rfl
 ·obtain⟨a,pa,pb,n,ps,L,ya,yb,j,e,p,wd,rfl,h1,h2,h3,k1,k2⟩:=h
  refine⟨_,(Zae (Zc3 (pv 0) (ZbR rfl (Zaq (Zal (i:=3) sc.nd rfl (Or.inl rfl)) (Zaq (Zal (i:=4) sc.nd rfl (Or.inl rfl)) (Zaq (Zal (i:=5) sc.nd rfl (Or.inl rfl)) Za2)))))
   (Zae (Zar (i:=6) sc.nd rfl (Or.inl rfl) (ZaA (ZaK (K:=K)) (pv 4) (pv 1) (fun _ _=>rfl)) ZdS)
   (Zae (Zar (i:=7) sc.nd rfl (Or.inl rfl) (Zam Zb5 (Zbl Zcv (pv 4) Zb0 (ZbP (pv 1))) (Zbl Zcv (pv 4) (ZbP (Zam ZaG (pv 1) Zaf)) Zb0)))
   (Zae (Zbj (PW.pt (ZdF (Zcs (Zb9 (Zai ja hr rfl (Zab (pv 6) Zac)))) (ZdF (ZaI Zkb (Zai ql hr rfl (Zab (pv 6) Zac)) (pv 3) (ZaH _)) (Zeb (Zcs (ZdP Ze6 ZdO (ZaA (Zao (K:=K)) (pv 6) Zaf (fun _ _=>rfl)) (pv 2) (pv 3))))))) (Zaj (ZaD ZeA)) ZaO)
   (Zae (Zbj (Zcs (Zb9 (Zap (Zer rfl) (by rfl) M.all boot_all (ZaQ (Zbg (xs:=["_law_pairing_here"]) (Nb:=["_law_hall_here", "_law_j", "_law_end", "_law_n", "_law_pairings", "_law_weighing_here", "_law_lead_here", "_law_others", "_law_many", "_law_low", "_law_made"]) rfl (ZaZ (pv 7)) rfl (by show∀p∈(List.zip ["_law_hall_here", "_law_j", "_law_end", "_law_n", "_law_pairings", "_law_weighing_here", "_law_lead_here", "_law_others", "_law_many", "_law_low", "_law_made"] ["_law_hall_here", "_law_j", "_law_end", "_law_n", "_law_pairings", "_law_weighing_here", "_law_lead_here", "_law_others", "_law_many", "_law_low", "_law_made"]:List (Str×Str)),_;decide +kernel) (by decide +kernel) (fun cl C s₂ H₂ fp=>(Zal (i:=0) (by show List.Nodup (["_law_pairing_here", "_law_hall_here", "_law_j", "_law_end", "_law_n", "_law_pairings", "_law_weighing_here", "_law_lead_here", "_law_others", "_law_many", "_law_low", "_law_made"]:List Str);decide +kernel) rfl (Or.inl (Qai rfl)) (Or.inr (Qai rfl)))) (fun cl C s₂ H₂ fp=>Zcw) (fun cl C s₂ H₂ fp=>(ZbO Ze6 (Zai ql hr rfl (Zab (pv 0) Zac)) (pv 3) (ZaH _))) (by decide +kernel) rfl (by decide +kernel) (by show∀y∈(_:List (Str×NameKind)),y.2=NameKind.free→(Zag Zcp).names.lookup y.1=some .cell;decide +kernel)) Zac)))) (Zaj (ZaD ZeA)) ZaO)
   (Zae (Zar (i:=8) sc.nd rfl (Or.inl rfl) (Zam ZaR (pv 2) (ZaA (Zao (K:=K)) (pv 6) Zaf (fun _ _=>rfl))))
   (Zae (Zar (i:=9) sc.nd rfl (Or.inl rfl) (ZaA (Zao (K:=K)) (pv 6) Zaf (fun _ _=>rfl)) ZdS)
   (Zae (Zbj (Zb9 (ZaA (Zao (K:=K)) (pv 6) Zaf (fun _ _=>rfl))) (Zaj (Zar (i:=9) sc.nd rfl (Or.inl rfl) (Zam ZaR (Zam ZaG (pv 9) (ZaA (Zao (K:=K)) (pv 6) Zaf (fun _ _=>rfl))) (pv 8)))) ZaO)
   (Zae (Zar (i:=10) sc.nd rfl (Or.inl rfl) (Zbl Zcv (ZaS (ZbG (Zba (Zdx (pv 9) (ZaA (Zao (K:=K)) (pv 6) Zaf (fun _ _=>rfl)) (pv 8) (ZaA (Zao (K:=K)) (pv 6) Zaf (fun _ _=>rfl)) Zac)) Zac)) Zb0 (ZbP (pv 8))) ZdS)
   (Zaj (ZaD (Zba (Zei (pv 2) (Zam Zb5 (Zam Zb5 (Zbl Zcv (pv 4) Zb0 (ZbP (pv 1))) (pv 10)) (Zbl Zcv (pv 4) (ZbP (Zam ZaG (pv 1) Zaf)) Zb0)) (Zai qy hr rfl (Zab (pv 6) (Zab (pv 5) (Zab (pv 3) (Zab (pv 2) Zac))))) Zac))))))))))))),?_⟩
  exact ZjM (K:=K) h1 h2 h3 k1 k2
abbrev ZcH:Stmt:=top 84
theorem Zio:ZaC ["_law_hall_here", "_law_j", "_law_end", "_law_made"] ["_law_hall_here", "_law_j", "_law_end"] (Zag ZcH):=⟨rfl,rfl,rfl,by decide +kernel,rfl,by decide +kernel,by decide +kernel⟩
theorem ZpP (F:Fun K "_law_due" "_law_due" ZcH f fd)(M:Txt mg)(jn:Kn P w K mg base "_law_cut" 4 ["_law_hall_here", "_law_j", "_law_end"] Zlt):ZbW P w K mg base CX0 5 f fd ["_law_hall_here", "_law_j", "_law_end"] Zi1:=by
 have sc:=Zio;refine F.ok sc (fun vs H Q E h=> ?_) (fun cdv A outer s H vs Q E hr h=> ?_)
 ·obtain⟨a,pa,pb,n,ps,L,ya,yb,j,e,p,wd,rfl,_⟩:=h;rfl
 ·obtain⟨a,pa,pb,n,ps,L,ya,yb,j,e,p,wd,rfl,h1,h2,h3,k1,k2⟩:=h
  refine⟨_,(Zae (Zar (i:=3) sc.nd rfl (Or.inl rfl) (Zai jn hr rfl (Zab (pv 0) (Zab (pv 1) (Zab (pv 2) Zac)))))
   (Zae (Zbj (Zj3 (Znd (pv 3))) (Zaj (ZaD ZeA)) ZaO)
   (Zaj (ZaD (Zba (Zdd (pv 3) (ZaS Zac) Zac)))))),?_⟩
  exact ZjN (K:=K) h1 h2 h3 k1 k2
abbrev ZbJ:Stmt:=top 85
theorem Zfi:ZaC ["_law_n", "_law_big_here", "_law_long", "_law_low"] ["_law_n", "_law_big_here"] (Zag ZbJ):=⟨rfl,rfl,rfl,by decide +kernel,rfl,by decide +kernel,by decide +kernel⟩
theorem ZlZ (F:Fun K "_law_ending" "_law_ending" ZbJ f fd)(M:Txt mg):ZbW P w K mg base CX0 1 f fd ["_law_n", "_law_big_here"] Zf8:=by
 have sc:=Zfi;refine F.ok sc (fun vs H Q E h=> ?_) (fun cdv A outer s H vs Q E hr h=> ?_)
 ·obtain⟨n,b,rfl,_⟩:=h;rfl
 ·obtain⟨n,b,rfl,h1,h2,k⟩:=h
  refine⟨_,(Zae (Zar (i:=2) sc.nd rfl (Or.inl rfl) (Zam ZaG Zaf (Zam ZbL (pv 1) (Zap (Zca rfl) (by rfl) M.max Qc3 (Zas Zaf (ZaL (Zam Zbm (Zam ZaR (pv 0) Zaf) (ZaA (ZaK (K:=K)) (ZaS (Zdx Zaf Zaf Zaf Zaf Zac)) (Zam ZbL (Zam Zbm (pv 1) Zaf) Zaf) (fun _ _=>rfl))) Zac))))))
   (Zae (Zar (i:=3) sc.nd rfl (Or.inl rfl) (Zam ZbL (Zam Zbm (pv 1) Zaf) (Zam ZaR (pv 0) (pv 2))))
   (Zae (Zbj (ZaI Zdv (Zam ZbL (Zam Zbm (pv 1) Zaf) Zaf) Zaf (ZaH _)) (Zaj (ZaD (Zba (Zdx (pv 3) (Zam ZaR (pv 0) (pv 2)) (pv 2) ZdN Zac)))) ZaO)
   (Zae (Zar (i:=2) sc.nd rfl (Or.inl rfl) (Zap (Zbz rfl) (by rfl) M.min QcG (Zab (pv 2) (ZaL (Zam Zbm (pv 0) Zaf) Zac))))
   (Zaj (ZaD (Zba (Zdx (Zap (Zbz rfl) (by rfl) M.min QcG (Zab (pv 3) (ZaL (Zam ZaR (pv 0) (Zam Zc9 Zaf (pv 2))) Zac))) (Zam ZaR (pv 0) (pv 2)) (pv 2) ZdN Zac)))))))),?_⟩
  exact Zhh (K:=K) h1 h2 k
abbrev Zb3:Stmt:=top 86
theorem Zhs:ZaC ["_law_n", "_law_lead_here", "_law_others", "_law_big_here", "_law_last"] ["_law_n", "_law_lead_here", "_law_others", "_law_big_here"] (Zag Zb3):=⟨rfl,rfl,rfl,by decide +kernel,rfl,by decide +kernel,by decide +kernel⟩
theorem Znc (F:Fun K "_law_ends" "_law_ends" Zb3 f fd)(M:Txt mg)(ql:Kn P w K mg base "_law_behind" 1 ["_law_pairing_here"] ZbQ):ZbW P w K mg base CX0 2 f fd ["_law_n", "_law_lead_here", "_law_others", "_law_big_here"] Zh3:=by
 have sc:=Zhs;refine F.ok sc (fun vs H Q E h=> ?_) (fun cdv A outer s H vs Q E hr h=> ?_)
 ·obtain⟨n,b,q,c,p,yc,ps,rfl,_⟩:=h;rfl
 ·obtain⟨n,b,q,c,p,yc,ps,rfl,h1,h2,h3,h4,h5,h6,h7,k⟩:=h
  refine⟨_,(Zae (Zar (i:=4) sc.nd rfl (Or.inl rfl) (Zap (Zk2 rfl) (by rfl) M.max Qc3 (ZaL (Zam Zb5 (ZaS (Zaz (ZaA (Zao (K:=K)) (pv 1) Zaf (fun _ _=>rfl)) Zac)) (Zbg (xs:=["_law_pairing_here"]) (Nb:=["_law_n", "_law_lead_here", "_law_others", "_law_big_here", "_law_last"]) rfl (ZaZ (pv 2)) rfl (by show∀p∈(List.zip ["_law_n", "_law_lead_here", "_law_others", "_law_big_here", "_law_last"] ["_law_n", "_law_lead_here", "_law_others", "_law_big_here", "_law_last"]:List (Str×Str)),_;decide +kernel) (by decide +kernel) (fun cl C s₂ H₂ fp=>(Zal (i:=0) (by show List.Nodup (["_law_pairing_here", "_law_n", "_law_lead_here", "_law_others", "_law_big_here", "_law_last"]:List Str);decide +kernel) rfl (Or.inl (Qai rfl)) (Or.inr (Qai rfl)))) (fun cl C s₂ H₂ fp=>Zcw) (fun cl C s₂ H₂ fp=>(Zai ql hr rfl (Zab (pv 0) Zac))) (by decide +kernel) rfl (by decide +kernel) (by show∀y∈(_:List (Str×NameKind)),y.2=NameKind.free→(Zag Zb3).names.lookup y.1=some .cell;decide +kernel))) Zac)))
   (Zaj (ZaD (ZaS (Zdx (ZaA (Zao (K:=K)) (pv 1) Zaf (fun _ _=>rfl)) (pv 4) (Zap (Zbz rfl) (by rfl) M.min QcG (Zab (pv 0) (ZaL (Zam ZaG (pv 4) Zaf) Zac))) (Zap (Zca rfl) (by rfl) M.max Qc3 (Zas Zaf (ZaL (Zam ZaR (pv 4) Zaf) Zac))) (Zdd (Zam ZaG (ZaA (Zao (K:=K)) (pv 1) Zaf (fun _ _=>rfl)) (Zam ZbL (pv 3) (Zam ZaG (ZaA (Zao (K:=K)) (pv 1) Zaf (fun _ _=>rfl)) Zaf))) (Zam ZbL (Zam Zbm (pv 3) Zaf) (Zam ZaG (pv 0) Zaf)) Zac)))))),?_⟩
  exact Zh8 (K:=K) h1 h2 h3 h4 h5 h6 h7 k
abbrev Zfj:Stmt:=top 87
theorem ZpQ:ZaC ["_law_script", "_law_hall_here", "_law_n", "_law_pairings", "_law_weighing_here", "_law_way", "_law_big_here", "_law_lead_here", "_law_bound", "_law_others", "_law_spot", "_law_made", "_law_end"] ["_law_script"] (Zag Zfj):=⟨rfl,rfl,rfl,by decide +kernel,rfl,by decide +kernel,by decide +kernel⟩
theorem ZpR (F:Fun K "law" "law" Zfj f fd)(M:Txt mg)(jb:Kn P w K mg base "_law_hall" 4 ["_law_script", "_law_at_here"] (ZhQ K))(qX:Kn P w K mg base "_law_right" 9 ["_law_hall_here", "_law_deed", "_law_due_here"] (Zev K ZjI))(jo:Kn P w K mg base "_law_due" 5 ["_law_hall_here", "_law_j", "_law_end"] Zi1)(qp:Kn P w K mg base "_law_big" 2 ["_law_script", "_law_k"] (Zc4 K))(qV:Kn P w K mg base "_law_ending" 1 ["_law_n", "_law_big_here"] Zf8)(ql:Kn P w K mg base "_law_behind" 1 ["_law_pairing_here"] ZbQ)(jc:Kn P w K mg base "_law_ends" 2 ["_law_n", "_law_lead_here", "_law_others", "_law_big_here"] Zh3)(N:Nms w K mg aF aD aS g1 g2 g3 g4 g5 g6 d1 d2 d3 d4 d5 d6):ZbW P w K mg base CX0 10 f fd ["_law_script"] (Zm9 K):=by
 have sc:=ZpQ;refine F.ok sc (fun vs H Q E h=> ?_) (fun cdv A outer s H vs Q E hr h=> ?_)
 ·obtain⟨a,ns,rfl,_⟩:=h;rfl
 ·obtain⟨a,ns,rfl,hS,hl,k⟩:=h
  refine⟨_,(Zae (Zar (i:=1) sc.nd rfl (Or.inl rfl) (Zai jb hr rfl (Zab (pv 0) (Zas Zaf Zac))))
   (Zae (Zc3 (pv 1) (ZbR rfl (Zaq (Zal (i:=2) sc.nd rfl (Or.inl rfl)) (Zaq (Zal (i:=3) sc.nd rfl (Or.inl rfl)) (Zaq (Zal (i:=4) sc.nd rfl (Or.inl rfl)) Za2)))))
   (Zae (ZbK QaQ rfl (Zct rfl M.range (ZaL (Zam Zc9 Zaf (Zbf Zgr (by rfl) M.int boot_int (ZaQ (ZbO Zhx (pv 2) Zaf (ZaH _)) Zac))) Zac)) (Zal (i:=5) sc.nd rfl (Or.inl rfl))
   (Zae (Zar (i:=6) sc.nd rfl (Or.inl rfl) (Zai qp hr rfl (Zab (pv 0) (ZaL (Zam ZaG Zaf (pv 5)) Zac))))
   (Zae (Zar (i:=7) sc.nd rfl (Or.inl rfl) (Zai qV hr rfl (Zab (pv 2) (Zab (pv 6) Zac))))
   (Zae (Zar (i:=8) sc.nd rfl (Or.inr rfl) (Zam ZaG (ZaA (Zao (K:=K)) (pv 7) Zaf (fun _ _=>rfl)) (Zam ZbL (Zam Zbm (pv 6) Zaf) (Zam ZaG (ZaA (Zao (K:=K)) (pv 7) Zaf (fun _ _=>rfl)) Zaf))))
   (Zae (Zme (xs:=["_law_pairing_here"]) (Nb:=["_law_script", "_law_hall_here", "_law_n", "_law_pairings", "_law_weighing_here", "_law_way", "_law_big_here", "_law_lead_here", "_law_bound", "_law_others", "_law_spot", "_law_made", "_law_end"]) (Zal (i:=9) sc.nd rfl (Or.inl rfl)) rfl rfl (ZaZ (pv 3)) rfl (by show∀p∈(List.zip ["_law_script", "_law_hall_here", "_law_n", "_law_pairings", "_law_weighing_here", "_law_way", "_law_big_here", "_law_lead_here", "_law_bound", "_law_others", "_law_spot", "_law_made", "_law_end"] ["_law_script", "_law_hall_here", "_law_n", "_law_pairings", "_law_weighing_here", "_law_way", "_law_big_here", "_law_lead_here", "_law_bound", "_law_others", "_law_spot", "_law_made", "_law_end"]:List (Str×Str)),_;decide +kernel) (by decide +kernel) (fun cl C s₂ H₂ fp=>(Zal (i:=0) (by show List.Nodup (["_law_pairing_here", "_law_script", "_law_hall_here", "_law_n", "_law_pairings", "_law_weighing_here", "_law_way", "_law_big_here", "_law_lead_here", "_law_bound", "_law_others", "_law_spot", "_law_made", "_law_end"]:List Str);decide +kernel) rfl (Or.inl (Qai rfl)) (Or.inr (Qai rfl)))) (fun cl C s₂ H₂ fp=>(Zd0 (ZaI Ze6 (Zai ql hr rfl (Zab (pv 0) Zac)) (pv 9) (ZaH _)))) (fun cl C s₂ H₂ fp=>(pv 0)) (by decide +kernel) rfl (by decide +kernel) (by show∀y∈(_:List (Str×NameKind)),y.2=NameKind.free→(Zag Zfj).names.lookup y.1=some .cell;decide +kernel))
   (Zae (Zbj (ZaI Zdv (pv 5) Zaf (ZaH _)) (Zaj (Zar (i:=9) sc.nd rfl (Or.inl rfl) (pv 3))) ZaO)
   (Zae (Zar (i:=10) sc.nd rfl (Or.inl rfl) (Zam ZbL (pv 6) (Zam ZaG (Zap (ZbS (K:=K)) (by rfl) M.len QbF (Zab (pv 9) Zac)) Zaf)))
   (Zae (Zar (i:=11) sc.nd rfl (Or.inl rfl) (Zba (Zei (pv 2) (Zam Zb5 (Zam Zb5 (Zbl Zcv (pv 9) Zb0 (ZbP (pv 10))) (ZaS (Zab (pv 7) Zac))) (Zbl Zcv (pv 9) (ZbP (pv 10)) Zb0)) (pv 4) Zac)))
   (Zaj (ZbK QaQ rfl (ZaZ (Zai jc hr rfl (Zab (pv 2) (Zab (pv 7) (Zab (pv 9) (ZaL (Zam Zbm (pv 6) Zaf) Zac)))))) (Zal (i:=12) sc.nd rfl (Or.inl rfl))
   (Zaj (Zbj (Zcs (Zb9 (Zai qX hr rfl (Zab (pv 11) (ZbG (Zba (Zei Ziq (pv 10) (pv 12) Zac)) (Zbe (Zai jo hr rfl (Zab (pv 11) (Zab (pv 10) (Zab (pv 12) Zac)))) Zac)))))) (Zaj (ZaD ZdN)) ZaO))))))))))))
   (Zaj (ZaD ZdN))))),?_⟩
  exact Zh9 hS k
end
theorem all_mk {K:PySem.W.Frag}{h:Heap}{fa f0 f1 f2 f3 f4 f5 f6 f7 f8 f9 f10 f11 f12 f13 f14 f15 f16 f17 f18 f19 f20 f21 f22 f23 f24 f25 f26 f27 f28 f29 f30 f31 f32 f33 f34 f35 f36 f37 f38 f39 f40 f41 f42 f43 f44 f45 f46 f47 f48 f49 f50:Addr}{tf1 tf2 tf3 tf4 tf5 tf6 td1 td2 td3 td4 td5 td6 ts1 ts2 tg1_0 tg2_0 tg3_0 tg3_1 tg4_0 tg4_1 tg4_2 tg5_0 tg5_1 tg6_0:Tok}{ns0 nt1 nt2 nt3 nt4 nt5 nt6:Nat}(X:K.In h)(G:h.Ns mainGlobals mg)(hfa:mg "law" =some (.ref fa))
  {od0 an0 od1 an1 od2 an2 od3 an3 od4 an4 od5 an5 od6 an6 od7 an7 od8 an8 od9 an9 od10 an10 od11 an11 od12 an12 od13 an13 od14 an14 od15 an15 od16 an16 od17 an17 od18 an18 od19 an19 od20 an20 od21 an21 od22 an22 od23 an23 od24 an24 od25 an25 od26 an26 od27 an27 od28 an28 od29 an29 od30 an30 od31 an31 od32 an32 od33 an33 od34 an34 od35 an35 od36 an36 od37 an37 od38 an38 od39 an39 od40 an40 od41 an41 od42 an42 od43 an43 od44 an44 od45 an45 od46 an46 od47 an47 od48 an48 od49 an49 od50 an50:Option Addr} {sl0 sl1 sl2 sl3 sl4 sl5 sl6 sl7 sl8 sl9 sl10 sl11 sl12 sl13 sl14 sl15 sl16 sl17 sl18 sl19 sl20 sl21 sl22 sl23 sl24 sl25 sl26 sl27 sl28 sl29 sl30 sl31 sl32 sl33 sl34 sl35 sl36 sl37 sl38 sl39 sl40 sl41 sl42 sl43 sl44 sl45 sl46 sl47 sl48 sl49 sl50:Array (Option Value)} {oc0 kV0 dc0 pm0 cd0 ct0 oc1 kV1 dc1 pm1 cd1 ct1 oc2 kV2 dc2 pm2 cd2 ct2 oc3 kV3 dc3 pm3 cd3 ct3 oc4 kV4 dc4 pm4 cd4 ct4 oc5 kV5 dc5 pm5 cd5 ct5 oc6 kV6 dc6 pm6 cd6 ct6 oc7 kV7 dc7 pm7 cd7 ct7 oc8 kV8 dc8 pm8 cd8 ct8 oc9 kV9 dc9 pm9 cd9 ct9 oc10 kV10 dc10 pm10 cd10 ct10 oc11 kV11 dc11 pm11 cd11 ct11 oc12 kV12 dc12 pm12 cd12 ct12 oc13 kV13 dc13 pm13 cd13 ct13 oc14 kV14 dc14 pm14 cd14 ct14 oc15 kV15 dc15 pm15 cd15 ct15 oc16 kV16 dc16 pm16 cd16 ct16 oc17 kV17 dc17 pm17 cd17 ct17 oc18 kV18 dc18 pm18 cd18 ct18 oc19 kV19 dc19 pm19 cd19 ct19 oc20 kV20 dc20 pm20 cd20 ct20 oc21 kV21 dc21 pm21 cd21 ct21 oc22 kV22 dc22 pm22 cd22 ct22 oc23 kV23 dc23 pm23 cd23 ct23 oc24 kV24 dc24 pm24 cd24 ct24 oc25 kV25 dc25 pm25 cd25 ct25 oc26 kV26 dc26 pm26 cd26 ct26 oc27 kV27 dc27 pm27 cd27 ct27 oc28 kV28 dc28 pm28 cd28 ct28 oc29 kV29 dc29 pm29 cd29 ct29 oc30 kV30 dc30 pm30 cd30 ct30 oc31 kV31 dc31 pm31 cd31 ct31 oc32 kV32 dc32 pm32 cd32 ct32 oc33 kV33 dc33 pm33 cd33 ct33 oc34 kV34 dc34 pm34 cd34 ct34 oc35 kV35 dc35 pm35 cd35 ct35 oc36 kV36 dc36 pm36 cd36 ct36 oc37 kV37 dc37 pm37 cd37 ct37 oc38 kV38 dc38 pm38 cd38 ct38 oc39 kV39 dc39 pm39 cd39 ct39 oc40 kV40 dc40 pm40 cd40 ct40 oc41 kV41 dc41 pm41 cd41 ct41 oc42 kV42 dc42 pm42 cd42 ct42 oc43 kV43 dc43 pm43 cd43 ct43 oc44 kV44 dc44 pm44 cd44 ct44 oc45 kV45 dc45 pm45 cd45 ct45 oc46 kV46 dc46 pm46 cd46 ct46 oc47 kV47 dc47 pm47 cd47 ct47 oc48 kV48 dc48 pm48 cd48 ct48 oc49 kV49 dc49 pm49 cd49 ct49 oc50 kV50 dc50 pm50 cd50 ct50:Value}
  (a0:PySem.W.nsIn K mainGlobals "is_whole" =some (some (.ref f0))) (l0:K.lookup f0=some ⟨oc0,od0,.func (PySem.W.fnOf "is_whole" "is_whole" (ZaB ZcA) (Zay ZcA) (Zag ZcA) .none kV0 dc0 pm0 an0 cd0 ct0),sl0⟩) (c0:PySem.W.codeIn K cd0 "is_whole" =true) (k0:PySem.W.keepIn K (.ref f0)=true)
  (a1:PySem.W.nsIn K mainGlobals "is_whole_from" =some (some (.ref f1))) (l1:K.lookup f1=some ⟨oc1,od1,.func (PySem.W.fnOf "is_whole_from" "is_whole_from" (ZaB Zbh) (Zay Zbh) (Zag Zbh) .none kV1 dc1 pm1 an1 cd1 ct1),sl1⟩) (c1:PySem.W.codeIn K cd1 "is_whole_from" =true) (k1:PySem.W.keepIn K (.ref f1)=true)
  (a2:PySem.W.nsIn K mainGlobals "paired" =some (some (.ref f2))) (l2:K.lookup f2=some ⟨oc2,od2,.func (PySem.W.fnOf "paired" "paired" (ZaB Zdp) (Zay Zdp) (Zag Zdp) .none kV2 dc2 pm2 an2 cd2 ct2),sl2⟩) (c2:PySem.W.codeIn K cd2 "paired" =true) (k2:PySem.W.keepIn K (.ref f2)=true)
  (a3:PySem.W.nsIn K mainGlobals "end_of" =some (some (.ref f3))) (l3:K.lookup f3=some ⟨oc3,od3,.func (PySem.W.fnOf "end_of" "end_of" (ZaB Zdo) (Zay Zdo) (Zag Zdo) .none kV3 dc3 pm3 an3 cd3 ct3),sl3⟩) (c3:PySem.W.codeIn K cd3 "end_of" =true) (k3:PySem.W.keepIn K (.ref f3)=true)
  (a4:PySem.W.nsIn K mainGlobals "shift_of" =some (some (.ref f4))) (l4:K.lookup f4=some ⟨oc4,od4,.func (PySem.W.fnOf "shift_of" "shift_of" (ZaB ZcC) (Zay ZcC) (Zag ZcC) .none kV4 dc4 pm4 an4 cd4 ct4),sl4⟩) (c4:PySem.W.codeIn K cd4 "shift_of" =true) (k4:PySem.W.keepIn K (.ref f4)=true)
  (a5:PySem.W.nsIn K mainGlobals "short" =some (some (.ref f5))) (l5:K.lookup f5=some ⟨oc5,od5,.func (PySem.W.fnOf "short" "short" (ZaB Zd6) (Zay Zd6) (Zag Zd6) .none kV5 dc5 pm5 an5 cd5 ct5),sl5⟩) (c5:PySem.W.codeIn K cd5 "short" =true) (k5:PySem.W.keepIn K (.ref f5)=true)
  (a6:PySem.W.nsIn K mainGlobals "shaped" =some (some (.ref f6))) (l6:K.lookup f6=some ⟨oc6,od6,.func (PySem.W.fnOf "shaped" "shaped" (ZaB Zdq) (Zay Zdq) (Zag Zdq) .none kV6 dc6 pm6 an6 cd6 ct6),sl6⟩) (c6:PySem.W.codeIn K cd6 "shaped" =true) (k6:PySem.W.keepIn K (.ref f6)=true)
  (a7:PySem.W.nsIn K mainGlobals "length" =some (some (.ref f7))) (l7:K.lookup f7=some ⟨oc7,od7,.func (PySem.W.fnOf "length" "length" (ZaB Zc1) (Zay Zc1) (Zag Zc1) .none kV7 dc7 pm7 an7 cd7 ct7),sl7⟩) (c7:PySem.W.codeIn K cd7 "length" =true) (k7:PySem.W.keepIn K (.ref f7)=true)
  (a8:PySem.W.nsIn K mainGlobals "laid_from" =some (some (.ref f8))) (l8:K.lookup f8=some ⟨oc8,od8,.func (PySem.W.fnOf "laid_from" "laid_from" (ZaB Zck) (Zay Zck) (Zag Zck) .none kV8 dc8 pm8 an8 cd8 ct8),sl8⟩) (c8:PySem.W.codeIn K cd8 "laid_from" =true) (k8:PySem.W.keepIn K (.ref f8)=true)
  (a9:PySem.W.nsIn K mainGlobals "part" =some (some (.ref f9))) (l9:K.lookup f9=some ⟨oc9,od9,.func (PySem.W.fnOf "part" "part" (ZaB ZfA) (Zay ZfA) (Zag ZfA) .none kV9 dc9 pm9 an9 cd9 ct9),sl9⟩) (c9:PySem.W.codeIn K cd9 "part" =true) (k9:PySem.W.keepIn K (.ref f9)=true)
  (a10:PySem.W.nsIn K mainGlobals "backward" =some (some (.ref f10))) (l10:K.lookup f10=some ⟨oc10,od10,.func (PySem.W.fnOf "backward" "backward" (ZaB ZcE) (Zay ZcE) (Zag ZcE) .none kV10 dc10 pm10 an10 cd10 ct10),sl10⟩) (c10:PySem.W.codeIn K cd10 "backward" =true) (k10:PySem.W.keepIn K (.ref f10)=true)
  (a11:PySem.W.nsIn K mainGlobals "sum_of_weights" =some (some (.ref f11))) (l11:K.lookup f11=some ⟨oc11,od11,.func (PySem.W.fnOf "sum_of_weights" "sum_of_weights" (ZaB Za4) (Zay Za4) (Zag Za4) .none kV11 dc11 pm11 an11 cd11 ct11),sl11⟩) (c11:PySem.W.codeIn K cd11 "sum_of_weights" =true) (k11:PySem.W.keepIn K (.ref f11)=true)
  (a12:PySem.W.nsIn K mainGlobals "weights_times" =some (some (.ref f12))) (l12:K.lookup f12=some ⟨oc12,od12,.func (PySem.W.fnOf "weights_times" "weights_times" (ZaB Za8) (Zay Za8) (Zag Za8) .none kV12 dc12 pm12 an12 cd12 ct12),sl12⟩) (c12:PySem.W.codeIn K cd12 "weights_times" =true) (k12:PySem.W.keepIn K (.ref f12)=true)
  (a13:PySem.W.nsIn K mainGlobals "rises_of" =some (some (.ref f13))) (l13:K.lookup f13=some ⟨oc13,od13,.func (PySem.W.fnOf "rises_of" "rises_of" (ZaB ZcD) (Zay ZcD) (Zag ZcD) .none kV13 dc13 pm13 an13 cd13 ct13),sl13⟩) (c13:PySem.W.codeIn K cd13 "rises_of" =true) (k13:PySem.W.keepIn K (.ref f13)=true)
  (a14:PySem.W.nsIn K mainGlobals "heaped" =some (some (.ref f14))) (l14:K.lookup f14=some ⟨oc14,od14,.func (PySem.W.fnOf "heaped" "heaped" (ZaB Zdr) (Zay Zdr) (Zag Zdr) .none kV14 dc14 pm14 an14 cd14 ct14),sl14⟩) (c14:PySem.W.codeIn K cd14 "heaped" =true) (k14:PySem.W.keepIn K (.ref f14)=true)
  (a15:PySem.W.nsIn K mainGlobals "added" =some (some (.ref f15))) (l15:K.lookup f15=some ⟨oc15,od15,.func (PySem.W.fnOf "added" "added" (ZaB Zd8) (Zay Zd8) (Zag Zd8) .none kV15 dc15 pm15 an15 cd15 ct15),sl15⟩) (c15:PySem.W.codeIn K cd15 "added" =true) (k15:PySem.W.keepIn K (.ref f15)=true)
  (a16:PySem.W.nsIn K mainGlobals "put_to" =some (some (.ref f16))) (l16:K.lookup f16=some ⟨oc16,od16,.func (PySem.W.fnOf "put_to" "put_to" (ZaB Zds) (Zay Zds) (Zag Zds) .none kV16 dc16 pm16 an16 cd16 ct16),sl16⟩) (c16:PySem.W.codeIn K cd16 "put_to" =true) (k16:PySem.W.keepIn K (.ref f16)=true)
  (a17:PySem.W.nsIn K mainGlobals "wound" =some (some (.ref f17))) (l17:K.lookup f17=some ⟨oc17,od17,.func (PySem.W.fnOf "wound" "wound" (ZaB Zd9) (Zay Zd9) (Zag Zd9) .none kV17 dc17 pm17 an17 cd17 ct17),sl17⟩) (c17:PySem.W.codeIn K cd17 "wound" =true) (k17:PySem.W.keepIn K (.ref f17)=true)
  (a18:PySem.W.nsIn K mainGlobals "may_lead" =some (some (.ref f18))) (l18:K.lookup f18=some ⟨oc18,od18,.func (PySem.W.fnOf "may_lead" "may_lead" (ZaB ZcF) (Zay ZcF) (Zag ZcF) .none kV18 dc18 pm18 an18 cd18 ct18),sl18⟩) (c18:PySem.W.codeIn K cd18 "may_lead" =true) (k18:PySem.W.keepIn K (.ref f18)=true)
  (a19:PySem.W.nsIn K mainGlobals "kept_below" =some (some (.ref f19))) (l19:K.lookup f19=some ⟨oc19,od19,.func (PySem.W.fnOf "kept_below" "kept_below" (ZaB Zb7) (Zay Zb7) (Zag Zb7) .none kV19 dc19 pm19 an19 cd19 ct19),sl19⟩) (c19:PySem.W.codeIn K cd19 "kept_below" =true) (k19:PySem.W.keepIn K (.ref f19)=true)
  (a20:PySem.W.nsIn K mainGlobals "cut_weighing" =some (some (.ref f20))) (l20:K.lookup f20=some ⟨oc20,od20,.func (PySem.W.fnOf "cut_weighing" "cut_weighing" (ZaB Zbq) (Zay Zbq) (Zag Zbq) .none kV20 dc20 pm20 an20 cd20 ct20),sl20⟩) (c20:PySem.W.codeIn K cd20 "cut_weighing" =true) (k20:PySem.W.keepIn K (.ref f20)=true)
  (a21:PySem.W.nsIn K mainGlobals "demand" =some (some (.ref f21))) (l21:K.lookup f21=some ⟨oc21,od21,.func (PySem.W.fnOf "demand" "demand" (ZaB Zdn) (Zay Zdn) (Zag Zdn) .none kV21 dc21 pm21 an21 cd21 ct21),sl21⟩) (c21:PySem.W.codeIn K cd21 "demand" =true) (k21:PySem.W.keepIn K (.ref f21)=true)
  (a22:PySem.W.nsIn K mainGlobals "replaced" =some (some (.ref f22))) (l22:K.lookup f22=some ⟨oc22,od22,.func (PySem.W.fnOf "replaced" "replaced" (ZaB ZcB) (Zay ZcB) (Zag ZcB) .none kV22 dc22 pm22 an22 cd22 ct22),sl22⟩) (c22:PySem.W.codeIn K cd22 "replaced" =true) (k22:PySem.W.keepIn K (.ref f22)=true)
  (a23:PySem.W.nsIn K mainGlobals "all_end_by" =some (some (.ref f23))) (l23:K.lookup f23=some ⟨oc23,od23,.func (PySem.W.fnOf "all_end_by" "all_end_by" (ZaB ZbA) (Zay ZbA) (Zag ZbA) .none kV23 dc23 pm23 an23 cd23 ct23),sl23⟩) (c23:PySem.W.codeIn K cd23 "all_end_by" =true) (k23:PySem.W.keepIn K (.ref f23)=true)
  (a24:PySem.W.nsIn K mainGlobals "do_cut" =some (some (.ref f24))) (l24:K.lookup f24=some ⟨oc24,od24,.func (PySem.W.fnOf "do_cut" "do_cut" (ZaB Zdt) (Zay Zdt) (Zag Zdt) .none kV24 dc24 pm24 an24 cd24 ct24),sl24⟩) (c24:PySem.W.codeIn K cd24 "do_cut" =true) (k24:PySem.W.keepIn K (.ref f24)=true)
  (a25:PySem.W.nsIn K mainGlobals "fits" =some (some (.ref f25))) (l25:K.lookup f25=some ⟨oc25,od25,.func (PySem.W.fnOf "fits" "fits" (ZaB Zfz) (Zay Zfz) (Zag Zfz) .none kV25 dc25 pm25 an25 cd25 ct25),sl25⟩) (c25:PySem.W.codeIn K cd25 "fits" =true) (k25:PySem.W.keepIn K (.ref f25)=true)
  (a26:PySem.W.nsIn K mainGlobals "is_formed" =some (some (.ref f26))) (l26:K.lookup f26=some ⟨oc26,od26,.func (PySem.W.fnOf "is_formed" "is_formed" (ZaB Zb2) (Zay Zb2) (Zag Zb2) .none kV26 dc26 pm26 an26 cd26 ct26),sl26⟩) (c26:PySem.W.codeIn K cd26 "is_formed" =true) (k26:PySem.W.keepIn K (.ref f26)=true)
  (a27:PySem.W.nsIn K mainGlobals "deed_done" =some (some (.ref f27))) (l27:K.lookup f27=some ⟨oc27,od27,.func (PySem.W.fnOf "deed_done" "deed_done" (ZaB Zcl) (Zay Zcl) (Zag Zcl) .none kV27 dc27 pm27 an27 cd27 ct27),sl27⟩) (c27:PySem.W.codeIn K cd27 "deed_done" =true) (k27:PySem.W.keepIn K (.ref f27)=true)
  (a28:PySem.W.nsIn K mainGlobals "_law_cell_at" =some (some (.ref f28))) (l28:K.lookup f28=some ⟨oc28,od28,.func (PySem.W.fnOf "_law_cell_at" "_law_cell_at" (ZaB Zbr) (Zay Zbr) (Zag Zbr) .none kV28 dc28 pm28 an28 cd28 ct28),sl28⟩) (c28:PySem.W.codeIn K cd28 "_law_cell_at" =true) (k28:PySem.W.keepIn K (.ref f28)=true)
  (a29:PySem.W.nsIn K mainGlobals "_law_big" =some (some (.ref f29))) (l29:K.lookup f29=some ⟨oc29,od29,.func (PySem.W.fnOf "_law_big" "_law_big" (ZaB ZcG) (Zay ZcG) (Zag ZcG) .none kV29 dc29 pm29 an29 cd29 ct29),sl29⟩) (c29:PySem.W.codeIn K cd29 "_law_big" =true) (k29:PySem.W.keepIn K (.ref f29)=true)
  (a30:PySem.W.nsIn K mainGlobals "_law_take" =some (some (.ref f30))) (l30:K.lookup f30=some ⟨oc30,od30,.func (PySem.W.fnOf "_law_take" "_law_take" (ZaB Zcm) (Zay Zcm) (Zag Zcm) .none kV30 dc30 pm30 an30 cd30 ct30),sl30⟩) (c30:PySem.W.codeIn K cd30 "_law_take" =true) (k30:PySem.W.keepIn K (.ref f30)=true)
  (a31:PySem.W.nsIn K mainGlobals "_law_weighing" =some (some (.ref f31))) (l31:K.lookup f31=some ⟨oc31,od31,.func (PySem.W.fnOf "_law_weighing" "_law_weighing" (ZaB Za1) (Zay Za1) (Zag Za1) .none kV31 dc31 pm31 an31 cd31 ct31),sl31⟩) (c31:PySem.W.codeIn K cd31 "_law_weighing" =true) (k31:PySem.W.keepIn K (.ref f31)=true)
  (a32:PySem.W.nsIn K mainGlobals "_law_pairing" =some (some (.ref f32))) (l32:K.lookup f32=some ⟨oc32,od32,.func (PySem.W.fnOf "_law_pairing" "_law_pairing" (ZaB Zbs) (Zay Zbs) (Zag Zbs) .none kV32 dc32 pm32 an32 cd32 ct32),sl32⟩) (c32:PySem.W.codeIn K cd32 "_law_pairing" =true) (k32:PySem.W.keepIn K (.ref f32)=true)
  (a33:PySem.W.nsIn K mainGlobals "_law_hall" =some (some (.ref f33))) (l33:K.lookup f33=some ⟨oc33,od33,.func (PySem.W.fnOf "_law_hall" "_law_hall" (ZaB Zcn) (Zay Zcn) (Zag Zcn) .none kV33 dc33 pm33 an33 cd33 ct33),sl33⟩) (c33:PySem.W.codeIn K cd33 "_law_hall" =true) (k33:PySem.W.keepIn K (.ref f33)=true)
  (a34:PySem.W.nsIn K mainGlobals "_law_lead" =some (some (.ref f34))) (l34:K.lookup f34=some ⟨oc34,od34,.func (PySem.W.fnOf "_law_lead" "_law_lead" (ZaB Zco) (Zay Zco) (Zag Zco) .none kV34 dc34 pm34 an34 cd34 ct34),sl34⟩) (c34:PySem.W.codeIn K cd34 "_law_lead" =true) (k34:PySem.W.keepIn K (.ref f34)=true)
  (a35:PySem.W.nsIn K mainGlobals "_law_behind" =some (some (.ref f35))) (l35:K.lookup f35=some ⟨oc35,od35,.func (PySem.W.fnOf "_law_behind" "_law_behind" (ZaB ZbH) (Zay ZbH) (Zag ZbH) .none kV35 dc35 pm35 an35 cd35 ct35),sl35⟩) (c35:PySem.W.codeIn K cd35 "_law_behind" =true) (k35:PySem.W.keepIn K (.ref f35)=true)
  (a36:PySem.W.nsIn K mainGlobals "_law_at" =some (some (.ref f36))) (l36:K.lookup f36=some ⟨oc36,od36,.func (PySem.W.fnOf "_law_at" "_law_at" (ZaB ZcW) (Zay ZcW) (Zag ZcW) .none kV36 dc36 pm36 an36 cd36 ct36),sl36⟩) (c36:PySem.W.codeIn K cd36 "_law_at" =true) (k36:PySem.W.keepIn K (.ref f36)=true)
  (a37:PySem.W.nsIn K mainGlobals "_law_starts" =some (some (.ref f37))) (l37:K.lookup f37=some ⟨oc37,od37,.func (PySem.W.fnOf "_law_starts" "_law_starts" (ZaB ZbI) (Zay ZbI) (Zag ZbI) .none kV37 dc37 pm37 an37 cd37 ct37),sl37⟩) (c37:PySem.W.codeIn K cd37 "_law_starts" =true) (k37:PySem.W.keepIn K (.ref f37)=true)
  (a38:PySem.W.nsIn K mainGlobals "_law_number" =some (some (.ref f38))) (l38:K.lookup f38=some ⟨oc38,od38,.func (PySem.W.fnOf "_law_number" "_law_number" (ZaB Zbn) (Zay Zbn) (Zag Zbn) .none kV38 dc38 pm38 an38 cd38 ct38),sl38⟩) (c38:PySem.W.codeIn K cd38 "_law_number" =true) (k38:PySem.W.keepIn K (.ref f38)=true)
  (a39:PySem.W.nsIn K mainGlobals "_law_shaped" =some (some (.ref f39))) (l39:K.lookup f39=some ⟨oc39,od39,.func (PySem.W.fnOf "_law_shaped" "_law_shaped" (ZaB Zbo) (Zay Zbo) (Zag Zbo) .none kV39 dc39 pm39 an39 cd39 ct39),sl39⟩) (c39:PySem.W.codeIn K cd39 "_law_shaped" =true) (k39:PySem.W.keepIn K (.ref f39)=true)
  (a40:PySem.W.nsIn K mainGlobals "_law_cut_weighing" =some (some (.ref f40))) (l40:K.lookup f40=some ⟨oc40,od40,.func (PySem.W.fnOf "_law_cut_weighing" "_law_cut_weighing" (ZaB ZaE) (Zay ZaE) (Zag ZaE) .none kV40 dc40 pm40 an40 cd40 ct40),sl40⟩) (c40:PySem.W.codeIn K cd40 "_law_cut_weighing" =true) (k40:PySem.W.keepIn K (.ref f40)=true)
  (a41:PySem.W.nsIn K mainGlobals "_law_cut" =some (some (.ref f41))) (l41:K.lookup f41=some ⟨oc41,od41,.func (PySem.W.fnOf "_law_cut" "_law_cut" (ZaB Zcp) (Zay Zcp) (Zag Zcp) .none kV41 dc41 pm41 an41 cd41 ct41),sl41⟩) (c41:PySem.W.codeIn K cd41 "_law_cut" =true) (k41:PySem.W.keepIn K (.ref f41)=true)
  (a42:PySem.W.nsIn K mainGlobals "_law_is_whole" =some (some (.ref f42))) (l42:K.lookup f42=some ⟨oc42,od42,.func (PySem.W.fnOf "_law_is_whole" "_law_is_whole" (ZaB Zbi) (Zay Zbi) (Zag Zbi) .none kV42 dc42 pm42 an42 cd42 ct42),sl42⟩) (c42:PySem.W.codeIn K cd42 "_law_is_whole" =true) (k42:PySem.W.keepIn K (.ref f42)=true)
  (a43:PySem.W.nsIn K mainGlobals "_law_told_right" =some (some (.ref f43))) (l43:K.lookup f43=some ⟨oc43,od43,.func (PySem.W.fnOf "_law_told_right" "_law_told_right" (ZaB ZaX) (Zay ZaX) (Zag ZaX) .none kV43 dc43 pm43 an43 cd43 ct43),sl43⟩) (c43:PySem.W.codeIn K cd43 "_law_told_right" =true) (k43:PySem.W.keepIn K (.ref f43)=true)
  (a44:PySem.W.nsIn K mainGlobals "_law_refused" =some (some (.ref f44))) (l44:K.lookup f44=some ⟨oc44,od44,.func (PySem.W.fnOf "_law_refused" "_law_refused" (ZaB Zbt) (Zay Zbt) (Zag Zbt) .none kV44 dc44 pm44 an44 cd44 ct44),sl44⟩) (c44:PySem.W.codeIn K cd44 "_law_refused" =true) (k44:PySem.W.keepIn K (.ref f44)=true)
  (a45:PySem.W.nsIn K mainGlobals "_law_done_right" =some (some (.ref f45))) (l45:K.lookup f45=some ⟨oc45,od45,.func (PySem.W.fnOf "_law_done_right" "_law_done_right" (ZaB Za5) (Zay Za5) (Zag Za5) .none kV45 dc45 pm45 an45 cd45 ct45),sl45⟩) (c45:PySem.W.codeIn K cd45 "_law_done_right" =true) (k45:PySem.W.keepIn K (.ref f45)=true)
  (a46:PySem.W.nsIn K mainGlobals "_law_right" =some (some (.ref f46))) (l46:K.lookup f46=some ⟨oc46,od46,.func (PySem.W.fnOf "_law_right" "_law_right" (ZaB Zb8) (Zay Zb8) (Zag Zb8) .none kV46 dc46 pm46 an46 cd46 ct46),sl46⟩) (c46:PySem.W.codeIn K cd46 "_law_right" =true) (k46:PySem.W.keepIn K (.ref f46)=true)
  (a47:PySem.W.nsIn K mainGlobals "_law_due" =some (some (.ref f47))) (l47:K.lookup f47=some ⟨oc47,od47,.func (PySem.W.fnOf "_law_due" "_law_due" (ZaB ZcH) (Zay ZcH) (Zag ZcH) .none kV47 dc47 pm47 an47 cd47 ct47),sl47⟩) (c47:PySem.W.codeIn K cd47 "_law_due" =true) (k47:PySem.W.keepIn K (.ref f47)=true)
  (a48:PySem.W.nsIn K mainGlobals "_law_ending" =some (some (.ref f48))) (l48:K.lookup f48=some ⟨oc48,od48,.func (PySem.W.fnOf "_law_ending" "_law_ending" (ZaB ZbJ) (Zay ZbJ) (Zag ZbJ) .none kV48 dc48 pm48 an48 cd48 ct48),sl48⟩) (c48:PySem.W.codeIn K cd48 "_law_ending" =true) (k48:PySem.W.keepIn K (.ref f48)=true)
  (a49:PySem.W.nsIn K mainGlobals "_law_ends" =some (some (.ref f49))) (l49:K.lookup f49=some ⟨oc49,od49,.func (PySem.W.fnOf "_law_ends" "_law_ends" (ZaB Zb3) (Zay Zb3) (Zag Zb3) .none kV49 dc49 pm49 an49 cd49 ct49),sl49⟩) (c49:PySem.W.codeIn K cd49 "_law_ends" =true) (k49:PySem.W.keepIn K (.ref f49)=true)
  (a50:PySem.W.nsIn K mainGlobals "law" =some (some (.ref f50))) (l50:K.lookup f50=some ⟨oc50,od50,.func (PySem.W.fnOf "law" "law" (ZaB Zfj) (Zay Zfj) (Zag Zfj) .none kV50 dc50 pm50 an50 cd50 ct50),sl50⟩) (c50:PySem.W.codeIn K cd50 "law" =true) (k50:PySem.W.keepIn K (.ref f50)=true)
  (n_CordError:PySem.W.nsIn K mainGlobals "CordError" =some (some (.ref qc)))
  (xa_CordError:PySem.W.findIn K (.ref qc) "__getattribute__" =some (some (.builtin "BaseException.__getattribute__"))) (xb_CordError:PySem.W.findIn K (.ref qc) "__getattr__" =some none) (xc_CordError:PySem.W.findIn K (.ref qc) "__class__" =some (some (.builtin "object.__class__"))) (xd_CordError:PySem.W.subIn K (.ref qc) (.type "BaseException")=some true) (xe_CordError:PySem.W.subIn K (.ref qc) (.type "object")=some true) (xf_CordError:PySem.W.typeIn K (.ref qc)=some (.type "type")) (xg_CordError:PySem.W.isClsIn K qc=true) (xh_CordError:PySem.W.subIn K (.ref qc) (.ref qc)=some true)
  (n_TooMany:PySem.W.nsIn K mainGlobals "TooMany" =some (some (.ref qe)))
  (xa_TooMany:PySem.W.findIn K (.ref qe) "__getattribute__" =some (some (.builtin "BaseException.__getattribute__"))) (xb_TooMany:PySem.W.findIn K (.ref qe) "__getattr__" =some none) (xc_TooMany:PySem.W.findIn K (.ref qe) "__class__" =some (some (.builtin "object.__class__"))) (xd_TooMany:PySem.W.subIn K (.ref qe) (.type "BaseException")=some true) (xe_TooMany:PySem.W.subIn K (.ref qe) (.type "object")=some true) (xf_TooMany:PySem.W.typeIn K (.ref qe)=some (.type "type")) (xg_TooMany:PySem.W.isClsIn K qe=true) (xh_TooMany:PySem.W.subIn K (.ref qe) (.ref qe)=some true)
  (n_NoDeed:PySem.W.nsIn K mainGlobals "NoDeed" =some (some (.ref qb)))
  (xa_NoDeed:PySem.W.findIn K (.ref qb) "__getattribute__" =some (some (.builtin "BaseException.__getattribute__"))) (xb_NoDeed:PySem.W.findIn K (.ref qb) "__getattr__" =some none) (xc_NoDeed:PySem.W.findIn K (.ref qb) "__class__" =some (some (.builtin "object.__class__"))) (xd_NoDeed:PySem.W.subIn K (.ref qb) (.type "BaseException")=some true) (xe_NoDeed:PySem.W.subIn K (.ref qb) (.type "object")=some true) (xf_NoDeed:PySem.W.typeIn K (.ref qb)=some (.type "type")) (xg_NoDeed:PySem.W.isClsIn K qb=true) (xh_NoDeed:PySem.W.subIn K (.ref qb) (.ref qb)=some true)
  (n_NoRow:PySem.W.nsIn K mainGlobals "NoRow" =some (some (.ref qo)))
  (xa_NoRow:PySem.W.findIn K (.ref qo) "__getattribute__" =some (some (.builtin "BaseException.__getattribute__"))) (xb_NoRow:PySem.W.findIn K (.ref qo) "__getattr__" =some none) (xc_NoRow:PySem.W.findIn K (.ref qo) "__class__" =some (some (.builtin "object.__class__"))) (xd_NoRow:PySem.W.subIn K (.ref qo) (.type "BaseException")=some true) (xe_NoRow:PySem.W.subIn K (.ref qo) (.type "object")=some true) (xf_NoRow:PySem.W.typeIn K (.ref qo)=some (.type "type")) (xg_NoRow:PySem.W.isClsIn K qo=true) (xh_NoRow:PySem.W.subIn K (.ref qo) (.ref qo)=some true)
  (n_NoCord:PySem.W.nsIn K mainGlobals "NoCord" =some (some (.ref qg)))
  (xa_NoCord:PySem.W.findIn K (.ref qg) "__getattribute__" =some (some (.builtin "BaseException.__getattribute__"))) (xb_NoCord:PySem.W.findIn K (.ref qg) "__getattr__" =some none) (xc_NoCord:PySem.W.findIn K (.ref qg) "__class__" =some (some (.builtin "object.__class__"))) (xd_NoCord:PySem.W.subIn K (.ref qg) (.type "BaseException")=some true) (xe_NoCord:PySem.W.subIn K (.ref qg) (.type "object")=some true) (xf_NoCord:PySem.W.typeIn K (.ref qg)=some (.type "type")) (xg_NoCord:PySem.W.isClsIn K qg=true) (xh_NoCord:PySem.W.subIn K (.ref qg) (.ref qg)=some true)
  (n_NoTurn:PySem.W.nsIn K mainGlobals "NoTurn" =some (some (.ref qh)))
  (xa_NoTurn:PySem.W.findIn K (.ref qh) "__getattribute__" =some (some (.builtin "BaseException.__getattribute__"))) (xb_NoTurn:PySem.W.findIn K (.ref qh) "__getattr__" =some none) (xc_NoTurn:PySem.W.findIn K (.ref qh) "__class__" =some (some (.builtin "object.__class__"))) (xd_NoTurn:PySem.W.subIn K (.ref qh) (.type "BaseException")=some true) (xe_NoTurn:PySem.W.subIn K (.ref qh) (.type "object")=some true) (xf_NoTurn:PySem.W.typeIn K (.ref qh)=some (.type "type")) (xg_NoTurn:PySem.W.isClsIn K qh=true) (xh_NoTurn:PySem.W.subIn K (.ref qh) (.ref qh)=some true)
  (n_NoText:PySem.W.nsIn K mainGlobals "NoText" =some (some (.ref qi)))
  (xa_NoText:PySem.W.findIn K (.ref qi) "__getattribute__" =some (some (.builtin "BaseException.__getattribute__"))) (xb_NoText:PySem.W.findIn K (.ref qi) "__getattr__" =some none) (xc_NoText:PySem.W.findIn K (.ref qi) "__class__" =some (some (.builtin "object.__class__"))) (xd_NoText:PySem.W.subIn K (.ref qi) (.type "BaseException")=some true) (xe_NoText:PySem.W.subIn K (.ref qi) (.type "object")=some true) (xf_NoText:PySem.W.typeIn K (.ref qi)=some (.type "type")) (xg_NoText:PySem.W.isClsIn K qi=true) (xh_NoText:PySem.W.subIn K (.ref qi) (.ref qi)=some true)
  (n_NoSheet:PySem.W.nsIn K mainGlobals "NoSheet" =some (some (.ref qf)))
  (xa_NoSheet:PySem.W.findIn K (.ref qf) "__getattribute__" =some (some (.builtin "BaseException.__getattribute__"))) (xb_NoSheet:PySem.W.findIn K (.ref qf) "__getattr__" =some none) (xc_NoSheet:PySem.W.findIn K (.ref qf) "__class__" =some (some (.builtin "object.__class__"))) (xd_NoSheet:PySem.W.subIn K (.ref qf) (.type "BaseException")=some true) (xe_NoSheet:PySem.W.subIn K (.ref qf) (.type "object")=some true) (xf_NoSheet:PySem.W.typeIn K (.ref qf)=some (.type "type")) (xg_NoSheet:PySem.W.isClsIn K qf=true) (xh_NoSheet:PySem.W.subIn K (.ref qf) (.ref qf)=some true)
  (n_NoName:PySem.W.nsIn K mainGlobals "NoName" =some (some (.ref c_NoName)))
  (xa_NoName:PySem.W.findIn K (.ref c_NoName) "__getattribute__" =some (some (.builtin "BaseException.__getattribute__"))) (xb_NoName:PySem.W.findIn K (.ref c_NoName) "__getattr__" =some none) (xc_NoName:PySem.W.findIn K (.ref c_NoName) "__class__" =some (some (.builtin "object.__class__"))) (xd_NoName:PySem.W.subIn K (.ref c_NoName) (.type "BaseException")=some true) (xe_NoName:PySem.W.subIn K (.ref c_NoName) (.type "object")=some true) (xf_NoName:PySem.W.typeIn K (.ref c_NoName)=some (.type "type")) (xg_NoName:PySem.W.isClsIn K c_NoName=true) (xh_NoName:PySem.W.subIn K (.ref c_NoName) (.ref c_NoName)=some true)
  (e_NoDeed:PySem.W.excIn K qb bmV "ValueError.__new__" =true) (v_NoDeed:PySem.W.subIn K (.ref qb) (.type "ValueError")=some true)
  (s_NoDeed_CordError:PySem.W.subIn K (.ref qb) (.ref qc)=some true)
  (s_NoDeed_TooMany:PySem.W.subIn K (.ref qb) (.ref qe)=some false)
  (s_NoDeed_NoDeed:PySem.W.subIn K (.ref qb) (.ref qb)=some true)
  (s_NoDeed_NoRow:PySem.W.subIn K (.ref qb) (.ref qo)=some false)
  (s_NoDeed_NoCord:PySem.W.subIn K (.ref qb) (.ref qg)=some false)
  (s_NoDeed_NoTurn:PySem.W.subIn K (.ref qb) (.ref qh)=some false)
  (s_NoDeed_NoText:PySem.W.subIn K (.ref qb) (.ref qi)=some false)
  (s_NoDeed_NoSheet:PySem.W.subIn K (.ref qb) (.ref qf)=some false)
  (s_NoDeed_NoName:PySem.W.subIn K (.ref qb) (.ref c_NoName)=some false)
  (nF:PySem.W.nsIn K mainGlobals "FORMS" =some (some (.ref aF))) (nD:PySem.W.nsIn K mainGlobals "DEEDS" =some (some (.ref aD))) (nS:PySem.W.nsIn K mainGlobals "SIDES" =some (some (.ref aS)))
  (lF:K.lookup aF=some ⟨.type "dict",none,.dict #[⟨PyData.keyHash w.params "gone",.str "gone" tf1,.ref g1⟩,⟨PyData.keyHash w.params "folded",.str "folded" tf2,.ref g2⟩,⟨PyData.keyHash w.params "joined",.str "joined" tf3,.ref g3⟩,⟨PyData.keyHash w.params "carried",.str "carried" tf4,.ref g4⟩,⟨PyData.keyHash w.params "cut",.str "cut" tf5,.ref g5⟩,⟨PyData.keyHash w.params "free",.str "free" tf6,.ref g6⟩] 6,#[]⟩) (lD:K.lookup aD=some ⟨.type "dict",none,.dict #[⟨PyData.keyHash w.params "gone",.str "gone" td1,.ref d1⟩,⟨PyData.keyHash w.params "folded",.str "folded" td2,.ref d2⟩,⟨PyData.keyHash w.params "joined",.str "joined" td3,.ref d3⟩,⟨PyData.keyHash w.params "carried",.str "carried" td4,.ref d4⟩,⟨PyData.keyHash w.params "cut",.str "cut" td5,.ref f24⟩,⟨PyData.keyHash w.params "free",.str "free" td6,.ref d6⟩] 6,#[]⟩) (lS:K.lookup aS=some ⟨.type "tuple",none,.seq #[.str "low" ts1,.str "high" ts2] ns0,#[]⟩)
  (lg1:K.lookup g1=some ⟨.type "tuple",none,.seq #[.str "pairing" tg1_0] nt1,#[]⟩)
  (lg2:K.lookup g2=some ⟨.type "tuple",none,.seq #[.str "pairing" tg2_0] nt2,#[]⟩)
  (lg3:K.lookup g3=some ⟨.type "tuple",none,.seq #[.str "pairing" tg3_0,.str "pairing" tg3_1] nt3,#[]⟩)
  (lg4:K.lookup g4=some ⟨.type "tuple",none,.seq #[.str "pairing" tg4_0,.str "pairing" tg4_1,.str "side" tg4_2] nt4,#[]⟩)
  (lg5:K.lookup g5=some ⟨.type "tuple",none,.seq #[.str "pairing" tg5_0,.str "place" tg5_1] nt5,#[]⟩)
  (lg6:K.lookup g6=some ⟨.type "tuple",none,.seq #[.str "place" tg6_0] nt6,#[]⟩)
  (mF:(aF==sysModules)=false) (mD:(aD==sysModules)=false)
  (g_abs:PySem.W.nsIn K mainGlobals "abs" =some none)
  (g_zip:PySem.W.nsIn K mainGlobals "zip" =some none)
  (g_divmod:PySem.W.nsIn K mainGlobals "divmod" =some none)
  (g_ValueError:PySem.W.nsIn K mainGlobals "ValueError" =some none)
  (g_set:PySem.W.nsIn K mainGlobals "set" =some none)
  (z_len:PySem.W.nsIn K mainGlobals "len" =some none) (z_range:PySem.W.nsIn K mainGlobals "range" =some none) (z_min:PySem.W.nsIn K mainGlobals "min" =some none) (z_max:PySem.W.nsIn K mainGlobals "max" =some none) (z_isinstance:PySem.W.nsIn K mainGlobals "isinstance" =some none) (z_bool:PySem.W.nsIn K mainGlobals "bool" =some none) (z_int:PySem.W.nsIn K mainGlobals "int" =some none) (z_tuple:PySem.W.nsIn K mainGlobals "tuple" =some none) (z_list:PySem.W.nsIn K mainGlobals "list" =some none) (z_str:PySem.W.nsIn K mainGlobals "str" =some none) (z_all:PySem.W.nsIn K mainGlobals "all" =some none) (z_sum:PySem.W.nsIn K mainGlobals "sum" =some none) (z_sorted:PySem.W.nsIn K mainGlobals "sorted" =some none):
  ∃fd:FuncData,(∀(s:Shared) (v:Value),BindsTo s fd ⟨[v],[]⟩ [("_law_script",v)])∧∀base:Heap,K.In base→base.Ns mainGlobals mg→ZbW l.prog w K mg base CX0 10 fa fd ["_law_script"] (Zm9 K):=by
 have e:=hfa.symm.trans (Qak X G a50);cases e;have M:Txt mg:=⟨QaR X G z_len,QaR X G z_range,QaR X G z_min,QaR X G z_max,QaR X G z_isinstance,QaR X G z_bool,QaR X G z_int,QaR X G z_tuple,QaR X G z_list,QaR X G z_str,QaR X G z_all,QaR X G z_sum,QaR X G z_sorted⟩;have GB:Gb mg:=⟨QaR X G g_abs,QaR X G g_zip,QaR X G g_divmod,QaR X G g_ValueError,QaR X G g_set⟩;have Z:Exs K mg qc qe qb qo qg qh qi qf c_NoName:=⟨Qak X G n_CordError,Qak X G n_TooMany,Qak X G n_NoDeed,Qak X G n_NoRow,Qak X G n_NoCord,Qak X G n_NoTurn,Qak X G n_NoText,Qak X G n_NoSheet,Qak X G n_NoName,⟨xa_CordError,xb_CordError,xc_CordError,xd_CordError,xe_CordError,xf_CordError,xg_CordError,xh_CordError⟩,⟨xa_TooMany,xb_TooMany,xc_TooMany,xd_TooMany,xe_TooMany,xf_TooMany,xg_TooMany,xh_TooMany⟩,⟨xa_NoDeed,xb_NoDeed,xc_NoDeed,xd_NoDeed,xe_NoDeed,xf_NoDeed,xg_NoDeed,xh_NoDeed⟩,⟨xa_NoRow,xb_NoRow,xc_NoRow,xd_NoRow,xe_NoRow,xf_NoRow,xg_NoRow,xh_NoRow⟩,⟨xa_NoCord,xb_NoCord,xc_NoCord,xd_NoCord,xe_NoCord,xf_NoCord,xg_NoCord,xh_NoCord⟩,⟨xa_NoTurn,xb_NoTurn,xc_NoTurn,xd_NoTurn,xe_NoTurn,xf_NoTurn,xg_NoTurn,xh_NoTurn⟩,⟨xa_NoText,xb_NoText,xc_NoText,xd_NoText,xe_NoText,xf_NoText,xg_NoText,xh_NoText⟩,⟨xa_NoSheet,xb_NoSheet,xc_NoSheet,xd_NoSheet,xe_NoSheet,xf_NoSheet,xg_NoSheet,xh_NoSheet⟩,⟨xa_NoName,xb_NoName,xc_NoName,xd_NoName,xe_NoName,xf_NoName,xg_NoName,xh_NoName⟩,e_NoDeed,v_NoDeed,s_NoDeed_CordError,s_NoDeed_TooMany,s_NoDeed_NoDeed,s_NoDeed_NoRow,s_NoDeed_NoCord,s_NoDeed_NoTurn,s_NoDeed_NoText,s_NoDeed_NoSheet,s_NoDeed_NoName⟩;have N:Nms w K mg aF aD aS g1 g2 g3 g4 g5 g6 d1 d2 d3 d4 f24 d6:=⟨Qak X G nF,Qak X G nD,Qak X G nS,ZiQ (ps:=[("gone",tf1,g1),("folded",tf2,g2),("joined",tf3,g3),("carried",tf4,g4),("cut",tf5,g5),("free",tf6,g6)]) lF mF (show(["gone", "folded", "joined", "carried", "cut", "free"]:List Str).Nodup by decide),ZiQ (ps:=[("gone",td1,d1),("folded",td2,d2),("joined",td3,d3),("carried",td4,d4),("cut",td5,f24),("free",td6,d6)]) lD mD (show(["gone", "folded", "joined", "carried", "cut", "free"]:List Str).Nodup by decide),fun H=> .inr ⟨_,_,_,lS,rfl,rfl,Qbv rfl,.cons ⟨_,rfl⟩ (.cons ⟨_,rfl⟩ (.nil))⟩,fun H=> .inr ⟨_,_,_,lg1,rfl,rfl,Qbv rfl,.cons ⟨_,rfl⟩ (.nil)⟩,fun H=> .inr ⟨_,_,_,lg2,rfl,rfl,Qbv rfl,.cons ⟨_,rfl⟩ (.nil)⟩,fun H=> .inr ⟨_,_,_,lg3,rfl,rfl,Qbv rfl,.cons ⟨_,rfl⟩ (.cons ⟨_,rfl⟩ (.nil))⟩,fun H=> .inr ⟨_,_,_,lg4,rfl,rfl,Qbv rfl,.cons ⟨_,rfl⟩ (.cons ⟨_,rfl⟩ (.cons ⟨_,rfl⟩ (.nil)))⟩,fun H=> .inr ⟨_,_,_,lg5,rfl,rfl,Qbv rfl,.cons ⟨_,rfl⟩ (.cons ⟨_,rfl⟩ (.nil))⟩,fun H=> .inr ⟨_,_,_,lg6,rfl,rfl,Qbv rfl,.cons ⟨_,rfl⟩ (.nil)⟩⟩;have F0:=ZaN (st:=ZcA) l0 c0 k0;have b0:=F0.binds (ps:=["thing"]) fun _ _ _ _ _ _ us hl=>match us,hl with| [_],_=>rfl
 have F1:=ZaN (st:=Zbh) l1 c1 k1;have b1:=F1.binds (ps:=["thing", "least"]) fun _ _ _ _ _ _ us hl=>match us,hl with| [_,_],_=>rfl
 have F2:=ZaN (st:=Zdp) l2 c2 k2;have b2:=F2.binds (ps:=["one", "other", "long", "turned"]) fun _ _ _ _ _ _ us hl=>match us,hl with| [_,_,_,_],_=>rfl
 have F3:=ZaN (st:=Zdo) l3 c3 k3;have b3:=F3.binds (ps:=["pairing"]) fun _ _ _ _ _ _ us hl=>match us,hl with| [_],_=>rfl
 have F4:=ZaN (st:=ZcC) l4 c4 k4;have b4:=F4.binds (ps:=["pairing"]) fun _ _ _ _ _ _ us hl=>match us,hl with| [_],_=>rfl
 have F5:=ZaN (st:=Zd6) l5 c5 k5;have b5:=F5.binds (ps:=["pairing", "skip", "many"]) fun _ _ _ _ _ _ us hl=>match us,hl with| [_,_,_],_=>rfl
 have F6:=ZaN (st:=Zdq) l6 c6 k6;have b6:=F6.binds (ps:=["pieces"]) fun _ _ _ _ _ _ us hl=>match us,hl with| [_],_=>rfl
 have F7:=ZaN (st:=Zc1) l7 c7 k7;have b7:=F7.binds (ps:=["weighing"]) fun _ _ _ _ _ _ us hl=>match us,hl with| [_],_=>rfl
 have F8:=ZaN (st:=Zck) l8 c8 k8;have b8:=F8.binds (ps:=["weighing", "begin"]) fun _ _ _ _ _ _ us hl=>match us,hl with| [_,_],_=>rfl
 have F9:=ZaN (st:=ZfA) l9 c9 k9;have b9:=F9.binds (ps:=["weighing", "begin", "end"]) fun _ _ _ _ _ _ us hl=>match us,hl with| [_,_,_],_=>rfl
 have F10:=ZaN (st:=ZcE) l10 c10 k10;have b10:=F10.binds (ps:=["weighing"]) fun _ _ _ _ _ _ us hl=>match us,hl with| [_],_=>rfl
 have F11:=ZaN (st:=Za4) l11 c11 k11;have b11:=F11.binds (ps:=["one", "other"]) fun _ _ _ _ _ _ us hl=>match us,hl with| [_,_],_=>rfl
 have F12:=ZaN (st:=Za8) l12 c12 k12;have b12:=F12.binds (ps:=["weights", "times"]) fun _ _ _ _ _ _ us hl=>match us,hl with| [_,_],_=>rfl
 have F13:=ZaN (st:=ZcD) l13 c13 k13;have b13:=F13.binds (ps:=["stretches"]) fun _ _ _ _ _ _ us hl=>match us,hl with| [_],_=>rfl
 have F14:=ZaN (st:=Zdr) l14 c14 k14;have b14:=F14.binds (ps:=["stretches"]) fun _ _ _ _ _ _ us hl=>match us,hl with| [_],_=>rfl
 have F15:=ZaN (st:=Zd8) l15 c15 k15;have b15:=F15.binds (ps:=["one", "other"]) fun _ _ _ _ _ _ us hl=>match us,hl with| [_,_],_=>rfl
 have F16:=ZaN (st:=Zds) l16 c16 k16;have b16:=F16.binds (ps:=["weighing", "begin", "other"]) fun _ _ _ _ _ _ us hl=>match us,hl with| [_,_,_],_=>rfl
 have F17:=ZaN (st:=Zd9) l17 c17 k17;have b17:=F17.binds (ps:=["weighing", "t"]) fun _ _ _ _ _ _ us hl=>match us,hl with| [_,_],_=>rfl
 have F18:=ZaN (st:=ZcF) l18 c18 k18;have b18:=F18.binds (ps:=["pairing"]) fun _ _ _ _ _ _ us hl=>match us,hl with| [_],_=>rfl
 have F19:=ZaN (st:=Zb7) l19 c19 k19;have b19:=F19.binds (ps:=["pairing", "end"]) fun _ _ _ _ _ _ us hl=>match us,hl with| [_,_],_=>rfl
 have F20:=ZaN (st:=Zbq) l20 c20 k20;have b20:=F20.binds (ps:=["weighing", "leader", "end"]) fun _ _ _ _ _ _ us hl=>match us,hl with| [_,_,_],_=>rfl
 have F21:=ZaN (st:=Zdn) l21 c21 k21;have b21:=F21.binds (ps:=["is_deed"]) fun _ _ _ _ _ _ us hl=>match us,hl with| [_],_=>rfl
 have F22:=ZaN (st:=ZcB) l22 c22 k22;have b22:=F22.binds (ps:=["pairings", "k", "coming"]) fun _ _ _ _ _ _ us hl=>match us,hl with| [_,_,_],_=>rfl
 have F23:=ZaN (st:=ZbA) l23 c23 k23;have b23:=F23.binds (ps:=["pairings", "end"]) fun _ _ _ _ _ _ us hl=>match us,hl with| [_,_],_=>rfl
 have F24:=ZaN (st:=Zdt) l24 c24 k24;have b24:=F24.binds (ps:=["hall", "deed"]) fun _ _ _ _ _ _ us hl=>match us,hl with| [_,_],_=>rfl
 have F25:=ZaN (st:=Zfz) l25 c25 k25;have b25:=F25.binds (ps:=["thing", "kind", "hall"]) fun _ _ _ _ _ _ us hl=>match us,hl with| [_,_,_],_=>rfl
 have F26:=ZaN (st:=Zb2) l26 c26 k26;have b26:=F26.binds (ps:=["hall", "deed"]) fun _ _ _ _ _ _ us hl=>match us,hl with| [_,_],_=>rfl
 have F27:=ZaN (st:=Zcl) l27 c27 k27;have b27:=F27.binds (ps:=["hall", "deed"]) fun _ _ _ _ _ _ us hl=>match us,hl with| [_,_],_=>rfl
 have F28:=ZaN (st:=Zbr) l28 c28 k28;have b28:=F28.binds (ps:=["_law_script", "_law_k"]) fun _ _ _ _ _ _ us hl=>match us,hl with| [_,_],_=>rfl
 have F29:=ZaN (st:=ZcG) l29 c29 k29;have b29:=F29.binds (ps:=["_law_script", "_law_k"]) fun _ _ _ _ _ _ us hl=>match us,hl with| [_,_],_=>rfl
 have F30:=ZaN (st:=Zcm) l30 c30 k30;have b30:=F30.binds (ps:=["_law_bag", "_law_many"]) fun _ _ _ _ _ _ us hl=>match us,hl with| [_,_],_=>rfl
 have F31:=ZaN (st:=Za1) l31 c31 k31;have b31:=F31.binds (ps:=["_law_n", "_law_head", "_law_script", "_law_at_here"]) fun _ _ _ _ _ _ us hl=>match us,hl with| [_,_,_,_],_=>rfl
 have F32:=ZaN (st:=Zbs) l32 c32 k32;have b32:=F32.binds (ps:=["_law_n", "_law_head", "_law_script", "_law_at_here"]) fun _ _ _ _ _ _ us hl=>match us,hl with| [_,_,_,_],_=>rfl
 have F33:=ZaN (st:=Zcn) l33 c33 k33;have b33:=F33.binds (ps:=["_law_script", "_law_at_here"]) fun _ _ _ _ _ _ us hl=>match us,hl with| [_,_],_=>rfl
 have F34:=ZaN (st:=Zco) l34 c34 k34;have b34:=F34.binds (ps:=["_law_pairing_here"]) fun _ _ _ _ _ _ us hl=>match us,hl with| [_],_=>rfl
 have F35:=ZaN (st:=ZbH) l35 c35 k35;have b35:=F35.binds (ps:=["_law_pairing_here"]) fun _ _ _ _ _ _ us hl=>match us,hl with| [_],_=>rfl
 have F36:=ZaN (st:=ZcW) l36 c36 k36;have b36:=F36.binds (ps:=["_law_weighing_here", "_law_place"]) fun _ _ _ _ _ _ us hl=>match us,hl with| [_,_],_=>rfl
 have F37:=ZaN (st:=ZbI) l37 c37 k37;have b37:=F37.binds (ps:=["_law_weighing_here"]) fun _ _ _ _ _ _ us hl=>match us,hl with| [_],_=>rfl
 have F38:=ZaN (st:=Zbn) l38 c38 k38;have b38:=F38.binds (ps:=["_law_weighing_here", "_law_n", "_law_end", "_law_place", "_law_shift"]) fun _ _ _ _ _ _ us hl=>match us,hl with| [_,_,_,_,_],_=>rfl
 have F39:=ZaN (st:=Zbo) l39 c39 k39;have b39:=F39.binds (ps:=["_law_starts_here", "_law_end", "_law_told"]) fun _ _ _ _ _ _ us hl=>match us,hl with| [_,_,_],_=>rfl
 have F40:=ZaN (st:=ZaE) l40 c40 k40;have b40:=F40.binds (ps:=["_law_lead_here", "_law_weighing_here", "_law_n", "_law_end"]) fun _ _ _ _ _ _ us hl=>match us,hl with| [_,_,_,_],_=>rfl
 have F41:=ZaN (st:=Zcp) l41 c41 k41;have b41:=F41.binds (ps:=["_law_hall_here", "_law_j", "_law_end"]) fun _ _ _ _ _ _ us hl=>match us,hl with| [_,_,_],_=>rfl
 have F42:=ZaN (st:=Zbi) l42 c42 k42;have b42:=F42.binds (ps:=["_law_thing"]) fun _ _ _ _ _ _ us hl=>match us,hl with| [_],_=>rfl
 have F43:=ZaN (st:=ZaX) l43 c43 k43;have b43:=F43.binds (ps:=["_law_told"]) fun _ _ _ _ _ _ us hl=>match us,hl with| [_],_=>rfl
 have F44:=ZaN (st:=Zbt) l44 c44 k44;have b44:=F44.binds (ps:=["_law_hall_here", "_law_deed"]) fun _ _ _ _ _ _ us hl=>match us,hl with| [_,_],_=>rfl
 have F45:=ZaN (st:=Za5) l45 c45 k45;have b45:=F45.binds (ps:=["_law_hall_here", "_law_deed", "_law_due_here"]) fun _ _ _ _ _ _ us hl=>match us,hl with| [_,_,_],_=>rfl
 have F46:=ZaN (st:=Zb8) l46 c46 k46;have b46:=F46.binds (ps:=["_law_hall_here", "_law_deed", "_law_due_here"]) fun _ _ _ _ _ _ us hl=>match us,hl with| [_,_,_],_=>rfl
 have F47:=ZaN (st:=ZcH) l47 c47 k47;have b47:=F47.binds (ps:=["_law_hall_here", "_law_j", "_law_end"]) fun _ _ _ _ _ _ us hl=>match us,hl with| [_,_,_],_=>rfl
 have F48:=ZaN (st:=ZbJ) l48 c48 k48;have b48:=F48.binds (ps:=["_law_n", "_law_big_here"]) fun _ _ _ _ _ _ us hl=>match us,hl with| [_,_],_=>rfl
 have F49:=ZaN (st:=Zb3) l49 c49 k49;have b49:=F49.binds (ps:=["_law_n", "_law_lead_here", "_law_others", "_law_big_here"]) fun _ _ _ _ _ _ us hl=>match us,hl with| [_,_,_,_],_=>rfl
 have F50:=ZaN (st:=Zfj) l50 c50 k50;refine⟨PySem.W.fnOf "law" "law" (ZaB Zfj) (Zay Zfj) (Zag Zfj) .none kV50 dc50 pm50 an50 cd50 ct50,fun s v=> .of_eq rfl,fun base _ _=> ?_⟩;have ji:Kn l.prog w K mg base "is_whole" _ ["thing"] _:=⟨⟨f0,_,ZmW F0 M ,Qak X G a0,k0,b0⟩⟩;have qH:Kn l.prog w K mg base "is_whole_from" _ ["thing", "least"] _:=⟨⟨f1,_,Zon F1 M ji,Qak X G a1,k1,b1⟩⟩;have qL:KnX l.prog w K mg base "demand" _ ["is_deed"] _:=⟨⟨f21,_,ZlG F21 M Z,Qak X G a21,k21,b21⟩⟩;have qR:Kn l.prog w K mg base "replaced" _ ["pairings", "k", "coming"] _:=⟨⟨f22,_,Zic F22 M ,Qak X G a22,k22,b22⟩⟩;have Gfits:Kn l.prog w K mg base "fits" _ ["thing", "kind", "hall"] _:=⟨⟨f25,_,Zop F25 M qH N,Qak X G a25,k25,b25⟩⟩;have qZ:Kn l.prog w K mg base "is_formed" _ ["hall", "deed"] _:=⟨⟨f26,_,ZlH F26 M Gfits N GB,Qak X G a26,k26,b26⟩⟩;have qS:Kn l.prog w K mg base "end_of" _ ["pairing"] _:=⟨⟨f3,_,ZmX F3 M ,Qak X G a3,k3,b3⟩⟩;have jm:Kn l.prog w K mg base "shift_of" _ ["pairing"] _:=⟨⟨f4,_,ZjP F4 M ,Qak X G a4,k4,b4⟩⟩;have Gpaired:Kn l.prog w K mg base "paired" _ ["one", "other", "long", "turned"] _:=⟨⟨f2,_,ZlK F2 M ,Qak X G a2,k2,b2⟩⟩;have Gshort:Kn l.prog w K mg base "short" _ ["pairing", "skip", "many"] _:=⟨⟨f5,_,ZmZ F5 M Gpaired,Qak X G a5,k5,b5⟩⟩;have qx:Kn l.prog w K mg base "shaped" _ ["pieces"] _:=⟨⟨f6,_,ZlM F6 M ,Qak X G a6,k6,b6⟩⟩;have qt:Kn l.prog w K mg base "laid_from" _ ["weighing", "begin"] _:=⟨⟨f8,_,Zoq F8 M ,Qak X G a8,k8,b8⟩⟩;have jg:Kn l.prog w K mg base "part" _ ["weighing", "begin", "end"] _:=⟨⟨f9,_,Zos F9 M qt qx,Qak X G a9,k9,b9⟩⟩;have qK:Kn l.prog w K mg base "length" _ ["weighing"] _:=⟨⟨f7,_,ZlO F7 M ,Qak X G a7,k7,b7⟩⟩;have qj:Kn l.prog w K mg base "sum_of_weights" _ ["one", "other"] _:=⟨⟨f11,_,ZpL F11 M GB,Qak X G a11,k11,b11⟩⟩;have Gadded:Kn l.prog w K mg base "added" _ ["one", "other"] _:=⟨⟨f15,_,Zm1 F15 M qt qj qx,Qak X G a15,k15,b15⟩⟩;have jp:Kn l.prog w K mg base "put_to" _ ["weighing", "begin", "other"] _:=⟨⟨f16,_,ZpM F16 M qK jg Gadded qx,Qak X G a16,k16,b16⟩⟩;have qm:Kn l.prog w K mg base "weights_times" _ ["weights", "times"] _:=⟨⟨f12,_,Zm2 F12 M ,Qak X G a12,k12,b12⟩⟩;have jj:Kn l.prog w K mg base "rises_of" _ ["stretches"] _:=⟨⟨f13,_,Zm3 F13 M qm qj,Qak X G a13,k13,b13⟩⟩;have Gheaped:Kn l.prog w K mg base "heaped" _ ["stretches"] _:=⟨⟨f14,_,ZlT F14 M jj qm qj qx GB,Qak X G a14,k14,b14⟩⟩;have Gwound:Kn l.prog w K mg base "wound" _ ["weighing", "t"] _:=⟨⟨f17,_,Zm6 F17 M qt qm Gheaped GB,Qak X G a17,k17,b17⟩⟩;have jk:Kn l.prog w K mg base "backward" _ ["weighing"] _:=⟨⟨f10,_,Zii F10 M ,Qak X G a10,k10,b10⟩⟩;have qY:Kn l.prog w K mg base "may_lead" _ ["pairing"] _:=⟨⟨f18,_,ZjR F18 M ,Qak X G a18,k18,b18⟩⟩;have qN:Kn l.prog w K mg base "kept_below" _ ["pairing", "end"] _:=⟨⟨f19,_,Zov F19 M Gshort,Qak X G a19,k19,b19⟩⟩;have qD:Kn l.prog w K mg base "cut_weighing" _ ["weighing", "leader", "end"] _:=⟨⟨f20,_,Zow F20 M jg qK jp jk jm Gwound,Qak X G a20,k20,b20⟩⟩;have qM:Kn l.prog w K mg base "all_end_by" _ ["pairings", "end"] _:=⟨⟨f23,_,ZlV F23 M qS,Qak X G a23,k23,b23⟩⟩;have GF:KnF l.prog w K mg base f24 _ ["hall", "deed"] _:=⟨⟨_,Zja F24 M qL qY qS qM qR qN qD,k24,b24⟩⟩;have Gdo_cut:KnX l.prog w K mg base "do_cut" _ ["hall", "deed"] _:=⟨⟨f24,_,Zja F24 M qL qY qS qM qR qN qD,Qak X G a24,k24,b24⟩⟩;have qA:KnX l.prog w K mg base "deed_done" _ ["hall", "deed"] _:=⟨⟨f27,_,Zox F27 M qL qZ N GF,Qak X G a27,k27,b27⟩⟩;have qv:Kn l.prog w K mg base "_law_cell_at" _ ["_law_script", "_law_k"] _:=⟨⟨f28,_,Zoy F28 M ,Qak X G a28,k28,b28⟩⟩;have qp:Kn l.prog w K mg base "_law_big" _ ["_law_script", "_law_k"] _:=⟨⟨f29,_,ZpN F29 M qv GB,Qak X G a29,k29,b29⟩⟩;have qd:Kn l.prog w K mg base "_law_take" _ ["_law_bag", "_law_many"] _:=⟨⟨f30,_,Zoz F30 M ,Qak X G a30,k30,b30⟩⟩;have qI:Kn l.prog w K mg base "_law_weighing" _ ["_law_n", "_law_head", "_law_script", "_law_at_here"] _:=⟨⟨f31,_,ZlX F31 M qd qp,Qak X G a31,k31,b31⟩⟩;have qO:Kn l.prog w K mg base "_law_pairing" _ ["_law_n", "_law_head", "_law_script", "_law_at_here"] _:=⟨⟨f32,_,Zil F32 M qd qp,Qak X G a32,k32,b32⟩⟩;have jb:Kn l.prog w K mg base "_law_hall" _ ["_law_script", "_law_at_here"] _:=⟨⟨f33,_,Zm7 F33 M qp qd qI qO,Qak X G a33,k33,b33⟩⟩;have qJ:Kn l.prog w K mg base "_law_is_whole" _ ["_law_thing"] _:=⟨⟨f42,_,Zim F42 M ,Qak X G a42,k42,b42⟩⟩;have qB:Kn l.prog w K mg base "_law_told_right" _ ["_law_told"] _:=⟨⟨f43,_,Zhp F43 M qJ,Qak X G a43,k43,b43⟩⟩;have qP:Kn l.prog w K mg base "_law_refused" _ ["_law_hall_here", "_law_deed"] _:=⟨⟨f44,_,ZjS F44 M qA Z GB,Qak X G a44,k44,b44⟩⟩;have qC:Kn l.prog w K mg base "_law_done_right" _ ["_law_hall_here", "_law_deed", "_law_due_here"] _:=⟨⟨f45,_,Zhq F45 M qA qB,Qak X G a45,k45,b45⟩⟩;have qX:Kn l.prog w K mg base "_law_right" _ ["_law_hall_here", "_law_deed", "_law_due_here"] _:=⟨⟨f46,_,Zm8 F46 M qP qC,Qak X G a46,k46,b46⟩⟩;have ja:Kn l.prog w K mg base "_law_lead" _ ["_law_pairing_here"] _:=⟨⟨f34,_,Zna F34 M ,Qak X G a34,k34,b34⟩⟩;have ql:Kn l.prog w K mg base "_law_behind" _ ["_law_pairing_here"] _:=⟨⟨f35,_,ZlY F35 M ,Qak X G a35,k35,b35⟩⟩;have qF:Kn l.prog w K mg base "_law_at" _ ["_law_weighing_here", "_law_place"] _:=⟨⟨f36,_,ZpO F36 M ,Qak X G a36,k36,b36⟩⟩;have qT:Kn l.prog w K mg base "_law_starts" _ ["_law_weighing_here"] _:=⟨⟨f37,_,ZjU F37 M ,Qak X G a37,k37,b37⟩⟩;have qU:Kn l.prog w K mg base "_law_number" _ ["_law_weighing_here", "_law_n", "_law_end", "_law_place", "_law_shift"] _:=⟨⟨f38,_,ZjV F38 M qF GB,Qak X G a38,k38,b38⟩⟩;have qG:Kn l.prog w K mg base "_law_shaped" _ ["_law_starts_here", "_law_end", "_law_told"] _:=⟨⟨f39,_,ZjW F39 M GB,Qak X G a39,k39,b39⟩⟩;have qy:Kn l.prog w K mg base "_law_cut_weighing" _ ["_law_lead_here", "_law_weighing_here", "_law_n", "_law_end"] _:=⟨⟨f40,_,Znb F40 M qT ql qF qG qU GB,Qak X G a40,k40,b40⟩⟩;have jn:Kn l.prog w K mg base "_law_cut" _ ["_law_hall_here", "_law_j", "_law_end"] _:=⟨⟨f41,_,ZoA F41 M ja ql qy,Qak X G a41,k41,b41⟩⟩;have jo:Kn l.prog w K mg base "_law_due" _ ["_law_hall_here", "_law_j", "_law_end"] _:=⟨⟨f47,_,ZpP F47 M jn,Qak X G a47,k47,b47⟩⟩;have qV:Kn l.prog w K mg base "_law_ending" _ ["_law_n", "_law_big_here"] _:=⟨⟨f48,_,ZlZ F48 M ,Qak X G a48,k48,b48⟩⟩;have jc:Kn l.prog w K mg base "_law_ends" _ ["_law_n", "_law_lead_here", "_law_others", "_law_big_here"] _:=⟨⟨f49,_,Znc F49 M ql,Qak X G a49,k49,b49⟩⟩;exact ZpR F50 M jb qX jo qp qV ql jc N
theorem walk {q:Program}{ju:List Str}{XP:(Str→Option Value)→Heap→Prop}{YP:World→Heap→Prop}{d:DefRec}{K:Params→PySem.W.Frag}(hn:l.most=some 63)(hdf:d.params.defaults=[])
  (hY:∀(w:World) (h:Heap),YP w h→(K w.params).In h)
  (F:∀(w:World) (mg:Str→Option Value) (fa:Addr) (h:Heap),(K w.params).In h→h.Ns mainGlobals mg→mg d.name=some (.ref fa)→
   ∃fd:FuncData,(∀(s:Shared) (u:Value),BindsTo s fd ⟨[u],[]⟩ [("_law_script",u)])∧∀base:Heap,(K w.params).In base→base.Ns mainGlobals mg→ZbW l.prog w (K w.params) mg base CX0 10 fa fd ["_law_script"] (Zm9 (K w.params))):
  PySem.W.WalkO q ju XP YP l.row.toRowW d [] (fun f vs=>PySem.call f vs):=
 L2.walk_of (n:=63) (k:=10) (x:= "_law_script") (CX:=fun _=>CX0) (sp:=fun w=>Zm9 (K w.params)) hn (by decide) hdf ⟨rfl,by decide,by decide,rfl⟩ hY F (fun _ _ a ns hl _ hS=>⟨a,ns,rfl,hS,hl,fun _=>rfl⟩) fun _ _ _ _ _ z=>z
end Toy
open PySem PySem.W PyProof.Rows
set_option maxRecDepth 100000 in
set_option maxHeartbeats 0 in
theorem PySem.Challenge.cw_farcords_k29_cut_holds : PySem.Challenge.rw_farcords_k29_cut.Holds := by
 w_on;o_law;k_head;(case hw=>w_witness2)
 k_fill
 refine Toy.walk (l:=PySem.Challenge.rw_farcords_k29_cut) rfl rfl (fun w h Y=>PySem.W.kIn_of Y) ?F
 case F=>
  intro w mg fa h KX G hmg
  refine' Toy.all_mk KX G hmg ?a0 ?l0 ?c0 ?k0 ?a1 ?l1 ?c1 ?k1 ?a2 ?l2 ?c2 ?k2 ?a3 ?l3 ?c3 ?k3 ?a4 ?l4 ?c4 ?k4 ?a5 ?l5 ?c5 ?k5 ?a6 ?l6 ?c6 ?k6 ?a7 ?l7 ?c7 ?k7 ?a8 ?l8 ?c8 ?k8 ?a9 ?l9 ?c9 ?k9 ?a10 ?l10 ?c10 ?k10 ?a11 ?l11 ?c11 ?k11 ?a12 ?l12 ?c12 ?k12 ?a13 ?l13 ?c13 ?k13 ?a14 ?l14 ?c14 ?k14 ?a15 ?l15 ?c15 ?k15 ?a16 ?l16 ?c16 ?k16 ?a17 ?l17 ?c17 ?k17 ?a18 ?l18 ?c18 ?k18 ?a19 ?l19 ?c19 ?k19 ?a20 ?l20 ?c20 ?k20 ?a21 ?l21 ?c21 ?k21 ?a22 ?l22 ?c22 ?k22 ?a23 ?l23 ?c23 ?k23 ?a24 ?l24 ?c24 ?k24 ?a25 ?l25 ?c25 ?k25 ?a26 ?l26 ?c26 ?k26 ?a27 ?l27 ?c27 ?k27 ?a28 ?l28 ?c28 ?k28 ?a29 ?l29 ?c29 ?k29 ?a30 ?l30 ?c30 ?k30 ?a31 ?l31 ?c31 ?k31 ?a32 ?l32 ?c32 ?k32 ?a33 ?l33 ?c33 ?k33 ?a34 ?l34 ?c34 ?k34 ?a35 ?l35 ?c35 ?k35 ?a36 ?l36 ?c36 ?k36 ?a37 ?l37 ?c37 ?k37 ?a38 ?l38 ?c38 ?k38 ?a39 ?l39 ?c39 ?k39 ?a40 ?l40 ?c40 ?k40 ?a41 ?l41 ?c41 ?k41 ?a42 ?l42 ?c42 ?k42 ?a43 ?l43 ?c43 ?k43 ?a44 ?l44 ?c44 ?k44 ?a45 ?l45 ?c45 ?k45 ?a46 ?l46 ?c46 ?k46 ?a47 ?l47 ?c47 ?k47 ?a48 ?l48 ?c48 ?k48 ?a49 ?l49 ?c49 ?k49 ?a50 ?l50 ?c50 ?k50 ?n_CordError ?xa_CordError ?xb_CordError ?xc_CordError ?xd_CordError ?xe_CordError ?xf_CordError ?xg_CordError ?xh_CordError ?n_TooMany ?xa_TooMany ?xb_TooMany ?xc_TooMany ?xd_TooMany ?xe_TooMany ?xf_TooMany ?xg_TooMany ?xh_TooMany ?n_NoDeed ?xa_NoDeed ?xb_NoDeed ?xc_NoDeed ?xd_NoDeed ?xe_NoDeed ?xf_NoDeed ?xg_NoDeed ?xh_NoDeed ?n_NoRow ?xa_NoRow ?xb_NoRow ?xc_NoRow ?xd_NoRow ?xe_NoRow ?xf_NoRow ?xg_NoRow ?xh_NoRow ?n_NoCord ?xa_NoCord ?xb_NoCord ?xc_NoCord ?xd_NoCord ?xe_NoCord ?xf_NoCord ?xg_NoCord ?xh_NoCord ?n_NoTurn ?xa_NoTurn ?xb_NoTurn ?xc_NoTurn ?xd_NoTurn ?xe_NoTurn ?xf_NoTurn ?xg_NoTurn ?xh_NoTurn ?n_NoText ?xa_NoText ?xb_NoText ?xc_NoText ?xd_NoText ?xe_NoText ?xf_NoText ?xg_NoText ?xh_NoText ?n_NoSheet ?xa_NoSheet ?xb_NoSheet ?xc_NoSheet ?xd_NoSheet ?xe_NoSheet ?xf_NoSheet ?xg_NoSheet ?xh_NoSheet ?n_NoName ?xa_NoName ?xb_NoName ?xc_NoName ?xd_NoName ?xe_NoName ?xf_NoName ?xg_NoName ?xh_NoName ?e_NoDeed ?v_NoDeed ?s_NoDeed_CordError ?s_NoDeed_TooMany ?s_NoDeed_NoDeed ?s_NoDeed_NoRow ?s_NoDeed_NoCord ?s_NoDeed_NoTurn ?s_NoDeed_NoText ?s_NoDeed_NoSheet ?s_NoDeed_NoName ?nF ?nD ?nS ?lF ?lD ?lS ?lg1 ?lg2 ?lg3 ?lg4 ?lg5 ?lg6 ?mF ?mD ?g_abs ?g_zip ?g_divmod ?g_ValueError ?g_set ?z_len ?z_range ?z_min ?z_max ?z_isinstance ?z_bool ?z_int ?z_tuple ?z_list ?z_str ?z_all ?z_sum ?z_sorted
  (case a0=>k_is)
  (case l0=>k_is)
  (case c0=>k_is)
  (case k0=>k_is)
  (case a1=>k_is)
  (case l1=>k_is)
  (case c1=>k_is)
  (case k1=>k_is)
  (case a2=>k_is)
  (case l2=>k_is)
  (case c2=>k_is)
  (case k2=>k_is)
  (case a3=>k_is)
  (case l3=>k_is)
  (case c3=>k_is)
  (case k3=>k_is)
  (case a4=>k_is)
  (case l4=>k_is)
  (case c4=>k_is)
  (case k4=>k_is)
  (case a5=>k_is)
  (case l5=>k_is)
  (case c5=>k_is)
  (case k5=>k_is)
  (case a6=>k_is)
  (case l6=>k_is)
  (case c6=>k_is)
  (case k6=>k_is)
  (case a7=>k_is)
  (case l7=>k_is)
  (case c7=>k_is)
  (case k7=>k_is)
  (case a8=>k_is)
  (case l8=>k_is)
  (case c8=>k_is)
  (case k8=>k_is)
  (case a9=>k_is)
  (case l9=>k_is)
  (case c9=>k_is)
  (case k9=>k_is)
  (case a10=>k_is)
  (case l10=>k_is)
  (case c10=>k_is)
  (case k10=>k_is)
  (case a11=>k_is)
  (case l11=>k_is)
  (case c11=>k_is)
  (case k11=>k_is)
  (case a12=>k_is)
  (case l12=>k_is)
  (case c12=>k_is)
  (case k12=>k_is)
  (case a13=>k_is)
  (case l13=>k_is)
  (case c13=>k_is)
  (case k13=>k_is)
  (case a14=>k_is)
  (case l14=>k_is)
  (case c14=>k_is)
  (case k14=>k_is)
  (case a15=>k_is)
  (case l15=>k_is)
  (case c15=>k_is)
  (case k15=>k_is)
  (case a16=>k_is)
  (case l16=>k_is)
  (case c16=>k_is)
  (case k16=>k_is)
  (case a17=>k_is)
  (case l17=>k_is)
  (case c17=>k_is)
  (case k17=>k_is)
  (case a18=>k_is)
  (case l18=>k_is)
  (case c18=>k_is)
  (case k18=>k_is)
  (case a19=>k_is)
  (case l19=>k_is)
  (case c19=>k_is)
  (case k19=>k_is)
  (case a20=>k_is)
  (case l20=>k_is)
  (case c20=>k_is)
  (case k20=>k_is)
  (case a21=>k_is)
  (case l21=>k_is)
  (case c21=>k_is)
  (case k21=>k_is)
  (case a22=>k_is)
  (case l22=>k_is)
  (case c22=>k_is)
  (case k22=>k_is)
  (case a23=>k_is)
  (case l23=>k_is)
  (case c23=>k_is)
  (case k23=>k_is)
  (case a24=>k_is)
  (case l24=>k_is)
  (case c24=>k_is)
  (case k24=>k_is)
  (case a25=>k_is)
  (case l25=>k_is)
  (case c25=>k_is)
  (case k25=>k_is)
  (case a26=>k_is)
  (case l26=>k_is)
  (case c26=>k_is)
  (case k26=>k_is)
  (case a27=>k_is)
  (case l27=>k_is)
  (case c27=>k_is)
  (case k27=>k_is)
  (case a28=>k_is)
  (case l28=>k_is)
  (case c28=>k_is)
  (case k28=>k_is)
  (case a29=>k_is)
  (case l29=>k_is)
  (case c29=>k_is)
  (case k29=>k_is)
  (case a30=>k_is)
  (case l30=>k_is)
  (case c30=>k_is)
  (case k30=>k_is)
  (case a31=>k_is)
  (case l31=>k_is)
  (case c31=>k_is)
  (case k31=>k_is)
  (case a32=>k_is)
  (case l32=>k_is)
  (case c32=>k_is)
  (case k32=>k_is)
  (case a33=>k_is)
  (case l33=>k_is)
  (case c33=>k_is)
  (case k33=>k_is)
  (case a34=>k_is)
  (case l34=>k_is)
  (case c34=>k_is)
  (case k34=>k_is)
  (case a35=>k_is)
  (case l35=>k_is)
  (case c35=>k_is)
  (case k35=>k_is)
  (case a36=>k_is)
  (case l36=>k_is)
  (case c36=>k_is)
  (case k36=>k_is)
  (case a37=>k_is)
  (case l37=>k_is)
  (case c37=>k_is)
  (case k37=>k_is)
  (case a38=>k_is)
  (case l38=>k_is)
  (case c38=>k_is)
  (case k38=>k_is)
  (case a39=>k_is)
  (case l39=>k_is)
  (case c39=>k_is)
  (case k39=>k_is)
  (case a40=>k_is)
  (case l40=>k_is)
  (case c40=>k_is)
  (case k40=>k_is)
  (case a41=>k_is)
  (case l41=>k_is)
  (case c41=>k_is)
  (case k41=>k_is)
  (case a42=>k_is)
  (case l42=>k_is)
  (case c42=>k_is)
  (case k42=>k_is)
  (case a43=>k_is)
  (case l43=>k_is)
  (case c43=>k_is)
  (case k43=>k_is)
  (case a44=>k_is)
  (case l44=>k_is)
  (case c44=>k_is)
  (case k44=>k_is)
  (case a45=>k_is)
  (case l45=>k_is)
  (case c45=>k_is)
  (case k45=>k_is)
  (case a46=>k_is)
  (case l46=>k_is)
  (case c46=>k_is)
  (case k46=>k_is)
  (case a47=>k_is)
  (case l47=>k_is)
  (case c47=>k_is)
  (case k47=>k_is)
  (case a48=>k_is)
  (case l48=>k_is)
  (case c48=>k_is)
  (case k48=>k_is)
  (case a49=>k_is)
  (case l49=>k_is)
  (case c49=>k_is)
  (case k49=>k_is)
  (case a50=>k_is)
  (case l50=>k_is)
  (case c50=>k_is)
  (case k50=>k_is)
  (case n_CordError=>k_is)
  (case xa_CordError=>k_is)
  (case xb_CordError=>k_is)
  (case xc_CordError=>k_is)
  (case xd_CordError=>k_is)
  (case xe_CordError=>k_is)
  (case xf_CordError=>k_is)
  (case xg_CordError=>k_is)
  (case xh_CordError=>k_is)
  (case n_TooMany=>k_is)
  (case xa_TooMany=>k_is)
  (case xb_TooMany=>k_is)
  (case xc_TooMany=>k_is)
  (case xd_TooMany=>k_is)
  (case xe_TooMany=>k_is)
  (case xf_TooMany=>k_is)
  (case xg_TooMany=>k_is)
  (case xh_TooMany=>k_is)
  (case n_NoDeed=>k_is)
  (case xa_NoDeed=>k_is)
  (case xb_NoDeed=>k_is)
  (case xc_NoDeed=>k_is)
  (case xd_NoDeed=>k_is)
  (case xe_NoDeed=>k_is)
  (case xf_NoDeed=>k_is)
  (case xg_NoDeed=>k_is)
  (case xh_NoDeed=>k_is)
  (case n_NoRow=>k_is)
  (case xa_NoRow=>k_is)
  (case xb_NoRow=>k_is)
  (case xc_NoRow=>k_is)
  (case xd_NoRow=>k_is)
  (case xe_NoRow=>k_is)
  (case xf_NoRow=>k_is)
  (case xg_NoRow=>k_is)
  (case xh_NoRow=>k_is)
  (case n_NoCord=>k_is)
  (case xa_NoCord=>k_is)
  (case xb_NoCord=>k_is)
  (case xc_NoCord=>k_is)
  (case xd_NoCord=>k_is)
  (case xe_NoCord=>k_is)
  (case xf_NoCord=>k_is)
  (case xg_NoCord=>k_is)
  (case xh_NoCord=>k_is)
  (case n_NoTurn=>k_is)
  (case xa_NoTurn=>k_is)
  (case xb_NoTurn=>k_is)
  (case xc_NoTurn=>k_is)
  (case xd_NoTurn=>k_is)
  (case xe_NoTurn=>k_is)
  (case xf_NoTurn=>k_is)
  (case xg_NoTurn=>k_is)
  (case xh_NoTurn=>k_is)
  (case n_NoText=>k_is)
  (case xa_NoText=>k_is)
  (case xb_NoText=>k_is)
  (case xc_NoText=>k_is)
  (case xd_NoText=>k_is)
  (case xe_NoText=>k_is)
  (case xf_NoText=>k_is)
  (case xg_NoText=>k_is)
  (case xh_NoText=>k_is)
  (case n_NoSheet=>k_is)
  (case xa_NoSheet=>k_is)
  (case xb_NoSheet=>k_is)
  (case xc_NoSheet=>k_is)
  (case xd_NoSheet=>k_is)
  (case xe_NoSheet=>k_is)
  (case xf_NoSheet=>k_is)
  (case xg_NoSheet=>k_is)
  (case xh_NoSheet=>k_is)
  (case n_NoName=>k_is)
  (case xa_NoName=>k_is)
  (case xb_NoName=>k_is)
  (case xc_NoName=>k_is)
  (case xd_NoName=>k_is)
  (case xe_NoName=>k_is)
  (case xf_NoName=>k_is)
  (case xg_NoName=>k_is)
  (case xh_NoName=>k_is)
  (case e_NoDeed=>k_exc)
  (case v_NoDeed=>k_is)
  (case s_NoDeed_CordError=>k_is)
  (case s_NoDeed_TooMany=>k_is)
  (case s_NoDeed_NoDeed=>k_is)
  (case s_NoDeed_NoRow=>k_is)
  (case s_NoDeed_NoCord=>k_is)
  (case s_NoDeed_NoTurn=>k_is)
  (case s_NoDeed_NoText=>k_is)
  (case s_NoDeed_NoSheet=>k_is)
  (case s_NoDeed_NoName=>k_is)
  (case nF=>k_is)
  (case nD=>k_is)
  (case nS=>k_is)
  (case lF=>k_is)
  (case lD=>k_is)
  (case lS=>k_is)
  (case lg1=>k_is)
  (case lg2=>k_is)
  (case lg3=>k_is)
  (case lg4=>k_is)
  (case lg5=>k_is)
  (case lg6=>k_is)
  (case mF=>first|rfl|decide|k_is)
  (case mD=>first|rfl|decide|k_is)
  (case g_abs=>k_is)
  (case g_zip=>k_is)
  (case g_divmod=>k_is)
  (case g_ValueError=>k_is)
  (case g_set=>k_is)
  (case z_len=>k_is)
  (case z_range=>k_is)
  (case z_min=>k_is)
  (case z_max=>k_is)
  (case z_isinstance=>k_is)
  (case z_bool=>k_is)
  (case z_int=>k_is)
  (case z_tuple=>k_is)
  (case z_list=>k_is)
  (case z_str=>k_is)
  (case z_all=>k_is)
  (case z_sum=>k_is)
  (case z_sorted=>k_is)
#print axioms PySem.Challenge.cw_farcords_k29_cut_holds
