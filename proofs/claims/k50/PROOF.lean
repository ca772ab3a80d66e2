import PyProof.Rows.All
import Wide.All
import OpenK.AllK
import Wide.FinOn
import Lean
import PyProof.EqAt
import PyProof.EqKinds
import PyProof.TupleCall
import PyProof.NeData
import PyProof.SumAny
import PyProof.ReprRoads
import PyProof.CallStr
import PyProof.ReprLen
import PyProof.Rows.StrDigitsNeg
import PyProof.Rows.StrJoinMade
import PyProof.Rows.ZipGen
import PyProof.ListRange
import PyProof.TupleOfSeq
import PyProof.SetScanFacts
import PyProof.SetKind
import PyProof.Rows.SetFrom
import PyProof.SetRoads
import PyProof.Rows.SortShell
import PyProof.ListMulRoad
import PyProof.ListMulAny
import PyProof.FactsAll.tuple
import PyProof.RulesAssignMore
import PyProof.ZipIter
import PyProof.TupleIter
import PyProof.EnumFor
import PyProof.EnumMake
import PyProof.FitsBits
import KE.KDictList
import PyProof.Rows.SortShellK
import PyProof.TupleKey
import KE.KItemsList
import KE.KSortTup
import PyProof.Rows.ListMulR
import PyProof.FactsAll.list_2
import PyProof.FactsAll.list_4
import PyProof.Rows.BitMore
import PyProof.ExcArgsOwn
import PyProof.ExcAttrAll.ValueError
import PyProof.ExcBaseAll.ValueError
import PyProof.WalkInts
import PyProof.ListIndex
import PyProof.P3Eq
import PyProof.DictIter
import PyProof.MeetsDict
import PySem.Challenge.RW_farcords_k50_what_is_a_row
set_option maxHeartbeats 16000000
section
open PySem PySem.Spec PyProof.Rows
abbrev Qaa:=@List.length_map
abbrev Qab:=@List.getElem?_eq_getElem
abbrev Qac:=@List.getElem?_eq_some_iff
abbrev Qad:=@wpAny_bind
abbrev Qae:=@List.length_append
abbrev Qaf:=@Nat.le_refl
abbrev Qag:=@lookup_relabel_local
abbrev Qah:=@List.getElem?_map
abbrev Qai:=@List.getD_eq_getElem?_getD
abbrev Qaj:=@List.mem_of_getElem?
abbrev Qak:=@Heap.get?_push_of_some
abbrev Qal:=@decide_eq_false
abbrev Qam:=@List.map_append
abbrev Qan:=@decide_eq_true
abbrev Qao:=@wpAny_pure
abbrev Qap:=@wpS_bind
abbrev Qaq:=@List.mem_append
abbrev Qar:=@List.size_toArray
abbrev Qas:=@List.mem_append_right
abbrev Qat:=@List.mem_iff_getElem?
abbrev Qau:=@Heap.lt_size
abbrev Qav:=@wpS_pure
abbrev Qaw:=@List.append_assoc
abbrev Qax:=@List.getElem?_append_left
abbrev Qay:=@List.getElem?_append_right
abbrev Qaz:=@List.mem_map
abbrev QaA:=@List.mem_cons_self
abbrev QaB:=@Array.length_toList
abbrev QaC:=@List.length_take
abbrev QaD:=@List.mem_cons_of_mem
abbrev QaE:=@List.mem_singleton
abbrev QaF:=@List.length_cons
abbrev QaG:=@Bool.false_ne_true
abbrev QaH:=@Array.getElem?_toList
abbrev QaI:=@Nat.le_trans
abbrev QaJ:=@List.mem_cons
abbrev QaK:=@of_decide_eq_true
abbrev QaL:=@List.mem_append_left
abbrev QaM:=@List.take_of_length_le
abbrev QaN:=@Nat.lt_of_le_of_lt
abbrev QaO:=@PySem.W.mg_of
abbrev QaP:=@Array.getElem?_eq_getElem
abbrev QaQ:=@Heap.get?_push_size
abbrev QaR:=@Option.some.inj
abbrev QaS:=@List.append_nil
abbrev QaT:=@List.take_append_drop
abbrev QaU:=@Nat.lt_of_lt_of_le
abbrev QaV:=@PassesOwn.never
abbrev QaW:=@Nat.zero_le
abbrev QaX:=@Nat.ne_of_lt
abbrev QaY:=@List.getElem?_eq_none_iff
abbrev QaZ:=@List.take_length
abbrev Qa0:=@PySem.F.plainAttrs_list
abbrev Qa1:=@PySem.W.mg_none_of
abbrev Qa2:=@Array.perm_iff_toList_perm
abbrev Qa3:=@wpAny_loadPart'
abbrev Qa4:=@List.flatten_cons
abbrev Qa5:=@List.map_cons
abbrev Qa6:=@of_decide_eq_false
abbrev Qa7:=@List.mem_flatten
abbrev Qa8:=@List.filter_cons_of_pos
abbrev Qa9:=@List.filter_cons_of_neg
abbrev Qba:=@Int.le_refl
abbrev Qbb:=@List.mem_range
abbrev Qbc:=@wpS_forRange
abbrev Qbd:=@List.length_drop
abbrev Qbe:=@List.not_mem_nil
abbrev Qbf:=@List.length_set
abbrev Qbg:=@Array.toList_append
abbrev Qbh:=@List.flatten_append
abbrev Qbi:=@Nat.min_le_left
abbrev Qbj:=@PySem.boot_len
abbrev Qbk:=@List.length_range
abbrev Qbl:=@List.length_replicate
abbrev Qbm:=@List.getElem?_eq_none
abbrev Qbn:=@List.drop_eq_getElem_cons
abbrev Qbo:=@List.getElem_mem
abbrev Qbp:=@List.length_nil
abbrev Qbq:=@List.Perm.append_left
abbrev Qbr:=@List.getElem?_set_self
abbrev Qbs:=@wpAny_holding
abbrev Qbt:=@PySem.F.slot_list_append
abbrev Qbu:=@PySem.F.type_list_append
abbrev Qbv:=@List.getElem?_take
abbrev Qbw:=@List.getElem?_drop
abbrev Qbx:=@PySem.W.kia_one
abbrev Qby:=@List.range_succ
abbrev Qbz:=@wpS_mono
abbrev QbA:=@PySem.mem_of_lookup
abbrev QbB:=@List.getElem?_range
abbrev QbC:=@wpAny_newObj_type
abbrev QbD:=@List.nodup_append
abbrev QbE:=@PySem.F.slot_dict_keyiterator_next
abbrev QbF:=@List.take_zero
abbrev QbG:=@Nat.lt_irrefl
abbrev QbH:=@PyProof.Rows.callWith_type1
abbrev QbI:=@Nat.lt_or_eq_of_le
abbrev QbJ:=@List.getElem?_set_ne
abbrev QbK:=@wpAny_mono
abbrev QbL:=@wpAny_truthy_bool
abbrev QbM:=@PyProof.Rows.slot_tuple_getitem
abbrev QbN:=@List.ext_getElem?
abbrev QbO:=@List.extract_eq_take_drop
abbrev QbP:=@Int.le_of_lt
abbrev QbQ:=@Array.getElem_mem_toList
abbrev QbR:=@wpAny_typeNameOfWhole_keyiter
abbrev QbS:=@List.mem_of_mem_take
abbrev QbT:=@Bool.true_and
abbrev QbU:=@Bool.eq_iff_iff
abbrev QbV:=@List.drop_of_length_le
abbrev QbW:=@wpAny_call_entry
abbrev QbX:=@Bool.and_eq_true
abbrev QbY:=@List.lookup_cons
abbrev QbZ:=@wpS_modify
abbrev Qb0:=@Nat.le_of_lt
abbrev Qb1:=@List.map_map
abbrev Qb2:=@List.sum_cons
abbrev Qb3:=@List.pairwise_append
abbrev Qb4:=@Array.toList_extract
abbrev Qb5:=@List.mem_filter
abbrev Qb6:=@wpAny_passesOwn
abbrev Qb7:=@List.nodup_cons
abbrev Qb8:=@List.find?_cons
abbrev Qb9:=@boot_isinstance
abbrev Qca:=@Nat.zero_add
abbrev Qcb:=@Int.le_trans
abbrev Qcc:=@List.getElem?_replicate
abbrev Qcd:=@wpAny_callSpecial?_slot
abbrev Qce:=@List.replicate_succ
abbrev Qcf:=@Nat.le_succ
abbrev Qcg:=@Nat.add_sub_cancel_left
abbrev Qch:=@List.all_eq_true
abbrev Qci:=@decide_eq_decide
abbrev Qcj:=@wpAny_rule
abbrev Qck:=@List.drop_zero
abbrev Qcl:=@List.Perm.append_right
abbrev Qcm:=@wpAny_Call_Name_kw
abbrev Qcn:=@Bool.false_eq_true
abbrev Qco:=@or_false
abbrev Qcp:=@List.countP_eq_length_filter
abbrev Qcq:=@Nat.min_eq_left
abbrev Qcr:=@List.any_cons
abbrev Qcs:=@List.Pairwise.nil
abbrev Qct:=@Nat.lt_succ_of_lt
abbrev Qcu:=@Array.toList_push
abbrev Qcv:=@Array.toList_setIfInBounds
abbrev Qcw:=@List.mem_of_mem_drop
abbrev Qcx:=@Array.toList_reverse
abbrev Qcy:=@Nat.mul_le_mul_right
abbrev Qcz:=@List.drop_eq_nil_iff
abbrev QcA:=@Around.under_plainId
abbrev QcB:=@List.getElem_toArray
abbrev QcC:=@List.Perm.refl
abbrev QcD:=@List.pairwise_iff_getElem
abbrev QcE:=@PySem.F.args_dict_keyiterator_next_1
abbrev QcF:=@List.drop_append
abbrev QcG:=@List.flatten_nil
abbrev QcH:=@List.length_reverse
abbrev QcI:=@wpS_get
abbrev QcJ:=@Heap.get?_update_ne
abbrev QcK:=@List.reverse_append
abbrev QcL:=@PySem.F.entry_dict_keyiterator_next
abbrev QcM:=@True.intro
abbrev QcN:=@Option.isSome_iff_exists
abbrev QcO:=@wpAny_typeOf
abbrev QcP:=@List.map_nil
abbrev QcQ:=@List.eq_of_mem_replicate
abbrev QcR:=@List.all_cons
abbrev QcS:=@Array.Perm.refl
abbrev QcT:=@List.nil_append
abbrev QcU:=@List.cons.inj
abbrev QcV:=@List.filter_append
abbrev QcW:=@List.cons.injEq
abbrev QcX:=@wpAny_pyIter_list
abbrev QcY:=@Int.toNat_natCast
abbrev QcZ:=@call_meets
abbrev Qc0:=@List.eraseIdxIfInBounds_toArray
abbrev Qc1:=@List.take_add_one
abbrev Qc2:=@Nat.le_of_lt_succ
abbrev Qc3:=@List.mapM_toArray
abbrev Qc4:=@List.getElem?_set
abbrev Qc5:=@List.eraseIdx_eq_take_drop_succ
abbrev Qc6:=@List.pairwise_map
abbrev Qc7:=@Bool.eq_false_iff
abbrev Qc8:=@Bool.false_and
abbrev Qc9:=@List.take_succ
abbrev Qda:=@PySem.F.slot_dict_get
abbrev Qdb:=@pairsOf_size
abbrev Qdc:=@List.perm_append_comm
abbrev Qdd:=@boot_list
abbrev Qde:=@PySem.F.slot_list_pop
abbrev Qdf:=@PySem.F.type_list_pop
abbrev Qdg:=@Nat.le_add_right
abbrev Qdh:=@List.eq_nil_of_length_eq_zero
abbrev Qdi:=@List.take_append
abbrev Qdj:=@wpAny_standAt
abbrev Qdk:=@if_false
abbrev Qdl:=@wpS_lift
abbrev Qdm:=@List.dropLast_concat_getLast
abbrev Qdn:=@boot_abs
abbrev Qdo:=@List.filterMap_cons
abbrev Qdp:=@wpAny_execs_nil
abbrev Qdq:=@seqIndex_of
abbrev Qdr:=@Nat.not_lt_zero
abbrev Qds:=@List.map_congr_left
abbrev Qdt:=@codeAny_builtin
abbrev Qdu:=@List.length_pos_iff
abbrev Qdv:=@Int.emod_nonneg
abbrev Qdw:=@Calls.Name_function_global
abbrev Qdx:=@Int.fdiv_eq_ediv_of_nonneg
abbrev Qdy:=@assignInOrder_cons
abbrev Qdz:=@Calls.spliced_cons
abbrev QdA:=@SeqAt.EqAt.int_int
abbrev QdB:=@List.zip_cons_cons
abbrev QdC:=@List.all_map
abbrev QdD:=@tupleKind_room_in1
abbrev QdE:=@listItems_at
abbrev QdF:=@List.pairwise_cons
abbrev QdG:=@Int.lt_of_lt_of_le
abbrev QdH:=@List.countP_append
abbrev QdI:=@Int.lt_of_le_of_lt
abbrev QdJ:=@decide_eq_true_iff
abbrev QdK:=@Int.emod_lt_of_pos
abbrev QdL:=@List.mapM_cons
abbrev QdM:=@Array.size_map
abbrev QdN:=@List.Perm.swap
abbrev QdO:=@List.mem_or_eq_of_mem_set
abbrev QdP:=@Calls.call_function_entry
abbrev QdQ:=@pairsOf_toList
abbrev QdR:=@PySem.F.args_tuple_add_2
abbrev QdS:=@wpAny_getItem_list_slice
abbrev QdT:=@Array.size_setIfInBounds
abbrev QdU:=@List.mem_of_mem_eraseIdx
abbrev QdV:=@wpAny_dictEntries
abbrev QdW:=@PySem.F.entry_tuple_add
abbrev QdX:=@sortedAll_old
abbrev QdY:=@PySem.F.args_dict_get_3
abbrev QdZ:=@wpAny_attempt
abbrev Qd0:=@mirror_perm
abbrev Qd1:=@List.mapM_nil
abbrev Qd2:=@listUpdate_at
abbrev Qd3:=@wpAny_newList
abbrev Qd4:=@Nat.add_assoc
abbrev Qd5:=@plainId_quiet
abbrev Qd6:=@List.length_eraseIdx_le
abbrev Qd7:=@Nat.succ_le_succ
abbrev Qd8:=@List.countP_cons
abbrev Qd9:=@wpAny_pyNext_list_item
abbrev Qea:=@PySem.W.cellsFrom_some
abbrev Qeb:=@PySem.F.slot_tuple_add
abbrev Qec:=@subscriptTail_builtinR
abbrev Qed:=@Heap.get?_update_other
abbrev Qee:=@Calls.callWith_builtin
abbrev Qef:=@PySem.F.entry_dict_get
abbrev Qeg:=@Array.getElem?_eq_none
abbrev Qeh:=@PySem.F.slot_dict_iter
abbrev Qei:=@wpAny_isTrue_Compare1
abbrev Qej:=@wpAny_pyNext_list_end
abbrev Qek:=@List.of_mem_zip
abbrev Qel:=@Heap.get?_update_self
abbrev Qem:=@List.length_singleton
abbrev Qen:=@List.forIn_cons
abbrev Qeo:=@sortedAll_at
abbrev Qep:=@Nat.add_zero
abbrev Qeq:=@List.sum_append
abbrev Qer:=@PyProof.Rows.eq_isInt
abbrev Qes:=@List.getElem?_reverse
abbrev Qet:=@Nat.le_of_ble_eq_true
abbrev Qeu:=@wpAny_dictEpoch
abbrev Qev:=@wpAny_isOneOf_keyiter
abbrev Qew:=@Int.zero_add
abbrev Qex:=@intKind_is
abbrev Qey:=@Heap.size_push
abbrev Qez:=@List.drop_drop
abbrev QeA:=@wpS_reverse
abbrev QeB:=@seqEpoch_at
abbrev QeC:=@boot_sorted
abbrev QeD:=@Paired.length
abbrev QeE:=@evalPart_none
abbrev QeF:=@List.map_drop
abbrev QeG:=@List.map_take
abbrev QeH:=@boot_sum
abbrev QeI:=@if_true
abbrev QeJ:=@Subscript_
abbrev QeK:=@Nat.ne_of_gt
abbrev QeL:=@codeAny_mono
abbrev QeM:=@seqIndex_neg
abbrev QeN:=@Nat.add_comm
abbrev QeO:=@List.sum_nil
abbrev QeP:=@elem'_eq
abbrev QeQ:=@and_true
abbrev QeR:=@IsTup.new
end
namespace PySem.W.Fast
def tw15748432263896630350:=()
def tw12496513808678682958:=()
def tw13293002822644833006:=()
def tw18084106436919228270:=()
def tw6868146845023845550:=()
def tw9664930787090495431:=()
def tw1438890483714908231:=()
def tw14960086129587889543:=()
def tw6512176364007000476:=()
def tw11546329714831270492:=()
def tw9988672980586900796:=()
def tw6402145624186176124:=()
def tw18064762745563834108:=()
def tw10971204092504789717:=()
def tw79100058010082357:=()
def tw12222309685844952309:=()
def tw8311085804457392501:=()
def tw16831654469554430389:=()
def tw2848285170745712117:=()
def tw10106316734885481205:=()
def tw10548642667492967221:=()
def tw10491343732958805877:=()
def tw1497796013526750922:=()
def tw5714932340224628682:=()
def tw12835004843270337194:=()
def tw2650794794610574739:=()
def tw15145137476391979411:=()
def tw886490849847218771:=()
def tw3340221009787607352:=()
def tw4390383788438007224:=()
def tw344943560526766872:=()
def tw14383987202746963864:=()
def tw1540460470468427032:=()
def tw17833911053192075608:=()
def tw10396225061894526424:=()
def tw5508508399938811937:=()
def tw16569656642960539745:=()
def tw10484169225593153025:=()
def tw2121816010705738145:=()
def tw7835473691552832630:=()
def tw15981883835839471062:=()
def tw15454809939369023734:=()
def tw3359460592297357270:=()
def tw13769358880488438518:=()
def tw15838925337682296630:=()
def tw7356828837608761494:=()
def tw2977572314835494230:=()
def tw4547964301372788015:=()
def tw7239246090465908815:=()
def tw14122669066801885615:=()
def tw7521311145048976015:=()
def tw15365175661547986031:=()
def tw13704053827080497263:=()
def tw18117453556837524303:=()
def tw5285562077822308004:=()
def tw2073893243343174788:=()
def tw16815611281786992317:=()
def tw10100923146002859101:=()
def tw15468409683350256445:=()
def tw14353447779565159005:=()
def tw11818144806830445149:=()
def tw6630218677104904754:=()
def tw8380030571457947762:=()
def tw16352679881698050898:=()
def tw11499589136035405298:=()
def tw16569259826513768658:=()
def tw3354296803584928731:=()
def tw12634042118496050939:=()
def tw12789566551189954299:=()
def tw17422438667629243611:=()
def tw3066040821401531323:=()
def tw4921914702019575099:=()
def tw10479400155957926555:=()
def tw17902620462221512059:=()
def tw4564490185798663136:=()
def tw2950219876047752000:=()
def tw6745939505142931776:=()
def tw11395635278445559456:=()
def tw6575783361381627456:=()
def tw8552067672581960969:=()
def tw1770243150680356905:=()
def tw14454454281274368457:=()
def tw7512632690890019273:=()
def tw15155768248472150313:=()
def tw7899988262464071145:=()
def tw17456111213441288702:=()
def tw12670591121864503934:=()
def tw3683026195704469310:=()
def tw4488112389797880030:=()
def tw13649895086637453438:=()
def tw3303706176119881854:=()
def tw3565873196809055358:=()
def tw17610879517059739166:=()
def tw266885721306455511:=()
def tw812379456528007063:=()
def tw14126302027425793111:=()
def tw1711061206515695116:=()
def tw13750866606406371084:=()
def tw3822730548165181797:=()
def tw11736360290972441957:=()
def tw14540218950271508965:=()
def tw2066235757692535397:=()
def tw12850512917884366757:=()
def tw9160886147334856005:=()
def tw8537682368198064517:=()
def tw3480412746498594746:=()
def tw1078008209723959642:=()
def tw17993397510748734522:=()
def tw8193464094327575866:=()
def tw18094927316752912026:=()
def tw6787166052512661274:=()
def tw1509222190011939514:=()
def tw13173940749581256995:=()
def tw12730506426889059683:=()
def tw15993341280766335683:=()
def tw8301467700339071875:=()
def tw18230382630197585891:=()
def tw8892065269637972003:=()
def tw10593969784399175944:=()
def tw10035808999901768593:=()
def tw4887639070366214033:=()
def tw13758906190956683505:=()
def tw16927901700706414833:=()
def tw17861637583546855857:=()
def tw15840807749881789489:=()
def tw35451511225038630:=()
def tw10053663458370796582:=()
def tw14988884829727692294:=()
def tw6765578524205006534:=()
def tw949086604393027295:=()
def tw14463839399749667903:=()
def tw11962142779623408095:=()
def tw9905060831605933524:=()
def tw13528775433117285172:=()
def tw18245638976963026516:=()
def tw10125792527166390388:=()
def tw6285875327730953069:=()
def tw2030119205213158893:=()
def tw14537729294619328717:=()
def tw14137188779536866562:=()
def tw14495255304147993634:=()
def tw10401019177421654178:=()
def tw7329474591634000386:=()
def tw7735330523768727554:=()
def tw8484136467851277739:=()
def tw14933261949061489067:=()
def tw4490873548093762955:=()
def tw14023068466057668427:=()
def tw6499707530741063915:=()
def tw637279988150495179:=()
def tw13711308102800930155:=()
def tw1017316288660740784:=()
def tw15921281777401311088:=()
def tw14502081486608444048:=()
def tw9149932255171314736:=()
def tw4527349801279119120:=()
def tw11720197838373389744:=()
def tw1215825960904583664:=()
def tw6884468690388911664:=()
def tw3917906500793647865:=()
def tw6199981792091822425:=()
def tw9213076074813462649:=()
def tw15480763799678160011:=()
end PySem.W.Fast
set_option Elab.async false
set_option linter.all false
set_option maxRecDepth 100000
namespace L2
open PySem PySem.Spec PyProof.Rows
variable {s s':Shared}{pos p:PySem.Pos}{qc:List (Addr×Obj)}{x qh:Str}{a b C dx:Addr}{h h' base:Heap}{E:Value→Shared→Prop}{u:Value}{P:Program}{w:World}{e tg c l:Expr}{i t' k j n:Nat}{A:Around}{o:Obj}{op:CmpOp}{es:List Expr}{M:Model}{us:List Value}{ch fp:List Addr}{Q:Unit→Shared→Prop}{body:List Stmt}{f:Value→Value→Sem Value}{ps N:List Str}{g':Array GenState}{d':Drawn}{lo:Int}{g:Int→Int→Int}{mA mg:Str→Option Value}{scope:Scope}
abbrev Key:=Sum Int Str
def Zh0:Key→Value→Bool
 | .inl k,v=>Value.isInt k v
 | .inr x,v=>Value.isStrOf x v
def ZpR (w:World):Key→Int
 | .inl k=>hashInt k
 | .inr x=>hashStr w x
theorem Za2:∀{k:Key} {v:Value},Zh0 k v=true→(∃i t,k=Sum.inl i∧v=Value.int i t)∨(∃x t,k=Sum.inr x∧v=Value.str x t)
 | .inl i,v,h=>by
  obtain⟨t,e⟩:=Value.isInt_shape (k:=i) (v:=v) h;exact .inl ⟨i,t,rfl,e⟩
 | .inr x,v,h=>by
  obtain⟨t,e⟩:=Value.isStrOf_shape (x:=x) (v:=v) h;exact .inr ⟨x,t,rfl,e⟩
theorem ZiC (i:Int)(t:Tok):Zh0 (.inl i) (.int i t)=true:=by simp[Zh0,Value.isInt]
theorem ZiD (x:Str)(t:Tok):Zh0 (.inr x) (.str x t)=true:=by simp[Zh0,Value.isStrOf]
theorem ZnD (a b:Int):decide ((Sum.inl a:Key)=Sum.inl b)=(a==b):=by
 by_cases e:a=b
 ·subst e;simp
 ·have h:¬(Sum.inl a:Key)=Sum.inl b:=fun q=>e (Sum.inl.inj q);rw[Qal h];exact(beq_eq_false_iff_ne.mpr e).symm
theorem ZnE (a b:Str):decide ((Sum.inr a:Key)=Sum.inr b)=decide (a=b):=by
 by_cases e:a=b
 ·subst e;simp
 ·have h:¬(Sum.inr a:Key)=Sum.inr b:=fun q=>e (Sum.inr.inj q);rw[Qal h,Qal e]
theorem ZnF (a:Int)(b:Str):decide ((Sum.inl a:Key)=Sum.inr b)=false:=Qal (fun q=>nomatch q)
theorem ZnG (a:Str)(b:Int):decide ((Sum.inr a:Key)=Sum.inl b)=false:=Qal (fun q=>nomatch q)
def Zbp (prog:Program)(w:World):PySem.KeyKind prog w Key where
 is:=Zh0
 hash:=ZpR w
 inj:=fun v a b ha hb=>by
  rcases Za2 ha with⟨i,t,rfl,rfl⟩|⟨x,t,rfl,rfl⟩
  ·rcases Za2 hb with⟨j,u,rfl,e⟩|⟨y,u,rfl,e⟩
   ·injection e with e1 _;rw[e1]
   ·exact nomatch e
  ·rcases Za2 hb with⟨j,u,rfl,e⟩|⟨y,u,rfl,e⟩
   ·exact nomatch e
   ·injection e with e1 _;rw[e1]
 byValue:=fun k v h=>by
  rcases Za2 h with⟨i,t,rfl,rfl⟩|⟨x,t,rfl,rfl⟩<;>rfl
 pyHash:=fun hv h=>by
  rcases Za2 hv with⟨i,t,rfl,rfl⟩|⟨x,t,rfl,rfl⟩
  ·exact wpAny_pyHash_int h
  ·exact wpAny_pyHash_str h
 eqBool:=fun hu hv h=>by
  rcases Za2 hu with⟨i,t,rfl,rfl⟩|⟨x,t,rfl,rfl⟩
  ·rcases Za2 hv with⟨j,u,rfl,rfl⟩|⟨y,u,rfl,rfl⟩
   ·rw[ZnD] at h;exact wpAny_eqBool_int h
   ·rw[ZnF] at h;exact SeqAt.EqAt.int_str i t y u _ _ _ _ h
  ·rcases Za2 hv with⟨j,u,rfl,rfl⟩|⟨y,u,rfl,rfl⟩
   ·rw[ZnG] at h;exact SeqAt.EqAt.str_int x t j u _ _ _ _ h
   ·rw[ZnE] at h;exact wpAny_eqBool_str h
 «strs»:=fun k x t v h=>by
  rcases Za2 h with⟨i,u,rfl,e⟩|⟨y,u,rfl,e⟩
  ·exact nomatch e
  ·injection e with e1 _
   subst e1;cases v<;>rfl
theorem Zgq (prog:Program)(w:World)(i:Int)(t:Tok):(Zbp prog w).is (.inl i) (.int i t)=true:=ZiC i t
theorem Zgr (prog:Program)(w:World)(x:Str)(t:Tok):(Zbp prog w).is (.inr x) (.str x t)=true:=ZiD x t
inductive V where
 |non|bl (b:Bool)|int (i:Int)|str (x:Str)|byt (b:Array UInt8)|flt (b:UInt64)|ref (a:Addr)|ty (n:String)
 deriving DecidableEq
def Zbd:V→Value→Prop
 | .non,u=>u=Value.none
 | .bl b,u=>u=Value.bool b
 | .int i,u=>∃t,u=Value.int i t
 | .str x,u=>∃t,u=Value.str x t
 | .byt b,u=>∃t,u=Value.bytes b t
 | .flt b,u=>∃t,u=Value.float b t
 | .ref a,u=>u=Value.ref a
 | .ty n,u=>u=Value.type n
abbrev ZaZ:List V→List Value→Prop:=Paired Zbd
theorem ZaZ.length {xs:List V}{us:List Value}(r:ZaZ xs us):xs.length=us.length:=QeD r
theorem ZaZ.get:∀{xs:List V} {us:List Value} {i:Nat} {x:V},ZaZ xs us→xs[i]?=some x→∃u,us[i]?=some u∧Zbd x u
 |_,_,_,_,.nil,e=>by simp at e
 |_,_,0,_,.cons r _,e=>by simp at e;subst e;exact⟨_,rfl,r⟩
 |_,_,i+1,x,.cons _ t,e=>by
  obtain⟨u,h1,h2⟩:=ZaZ.get (i:=i) (x:=x) t (by simpa using e);exact⟨u,by simpa using h1,h2⟩
theorem ZaZ.set {x:V}{u:Value}(r:Zbd x u):∀{xs:List V} {us:List Value} (i:Nat),ZaZ xs us→ZaZ (xs.set i x) (us.set i u)
 |_,_,_,.nil=> .nil
 |_,_,0,.cons _ t=> .cons r t
 |_,_,i+1,.cons q t=> .cons q (ZaZ.set r i t)
theorem ZaZ.append:∀{xs ys:List V} {us ws:List Value},ZaZ xs us→ZaZ ys ws→ZaZ (xs++ys) (us++ws)
 |_,_,_,_,.nil,s=>s
 |_,_,_,_,.cons r t,s=> .cons r (ZaZ.append t s)
theorem ZaZ.take:∀{xs:List V} {us:List Value} (n:Nat),ZaZ xs us→ZaZ (xs.take n) (us.take n)
 |_,_,0,_=> .nil
 |_,_,_+1,.nil=> .nil
 |_,_,n+1,.cons r t=> .cons r (ZaZ.take n t)
theorem ZaZ.drop:∀{xs:List V} {us:List Value} (n:Nat),ZaZ xs us→ZaZ (xs.drop n) (us.drop n)
 |_,_,0,r=>r
 |_,_,_+1,.nil=> .nil
 |_,_,n+1,.cons _ t=>ZaZ.drop n t
def Zh1:Option V→Option Value→Prop
 |some v,some u=>Zbd v u
 |none,none=>True
 |_,_=>False
def KV {κ:Type}:List (κ×V)→List (κ×Value)→Prop:=Paired fun(p:κ×V) (q:κ×Value)=>p.1=q.1∧Zbd p.2 q.2
def kV:Key→V
 | .inl i=> .int i
 | .inr x=> .str x
inductive HO where
 |lst (xs:List V)
 |tup (xs:List V)
 |dK (kvs:List (Key×V))|dT (kvs:List (List Key×V))
 |set (S:Int→Bool) (n:Nat)
 |ins (C dx:Addr) (fs:List (Str×V))
 |own (x:Addr)
 |xd (fs:List (Str×V))
 |met (f x:Addr)
 |rng (lo hi:Int)
 |frz (o:Obj) (u:HO)
 |tbl (ps:Array Value)
 |ext (φ:Heap→Prop)
abbrev Hp:=Addr→Option HO
def upd (H:Hp)(a:Addr)(o:HO):Hp:=fun b=>if b=a then some o else H b
theorem Zaa {H:Hp}{o:HO}:upd H a o a=some o:=by unfold upd;rw[if_pos rfl]
theorem Zan {H:Hp}{o:HO}(h:b≠a):upd H a o b=H b:=by unfold upd;rw[if_neg h]
theorem Zo5 {H:Hp}{o u:HO}(h:H a=some o)(h':H b=some u)(d:o≠u):a≠b:=by
 intro e;subst e;rw[h] at h';exact d (QaR h')
theorem Zak {H:Hp}{o:HO}(h:H a=some o)(h':H b=none):a≠b:=by
 intro e;subst e;rw[h] at h';cases h'
section
variable (P:Program)(w:World)
def ZbG (H:Hp)(h:Heap)(a:Addr):HO→Prop
 | .lst xs=>xs.length≤sizeLine∧∃(its:List Value) (n:Nat),ZaZ xs its∧h.get? a=some {cls:=.type "list",data:=.seq its.toArray n }
 | .tup xs=>xs.length≤sizeLine∧∃its:List Value,ZaZ xs its∧IsTup h a its.toArray
 | .dK kvs=>kvs.length≤sizeLine∧(a==sysModules)=false∧∃vs,KV kvs vs∧h.DictOf (Zbp P w) a vs
 | .dT kvs=>kvs.length≤sizeLine∧(a==sysModules)=false∧∃xs:List (List Key×Addr×Value),
   Paired (fun(p:List Key×V) (q:List Key×Addr×Value)=>p.1=q.1∧H q.2.1=some (.tup (p.1.map kV))∧Zbd p.2 q.2.2) kvs xs∧
   ∃o es ep,h.get? a=some o∧o.ExactDict∧o.data= .dict es ep∧es.toList=xs.map (entryOfKey (tupleKind (Zbp P w)))∧(xs.map (·.1)).Nodup
 | .set S n=>h.SetOf (intKind P w) a S n
 | .ins C dx fs=>H dx=some (.own a)∧fs.length≤1000∧dx≠a∧h.get? a=some (PySem.W.instObj C dx)∧
   ∃mA,h.Ns1 dx mA∧(∀f,Zh1 (fs.lookup f) (mA f))∧PySem.Within mA (fs.map (·.1))
 | .own _=>∃o,h.get? a=some o
 | .xd fs=>∃mA,h.Ns1 a mA∧∀f,Zh1 (fs.lookup f) (mA f)
 | .rng lo hi=>∃t u v,h.get? a=some {cls:=.type "range",data:=.fields #[.int lo t,.int hi u,.int 1 v] }
 | .frz o u=>h.get? a=some o∧ZbG H h a u
 | .tbl ps=>h.get? a=some {cls:=.none,data:=.fields ps }
 | .met f x=>h.get? a=some (PySem.W.methodObj (.ref f) (.ref x))
 | .ext φ=>φ h∧(∃o,h.get? a=some o)∧∀h1 h2:Heap,φ h1→(∀o,h1.get? a=some o→h2.get? a=some o)→φ h2
def HOk (H:Hp)(h:Heap):Prop:=∀a o,H a=some o→ZbG P w H h a o
end
section
variable {H H':Hp}{o:HO}
theorem ZbG.lt (x:ZbG P w H h a o):a<h.objs.size:=by
 cases o with
 |lst xs=>obtain⟨_,_,_,_,e⟩:=x;exact Qau e
 |tup xs=>obtain⟨_,_,_,p⟩:=x;exact p.lt
 |dK kvs=>obtain⟨_,_,_,_,o,_,_,e,_⟩:=x;exact Qau e
 |dT kvs=>obtain⟨_,_,_,_,o,_,_,e,_⟩:=x;exact Qau e
 |set S n=>obtain⟨o,_,_,_,e,_⟩:=x;exact Qau e
 |ins C dx fs=>obtain⟨_,_,_,e,_⟩:=x;exact Qau e
 |own y=>obtain⟨_,e⟩:=x;exact Qau e
 |xd fs=>obtain⟨_,⟨_,_,_,e,_⟩,_⟩:=x;exact Qau e
 |rng lo hi=>obtain⟨_,_,_,e⟩:=x;exact Qau e
 |frz ob u=>obtain⟨e,_⟩:=x;exact Qau e
 |tbl ps=>exact Qau (show h.get? a=some _ from x)
 |met f y=>exact Qau (show h.get? a=some _ from x)
 |ext φ=>obtain⟨_,⟨_,e⟩,_⟩:=x;exact Qau e
theorem Paired.mapP {α β:Type}{F G:α→β→Prop}:∀{l₁:List α} {l₂:List β},Paired F l₁ l₂→(∀a b,F a b→G a b)→Paired G l₁ l₂
 |_,_,.nil,_=> .nil
 |_,_,.cons r t,f=> .cons (f _ _ r) (Paired.mapP t f)
theorem ZbG.stay (x:ZbG P w H h a o)(k:∀b u,(b=a∨H b=some (.own a))→h.get? b=some u→h'.get? b=some u)
  (ho:∀b,H b=some (.own a)→H' b=some (.own a)) (ht:∀b xs,H b=some (.tup xs)→H' b=some (.tup xs)):ZbG P w H' h' a o:=by
 induction o with
 |lst xs=>obtain⟨z,its,n,r,e⟩:=x;exact⟨z,its,n,r,k _ _ (.inl rfl) e⟩
 |tup xs=>obtain⟨z,its,r,ob,e,c⟩:=x;exact⟨z,its,r,ob,k _ _ (.inl rfl) e,c⟩
 |dK kvs=>obtain⟨z,y,vs,r,ob,es,ep,e,c⟩:=x;exact⟨z,y,vs,r,ob,es,ep,k _ _ (.inl rfl) e,c⟩
 |dT kvs=>
  obtain⟨z,y,xs,r,ob,es,ep,e,c⟩:=x;exact⟨z,y,xs,Paired.mapP r fun p q z=>⟨z.1,ht _ _ z.2.1,z.2.2⟩,ob,es,ep,k _ _ (.inl rfl) e,c⟩
 |set S n=>obtain⟨ob,es,ep,t,e,c⟩:=x;exact⟨ob,es,ep,t,k _ _ (.inl rfl) e,c⟩
 |ins C dx fs=>
  obtain⟨d,z,ne,e,mA,⟨od,es,ep,e2,c⟩,r⟩:=x;exact⟨ho _ d,z,ne,k _ _ (.inl rfl) e,mA,⟨od,es,ep,k _ _ (.inr d) e2,c⟩,r⟩
 |own y=>obtain⟨ob,e⟩:=x;exact⟨ob,k _ _ (.inl rfl) e⟩
 |xd fs=>obtain⟨mA,⟨od,es,ep,e,c⟩,r⟩:=x;exact⟨mA,⟨od,es,ep,k _ _ (.inl rfl) e,c⟩,r⟩
 |rng lo hi=>obtain⟨t,u,v,e⟩:=x;exact⟨t,u,v,k _ _ (.inl rfl) e⟩
 |frz ob u ih=>obtain⟨e,q⟩:=x;exact⟨k _ _ (.inl rfl) e,ih q⟩
 |tbl ps=>
  have e:h.get? a=some {cls:=.none,data:=.fields ps }:=x;show h'.get? a=some {cls:=.none,data:=.fields ps };exact k a _ (.inl rfl) e
 |met f y=>
  have e:h.get? a=some (PySem.W.methodObj (.ref f) (.ref y)):=x;show h'.get? a=some (PySem.W.methodObj (.ref f) (.ref y));exact k a _ (.inl rfl) e
 |ext φ=>obtain⟨p,⟨o,e⟩,st⟩:=x;exact⟨st _ _ p fun o q=>k _ _ (.inl rfl) q,⟨o,k _ _ (.inl rfl) e⟩,st⟩
theorem HOk.lt (x:HOk P w H h)(e:H a=some o):a<h.objs.size:=(x a o e).lt
theorem HOk.fresh (x:HOk P w H h)(e:h.objs.size≤a):H a=none:=by
 cases q:H a with
 |none=>rfl
 |some u=>exact absurd (QaU (x.lt q) e) (QbG _)
theorem HOk.kept (x:HOk P w H h)(k:∀b u,h.get? b=some u→h'.get? b=some u):HOk P w H h':=fun a o e=>
 (x a o e).stay (fun b u _ q=>k b u q) (fun _ q=>q) fun _ _ q=>q
theorem HOk.laid (x:HOk P w H h)(k:∀b u,h.get? b=some u→h'.get? b=some u)(hp:h.objs.size≤a)(new:ZbG P w (upd H a o) h' a o):HOk P w (upd H a o) h':=fun b u e=>by
 have hn:=x.fresh hp;by_cases hb:b=a
 ·subst hb;rw[Zaa] at e;cases e;exact new
 ·rw[Zan hb] at e;exact(x b u e).stay (fun c v _ q=>k c v q) (fun c q=>by rw[Zan (Zak q hn)];exact q) fun c xs q=>by rw[Zan (Zak q hn)];exact q
end
def Rd (H:Hp)(a:Addr)(u:HO):Prop:=H a=some u∨∃o,H a=some (.frz o u)
theorem Rd.ok {H:Hp}{u:HO}(r:Rd H a u)(x:HOk P w H h):ZbG P w H h a u:=by
 rcases r with r|⟨o,r⟩
 ·exact x a u r
 ·obtain⟨_,q⟩:=x a _ r;exact q
def Mut:Option HO→Prop
 |some (.lst _)=>True
 |some (.dK _)=>True
 |some (.dT _)=>True
 |some (.set _ _)=>True
 |some (.ins _ _ _)=>True
 |some (.ext _)=>True
 |_=>False
section
variable {H:Hp}{x e:Addr}{o':HO}
theorem HOk.write (ok:HOk P w H h)(mu:Mut (H x))(he:e=x∨H e=some (.own x))(k:∀b u,b≠e→h.get? b=some u→h'.get? b=some u)(heo:∃u,h'.get? e=some u)
  (new:ZbG P w (upd H x o') h' x o'):HOk P w (upd H x o') h':=fun b u q=>by
 have nown:∀c y,H c=some (.own y)→c≠x:=fun c y r z=>by subst z;rw[r] at mu;exact mu
 have ntup:∀c xs,H c=some (.tup xs)→c≠x:=fun c xs r z=>by subst z;rw[r] at mu;exact mu
 by_cases hb:b=x
 ·subst hb;rw[Zaa] at q;cases q;exact new
 ·rw[Zan hb] at q;by_cases hbe:b=e
  ·have q':H b=some (.own x):=by
    rcases he with z|z
    ·exact absurd (hbe.trans z) hb
    ·rw[hbe];exact z
   rw[q] at q';cases q';obtain⟨v,hv⟩:=heo;exact⟨v,by rw[hbe];exact hv⟩
  ·refine(ok b u q).stay (fun c v hc r=>k c v ?_ r) (fun c r=>by rw[Zan (nown c b r)];exact r) fun c xs r=>by rw[Zan (ntup c xs r)];exact r
   rcases hc with rfl|hc
   ·exact hbe
   ·rintro rfl;rcases he with z|z
    ·exact nown c b hc z
    ·rw[hc] at z;cases z;exact hb rfl
end
structure Un (fs ex:List Addr)(H H':Hp)(h h':Heap):Prop where
 keep:∀b o,h.get? b=some o→H b=none→b∉fs→b∉ex→h'.get? b=some o
 slot:∀b o,h.get? b=some o→H b=none→b∈fs→b∉ex→∃sl,h'.get? b=some {o with slots:=sl }
 free:∀b o,h.get? b=some o→H b=none→b∉ex→H' b=none
 there:∀b o,h.get? b=some o→b∉ex→∃o',h'.get? b=some o'
 tups:∀b xs,H b=some (.tup xs)→H' b=some (.tup xs)
 frzs:∀b o u,H b=some (.frz o u)→H' b=some (.frz o u)
 tbls:∀b ps,H b=some (.tbl ps)→∃more,H' b=some (.tbl (ps++more))
section
variable {fs fs' ex ex':List Addr}{H H1 H2:Hp}{h1 h2:Heap}{x e:Addr}{o:HO}
theorem Un.any (u:Un fs ex H H1 h h1){ob:Obj}(q:h.get? b=some ob)(n:H b=none)(hx:b∉ex):∃sl,h1.get? b=some {ob with slots:=sl }:=by
 by_cases hb:b∈fs
 ·exact u.slot b ob q n hb hx
 ·exact⟨ob.slots,u.keep b ob q n hb hx⟩
theorem Un.kept (k:∀b u,h.get? b=some u→h'.get? b=some u):Un fs ex H H h h':=
 ⟨fun b ob q _ _ _=>k b ob q,fun b ob q _ _ _=>⟨ob.slots,k b ob q⟩,fun _ _ _ n _=>n,fun b ob q _=>⟨ob,k b ob q⟩,fun _ _ q=>q,fun _ _ _ q=>q,fun _ ps q=>⟨#[],by rw[q];simp⟩⟩
theorem Un.refl:Un fs ex H H h h:=Un.kept fun _ _ q=>q
theorem Un.laid (k:∀b u,h.get? b=some u→h'.get? b=some u)(hp:h.objs.size≤a)(hn:H a=none):Un fs ex H (upd H a o) h h' where
 keep:=fun b u q _ _ _=>k b u q
 slot:=fun b u q _ _ _=>⟨u.slots,k b u q⟩
 free:=fun b u q n _=>by rw[Zan (QaX (QaU (Qau q) hp))];exact n
 there:=fun b u q _=>⟨u,k b u q⟩
 tups:=fun b xs q=>by rw[Zan (Zak q hn)];exact q
 frzs:=fun b u xs q=>by rw[Zan (Zak q hn)];exact q
 tbls:=fun b ps q=>⟨#[],by rw[Zan (Zak q hn),q];simp⟩
theorem Un.write (mu:Mut (H x))(he:e=x∨H e=some (.own x))(k:∀b u,b≠e→h.get? b=some u→h'.get? b=some u)(heo:∃u,h'.get? e=some u):Un fs ex H (upd H x o) h h':=by
 have hx:∀b,H b=none→b≠x:=fun b n z=>by subst z;rw[n] at mu;exact mu
 have hb:∀b,H b=none→b≠e:=fun b n z=>by
  subst z;rcases he with r|r
  ·exact hx b n r
  ·rw[n] at r;cases r
 have hm:∀b u,H b=some u→¬Mut (some u)→b≠x:=fun b u q nm z=>by subst z;rw[q] at mu;exact nm mu
 refine⟨fun b u q n _ _=>k b u (hb b n) q,fun b u q n _ _=>⟨u.slots,k b u (hb b n) q⟩,fun b u q n _=>by rw[Zan (hx b n)];exact n,fun b u q _=> ?_,
  fun b xs q=>by rw[Zan (hm b _ q fun z=>z)];exact q,fun b u xs q=>by rw[Zan (hm b _ q fun z=>z)];exact q,fun b ps q=>⟨#[],by rw[Zan (hm b _ q fun z=>z),q];simp⟩⟩
 by_cases hbe:b=e
 ·subst hbe;exact heo
 ·exact⟨u,k b u hbe q⟩
end
def trk (h:Heap)(H:Hp):List Addr:=(List.range h.objs.size).filter fun a=>(H a).isSome
def ZkI (h:Heap)(H:Hp):Heap:=PySem.W.hideAll h (trk h H)
theorem ZiE (h:Heap)(H:Hp):(ZkI h H).objs.size=h.objs.size:=PySem.W.hideAll_size _ _
theorem ZkJ {H:Hp}(e:h.get? b=some o)(n:H b=none):(ZkI h H).get? b=some o:=
 PySem.W.hideAll_get _ e fun hm=>by
  have q:(H b).isSome=true:=(Qb5.mp hm).2;rw[n] at q;simp at q
theorem Zms {H:Hp}(e:(ZkI h H).get? b=some o):h.get? b=some o∧H b=none:=by
 have e':h.get? b=some o:=PySem.W.of_hideAll (trk h H) e;refine⟨e',?_⟩
 cases q:H b with
 |none=>rfl
 |some x=>
  have hm:b∈trk h H:=Qb5.mpr ⟨Qbb.mpr (Qau e'),by simp[q]⟩;have z:(ZkI h H).get? b=none:=PySem.W.hideAll_none (trk h H) hm;rw[z] at e;cases e
def Zmt (g h:Heap)(L:Addr):List (Addr×Obj):=(List.range h.objs.size).filterMap fun a=>if a=L∨(g.get? a).isSome=true then none else(h.get? a).map fun o=>(a,o)
def rest (g h:Heap)(L d:Addr):List (Addr×Obj):=(Zmt g h L).filter fun p=>decide (p.1≠d)
structure Mod (K:PySem.W.Frag)(mg:Str→Option Value)(base:Heap):Prop where
 kin:K.In base
 glob:base.Ns mainGlobals mg
 blt:∃mb,base.Ns builtinsNs mb∧∀x:Str,x≠ "__name__" →mb x=bootBuiltins x
 nolimit:base.NoLimit
structure Cx where
 prog:Program
 w:World
 K:PySem.W.Frag
 mg:Str→Option Value
 base:Heap
 A:Around
 N:List Str
 s₀:Shared
 H₀:Hp
 env:Env
 outer:List Env
 stack:List Env
 ex:List Addr
 fn:Str→Bool
 calm:Bool
 pn:List (Addr×Obj)
 xe:Value→Shared→Prop
def frs (l:List Env):List Addr:=l.filterMap (·.frame)
abbrev Cx.fs (X:Cx):List Addr:=frs X.outer
def Vis (sc:Scope)(x:Str):Prop:=sc.names.lookup x=some .local∨sc.names.lookup x=some .cell∨sc.names.lookup x=some .free
def Loc (sc:Scope)(x:Str):Prop:=sc.names.lookup x=some .local∨sc.names.lookup x=some .cell
def Zpx (env:Env)(h:Heap)(m:Str→Option Value)(x:Str)(u:Value):Prop:=
 (env.kindOf x=some .local∧m x=some u)∨((env.kindOf x=some .cell∨env.kindOf x=some .free)∧∃c,env.cells.lookup x=some c∧h.IsCell c (some u))
structure Cx.Ok (X:Cx):Prop where
 mod:Mod X.K X.mg X.base
 kind:X.env.scope.kind= .function
 glob:X.env.globals=mainGlobals
 blt:X.env.builtins=builtinsNs
 above:X.s₀.heap.objs.size≤X.env.locals
 inj:∀x y c,X.env.cells.lookup x=some c→X.env.cells.lookup y=some c→x=y
 has:∀x,(X.env.kindOf x=some .cell∨X.env.kindOf x=some .free)→∃c,X.env.cells.lookup x=some c
 cab:∀x c,X.fn x=true→X.env.cells.lookup x=some c→X.s₀.heap.objs.size≤c
 hd:X.calm=true→X.A.handled=none
 frames:X.A.frames=some X.stack
 stk:X.stack=X.outer∨(X.stack=X.env::X.outer∧X.env.frame=some X.env.locals)
 exf:∀b∈X.ex,b≠X.env.locals∧∀x c,X.env.cells.lookup x=some c→c≠b
 bs:∀b o,X.base.get? b=some o→X.s₀.heap.get? b=some o∧X.H₀ b=none
 bsz:X.base.objs.size≤X.s₀.heap.objs.size
 noex:∀b o,X.base.get? b=some o→b∉X.ex
 exfs:∀b∈X.ex,b∉X.fs
 funs:X.s₀.heap.FunFrames X.base X.outer
 frf:∀b∈X.fs,X.H₀ b=none
structure Inv (X:Cx)(qc:List (Addr×Obj))(σ:List (Option V))(H:Hp)(s:Shared):Prop where
 ok:X.Ok
 os:s.os=X.s₀.os
 bare:AllBare s.gens
 base:Un X.fs X.ex X.H₀ H X.s₀.heap s.heap
 loc:∃m,s.heap.Ns X.env.locals m∧∀(i:Nat) (x:Str) (v:V),X.N[i]?=some x→σ[i]?=some (some v)→Vis X.env.scope x→∃u,Zbd v u∧Zpx X.env s.heap m x u
 cell:∀x c,X.env.cells.lookup x=some c→∃v,s.heap.IsCell c v
 free:H X.env.locals=none
 freeC:∀x c,X.env.cells.lookup x=some c→H c=none
 pin:∀p∈X.pn++qc,s.heap.get? p.1=some p.2∧H p.1=none∧p.1≠X.env.locals∧p.1∉X.fs∧∀v,p.2.data≠ .cell v
 hok:HOk X.prog X.w H s.heap
 len:σ.length=X.N.length
section
variable {X:Cx}{σ:List (Option V)}{H H':Hp}
theorem Cx.Ok.nofr (ok:X.Ok)(e:X.base.get? b=some o):b∉X.fs:=fun hb=>by
 have:=(ok.funs.mem hb).1;rw[e] at this;cases this
theorem Inv.bs (I:Inv X qc σ H s):∀b o,X.base.get? b=some o→s.heap.get? b=some o∧H b=none:=fun b o e=>
 ⟨I.base.keep b o (I.ok.bs b o e).1 (I.ok.bs b o e).2 (I.ok.nofr e) (I.ok.noex b o e),I.base.free b o (I.ok.bs b o e).1 (I.ok.bs b o e).2 (I.ok.noex b o e)⟩
theorem Inv.bk (I:Inv X qc σ H s):∀b o,X.base.get? b=some o→s.heap.get? b=some o:=fun b o e=>(I.bs b o e).1
theorem Inv.mod (I:Inv X qc σ H s):Mod X.K X.mg X.base:=I.ok.mod
theorem Inv.kIn (I:Inv X qc σ H s):X.K.In s.heap:=I.ok.mod.kin.keeps I.bk
theorem Inv.lt (I:Inv X qc σ H s):X.env.locals<s.heap.objs.size:=let⟨_,hn,_⟩:=I.loc;hn.lt
theorem Inv.sz (I:Inv X qc σ H s):X.s₀.heap.objs.size≤s.heap.objs.size:=QaI I.ok.above (Qb0 I.lt)
theorem Inv.nofs (I:Inv X qc σ H s)(h:s.heap.objs.size≤a):a∉X.fs:=fun hb=>by
 obtain⟨_,o,ho,_⟩:=I.ok.funs.mem hb;exact absurd (QaU (Qau ho) (QaI I.sz h)) (QbG _)
theorem Inv.cne (I:Inv X qc σ H s):∀x c,X.env.cells.lookup x=some c→c≠X.env.locals:=fun x c e z=>by
 obtain⟨v,o,ho,hd⟩:=I.cell x c e;obtain⟨m,⟨o',es,ep,ho',hd',_⟩,_⟩:=I.loc;rw[z,ho'] at ho;cases ho;rw[hd'] at hd;cases hd
theorem Inv.funs (I:Inv X qc σ H s):s.heap.FunFrames X.base X.outer:=by
 have all:∀(l:List Env),(∀b∈frs l,b∈X.fs)→X.s₀.heap.FunFrames X.base l→s.heap.FunFrames X.base l:=by
  intro l
  induction l with
  |nil=>intro _ _;trivial
  |cons env r ih=>
   intro hs hl;obtain⟨hk,⟨L,o,hf,hn,ho,hd⟩,hr⟩:=hl;have hL:L∈X.fs:=hs L (by unfold frs;rw[Qdo,hf];exact QaA);obtain⟨sl,e⟩:=I.base.slot L o ho (I.ok.frf L hL) hL fun z=>I.ok.exfs L z hL;exact⟨hk,⟨L,_,hf,hn,e,hd⟩,ih (fun b hb=>hs b (by unfold frs;rw[Qdo,hf];exact QaD _ hb)) hr⟩
 exact all X.outer (fun _ hb=>hb) I.ok.funs
theorem Inv.stack (I:Inv X qc σ H s):s.heap.FunFrames X.base X.stack:=by
 rcases I.ok.stk with e|⟨e,hf⟩
 ·rw[e];exact I.funs
 ·rw[e];obtain⟨m,hn,_⟩:=I.loc;refine .cons (by rw[I.ok.kind];decide) hf hn ?_ I.funs;exact Heap.get?_none_of_le (QaI I.ok.bsz I.ok.above)
theorem Inv.stkSub (I:Inv X qc σ H s):∀b∈frs X.stack,b∈X.env.locals::X.fs:=fun b hb=>by
 rcases I.ok.stk with e|⟨e,hf⟩
 ·rw[e] at hb;exact QaD _ hb
 ·rw[e] at hb;unfold frs at hb;rw[Qdo,hf] at hb;exact hb
theorem Inv.stkFree (I:Inv X qc σ H s):∀b∈frs X.stack,H b=none:=fun b hb=>by
 rcases QaJ.mp (I.stkSub b hb) with e|hb
 ·rw[e];exact I.free
 ·obtain⟨_,o,ho,_⟩:=I.ok.funs.mem hb;exact I.base.free b o ho (I.ok.frf b hb) fun z=>I.ok.exfs b z hb
theorem Inv.step (I:Inv X qc σ H s)
  (hch:∀b∈ch,(b∈X.ex∨X.s₀.heap.objs.size≤b)∧b≠X.env.locals∧(∀x c,X.env.cells.lookup x=some c→c≠b)∧∀p∈X.pn++qc,p.1≠b)
  (keep:∀b o,b≠X.env.locals→b∉X.fs→b∉ch→s.heap.get? b=some o→H b=none→h'.get? b=some o)
  (slot:∀b o,b≠X.env.locals→b∈X.fs→b∉ch→s.heap.get? b=some o→H b=none→∃sl,h'.get? b=some {o with slots:=sl }) (free:∀b o,b∉ch→s.heap.get? b=some o→H b=none→H' b=none)
  (there:∀b o,b∉ch→s.heap.get? b=some o→∃o',h'.get? b=some o')
  (tups:∀b xs,H b=some (.tup xs)→H' b=some (.tup xs)) (frzs:∀b o u,H b=some (.frz o u)→H' b=some (.frz o u)) (tbls:∀b ps,H b=some (.tbl ps)→∃more,H' b=some (.tbl (ps++more)))
  (ns:∀m,s.heap.Ns X.env.locals m→h'.Ns X.env.locals m) (hok:HOk X.prog X.w H' h') (hg:AllBare g'):
  Inv X qc σ H' {s with heap:=h',gens:=g',drawn:=d',toks:=t' }:=by
 have neL:∀b o,X.s₀.heap.get? b=some o→b≠X.env.locals:=fun b o e=>QaX (QaU (Qau e) I.ok.above)
 have neC:∀b o,X.s₀.heap.get? b=some o→b∉X.ex→b∉ch:=fun b o e hx hb=>by
  rcases(hch b hb).1 with z|z
  ·exact hx z
  ·exact absurd (QaU (Qau e) z) (QbG _)
 have cellK:∀x c,X.env.cells.lookup x=some c→∀v,s.heap.IsCell c v→h'.IsCell c v:=fun x c e v ⟨o,ho,hd⟩=>by
  have nch:c∉ch:=fun z=>(hch c z).2.2.1 x c e rfl;by_cases hc:c∈X.fs
  ·obtain⟨sl,q⟩:=slot c o (I.cne x c e) hc nch ho (I.freeC x c e);exact⟨_,q,hd⟩
  ·exact⟨o,keep c o (I.cne x c e) hc nch ho (I.freeC x c e),hd⟩
 refine⟨I.ok,I.os,hg,⟨fun b o e n hb hx=> ?_,fun b o e n hb hx=> ?_,fun b o e n hx=> ?_,fun b o e hx=> ?_,fun b xs e=>tups b xs (I.base.tups b xs e),fun b o xs e=>frzs b o xs (I.base.frzs b o xs e),fun b ps e=> ?_⟩,?_,fun x c e=> ?_,?_,fun x c e=> ?_,fun p hp=> ?_,hok,I.len⟩
 ·exact keep b o (neL b o e) hb (neC b o e hx) (I.base.keep b o e n hb hx) (I.base.free b o e n hx)
 ·obtain⟨sl,e1⟩:=I.base.slot b o e n hb hx;obtain⟨sl',e2⟩:=slot b _ (neL b o e) hb (neC b o e hx) e1 (I.base.free b o e n hx);exact⟨sl',e2⟩
 ·obtain⟨o',e1⟩:=I.base.there b o e hx;exact free b o' (neC b o e hx) e1 (I.base.free b o e n hx)
 ·obtain⟨o',e1⟩:=I.base.there b o e hx;exact there b o' (neC b o e hx) e1
 ·obtain⟨m1,e1⟩:=I.base.tbls b ps e;obtain⟨m2,e2⟩:=tbls b _ e1;exact⟨m1++m2,by rw[e2,Array.append_assoc]⟩
 ·obtain⟨m,hn,hl⟩:=I.loc;refine⟨m,ns m hn,fun i x v e1 e2 e3=> ?_⟩;obtain⟨u,r,l⟩:=hl i x v e1 e2 e3;refine⟨u,r,?_⟩;rcases l with l|⟨k,c,e,z⟩
  ·exact .inl l
  ·exact .inr ⟨k,c,e,cellK x c e _ z⟩
 ·obtain⟨v,z⟩:=I.cell x c e;exact⟨v,cellK x c e v z⟩
 ·obtain⟨m,⟨o,_,_,ho,_⟩,_⟩:=I.loc;exact free _ o (fun z=>(hch _ z).2.1 rfl) ho I.free
 ·obtain⟨v,o,ho,hd⟩:=I.cell x c e;exact free c o (fun z=>(hch c z).2.2.1 x c e rfl) ho (I.freeC x c e)
 ·obtain⟨e,n,ne,nf,d⟩:=I.pin p hp;have nch:p.1∉ch:=fun z=>(hch p.1 z).2.2.2 p hp rfl;exact⟨keep p.1 p.2 ne nf nch e n,free p.1 p.2 nch e n,ne,nf,d⟩
theorem Inv.un (I:Inv X qc σ H s)(u:Un X.fs [] H H' s.heap h')(hok:HOk X.prog X.w H' h'):Inv X qc σ H' {s with heap:=h',toks:=t' }:=by
 obtain⟨m,⟨o,es,ep,ho,r⟩,_⟩:=id I.loc;obtain⟨sl,hL⟩:=u.any ho I.free (by simp)
 exact I.step (g':=s.gens) (d':=s.drawn) (ch:=[]) (fun _ z=>nomatch z) (fun b o _ hb _ e n=>u.keep b o e n hb (by simp)) (fun b o _ hb _ e n=>u.slot b o e n hb (by simp)) (fun b o _ e n=>u.free b o e n (by simp)) (fun b o _ e=>u.there b o e (by simp)) u.tups u.frzs u.tbls (fun m' hm=>by
  obtain⟨o',es',ep',ho',r'⟩:=hm
  rw[ho] at ho';cases ho'
  exact⟨_,es',ep',hL,r'⟩) hok I.bare
theorem Inv.call (I:Inv X qc σ H s)(u:Un (frs X.stack) ch H H' s.heap h')(hok:HOk X.prog X.w H' h')(hg:AllBare g')
  (hch:∀b∈ch,(b∈X.ex∨X.s₀.heap.objs.size≤b)∧b≠X.env.locals∧(∀x c,X.env.cells.lookup x=some c→c≠b)∧∀p∈X.pn++qc,p.1≠b):
  Inv X qc σ H' {s with heap:=h',gens:=g',drawn:=d',toks:=t' }:=by
 obtain⟨m,⟨o,es,ep,ho,r⟩,_⟩:=id I.loc;obtain⟨sl,hL⟩:=u.any ho I.free fun z=>(hch _ z).2.1 rfl
 exact I.step (ch:=ch) hch (fun b o hL hb hc e n=>u.keep b o e n (fun z=>(QaJ.mp (I.stkSub b z)).elim hL hb) hc) (fun b o _ _ hc e n=>u.any e n hc) (fun b o hc e n=>u.free b o e n hc) (fun b o hc e=>u.there b o e hc) u.tups u.frzs u.tbls (fun m' hm=>by
  obtain⟨o',es',ep',ho',r'⟩:=hm
  rw[ho] at ho';cases ho'
  exact⟨_,es',ep',hL,r'⟩) hok hg
theorem Inv.turned {it:Addr}(I:Inv X qc σ H s)(k:∀b o,b≠it→s.heap.get? b=some o→h'.get? b=some o)(hn:H it=none)(hL:it≠X.env.locals)
  (h1:it∈X.ex∨X.s₀.heap.objs.size≤it) (h2:∀x c,X.env.cells.lookup x=some c→c≠it) (h3:∀p∈X.pn++qc,p.1≠it):Inv X qc σ H {s with heap:=h',toks:=t' }:=by
 have nit:∀b u,H b=some u→b≠it:=fun b u e z=>by rw[z,hn] at e;cases e
 refine I.step (g':=s.gens) (d':=s.drawn) (ch:=[it]) (fun b hb=> ?_) (fun b o _ _ hc e _=>k b o (fun z=>hc (by simp[z])) e) (fun b o _ _ hc e _=>⟨o.slots,k b o (fun z=>hc (by simp[z])) e⟩) (fun _ _ _ _ n=>n)
  (fun b o hc e=>⟨o,k b o (fun z=>hc (by simp[z])) e⟩) (fun _ _ e=>e) (fun _ _ _ e=>e) (fun b ps e=>⟨#[],by rw[e];simp⟩) (fun m hm=> ?_) (fun b u e=> ?_) I.bare
 ·have e:b=it:=by simpa using hb
  subst e;exact⟨h1,hL,h2,h3⟩
 ·obtain⟨o,es,ep,ho,r⟩:=hm;exact⟨o,es,ep,k _ o (Ne.symm hL) ho,r⟩
 ·refine(I.hok b u e).stay (fun c v hc q=>k c v ?_ q) (fun _ q=>q) fun _ _ q=>q;rcases hc with z|z
  ·rw[z];exact nit b u e
  ·exact nit c _ z
theorem Inv.tok (I:Inv X qc σ H s)(t:Nat):Inv X qc σ H {s with toks:=t }:=I.un (h':=s.heap) (t':=t) Un.refl I.hok
theorem Inv.kept {t':Nat}(I:Inv X qc σ H s)(k:∀b u,s.heap.get? b=some u→h'.get? b=some u):Inv X qc σ H {s with heap:=h',toks:=t' }:=I.un (Un.kept k) (I.hok.kept k)
theorem Inv.laid {a:Addr}{o:HO}{t':Nat}(I:Inv X qc σ H s)(k:∀b u,s.heap.get? b=some u→h'.get? b=some u)(hp:s.heap.objs.size≤a)(new:ZbG X.prog X.w (upd H a o) h' a o):
  Inv X qc σ (upd H a o) {s with heap:=h',toks:=t' }:=I.un (Un.laid k hp (I.hok.fresh hp)) (I.hok.laid k hp new)
theorem Inv.write {x e:Addr}{o:HO}{t':Nat}(I:Inv X qc σ H s)(mu:Mut (H x))(he:e=x∨H e=some (.own x))(k:∀b u,b≠e→s.heap.get? b=some u→h'.get? b=some u)(heo:∃u,h'.get? e=some u)
  (new:ZbG X.prog X.w (upd H x o) h' x o):Inv X qc σ (upd H x o) {s with heap:=h',toks:=t' }:=I.un (Un.write mu he k heo) (I.hok.write mu he k heo new)
theorem Inv.pins_of {pins':List (Addr×Obj)}(I:Inv X qc σ H s)(h:∀p∈pins',s.heap.get? p.1=some p.2∧H p.1=none∧p.1≠X.env.locals∧p.1∉X.fs∧∀v,p.2.data≠ .cell v):Inv X pins' σ H s:=
 ⟨I.ok,I.os,I.bare,I.base,I.loc,I.cell,I.free,I.freeC,fun p hp=>(Qaq.mp hp).elim (fun z=>I.pin p (QaL _ z)) (h p),I.hok,I.len⟩
theorem Zhj (hN:N.Nodup)(a:N[i]?=some x)(b:N[j]?=some x):i=j:=by
 obtain⟨h1,e1⟩:=Qac.mp a;obtain⟨h2,e2⟩:=Qac.mp b;exact(List.getElem_inj hN).mp (e1.trans e2.symm)
theorem ZiF {v:V}(I:Inv X qc σ H s)(hN:X.N.Nodup)(hi:X.N[i]?=some x)(hx:Loc X.env.scope x)(r:Zbd v u)
  (h:∀s',Inv X qc (σ.set i (some v)) H s'→(∃a,Heap.SameBut a s.heap s'.heap∧(a=X.env.locals∨X.env.cells.lookup x=some a))→Q () s') (hf:X.fn x=true∨X.env.scope.names.lookup x=some .local:=by first|exact .inl rfl|exact .inr rfl|assumption):wpAny M A (storeName X.env x u) Q E s:=by
 obtain⟨m,hn,hl⟩:=id I.loc;have hcls:(X.env.scope.kind== .class ||(X.env.scope.kind== .module && X.env.locals !=X.env.globals))=false:=by rw[I.ok.kind];rfl
 have hiσ:i<σ.length:=by rw[I.len];exact(Qac.mp hi).1
 have cne:=I.cne
 have tracked:∀{a:Addr} {h':Heap},(∃o,s.heap.get? a=some o∧H a=none)→Heap.SameBut a s.heap h'→HOk X.prog X.w H h':=fun{a h'} ha hs b ob e=>by
  obtain⟨_,_,qT⟩:=ha;refine(I.hok b ob e).stay (fun c w' hc q=>(hs.2 c ?_).trans q) (fun _ q=>q) fun _ _ q=>q;rintro rfl;rcases hc with rfl|hc
  ·rw[qT] at e;cases e
  ·rw[qT] at hc;cases hc
 rcases hx with hk|hk
 ·refine wpAny_storeName_local hk hn (fun h' hn' hs=> ?_) hcls;obtain⟨oL,_,_,hoL,_⟩:=id hn;refine h _ ⟨I.ok,I.os,I.bare,⟨fun b o e n hb hx=> ?_,fun b o e n hb hx=> ?_,I.base.free,fun b o e hx=> ?_,I.base.tups,I.base.frzs,I.base.tbls⟩,⟨_,hn',fun j y v' e1 e2 e3=> ?_⟩,fun y c e=> ?_,I.free,I.freeC,fun p hp=> ?_,tracked ⟨oL,hoL,I.free⟩ hs,by simpa using I.len⟩ ⟨_,hs,.inl rfl⟩
  ·exact(hs.2 b (QaX (QaU (Qau e) I.ok.above))).trans (I.base.keep b o e n hb hx)
  ·obtain⟨sl,e1⟩:=I.base.slot b o e n hb hx;exact⟨sl,(hs.2 b (QaX (QaU (Qau e) I.ok.above))).trans e1⟩
  ·obtain⟨o',e1⟩:=I.base.there b o e hx;exact⟨o',(hs.2 b (QaX (QaU (Qau e) I.ok.above))).trans e1⟩
  ·by_cases hj:j=i
   ·subst hj;rw[hi] at e1;cases e1;rw[Qbr hiσ] at e2;cases e2;exact⟨u,r,.inl ⟨hk,by simp⟩⟩
   ·rw[QbJ (Ne.symm hj)] at e2;obtain⟨u',r',q⟩:=hl j y v' e1 e2 e3;refine⟨u',r',?_⟩;rcases q with⟨k,e⟩|⟨k,c,e,z⟩
    ·refine .inl ⟨k,?_⟩
     have:y≠x:=fun e=>hj (Zhj hN e1 (e ▸ hi));simp[this,e]
    ·exact .inr ⟨k,c,e,z.sameBut hs (cne y c e)⟩
  ·obtain⟨w',z⟩:=I.cell y c e;exact⟨w',z.sameBut hs (cne y c e)⟩
  ·obtain⟨e,n,ne,nf,d⟩:=I.pin p hp;exact⟨(hs.2 p.1 ne).trans e,n,ne,nf,d⟩
 ·have hfn:X.fn x=true:=by
   rcases hf with z|z
   ·exact z
   ·rw[z] at hk;cases hk
  obtain⟨c,hc⟩:=I.ok.has x (.inl hk);obtain⟨w',z⟩:=I.cell x c hc;refine wpAny_storeName_cell I.ok.kind hk hc z (fun h' hc' hs=> ?_);obtain⟨oc,hoc,hocd⟩:=id z;refine h {s with heap:=h' } ⟨I.ok,I.os,I.bare,⟨fun b o e n hb hx=> ?_,fun b o e n hb hx=> ?_,I.base.free,fun b o e hx=> ?_,I.base.tups,I.base.frzs,I.base.tbls⟩,⟨m,hn.sameBut hs (Ne.symm (cne x c hc)),fun j y v' e1 e2 e3=> ?_⟩,fun y c' e=> ?_,I.free,I.freeC,fun p hp=> ?_,tracked ⟨oc,hoc,I.freeC x c hc⟩ hs,by simpa using I.len⟩ ⟨c,hs,.inr hc⟩
  ·exact(hs.2 b (QaX (QaU (Qau e) (I.ok.cab x c hfn hc)))).trans (I.base.keep b o e n hb hx)
  ·obtain⟨sl,e1⟩:=I.base.slot b o e n hb hx;exact⟨sl,(hs.2 b (QaX (QaU (Qau e) (I.ok.cab x c hfn hc)))).trans e1⟩
  ·obtain⟨o',e1⟩:=I.base.there b o e hx;exact⟨o',(hs.2 b (QaX (QaU (Qau e) (I.ok.cab x c hfn hc)))).trans e1⟩
  ·by_cases hj:j=i
   ·subst hj;rw[hi] at e1;cases e1;rw[Qbr hiσ] at e2;cases e2;exact⟨u,r,.inr ⟨.inl hk,c,hc,hc'⟩⟩
   ·rw[QbJ (Ne.symm hj)] at e2;obtain⟨u',r',q⟩:=hl j y v' e1 e2 e3;refine⟨u',r',?_⟩;rcases q with q|⟨k,c',e,z'⟩
    ·exact .inl q
    ·refine .inr ⟨k,c',e,z'.sameBut hs ?_⟩;rintro rfl;exact hj (Zhj hN e1 (I.ok.inj _ _ _ e hc ▸ hi))
  ·by_cases hcc:c'=c
   ·subst hcc;exact⟨_,hc'⟩
   ·obtain⟨w2,z2⟩:=I.cell y c' e;exact⟨w2,z2.sameBut hs hcc⟩
  ·obtain⟨e,n,ne,nf,d⟩:=I.pin p hp;refine⟨(hs.2 p.1 ?_).trans e,n,ne,nf,d⟩;intro q;rw[q,hoc] at e;have q':oc=p.2:=QaR e;exact d w' (by rw[←q'];exact hocd)
theorem Zdp {v:V}(I:Inv X qc σ H s)(hN:X.N.Nodup)(hi:X.N[i]?=some x)(hx:Loc X.env.scope x)(r:Zbd v u)
  (h:∀s',Inv X qc (σ.set i (some v)) H s'→Q () s') (hf:X.fn x=true∨X.env.scope.names.lookup x=some .local:=by first|exact .inl rfl|exact .inr rfl|assumption):wpAny M A (storeName X.env x u) Q E s:=
 ZiF I hN hi hx r (fun s' I' _=>h s' I') hf
theorem Inv.call' (I:Inv X qc σ H s)(ho:s'.os=s.os)(u:Un (frs X.stack) ch H H' s.heap s'.heap)(hok:HOk X.prog X.w H' s'.heap)(hg:AllBare s'.gens)
  (hch:∀b∈ch,(b∈X.ex∨X.s₀.heap.objs.size≤b)∧b≠X.env.locals∧(∀x c,X.env.cells.lookup x=some c→c≠b)∧∀p∈X.pn++qc,p.1≠b):Inv X qc σ H' s':=by
 obtain⟨h',g',d',t',o'⟩:=s';have e:o'=s.os:=ho;subst e;exact I.call (g':=g') (t':=t') (d':=d') u hok hg hch
end
abbrev XK:=Value→Option Addr→Hp→Prop
abbrev St:=List (Option V)
abbrev VK:=V→Hp→Prop
abbrev TE:=St→Hp→VK→Prop
abbrev TT:=St→Hp→(Bool→Hp→Prop)→Prop
abbrev TA:=St→Hp→(List V→Hp→Prop)→Prop
structure ZiG where
 nx:St→Hp→Prop
 rt:VK
 bk:St→Hp→Prop:=fun _ _=>False
 ct:St→Hp→Prop:=fun _ _=>False
abbrev TS:=ZiG→St→Hp→Prop
def EP (X:Cx)(qc:List (Addr×Obj))(σ:St)(Q:VK)(u:Value)(s':Shared):Prop:=∃v H',Inv X qc σ H' s'∧Zbd v u∧Q v H'
def TP (X:Cx)(qc:List (Addr×Obj))(σ:St)(Q:Bool→Hp→Prop)(b:Bool)(s':Shared):Prop:=∃H',Inv X qc σ H' s'∧Q b H'
def AP (X:Cx)(qc:List (Addr×Obj))(σ:St)(Q:List V→Hp→Prop)(us:List Value)(s':Shared):Prop:=∃vs H',Inv X qc σ H' s'∧ZaZ vs us∧Q vs H'
def SP (X:Cx)(qc:List (Addr×Obj))(D:ZiG)(f:Flow)(s':Shared):Prop:=
 match f with
 | .next=>∃σ' H',Inv X qc σ' H' s'∧D.nx σ' H'
 | .brk=>∃σ' H',Inv X qc σ' H' s'∧D.bk σ' H'
 | .cont=>∃σ' H',Inv X qc σ' H' s'∧D.ct σ' H'
 | .ret u=>∃v σ' H',Inv X qc σ' H' s'∧Zbd v u∧D.rt v H'
def PE (X:Cx)(e:Expr)(t:TE):Prop:=
 ∀(qc:List (Addr×Obj)) (s:Shared) (σ:St) (H:Hp) (Q:VK),Inv X qc σ H s→t σ H Q→wpAny (model X.prog X.w) X.A (eval e X.env) (EP X qc σ Q) X.xe s
def PT (X:Cx)(e:Expr)(t:TT):Prop:=
 ∀(qc:List (Addr×Obj)) (s:Shared) (σ:St) (H:Hp) (Q:Bool→Hp→Prop),Inv X qc σ H s→t σ H Q→wpAny (model X.prog X.w) X.A (isTrue e X.env (eval e X.env)) (TP X qc σ Q) X.xe s
def PW (X:Cx)(e:Expr)(t:TT):Prop:=
 ∀(whole:Sem Value) (qc:List (Addr×Obj)) (s:Shared) (σ:St) (H:Hp) (Q:Bool→Hp→Prop),Inv X qc σ H s→t σ H Q→wpAny (model X.prog X.w) X.A (isTrue e X.env whole) (TP X qc σ Q) X.xe s
theorem PW.pt {X:Cx}{t:TT}(h:PW X e t):PT X e t:=h _
def PA (X:Cx)(es:List Expr)(t:TA):Prop:=
 ∀(pos:PySem.Pos) (qc:List (Addr×Obj)) (s:Shared) (σ:St) (H:Hp) (Q:List V→Hp→Prop),Inv X qc σ H s→t σ H Q→wpAny (model X.prog X.w) X.A (spliced (backTo pos (starEach es X.env))) (AP X qc σ Q) X.xe s
def PS (X:Cx)(st:Stmt)(t:TS):Prop:=
 ∀(qc:List (Addr×Obj)) (s:Shared) (σ:St) (H:Hp) (D:ZiG),Inv X qc σ H s→t D σ H→wpAny (model X.prog X.w) X.A (exec st X.env) (SP X qc D) X.xe s
def PSs (X:Cx)(st:List Stmt)(t:TS):Prop:=
 ∀(qc:List (Addr×Obj)) (s:Shared) (σ:St) (H:Hp) (D:ZiG),Inv X qc σ H s→t D σ H→wpAny (model X.prog X.w) X.A (execs st X.env) (SP X qc D) X.xe s
theorem thn {α:Type}{t:Sem α}{Q Q':α→Shared→Prop}(h:wpAny M A t Q E s)(hQ:∀a s,Q a s→Q' a s):wpAny M A t Q' E s:=QbK h hQ fun _ _ x=>x
section
variable {X:Cx}
def Zam (i:Nat):TE:=fun σ H Q=>∃v,σ[i]?=some (some v)∧Q v H
def tC (v:V):TE:=fun _ H Q=>Q v H
theorem ZnH (hN:X.N[i]?=some x)(hv:Vis X.env.scope x)(hd:(x==("__debug__" :Str))=false:=by decide)(hcd:(x==("__classdict__" :Str))=false:=by decide):PE X (.Name x pos) (Zam i):=by
 intro qc s σ H Q I h;obtain⟨v,e,h⟩:=h;obtain⟨m,hn,hl⟩:=I.loc;obtain⟨u,r,l⟩:=hl i x v hN e hv;have fin:EP X qc σ Q u s:=⟨v,H,I,r,h⟩;rcases l with⟨hk,hm⟩|⟨hk,c,hc,qJ⟩
 ·exact wpAny_Name (wpAny_loadName_local I.ok.kind hk hn hm fin) hd
 ·rcases hk with hk|hk
  ·exact wpAny_Name (wpAny_loadName_cell I.ok.kind hk hc qJ fin) hd
  ·exact wpAny_Name (wpAny_loadName_free I.ok.kind hk hc qJ fin hcd) hd
theorem Zad {i j pos}:PE X (.Constant (.int i) j pos) (tC (.int i)):=fun _ _ _ H _ I h=>wpAny_Constant_int ⟨.int i,H,I.tok _,⟨_,rfl⟩,h⟩
theorem Zc3 {b j pos}:PE X (.Constant (.bool b) j pos) (tC (.bl b)):=fun _ _ _ H _ I h=>Constant_bool ⟨.bl b,H,I,rfl,h⟩
theorem ZiH {j pos}:PE X (.Constant .none j pos) (tC .non):=fun _ _ _ H _ I h=>Constant_none ⟨.non,H,I,rfl,h⟩
theorem ZlJ {x j pos}:PE X (.Constant (.str x) j pos) (tC (.str x)):=fun _ _ _ H _ I h=>Calls.Constant_str ⟨.str x,H,I.tok _,⟨_,rfl⟩,h⟩
def Gl (X:Cx)(x:Str):Prop:=X.env.kindOf x=some .globalImplicit
theorem Zmu {σ:St}{H:Hp}{Q:Value→Shared→Prop}(I:Inv X qc σ H s)(hg:Gl X x)(hm:X.mg x=some u)(h:Q u s)
  (hd:(x==("__debug__" :Str))=false:=by decide):wpAny (model X.prog X.w) X.A (eval (.Name x pos) X.env) Q E s:=
 Qdw I.ok.kind hg (Calls.loadGlobal_global (by rw[I.ok.glob];exact I.mod.glob.keeps I.bk) hm h) hd
theorem Zdz {σ:St}{H:Hp}{Q:Value→Shared→Prop}(I:Inv X qc σ H s)(hg:Gl X x)(hm:X.mg x=none)(hv:bootBuiltins x=some u)(h:Q u s)
  (hn:x≠ "__name__" :=by decide) (hd:(x==("__debug__" :Str))=false:=by decide):wpAny (model X.prog X.w) X.A (eval (.Name x pos) X.env) Q E s:=by
 obtain⟨mb,h1,h2⟩:=I.mod.blt;exact Qdw I.ok.kind hg (Calls.loadGlobal_builtin (by rw[I.ok.glob];exact I.mod.glob.keeps I.bk) hm (by rw[I.ok.blt];exact h1.keeps I.bk) ((h2 x hn).trans hv) h) hd
theorem ZcO {v:V}(hg:Gl X x)(hm:X.mg x=none)(hv:bootBuiltins x=some u)(r:Zbd v u)(hn:x≠ "__name__" :=by decide)(hd:(x==("__debug__" :Str))=false:=by decide):PE X (.Name x pos) (tC v):=
 fun _ _ _ H _ I h=>Zdz I hg hm hv ⟨v,H,I,r,h⟩ hn hd
variable {a b:Expr}{ta tb:TE}
def PC (X:Cx)(op:CmpOp)(a b:Expr)(t:TE):Prop:=
 ∀(qc:List (Addr×Obj)) (s:Shared) (σ:St) (H:Hp) (Q:VK),Inv X qc σ H s→t σ H Q→
  wpAny (model X.prog X.w) X.A (eval a X.env) (fun v s₁=>wpAny (model X.prog X.w) X.A (eval b X.env) (fun u s₂=>wpAny (model X.prog X.w) X.A (compareOp op v u) (EP X qc σ Q) X.xe s₂) X.xe s₁) X.xe s
theorem ZkK (b:Expr)(h:op≠ .In)(h2:op≠ .NotIn):behindInMarks op b=false:=by
 have e1:(op==CmpOp.In)=false:=by cases op<;>first|rfl|exact absurd rfl h
 have e2:(op==CmpOp.NotIn)=false:=by cases op<;>first|rfl|exact absurd rfl h2
 cases b<;>simp[behindInMarks,e1,e2]
def ZnI (ta:TE):TE:=fun σ H Q=>ta σ H fun x H1=>Q (.bl (!decide (x= .non))) H1
theorem Zbd.none_iff {x:V}{v:Value}(r:Zbd x v):(v==Value.none)=decide (x= .non):=by
 cases x with
 |non=>cases r;rfl
 |bl _=>cases r;rfl
 |int _=>obtain⟨t,rfl⟩:=r;rfl
 |str _=>obtain⟨t,rfl⟩:=r;rfl
 |byt _=>obtain⟨t,rfl⟩:=r;rfl
 |flt _=>obtain⟨t,rfl⟩:=r;rfl
 |ref _=>cases r;rfl
 |ty _=>cases r;rfl
theorem Zmv {j pos'}(ha:PE X a ta):PC X .IsNot a (.Constant .none j pos') (ZnI ta):=by
 intro qc s σ H Q I h;refine thn (ha qc s σ H _ I h) fun v s1 ⟨x,H1,I1,r1,q1⟩=> ?_;exact Constant_none (isnot_none_gen ⟨.bl _,H1,I1,by rw[r1.none_iff];rfl,q1⟩)
def tB (t:TE):TT:=fun σ H Q=>t σ H fun x H1=>∃c,x= .bl c∧Q c H1
theorem ZnJ {t:TE}(h:PC X op a b t)(h1:behindInMarks op b=false:=by first|exact ZkK _ (by decide) (by decide)|rfl):PT X (.Compare a [op] [b] pos) (tB t):=by
 intro qc s σ H Q I hw;refine Qei (thn (h qc s σ H _ I hw) fun v s1 h1=>thn h1 fun u s2 h2=>thn h2 fun c s3 ⟨x,H1,I1,r1,q1⟩=> ?_) h1;obtain⟨d,rfl,q⟩:=q1;cases r1;exact QbL ⟨H1,I1,q⟩
theorem Zem {t:TE}(h:PE X e t)(he:∀whole,isTrue e X.env whole=(do let v←whole;standAt e.pos;holding [v] (truthy v)):=by intro _;rfl):PT X e (tB t):=by
 intro qc s σ H Q I hw;refine isTrue_plain (thn (h qc s σ H _ I hw) fun v s1 ⟨x,H1,I1,r1,q1⟩=> ?_) (he _);obtain⟨d,rfl,q⟩:=q1;cases r1;exact QbL ⟨H1,I1,q⟩
variable {tA tB':TT}{rest:List Expr}
def ZoR (t u:TT):TT:=fun σ H Q=>t σ H fun c H1=>if c=true then u σ H1 Q else Q false H1
def tOr (t u:TT):TT:=fun σ H Q=>t σ H fun c H1=>if c=true then Q true H1 else u σ H1 Q
def Znv (t:TT):TT:=fun σ H Q=>t σ H fun c H1=>Q (!c) H1
theorem ZiI (ha:PT X a tA):PW X (.BoolOp .And [a] pos) tA:=by
 intro wh qc s σ H Q I h;refine isTrue_and (thn (ha qc s σ H Q I h) fun c s1 e=> ?_)
 cases c with
 |true=>exact isTrue_and_nil e
 |false=>exact e
theorem Zen (ha:PT X a tA):PW X (.BoolOp .Or [a] pos) tA:=by
 intro wh qc s σ H Q I h;refine isTrue_or (thn (ha qc s σ H Q I h) fun c s1 e=> ?_)
 cases c with
 |false=>exact isTrue_or_nil e
 |true=>exact e
theorem ZlK (ha:PT X a tA)(hb:PW X (.BoolOp .And (b::rest) pos) tB'):PW X (.BoolOp .And (a::b::rest) pos) (ZoR tA tB'):=by
 intro wh qc s σ H Q I h;refine isTrue_and (thn (ha qc s σ H _ I h) fun c s1 ⟨H1,I1,q1⟩=> ?_)
 cases c with
 |true=>exact hb wh qc s1 σ H1 Q I1 q1
 |false=>exact⟨H1,I1,q1⟩
theorem ZeD (ha:PT X a tA)(hb:PW X (.BoolOp .Or (b::rest) pos) tB'):PW X (.BoolOp .Or (a::b::rest) pos) (tOr tA tB'):=by
 intro wh qc s σ H Q I h;refine isTrue_or (thn (ha qc s σ H _ I h) fun c s1 ⟨H1,I1,q1⟩=> ?_)
 cases c with
 |true=>exact⟨H1,I1,q1⟩
 |false=>exact hb wh qc s1 σ H1 Q I1 q1
theorem Zfv (ha:PT X a tA):PT X (.UnaryOp .Not a pos) (Znv tA):=by
 intro qc s σ H Q I h;exact isTrue_not (ha qc s σ H (fun c H1=>Q (!c) H1) I h)
def ZnK (ta tb:TE):TE:=fun σ H Q=>ta σ H fun x H1=>∃c,x= .bl c∧if c=true then tb σ H1 Q else Q (.bl false) H1
def Zo6 (ta:TE):TE:=fun σ H Q=>ta σ H fun x H1=>∃c,x= .bl c∧Q (.bl (!c)) H1
theorem ZiJ {op}{t:TE}(h:PE X a t):PE X (.BoolOp op [a] pos) t:=fun qc s σ H Q I hw=>BoolOp_one (h qc s σ H Q I hw)
theorem ZiK (ha:PE X a ta)(hb:PE X (.BoolOp .And (b::rest) pos) tb):PE X (.BoolOp .And (a::b::rest) pos) (ZnK ta tb):=by
 intro qc s σ H Q I h;refine BoolOp_and (thn (ha qc s σ H _ I h) fun v s1 ⟨x,H1,I1,r1,q1⟩=> ?_);obtain⟨c,rfl,q1⟩:=q1;cases r1;refine QbL ?_
 cases c with
 |true=>exact hb qc s1 σ H1 Q I1 q1
 |false=>exact⟨.bl false,H1,I1,rfl,q1⟩
theorem ZnL (ha:PE X a ta):PE X (.UnaryOp .Not a pos) (Zo6 ta):=by
 intro qc s σ H Q I h;refine UnaryOp_ (thn (ha qc s σ H _ I h) fun v s1 ⟨x,H1,I1,r1,q1⟩=> ?_);obtain⟨c,rfl,q1⟩:=q1;cases r1;exact not_of (QbL ⟨.bl (!c),H1,I1,rfl,q1⟩)
end
def SqL (K:PySem.W.Frag)(H:Hp)(a:Addr)(xs:List V):Prop:=
 Rd H a (.lst xs)∨
  ∃(o:Obj) (its:Array Value) (n:Nat),K.lookup a=some o∧o.cls= .type "list" ∧o.dict=none∧o.data= .seq its n∧its.size≤sizeLine∧ZaZ xs its.toList
def SqT (K:PySem.W.Frag)(H:Hp)(a:Addr)(xs:List V):Prop:=
 Rd H a (.tup xs)∨
  ∃(o:Obj) (its:Array Value) (n:Nat),K.lookup a=some o∧o.cls= .type "tuple" ∧o.data= .seq its n∧its.size≤sizeLine∧ZaZ xs its.toList
def ZpS:Value→Option V
 | .none=>some .non
 | .bool b=>some (.bl b)
 | .int i _=>some (.int i)
 | .str x _=>some (.str x)
 | .bytes b _=>some (.byt b)
 | .float b _=>some (.flt b)
 | .ref a=>some (.ref a)
 | .type n=>some (.ty n)
 |_=>none
theorem Zbd.abs {x:V}(r:Zbd x u):ZpS u=some x:=by
 cases x with
 |non=>cases r;rfl
 |bl _=>cases r;rfl
 |int _=>obtain⟨t,rfl⟩:=r;rfl
 |str _=>obtain⟨t,rfl⟩:=r;rfl
 |byt _=>obtain⟨t,rfl⟩:=r;rfl
 |flt _=>obtain⟨t,rfl⟩:=r;rfl
 |ref _=>cases r;rfl
 |ty _=>cases r;rfl
theorem Zbd.inj {x y:V}(r:Zbd x u)(q:Zbd y u):x=y:=QaR (r.abs.symm.trans q.abs)
theorem ZaZ.inj:∀{xs ys:List V} {us:List Value},ZaZ xs us→ZaZ ys us→xs=ys
 |_,_,_,.nil,.nil=>rfl
 |_,_,_,.cons r t,.cons r' t'=>by rw[r.inj r',ZaZ.inj t t']
section
variable {X:Cx}{σ:St}{H:Hp}{xs ys:List V}
theorem SqL.of {K:PySem.W.Frag}(h:H a=some (.lst xs)):SqL K H a xs:=.inl (.inl h)
theorem SqT.of {K:PySem.W.Frag}(h:H a=some (.tup xs)):SqT K H a xs:=.inl (.inl h)
theorem Inv.list (I:Inv X qc σ H s)(h:SqL X.K H a xs):∃its:List Value,ZaZ xs its∧PlainL s.heap a its.toArray∧xs.length≤sizeLine:=by
 rcases h with h|⟨o,its,n,hk,hc,hd,hs,hz,r⟩
 ·obtain⟨z,its,n,r,e⟩:=h.ok I.hok;exact⟨its,r,⟨_,n,e,rfl,rfl,rfl⟩,z⟩
 ·refine⟨its.toList,r,⟨o,n,I.kIn a o hk,hc,hd,by simpa using hs⟩,?_⟩;have e:=r.length;simp only[QaB] at e;omega
theorem Inv.tuple (I:Inv X qc σ H s)(h:SqT X.K H a xs):∃its:List Value,ZaZ xs its∧IsTup s.heap a its.toArray∧xs.length≤sizeLine:=by
 rcases h with h|⟨o,its,n,hk,hc,hs,hz,r⟩
 ·obtain⟨z,its,r,p⟩:=h.ok I.hok;exact⟨its,r,p,z⟩
 ·refine⟨its.toList,r,⟨o,I.kIn a o hk,hc,n,by simpa using hs⟩,?_⟩;have e:=r.length;simp only[QaB] at e;omega
theorem Inv.list_inj (I:Inv X qc σ H s)(h:SqL X.K H a xs)(h':SqL X.K H a ys):xs=ys:=by
 obtain⟨its,r,⟨o,n,e,_,_,d⟩,_⟩:=I.list h;obtain⟨its',r',⟨o',n',e',_,_,d'⟩,_⟩:=I.list h';rw[e] at e';cases e';rw[d] at d';injection d' with d1 _
 have:its=its':=by simpa using congrArg Array.toList d1
 subst this;exact r.inj r'
theorem Inv.tuple_inj (I:Inv X qc σ H s)(h:SqT X.K H a xs)(h':SqT X.K H a ys):xs=ys:=by
 obtain⟨its,r,⟨o,e,_,n,d⟩,_⟩:=I.tuple h;obtain⟨its',r',⟨o',e',_,n',d'⟩,_⟩:=I.tuple h';rw[e] at e';cases e';rw[d] at d';injection d' with d1 _
 have:its=its':=by simpa using congrArg Array.toList d1
 subst this;exact r.inj r'
end
abbrev Cx.wish (X:Cx)(E:Value→Shared→Prop):Cx:={X with xe:=E }
abbrev Cx.nox (X:Cx):Cx:=X.wish fun _ _=>False
theorem Cx.Ok.wish {X:Cx}(ok:X.Ok)(E:Value→Shared→Prop):(X.wish E).Ok:=
 ⟨ok.mod,ok.kind,ok.glob,ok.blt,ok.above,ok.inj,ok.has,ok.cab,ok.hd,ok.frames,ok.stk,ok.exf,ok.bs,ok.bsz,ok.noex,ok.exfs,ok.funs,ok.frf⟩
theorem Cx.Ok.unwish {X:Cx}(ok:(X.wish E).Ok):X.Ok:=
 ⟨ok.mod,ok.kind,ok.glob,ok.blt,ok.above,ok.inj,ok.has,ok.cab,ok.hd,ok.frames,ok.stk,ok.exf,ok.bs,ok.bsz,ok.noex,ok.exfs,ok.funs,ok.frf⟩
section
variable {X:Cx}{σ:St}{H:Hp}
theorem Inv.wish (I:Inv X qc σ H s)(E:Value→Shared→Prop):Inv (X.wish E) qc σ H s:=⟨I.ok.wish E,I.os,I.bare,I.base,I.loc,I.cell,I.free,I.freeC,I.pin,I.hok,I.len⟩
theorem Inv.unwish (I:Inv (X.wish E) qc σ H s):Inv X qc σ H s:=⟨I.ok.unwish,I.os,I.bare,I.base,I.loc,I.cell,I.free,I.freeC,I.pin,I.hok,I.len⟩
theorem SP.unwish {D:ZiG}{f:Flow}{s':Shared}(h:SP (X.wish E) qc D f s'):SP X qc D f s':=by
 cases f with
 |next=>obtain⟨σ',H',I,q⟩:=h;exact⟨σ',H',I.unwish,q⟩
 |brk=>obtain⟨σ',H',I,q⟩:=h;exact⟨σ',H',I.unwish,q⟩
 |cont=>obtain⟨σ',H',I,q⟩:=h;exact⟨σ',H',I.unwish,q⟩
 |ret u=>obtain⟨v,σ',H',I,r,q⟩:=h;exact⟨v,σ',H',I.unwish,r,q⟩
theorem PSs.nox {st:List Stmt}{t:TS}(h:PSs X.nox st t):PSs X st t:=fun qc s σ H D I hw=>
 QbK (h qc s σ H D (I.wish _) hw) (fun _ _ q=>q.unwish) fun _ _ z=>False.elim z
end
section
variable {X:Cx}{st:Stmt}{rest:List Stmt}{t u:TS}{te:TE}
def Zcd:TS:=fun D σ H=>D.nx σ H
def Zbq (t u:TS):TS:=fun D σ H=>t {D with nx:=u D } σ H
theorem ZaU:PSs X [] Zcd:=fun _ _ σ H _ I h=>Qdp ⟨σ,H,I,h⟩
theorem Zaf (h1:PS X st t)(h2:PSs X rest u):PSs X (st::rest) (Zbq t u):=by
 intro qc s σ H D I h;refine wpAny_execs_cons (thn (h1 qc s σ H {D with nx:=u D } I h) fun f s1 q=> ?_)
 cases f with
 |next=>
  obtain⟨σ',H',I',q⟩:=q;exact h2 qc s1 σ' H' D I' q
 |ret v=>exact q
 |brk=>exact q
 |cont=>exact q
theorem Zah (h1:PS X st t):PSs X [st] t:=by
 intro qc s σ H D I h;refine wpAny_execs_cons (thn (h1 qc s σ H D I h) fun f s1 q=> ?_)
 cases f with
 |next=>exact Qdp q
 |ret v=>exact q
 |brk=>exact q
 |cont=>exact q
theorem Inv.quiet {σ:St}{H:Hp}(I:Inv X qc σ H s):interactive X.env=false:=by simp[interactive,I.ok.kind]
def Zfw (te:TE):TS:=fun D σ H=>te σ H fun _ H1=>D.nx σ H1
theorem Zce (he:PE X e te)(hs:swapsWith e none pos.line X.env=pure false:=by rfl):PS X (.Expr e pos) (Zfw te):=by
 intro qc s σ H D I h;exact wpAny_Expr_any (thn (he qc s σ H _ I h) fun v s1 ⟨x,H1,I1,r1,q1⟩=>⟨σ,H1,I1,q1⟩) I.quiet hs
def Zct (te:TE):TS:=fun D σ H=>te σ H D.rt
theorem ZaB (he:PE X e te):PS X (.Return (some e) pos) (Zct te):=by
 intro qc s σ H D I h;exact wpAny_Return_some (thn (he qc s σ H _ I h) fun v s1 ⟨x,H1,I1,r1,q1⟩=>⟨x,σ,H1,I1,r1,q1⟩)
def Zdg (c:TT)(t u:TS):TS:=fun D σ H=>c σ H fun b H1=>if b=true then t D σ H1 else u D σ H1
theorem ZbH {a b:List Stmt}{tc:TT}(hc:PT X c tc)(ha:PSs X a t)(hb:PSs X b u):PS X (.If c a b pos) (Zdg tc t u):=by
 intro qc s σ H D I h;refine wpAny_If (thn (hc qc s σ H _ I h) fun d s1 ⟨H1,I1,q1⟩=> ?_)
 cases d with
 |true=>exact ha qc s1 σ H1 D I1 q1
 |false=>exact hb qc s1 σ H1 D I1 q1
end
abbrev TG:=V→St→Hp→(St→Hp→Prop)→Prop
abbrev TGs:=List V→St→Hp→(St→Hp→Prop)→Prop
def PG (X:Cx)(target:Expr)(t:TG):Prop:=
 ∀(qc:List (Addr×Obj)) (s:Shared) (σ:St) (H:Hp) (v:V) (u:Value) (Q:St→Hp→Prop),Inv X qc σ H s→Zbd v u→t v σ H Q→
  wpAny (model X.prog X.w) X.A (assign target X.env u) (fun _ s'=>∃σ' H',Inv X qc σ' H' s'∧Q σ' H') X.xe s
def PGs (X:Cx)(ts:List Expr)(t:TGs):Prop:=
 ∀(qc:List (Addr×Obj)) (s:Shared) (σ:St) (H:Hp) (vs:List V) (us:List Value) (Q:St→Hp→Prop),Inv X qc σ H s→ZaZ vs us→t vs σ H Q→
  wpAny (model X.prog X.w) X.A (assignInOrder ((assignEach ts X.env).map (·.2)) us) (fun _ s'=>∃σ' H',Inv X qc σ' H' s'∧Q σ' H') X.xe s
abbrev Zo7:=V→V→V→Hp→(Hp→Prop)→Prop
def Zpy (X:Cx)(t:Zo7):Prop:=
 ∀(qc:List (Addr×Obj)) (s:Shared) (σ:St) (H:Hp) (o i v:V) (ov iv u:Value) (Q:Hp→Prop),Inv X qc σ H s→Zbd o ov→Zbd i iv→Zbd v u→t o i v H Q→
  wpAny (model X.prog X.w) X.A (setItem ov iv u) (fun _ s'=>∃H',Inv X qc σ H' s'∧Q H') X.xe s
section
variable {X:Cx}
def Zas (i:Nat):TG:=fun v σ H Q=>Q (σ.set i (some v)) H
theorem Zaj (hN:X.N.Nodup)(hi:X.N[i]?=some x)(hx:Loc X.env.scope x)(hf:X.fn x=true∨X.env.scope.names.lookup x=some .local:=by first|exact .inl rfl|exact .inr rfl|assumption):PG X (.Name x pos) (Zas i):=by
 intro qc s σ H v u Q I r h;exact wpAny_assign_Name (Zdp I hN hi hx r (fun s' I'=>⟨_,H,I',h⟩) hf)
def Zgs:TGs:=fun vs σ H Q=>vs=[]∧Q σ H
def Zbb (t:TG)(u:TGs):TGs:=fun vs σ H Q=>∃v r,vs=v::r∧t v σ H fun σ' H'=>u r σ' H' Q
theorem Zbe:PGs X [] Zgs:=by
 intro qc s σ H vs us Q I r h;obtain⟨e,h⟩:=h;subst e;cases r;exact assignInOrder_nil ⟨σ,H,I,h⟩
theorem Zaq {t:TG}{u:TGs}(h1:PG X e t)(h2:PGs X es u)
  (hs:(assignEach (e::es) X.env).map (·.2)=assign e X.env::(assignEach es X.env).map (·.2):=by rfl):PGs X (e::es) (Zbb t u):=by
 intro qc s σ H vs us Q I r h;obtain⟨v,vr,e1,h⟩:=h;subst e1
 cases r with
 |cons r rr=>
  rw[hs];refine Qdy (thn (h1 qc s σ H _ _ _ I r h) fun _ s1 ⟨σ1,H1,I1,q1⟩=> ?_);exact h2 qc s1 σ1 H1 _ _ Q I1 rr q1
def Zhk (K:PySem.W.Frag)(n:Nat)(t:TGs):TG:=fun v σ H Q=>∃a xs,v= .ref a∧SqT K H a xs∧xs.length=n∧t xs σ H Q
theorem Zcn {t:TGs}(hc:X.calm=true)(h:PGs X es t)
  (hn:(assignEach es X.env).length=n:=by rfl) (hst:(assignEach es X.env).findIdx? (·.1)=none:=by rfl):PG X (.Tuple es k pos) (Zhk X.K n t):=by
 intro qc s σ H v u Q I r hw;obtain⟨a,xs,e1,hq,hl,hw⟩:=hw;subst e1;cases r;obtain⟨its,rv,ht,hz⟩:=I.tuple hq;refine assign_Tuple_tuple (I.ok.hd hc) ht (by simp[hn,←hl,rv.length]) hst fun h' hx=> ?_;have I1:Inv X qc σ H {s with heap:=h' }:=I.kept (t':=s.toks) fun b o e=>hx b o (QaX (Qau e)) e;exact h qc _ σ H xs _ Q I1 (by simpa using rv) hw
def ZnM (to ti:TE)(t:Zo7):TG:=fun v σ H Q=>to σ H fun o H1=>ti σ H1 fun i H2=>t o i v H2 fun H3=>Q σ H3
theorem Zeo {o i:Expr}{to ti:TE}{t:Zo7}(ho:PE X o to)(hi:PE X i ti)(hs:Zpy X t)
  (ha:∀v,assign (.Subscript o i pos) X.env v=(do
   let ov←holding [v] (eval o X.env)
   let iv←holding [v,ov] (eval i X.env)
   standAt pos
   holding [v,ov,iv] (setItem ov iv v)
   release [v,ov,iv] []):=by intro _;rfl):PG X (.Subscript o i pos) (ZnM to ti t):=by
 intro qc s σ H v u Q I r h;rw[ha];refine Qad (Qbs (thn (ho qc s σ H _ I h) fun ov s1 ⟨x,H1,I1,r1,q1⟩=> ?_));refine Qad (Qbs (thn (hi qc s1 σ H1 _ I1 q1) fun iv s2 ⟨y,H2,I2,r2,q2⟩=> ?_));refine Qad (Qdj (Qad (Qbs (thn (hs qc s2 σ H2 x y v ov iv u _ I2 r1 r2 r q2) fun _ s3 ⟨H3,I3,q3⟩=> ?_))));exact wpAny_release ⟨σ,H3,I3,q3⟩
def ZbU (te:TE)(g:TG):TS:=fun D σ H=>te σ H fun x H1=>g x σ H1 D.nx
theorem Zb3 {te:TE}{g:TG}(he:PE X e te)(hg:PG X tg g)(hs:swapsWithSole [tg] e pos.line X.env=pure false:=by rfl)(hw:swappedStores [tg] e X.env=pure none:=by rfl)
  (h1:(assignEach [tg] X.env).map (·.2)=[assign tg X.env]:=by rfl):PS X (.Assign [tg] e pos) (ZbU te g):=by
 intro qc s σ H D I h;refine wpAny_Assign_stores (thn (he qc s σ H _ I h) fun v s1 ⟨x,H1,I1,r1,q1⟩=> ?_) hs hw;rw[h1];exact thn (hg qc s1 σ H1 x v _ I1 r1 q1) fun _ s2 q=>q
theorem Zav {te:TE}{pos':PySem.Pos}(hN:X.N.Nodup)(hi:X.N[i]?=some x)(hx:Loc X.env.scope x)(he:PE X e te)(hs:swapsWith e (some (.Name x pos')) pos.line X.env=pure false:=by rfl)(hf:X.fn x=true∨X.env.scope.names.lookup x=some .local:=by first|exact .inl rfl|exact .inr rfl|assumption):
  PS X (.Assign [.Name x pos'] e pos) (ZbU te (Zas i)):=by
 intro qc s σ H D I h;refine wpAny_Assign_Name (thn (he qc s σ H _ I h) fun v s1 ⟨y,H1,I1,r1,q1⟩=> ?_) hs;exact Zdp I1 hN hi hx r1 (fun s2 I2=>⟨_,H1,I2,q1⟩) hf
def Zpz (i j:Nat)(ta:TA):TS:=fun D σ H=>ta σ H fun vs H1=>∃v w,vs=[v,w]∧D.nx ((σ.set i (some v)).set j (some w)) H1
theorem ZnN {y:Str}{a b:Expr}{ta:TA}{px py pt:PySem.Pos}{kt k2 pt2}(hc:X.calm=true)(hN:X.N.Nodup)(hi:X.N[i]?=some x)(hj:X.N[j]?=some y)(hij:i≠j)
  (hx:X.env.scope.names.lookup x=some .local) (hy:X.env.scope.names.lookup y=some .local) (ha:PA X [a,b] ta)
  (hw:swappedStores [.Tuple [.Name x px,.Name y py] kt pt] (.Tuple [a,b] k2 pt2) X.env=pure (some [x,y]))
  (hs:swapsWithSole [.Tuple [.Name x px,.Name y py] kt pt] (.Tuple [a,b] k2 pt2) pos.line X.env=pure false:=by rfl):
  PS X (.Assign [.Tuple [.Name x px,.Name y py] kt pt] (.Tuple [a,b] k2 pt2) pos) (Zpz i j ta):=by
 intro qc s σ H D I h;rw[exec_Assign_arm];refine Qad (Qdj ?_);rw[hs];refine Qad (Qao ?_);rw[if_neg (by decide)];refine Qad (Tuple_ (thn (ha _ qc s σ H _ I h) fun us s1 ⟨vs,H1,I1,r1,q1⟩=> ?_));obtain⟨v,w,e1,q1⟩:=q1;subst e1
 obtain⟨u1,u2,rfl,rv,rw'⟩:∃u1 u2,us=[u1,u2]∧Zbd v u1∧Zbd w u2:=by
  cases r1 with
  |cons p q=>
   cases q with
   |cons p' q'=>
    cases q';exact⟨_,_,rfl,p,p'⟩
 refine QbC ?_ (by show 2≤sizeLine;decide);have I2:Inv X qc σ H1 {s1 with heap:=s1.heap.push {cls:=.type "tuple",data:=.seq [u1,u2].toArray } }:=I1.kept (t':=s1.toks) fun b o e=>Qak _ e;rw[hw];refine Qad (Qao ?_);show wpAny (model X.prog X.w) X.A (do rule "assign.swapped-stores";let items←unpackItems (.ref s1.heap.objs.size) 2 none;assignInOrder [fun v=>bindName X.env y v,fun v=>bindName X.env x v] items.reverse;pure Flow.next) _ _ _;refine Qad (Qcj (Qad (unpackItems_tuple (items:=#[u1,u2]) (I.ok.hd hc) (QeR s1.heap _) fun h' hx'=> ?_)));have I3:=I2.kept (h':=h') (t':=s1.toks) fun b o e=>hx' b o (QaX (Qau e)) e;show wpAny _ _ (assignInOrder [fun v=>bindName X.env y v,fun v=>bindName X.env x v] [u2,u1]>>=fun _=>pure Flow.next) _ _ _;refine Qad (Qdy (wpAny_bindName (Zdp I3 hN hj (.inl hy) rw' (fun s2 I4=> ?_) (.inr hy))));refine Qdy (wpAny_bindName (Zdp I4 hN hi (.inl hx) rv (fun s3 I5=>assignInOrder_nil (Qao ?_)) (.inr hx)));rw[List.set_comm _ _ (Ne.symm hij)] at I5;exact⟨_,H1,I5,q1⟩
end
section
variable {X:Cx}
def Zhl (c:TT)(tb:TS):TS:=fun D σ H=>∃W:Nat→St→Hp→Prop,(∃m,W m σ H)∧∀m σ H,W m σ H→
 c σ H fun b H1=>if b=true then∃N:St→Hp→Prop,(∀σ' H',N σ' H'→∃m',m'<m∧W m' σ' H')∧tb {D with nx:=N,ct:=N,bk:=D.nx } σ H1 else D.nx σ H1
theorem ZeE {tc:TT}{tb:TS}(hp:PassesOwn (model X.prog X.w) X.A X.env X.xe)(hc:PT X c tc)(hb:PSs X body tb):PS X (.While c body [] pos) (Zhl tc tb):=by
 intro qc s σ H D I h;obtain⟨W,⟨m0,w0⟩,turn⟩:=h;refine wpAny_While (codeAny_whileLoop (fun n s'=>∃σ' H',Inv X qc σ' H' s'∧W n σ' H') ?_ m0 ⟨σ,H,I,w0⟩);rintro n s1 ⟨σ1,H1,I1,w1⟩;refine Qb6 hp (thn (hc qc s1 σ1 H1 _ I1 (turn n σ1 H1 w1)) fun b s2 ⟨H2,I2,q2⟩=> ?_)
 cases b with
 |true=>
  obtain⟨N,hN,q2⟩:=q2;rw[if_pos rfl];refine Qb6 hp (thn (hb qc s2 σ1 H2 _ I2 q2) fun f s3 q3=> ?_)
  cases f with
  |next=>
   obtain⟨σ3,H3,I3,n3⟩:=q3;obtain⟨m',hm,w3⟩:=hN σ3 H3 n3;exact⟨m',hm,σ3,H3,I3,w3⟩
  |cont=>
   obtain⟨σ3,H3,I3,n3⟩:=q3;obtain⟨m',hm,w3⟩:=hN σ3 H3 n3;exact⟨m',hm,σ3,H3,I3,w3⟩
  |brk=>exact q3
  |ret v=>exact q3
 |false=>
  rw[if_neg QaG];exact Qdp ⟨σ1,H2,I2,q2⟩
end
structure It where
 go:Nat→Hp→Prop
 yld:Nat→Hp→V→Hp→Prop
 stop:Nat→Hp→Prop
def ZkL (X:Cx)(qc:List (Addr×Obj))(H:Hp)(b:Addr):Prop:=
 H b=none∧b≠X.env.locals∧b∉X.fs∧(b∈X.ex∨X.s₀.heap.objs.size≤b)∧(∀x c,X.env.cells.lookup x=some c→c≠b)∧∀p∈X.pn++qc,p.1≠b
theorem Inv.fpOk {X:Cx}{σ:St}{H H':Hp}(I:Inv X qc σ H s)(hb:s.heap.objs.size≤b)(hn:H' b=none):ZkL X qc H' b:=by
 refine⟨hn,QeK (QaU I.lt hb),I.nofs hb,.inr (QaI I.sz hb),fun x c e z=> ?_,fun p hp z=> ?_⟩
 ·obtain⟨v,q⟩:=I.cell x c e;exact absurd (QaU q.lt (by rw[z];exact hb)) (QbG _)
 ·exact absurd (QaU (Qau (I.pin p hp).1) (by rw[z];exact hb)) (QbG _)
structure Zmw (P:Program)(w:World)(K:PySem.W.Frag)(tg:Expr)(J:It)(fp:List Addr)(it:Addr)(tn:Nat→Heap→Prop):Prop where
 mem:it∈fp
 obj:∀i h,tn i h→∀b∈fp,∃o,h.get? b=some o∧∀v,o.data≠ .cell v
 keep:∀i h h',tn i h→(∀b∈fp,∀o,h.get? b=some o→h'.get? b=some o)→tn i h'
 item:∀(X:Cx),X.prog=P→X.w=w→X.K=K→X.calm=true→∀(i:Nat) (qc:List (Addr×Obj)) (s:Shared) (σ:St) (H:Hp) (E:Value→Shared→Prop),Inv X qc σ H s→(∀b∈fp,ZkL X qc H b)→tn i s.heap→J.go i H→
  wpAny (model P w) X.A (pyNext (.ref it)) (fun r s1=>∃u,r=some u∧
   wpAny (model P w) X.A (letOwnedTupleGo tg (.ref it) u) (fun _ s2=>∃x H',Inv X qc σ H' s2∧Zbd x u∧J.yld i H x H'∧tn (i+1) s2.heap∧∀b∈fp,H' b=none) E s1) E s
 done:∀(X:Cx),X.prog=P→X.w=w→X.K=K→X.calm=true→∀(i:Nat) (qc:List (Addr×Obj)) (s:Shared) (σ:St) (H:Hp) (E:Value→Shared→Prop),Inv X qc σ H s→(∀b∈fp,ZkL X qc H b)→tn i s.heap→J.stop i H→
  wpAny (model P w) X.A (pyNext (.ref it)) (fun r s1=>r=none∧Inv X qc σ H s1) E s
 self:∀(A:Around) (i:Nat) (s:Shared) (Q:Value→Shared→Prop) (E:Value→Shared→Prop),tn i s.heap→Q (.ref it) s→wpAny (model P w) A (pyIter (.ref it)) Q E s
abbrev TI:=St→Hp→(It→Hp→Prop)→Prop
def PIE (X:Cx)(qc:List (Addr×Obj))(σ:St)(tg:Expr)(R:It→Hp→Prop)(itv:Value)(s2:Shared):Prop:=
 ∃(it:Addr) (fp:List Addr) (tn:Nat→Heap→Prop) (J:It) (H':Hp),itv= .ref it∧Inv X qc σ H' s2∧Zmw X.prog X.w X.K tg J fp it tn∧tn 0 s2.heap∧(∀b∈fp,ZkL X qc H' b)∧R J H'
def PI (X:Cx)(tg qp:Expr)(wi:TI):Prop:=
 ∀(qc:List (Addr×Obj)) (s:Shared) (σ:St) (H:Hp) (R:It→Hp→Prop),Inv X qc σ H s→wi σ H R→
  wpAny (model X.prog X.w) X.A (eval qp X.env) (fun v s1=>wpAny (model X.prog X.w) X.A (pyIter v) (PIE X qc σ tg R) X.xe s1) X.xe s
theorem ZkM {it:Addr}{n:String}{vs:Array Value}(ho:s.heap.get? it=some o)(hc:o.cls= .type n)(hd:o.data= .fields vs)
  (hn:["enumerate", "zip", "dict_itemiterator", "dict_reverseitemiterator", "odict_iterator", "itertools.zip_longest", "itertools.pairwise"].contains n=false) (hQ:Q () s):wpAny M A (letOwnedTupleGo tg (.ref it) u) Q E s:=by
 unfold letOwnedTupleGo
 cases tg<;>first
  |exact Qao hQ
  | (cases u<;>first
    |exact Qao hQ
    | (refine Qad (wpAny_load ho ?_)
       rw[hc,hd]
       show wpAny M A (if(["enumerate", "zip", "dict_itemiterator", "dict_reverseitemiterator", "odict_iterator", "itertools.zip_longest", "itertools.pairwise"].contains n && vs[0]?==some (rawInt _))=true then _ else _) Q E s
       rw[if_neg (by intro h;rw[hn,Qc8] at h;cases h)]
       exact Qao hQ))
def Itl (K:PySem.W.Frag)(a:Addr):It:=
 ⟨fun i H=>∃xs x,SqL K H a xs∧xs[i]?=some x,fun i H x H'=>H'=H∧∀xs,SqL K H a xs→xs[i]?=some x,fun i H=>∃xs,SqL K H a xs∧xs.length≤i⟩
def Itt (K:PySem.W.Frag)(a:Addr):It:=
 ⟨fun i H=>∃xs x,SqT K H a xs∧xs[i]?=some x,fun i H x H'=>H'=H∧∀xs,SqT K H a xs→xs[i]?=some x,fun i H=>∃xs,SqT K H a xs∧xs.length≤i⟩
def Itr (lo:Int)(n:Nat):It:=⟨fun i _=>i<n,fun i H x H'=>H'=H∧x= .int (lo+i),fun i _=>n≤i⟩
theorem ZiL {K:PySem.W.Frag}(a it:Addr):Zmw P w K tg (Itl K a) [it] it (fun i h=>h.IsListIter it a i) where
 mem:=by simp
 obj:=fun i h st b hb=>by
  have e:b=it:=by simpa using hb
  subst e;obtain⟨o,e,c,d⟩:=st;exact⟨o,e,fun v z=>by rw[d] at z;cases z⟩
 keep:=fun i h h' st k=>st.at fun o e=>k it (by simp) o e
 item:=by
  intro X hP hw hK hc i qc s σ H E I hf st hg;subst hP hw hK;obtain⟨xs,x,hq,hx⟩:=hg;obtain⟨its,rv,p,hz⟩:=I.list hq;obtain⟨u,hu,ru⟩:=rv.get hx;obtain⟨f0,f1,f2,f3,f4,f5⟩:=hf it (by simp);refine Qd9 st p.isList (x:=u) (by simpa using hu) fun h' st' sb=> ?_;have I1:Inv X qc σ H {s with heap:=h' }:=I.turned (t':=s.toks) (fun b o hb e=>(sb.2 b hb).trans e) f0 f1 f3 f4 f5;obtain⟨o,e,c,d⟩:=id st';exact⟨u,rfl,ZkM (s:={s with heap:=h' }) e c d (by decide) ⟨x,H,I1,ru,⟨rfl,fun ys hy=>by rw[I.list_inj hy hq];exact hx⟩,st',fun b hb=>(hf b hb).1⟩⟩
 done:=by
  intro X hP hw hK hc i qc s σ H E I hf st hg;subst hP hw hK;obtain⟨xs,hq,hx⟩:=hg;obtain⟨its,rv,p,hz⟩:=I.list hq;obtain⟨f0,f1,f2,f3,f4,f5⟩:=hf it (by simp);have hl:=rv.length;exact Qej (I.ok.hd hc) st p.isList (by simp;omega) fun h' eb=>⟨rfl,I.turned (t':=s.toks) (fun b o hb e=>eb b o hb e) f0 f1 f3 f4 f5⟩
 self:=fun _ _ _ _ _ st h=>wpAny_pyIter_listiter st h
theorem Zh2 {K:PySem.W.Frag}(a it:Addr):Zmw P w K tg (Itt K a) [it] it (fun i h=>h.IsTupleIter it a i) where
 mem:=by simp
 obj:=fun i h st b hb=>by
  have e:b=it:=by simpa using hb
  subst e;obtain⟨o,e,c,d⟩:=st;exact⟨o,e,fun v z=>by rw[d] at z;cases z⟩
 keep:=fun i h h' st k=>st.at fun o e=>k it (by simp) o e
 item:=by
  intro X hP hw hK hc i qc s σ H E I hf st hg;subst hP hw hK;obtain⟨xs,x,hq,hx⟩:=hg;obtain⟨its,rv,p,hz⟩:=I.tuple hq;obtain⟨u,hu,ru⟩:=rv.get hx;obtain⟨f0,f1,f2,f3,f4,f5⟩:=hf it (by simp);refine wpAny_pyNext_tuple_item st (show s.heap.IsTuple a its.toArray from p) (x:=u) (by simpa using hu) fun h' st' sb=> ?_;have I1:Inv X qc σ H {s with heap:=h' }:=I.turned (t':=s.toks) (fun b o hb e=>(sb.2 b hb).trans e) f0 f1 f3 f4 f5;obtain⟨o,e,c,d⟩:=id st';exact⟨u,rfl,ZkM (s:={s with heap:=h' }) e c d (by decide) ⟨x,H,I1,ru,⟨rfl,fun ys hy=>by rw[I.tuple_inj hy hq];exact hx⟩,st',fun b hb=>(hf b hb).1⟩⟩
 done:=by
  intro X hP hw hK hc i qc s σ H E I hf st hg;subst hP hw hK;obtain⟨xs,hq,hx⟩:=hg;obtain⟨its,rv,p,hz⟩:=I.tuple hq;obtain⟨f0,f1,f2,f3,f4,f5⟩:=hf it (by simp);have hl:=rv.length;exact wpAny_pyNext_tuple_end (I.ok.hd hc) st (show s.heap.IsTuple a its.toArray from p) (by simp;omega) fun h' eb=>⟨rfl,I.turned (t':=s.toks) (fun b o hb e=>eb b o hb e) f0 f1 f3 f4 f5⟩
 self:=fun _ _ _ _ _ st h=>wpAny_pyIter_tupleiter st h
theorem Zh3 {K:PySem.W.Frag}(it:Addr)(lo:Int)(n:Nat):Zmw P w K tg (Itr lo n) [it] it (fun i h=>IsRangeIter h it (lo+(i:Nat)*1) ((n:Int)-(i:Nat)) 1) where
 mem:=by simp
 obj:=fun i h st b hb=>by
  have e:b=it:=by simpa using hb
  subst e
  exact⟨_,st,fun v z=>by
   have z':Data.fields _=Data.cell v:=z
   cases z'⟩
 keep:=fun i h h' st k=>k it (by simp) _ st
 item:=by
  intro X hP hw hK hc i qc s σ H E I hf st hg;subst hP hw hK;obtain⟨f0,f1,f2,f3,f4,f5⟩:=hf it (by simp);have W:=Walks.range (prog:=X.prog) (w:=X.w) (I.ok.hd hc) it lo 1 n;refine W.item i s _ _ hg st fun v h' tk hv st' kk=> ?_;obtain⟨t,rfl⟩:=hv;have I1:Inv X qc σ H {s with heap:=h',toks:=tk }:=I.turned (fun b o hb e=>kk b o (by simpa using hb) e) f0 f1 f3 f4 f5;refine⟨_,rfl,ZkM (s:={s with heap:=h',toks:=tk }) (n:= "range_iterator") st' rfl rfl (by decide) ⟨.int (lo+i),H,I1,⟨t,?_⟩,⟨rfl,rfl⟩,st',fun b hb=>(hf b hb).1⟩⟩;rw[Int.mul_one]
 done:=by
  intro X hP hw hK hc i qc s σ H E I hf st hg;subst hP hw hK;obtain⟨f0,f1,f2,f3,f4,f5⟩:=hf it (by simp);exact wpAny_pyNext_range_end (I.ok.hd hc) st (by have:n≤i:=hg;omega) fun h' eb=>⟨rfl,I.turned (t':=s.toks) (fun b o hb e=>eb b o hb e) f0 f1 f3 f4 f5⟩
 self:=fun _ _ _ _ _ st h=>wpAny_pyIter_rangeiter st h
section
variable {X:Cx}
def Zc4 (K:PySem.W.Frag)(tl:TE):TI:=fun σ H R=>tl σ H fun x H1=>∃a,x= .ref a∧(∃xs,SqL K H1 a xs)∧R (Itl K a) H1
def ZlL (K:PySem.W.Frag)(tl:TE):TI:=fun σ H R=>tl σ H fun x H1=>∃a,x= .ref a∧(∃xs,SqT K H1 a xs)∧R (Itt K a) H1
theorem Za3 {tl:TE}(hl:PE X l tl):PI X tg l (Zc4 X.K tl):=by
 intro qc s σ H R I h;refine thn (hl qc s σ H _ I h) fun v s1 ⟨x,H1,I1,r1,q1⟩=> ?_;obtain⟨a,e,⟨xs,hq⟩,q⟩:=q1;subst e;cases r1;obtain⟨its,rv,p,hz⟩:=I1.list hq;refine QcX p.isList ?_;refine⟨s1.heap.objs.size,[s1.heap.objs.size],_,_,H1,rfl,I1.kept (t':=s1.toks) fun b o e=>Qak _ e,ZiL a _,⟨_,QaQ _ rfl,rfl,rfl⟩,fun b hb=> ?_,q⟩;have e:b=s1.heap.objs.size:=by simpa using hb
 subst e;exact I1.fpOk (Qaf _) (I1.hok.fresh (Qaf _))
theorem ZcT {tl:TE}(hl:PE X l tl):PI X tg l (ZlL X.K tl):=by
 intro qc s σ H R I h;refine thn (hl qc s σ H _ I h) fun v s1 ⟨x,H1,I1,r1,q1⟩=> ?_;obtain⟨a,e,⟨xs,hq⟩,q⟩:=q1;subst e;cases r1;obtain⟨its,rv,p,hz⟩:=I1.tuple hq;refine wpAny_pyIter_tuple (show s1.heap.IsTuple a its.toArray from p) ?_;refine⟨s1.heap.objs.size,[s1.heap.objs.size],_,_,H1,rfl,I1.kept (t':=s1.toks) fun b o e=>Qak _ e,Zh2 a _,⟨_,QaQ _ rfl,rfl,rfl⟩,fun b hb=> ?_,q⟩;have e:b=s1.heap.objs.size:=by simpa using hb
 subst e;exact I1.fpOk (Qaf _) (I1.hok.fresh (Qaf _))
theorem Zhm {σ:St}{H:Hp}{R:It→Hp→Prop}{hi:Int}{t u v:Tok}{tk:Nat}(I:Inv X qc σ H s)(h1: -(2^62)≤lo)(h2:lo<2^62)(h3: -(2^62)≤hi)(h4:hi<2^62)
  (q:R (Itr lo (hi-lo).toNat) H):wpAny (model X.prog X.w) X.A (pyIter (.ref s.heap.objs.size)) (PIE X qc σ tg R) E {s with heap:=s.heap.push {cls:=.type "range",data:=.fields #[.int lo t,.int hi u,.int 1 v] },toks:=tk }:=by
 refine wpAny_pyIter_range (IsRange.new ..) (small_one h1 h2 h3 h4) ?_;have I1:Inv X qc σ H {s with heap:=s.heap.push {cls:=.type "range",data:=.fields #[.int lo t,.int hi u,.int 1 v] },toks:=tk }:=I.kept fun b o e=>Qak _ e
 refine⟨(s.heap.push {cls:=.type "range",data:=.fields #[.int lo t,.int hi u,.int 1 v] }).objs.size,[(s.heap.push {cls:=.type "range",data:=.fields #[.int lo t,.int hi u,.int 1 v] }).objs.size],_,_,H,rfl,
  I1.kept (t':=tk) fun b o e=>Qak _ e,Zh3 _ lo (hi-lo).toNat,?_,fun b hb=> ?_,q⟩
 ·have e1:lo+((0:Nat):Int)*1=lo:=by simp
  have e2:(((hi-lo).toNat:Nat):Int)-((0:Nat):Int)=Builtin.Range.rangeSize lo hi 1:=by rw[rangeSize_one];split<;>omega
  show IsRangeIter _ _ (lo+((0:Nat):Int)*1) ((((hi-lo).toNat:Nat):Int)-((0:Nat):Int)) 1;rw[e1,e2];exact QaQ _ rfl
 ·have e:b=(s.heap.push {cls:=.type "range",data:=.fields #[.int lo t,.int hi u,.int 1 v] }).objs.size:=by simpa using hb
  subst e;exact I1.fpOk (Qaf _) (I1.hok.fresh (Qaf _))
def Zgt (ta:TA):TI:=fun σ H R=>ta σ H fun vs H1=>∃j:Int,vs=[.int j]∧-(2^62)≤j∧j<2^62∧R (Itr 0 j.toNat) H1
def Zo8 (ta:TA):TI:=fun σ H R=>ta σ H fun vs H1=>∃i j:Int,vs=[.int i,.int j]∧(-(2^62)≤i∧i<2^62∧-(2^62)≤j∧j<2^62)∧R (Itr i (j-i).toNat) H1
theorem Zbf {a:Expr}{ta:TA}(hg:Gl X "range")(hm:X.mg "range" =none)(ha:PA X [a] ta)(hs:starEach [a] X.env=[(false,eval a X.env)]:=by rfl):PI X tg (.Call (.Name "range" p) [a] [] pos) (Zgt ta):=by
 intro qc s σ H R I h;refine Call_ (Zdz I hg hm boot_range (QbH (thn (ha pos qc s σ H _ I h) fun us s1 ⟨vs,H1,I1,r1,q1⟩=> ?_) hs rfl));obtain⟨j,e,q1,q2,q⟩:=q1;subst e
 cases r1 with
 |cons r rr=>
  cases rr;obtain⟨t,rfl⟩:=r;exact call_range_1 (Zhm I1 (by omega) (by omega) q1 q2 (by simpa using q))
theorem ZiM {a b:Expr}{ta:TA}(hg:Gl X "range")(hm:X.mg "range" =none)(ha:PA X [a,b] ta)(hs:starEach [a,b] X.env=[(false,eval a X.env),(false,eval b X.env)]:=by rfl)(hs2:starEach [b] X.env=[(false,eval b X.env)]:=by rfl):
  PI X tg (.Call (.Name "range" p) [a,b] [] pos) (Zo8 ta):=by
 intro qc s σ H R I h;refine Call_ (Zdz I hg hm boot_range (QbH (thn (ha pos qc s σ H _ I h) fun us s1 ⟨vs,H1,I1,r1,q1⟩=> ?_) (by rw[hs,hs2]) (by rw[hs2];rfl)));obtain⟨i,j,e,⟨q1,q2,q3,q4⟩,q⟩:=q1;subst e
 cases r1 with
 |cons r rr=>
  cases rr with
  |cons r' rr=>
   cases rr;obtain⟨t,rfl⟩:=r;obtain⟨t',rfl⟩:=r';exact call_range_2 (Zhm I1 q1 q2 q3 q4 q)
def Ziz (wi:TI)(g:TG)(tb:TS):TS:=fun D σ H=>wi σ H fun J H1=>∃W:Nat→Nat→St→Hp→Prop,(∃m,W 0 m σ H1)∧∀i m σ H,W i m σ H→
 (J.stop i H∧D.nx σ H)∨(J.go i H∧∃N:St→Hp→Prop,(∀σ' H',N σ' H'→∃m',m'<m∧W (i+1) m' σ' H')∧∀x H',J.yld i H x H'→g x σ H' fun σ2 H2=>tb {D with nx:=N,ct:=N,bk:=D.nx } σ2 H2)
def Zfx (fp:List Addr)(h:Heap):List (Addr×Obj):=fp.filterMap fun b=>(h.get? b).map fun o=>(b,o)
theorem Zcz (hb:b∈fp)(e:h.get? b=some o):(b,o)∈Zfx fp h:=List.mem_filterMap.mpr ⟨b,hb,by rw[e];rfl⟩
theorem ZiN {p:Addr×Obj}(hp:p∈Zfx fp h):p.1∈fp∧h.get? p.1=some p.2:=by
 obtain⟨b,hb,e⟩:=List.mem_filterMap.mp hp
 cases q:h.get? b with
 |none=>rw[q] at e;cases e
 |some o=>
  rw[q] at e;have e':(b,o)=p:=QaR e;subst e';exact⟨hb,q⟩
theorem Inv.pinned {σ:St}{H:Hp}(I:Inv X qc σ H s)(hf:∀b∈fp,ZkL X qc H b)(ho:∀b∈fp,∃o,s.heap.get? b=some o∧∀v,o.data≠ .cell v):Inv X (qc++Zfx fp s.heap) σ H s:=
 I.pins_of fun p hp=>(Qaq.mp hp).elim (fun z=>I.pin p (Qas _ z)) fun z=>by
  obtain⟨hb,e⟩:=ZiN z;obtain⟨f0,f1,f2,_⟩:=hf p.1 hb;obtain⟨o,e',d⟩:=ho p.1 hb;rw[e] at e';cases e';exact⟨e,f0,f1,f2,d⟩
theorem Inv.unpinned {pl:List (Addr×Obj)}{σ:St}{H:Hp}(I:Inv X (qc++pl) σ H s):Inv X qc σ H s:=I.pins_of fun p hp=>I.pin p (Qas _ (QaL _ hp))
theorem Zby {qp:Expr}{wi:TI}{g:TG}{tb:TS}(hp:PassesOwn (model X.prog X.w) X.A X.env X.xe)(hc:X.calm=true)(hi:PI X tg qp wi)(hg:PG X tg g)(hb:PSs X body tb)
  (hs:∀x,foldedSetIterable qp X.env x=pure x:=by intro _;rfl):PS X (.For tg qp body [] pos) (Ziz wi g tb):=by
 intro qc s σ H D I h;refine wpAny_For (thn (hi qc s σ H _ I h) fun v s1 h1=>thn h1 fun itv s2 h2=> ?_) hs;obtain⟨it,fp,tn,J,H2,e,I2,T,st2,f2,W,⟨m0,w0⟩,turn⟩:=h2;subst e;have stat:∀{H':Hp},(∀b∈fp,H' b=none)→∀b∈fp,ZkL X qc H' b:=fun hn b hb=>⟨hn b hb,(f2 b hb).2⟩;refine codeAny_forLoop_any (fun n s'=>∃i σ' H',Inv X qc σ' H' s'∧tn i s'.heap∧(∀b∈fp,H' b=none)∧W i n σ' H') ?_ m0 ⟨0,σ,H2,I2,st2,fun b hb=>(f2 b hb).1,w0⟩;rintro n s3 ⟨i,σ3,H3,I3,st3,fr3,w3⟩;rcases turn i n σ3 H3 w3 with⟨stop,qn⟩|⟨go,N,hN,step⟩
 ·refine Qb6 hp (thn (T.done X rfl rfl rfl hc i qc s3 σ3 H3 X.xe I3 (stat fr3) st3 stop) fun r s4 ⟨hr,I4⟩=> ?_);subst hr;exact Qdp ⟨σ3,H3,I4,qn⟩
 ·refine Qb6 hp (thn (T.item X rfl rfl rfl hc i qc s3 σ3 H3 X.xe I3 (stat fr3) st3 go) fun r s4 ⟨u,hr,h4⟩=> ?_);subst hr;refine Qb6 hp (thn h4 fun _ s5 ⟨x,H5,I5,r5,y5,st5,fr5⟩=> ?_);have I5':=I5.pinned (stat fr5) (T.obj _ _ st5);refine Qb6 hp (thn (hg _ s5 σ3 H5 x u _ I5' r5 (step x H5 y5)) fun _ s6 ⟨σ6,H6,I6,q6⟩=> ?_);refine Qb6 hp (thn (hb _ s6 σ6 H6 _ I6 q6) fun f s7 q7=> ?_)
  have again:∀{σ7:St} {H7:Hp},Inv X (qc++Zfx fp s5.heap) σ7 H7 s7→N σ7 H7→∃m,m<n∧∃i σ' H',Inv X qc σ' H' s7∧tn i s7.heap∧(∀b∈fp,H' b=none)∧W i m σ' H':=fun{σ7 H7} I7 n7=>by
   obtain⟨m',hm,w7⟩:=hN σ7 H7 n7;refine⟨m',hm,i+1,σ7,H7,I7.unpinned,T.keep _ _ _ st5 fun b hb o e=>(I7.pin (b,o) (Qas _ (Qas _ (Zcz hb e)))).1,fun b hb=> ?_,w7⟩;obtain⟨o,e,d⟩:=T.obj _ _ st5 b hb;exact(I7.pin (b,o) (Qas _ (Qas _ (Zcz hb e)))).2.1
  cases f with
  |next=>obtain⟨σ7,H7,I7,n7⟩:=q7;exact again I7 n7
  |cont=>obtain⟨σ7,H7,I7,n7⟩:=q7;exact again I7 n7
  |brk=>obtain⟨σ7,H7,I7,q7⟩:=q7;exact⟨σ7,H7,I7.unpinned,q7⟩
  |ret v=>obtain⟨x7,σ7,H7,I7,r7,q7⟩:=q7;exact⟨x7,σ7,H7,I7.unpinned,r7,q7⟩
end
theorem ZbI {K:PySem.W.Frag}{xs:List V}{g:TG}{tb:TS}{D:ZiG}{σ:St}{H:Hp}(Pv:Nat→St→Hp→Prop)(h0:Pv 0 σ H)(hl:∀i σ H,i≤xs.length→Pv i σ H→SqL K H a xs)
  (hs:∀i x σ H,xs[i]?=some x→Pv i σ H→g x σ H fun σ2 H2=>tb {D with nx:=Pv (i+1),ct:=Pv (i+1),bk:=D.nx } σ2 H2) (hd:∀σ H,Pv xs.length σ H→D.nx σ H):
  ∃W:Nat→Nat→St→Hp→Prop,(∃m,W 0 m σ H)∧∀i m σ H,W i m σ H→
   ((Itl K a).stop i H∧D.nx σ H)∨((Itl K a).go i H∧∃N:St→Hp→Prop,(∀σ' H',N σ' H'→∃m',m'<m∧W (i+1) m' σ' H')∧∀x H',(Itl K a).yld i H x H'→g x σ H' fun σ2 H2=>tb {D with nx:=N,ct:=N,bk:=D.nx } σ2 H2):=by
 refine⟨fun i m σ H=>m=xs.length-i∧i≤xs.length∧Pv i σ H,⟨xs.length,by simp,QaW _,h0⟩,?_⟩;rintro i m σ H ⟨rfl,hi,p⟩;have q:=hl i σ H hi p;by_cases hlt:i<xs.length
 ·refine .inr ⟨⟨xs,xs[i],q,by simp[hlt]⟩,Pv (i+1),fun σ' H' p'=>⟨xs.length-(i+1),by omega,rfl,hlt,p'⟩,fun x H' y=> ?_⟩;obtain⟨e,y⟩:=y;subst e;exact hs i x σ _ (y xs q) p
 ·have e:i=xs.length:=by omega
  subst e;exact .inl ⟨⟨xs,q,Qaf _⟩,hd σ H p⟩
theorem ZiO {K:PySem.W.Frag}{xs:List V}{g:TG}{tb:TS}{D:ZiG}{σ:St}{H:Hp}(Pv:Nat→St→Hp→Prop)(h0:Pv 0 σ H)(hl:∀i σ H,i≤xs.length→Pv i σ H→SqT K H a xs)
  (hs:∀i x σ H,xs[i]?=some x→Pv i σ H→g x σ H fun σ2 H2=>tb {D with nx:=Pv (i+1),ct:=Pv (i+1),bk:=D.nx } σ2 H2) (hd:∀σ H,Pv xs.length σ H→D.nx σ H):
  ∃W:Nat→Nat→St→Hp→Prop,(∃m,W 0 m σ H)∧∀i m σ H,W i m σ H→
   ((Itt K a).stop i H∧D.nx σ H)∨((Itt K a).go i H∧∃N:St→Hp→Prop,(∀σ' H',N σ' H'→∃m',m'<m∧W (i+1) m' σ' H')∧∀x H',(Itt K a).yld i H x H'→g x σ H' fun σ2 H2=>tb {D with nx:=N,ct:=N,bk:=D.nx } σ2 H2):=by
 refine⟨fun i m σ H=>m=xs.length-i∧i≤xs.length∧Pv i σ H,⟨xs.length,by simp,QaW _,h0⟩,?_⟩;rintro i m σ H ⟨rfl,hi,p⟩;have q:=hl i σ H hi p;by_cases hlt:i<xs.length
 ·refine .inr ⟨⟨xs,xs[i],q,by simp[hlt]⟩,Pv (i+1),fun σ' H' p'=>⟨xs.length-(i+1),by omega,rfl,hlt,p'⟩,fun x H' y=> ?_⟩;obtain⟨e,y⟩:=y;subst e;exact hs i x σ _ (y xs q) p
 ·have e:i=xs.length:=by omega
  subst e;exact .inl ⟨⟨xs,q,Qaf _⟩,hd σ H p⟩
theorem Zb9 {g:TG}{tb:TS}{D:ZiG}{σ:St}{H:Hp}(Pv:Nat→St→Hp→Prop)(h0:Pv 0 σ H)
  (hs:∀i σ H,i<n→Pv i σ H→g (.int (lo+i)) σ H fun σ2 H2=>tb {D with nx:=Pv (i+1),ct:=Pv (i+1),bk:=D.nx } σ2 H2) (hd:∀σ H,Pv n σ H→D.nx σ H):
  ∃W:Nat→Nat→St→Hp→Prop,(∃m,W 0 m σ H)∧∀i m σ H,W i m σ H→
   ((Itr lo n).stop i H∧D.nx σ H)∨((Itr lo n).go i H∧∃N:St→Hp→Prop,(∀σ' H',N σ' H'→∃m',m'<m∧W (i+1) m' σ' H')∧∀x H',(Itr lo n).yld i H x H'→g x σ H' fun σ2 H2=>tb {D with nx:=N,ct:=N,bk:=D.nx } σ2 H2):=by
 refine⟨fun i m σ H=>m=n-i∧i≤n∧Pv i σ H,⟨n,by simp,QaW _,h0⟩,?_⟩;rintro i m σ H ⟨rfl,hi,p⟩;by_cases hlt:i<n
 ·refine .inr ⟨hlt,Pv (i+1),fun σ' H' p'=>⟨n-(i+1),by omega,rfl,hlt,p'⟩,fun x H' y=> ?_⟩;obtain⟨e,y⟩:=y;subst e y;exact hs i σ _ hlt p
 ·have e:i=n:=by omega
  subst e;exact .inl ⟨Qaf _,hd σ H p⟩
theorem Zdq {c:TT}{tb:TS}{D:ZiG}{σ:St}{H:Hp}(Pv:St→Hp→Prop)(μ:St→Hp→Nat)(h0:Pv σ H)
  (hs:∀σ H,Pv σ H→c σ H fun b H1=>if b=true then tb {D with nx:=fun σ' H'=>Pv σ' H'∧μ σ' H'<μ σ H,ct:=fun σ' H'=>Pv σ' H'∧μ σ' H'<μ σ H,bk:=D.nx } σ H1 else D.nx σ H1)
  (mono:∀σ H Q Q',(∀b H1,Q b H1→Q' b H1)→c σ H Q→c σ H Q'):Zhl c tb D σ H:=by
 refine⟨fun m σ H=>m=μ σ H∧Pv σ H,⟨_,rfl,h0⟩,?_⟩;rintro m σ H ⟨rfl,p⟩;refine mono σ H _ _ (fun b H1 q=> ?_) (hs σ H p)
 cases b with
 |true=>exact⟨_,fun σ' H' ⟨p',l⟩=>⟨_,l,rfl,p'⟩,q⟩
 |false=>exact q
abbrev R2:=V→V→Hp→VK→Prop
def OpR (X:Cx)(f:Value→Value→Sem Value)(r:R2):Prop:=
 ∀(qc:List (Addr×Obj)) (s:Shared) (σ:St) (H:Hp) (x y:V) (v u:Value) (Q:VK),Inv X qc σ H s→Zbd x v→Zbd y u→r x y H Q→
  wpAny (model X.prog X.w) X.A (f v u) (EP X qc σ Q) X.xe s
def UnR (X:Cx)(f:Value→Sem Value)(r:V→Hp→VK→Prop):Prop:=
 ∀(qc:List (Addr×Obj)) (s:Shared) (σ:St) (H:Hp) (x:V) (v:Value) (Q:VK),Inv X qc σ H s→Zbd x v→r x H Q→
  wpAny (model X.prog X.w) X.A (f v) (EP X qc σ Q) X.xe s
def ZbW (X:Cx)(f:Value)(r:List V→Hp→VK→Prop):Prop:=
 ∀(qc:List (Addr×Obj)) (s:Shared) (σ:St) (H:Hp) (xs:List V) (us:List Value) (Q:VK),Inv X qc σ H s→ZaZ xs us→r xs H Q→
  wpAny (model X.prog X.w) X.A (call f us) (EP X qc σ Q) X.xe s
def tOp (r:R2)(ta tb:TE):TE:=fun σ H Q=>ta σ H fun x H1=>tb σ H1 fun y H2=>r x y H2 Q
def tUn (r:V→Hp→VK→Prop)(ta:TE):TE:=fun σ H Q=>ta σ H fun x H1=>r x H1 Q
def rI (C:Int→Int→Prop)(g:Int→Int→V):R2:=fun x y H Q=>∃i j,x= .int i∧y= .int j∧C i j∧Q (g i j) H
def rI0 (g:Int→Int→V):R2:=fun x y H Q=>∃i j,x= .int i∧y= .int j∧Q (g i j) H
def rU (g:Int→V):V→Hp→VK→Prop:=fun x H Q=>∃i,x= .int i∧Q (g i) H
section
variable {X:Cx}{a b:Expr}{ta tb tc:TE}
theorem Zo9 (ha:PE X a ta)(hb:PE X b tb){σ:St}{H:Hp}{R:V→V→Hp→Prop}(I:Inv X qc σ H s)
  (h:ta σ H fun x H1=>tb σ H1 fun y H2=>R x y H2) {Q:Value→Shared→Prop} {f:Value→Value→Sem Value}
  (hf:∀v u s2 x y H2,Inv X qc σ H2 s2→Zbd x v→Zbd y u→R x y H2→wpAny (model X.prog X.w) X.A (f v u) Q X.xe s2):
  wpAny (model X.prog X.w) X.A (eval a X.env) (fun v s₁=>wpAny (model X.prog X.w) X.A (eval b X.env) (fun u s₂=>wpAny (model X.prog X.w) X.A (f v u) Q X.xe s₂) X.xe s₁) X.xe s:=by
 refine thn (ha qc s σ H _ I h) fun v s1 ⟨x,H1,I1,r1,q1⟩=> ?_;refine thn (hb qc s1 σ H1 _ I1 q1) fun u s2 ⟨y,H2,I2,r2,q2⟩=> ?_;exact hf v u s2 x y H2 I2 r1 r2 q2
theorem Zar {op:Operator}{r:R2}(ho:OpR X (binaryOp op) r)(ha:PE X a ta)(hb:PE X b tb):PE X (.BinOp a op b pos) (tOp r ta tb):=by
 intro qc s σ H Q I h;exact wpAny_BinOp (Zo9 ha hb I h fun v u s2 x y H2 I2 rx ry q=>ho qc s2 σ H2 x y v u Q I2 rx ry q)
theorem Zfy {op:UnaryOp}{r:V→Hp→VK→Prop}(ho:UnR X (unaryOp op) r)(ha:PE X a ta):PE X (.UnaryOp op a pos) (tUn r ta):=by
 intro qc s σ H Q I h;exact UnaryOp_ (thn (ha qc s σ H _ I h) fun v s1 ⟨x,H1,I1,r1,q1⟩=>ho qc s1 σ H1 x v Q I1 r1 q1)
theorem opI {C:Int→Int→Prop}
  (rule:∀(i j:Int) (t u:Tok) (s:Shared) (Q:Value→Shared→Prop) (E:Value→Shared→Prop),C i j→Q (.int (g i j) s.toks) {s with toks:=s.toks+1 }→wpAny (model X.prog X.w) X.A (f (.int i t) (.int j u)) Q E s):
  OpR X f (rI C fun i j=> .int (g i j)):=by
 intro qc s σ H x y v u Q I rx ry h;obtain⟨i,j,rfl,rfl,hc,q⟩:=h;obtain⟨t,rfl⟩:=rx;obtain⟨t',rfl⟩:=ry;exact rule i j t t' s _ _ hc ⟨.int (g i j),H,I.tok _,⟨_,rfl⟩,q⟩
theorem ZoS 
  (rule:∀(i j:Int) (t u:Tok) (s:Shared) (Q:Value→Shared→Prop) (E:Value→Shared→Prop),Q (.int (g i j) s.toks) {s with toks:=s.toks+1 }→wpAny (model X.prog X.w) X.A (f (.int i t) (.int j u)) Q E s):
  OpR X f (rI0 fun i j=> .int (g i j)):=by
 intro qc s σ H x y v u Q I rx ry h;obtain⟨i,j,rfl,rfl,q⟩:=h;obtain⟨t,rfl⟩:=rx;obtain⟨t',rfl⟩:=ry;exact rule i j t t' s _ _ ⟨.int (g i j),H,I.tok _,⟨_,rfl⟩,q⟩
theorem ZoT {g:Int→Int→Bool}
  (rule:∀(i j:Int) (t u:Tok) (s:Shared) (Q:Value→Shared→Prop) (E:Value→Shared→Prop),Q (.bool (g i j)) s→wpAny (model X.prog X.w) X.A (f (.int i t) (.int j u)) Q E s):
  OpR X f (rI0 fun i j=> .bl (g i j)):=by
 intro qc s σ H x y v u Q I rx ry h;obtain⟨i,j,rfl,rfl,q⟩:=h;obtain⟨t,rfl⟩:=rx;obtain⟨t',rfl⟩:=ry;exact rule i j t t' s _ _ ⟨.bl (g i j),H,I,rfl,q⟩
def ZoU (i j:Int):Prop:=0≤j∧j≤1000000∧i.natAbs<2^64
def Znw (i j:Int):Prop:=(-(2^64)<i∧i<2^64)∨(-(2^64)<j∧j<2^64)
theorem Znw.ok {i j:Int}(h:Znw i j):IntMulOk i j:=by
 rcases h with⟨h1,h2⟩|⟨h1,h2⟩
 ·exact .of_left (intBits_le_64 h1 h2)
 ·exact .of_right (intBits_le_64 h1 h2)
theorem Zh4 (k:Nat):(0:Int)≤2^k:=by
 rw[two_pow_cast];exact Int.natCast_nonneg _
theorem ZaS:OpR X (binaryOp .Add) (rI0 fun i j=> .int (i+j)):=ZoS fun _ _ _ _ _ _ _ q=>add_int q
theorem ZbJ:OpR X (binaryOp .Sub) (rI0 fun i j=> .int (i-j)):=ZoS fun _ _ _ _ _ _ _ q=>sub_int q
theorem ZbK:OpR X (binaryOp .Mult) (rI Znw fun i j=> .int (i*j)):=opI fun _ _ _ _ _ _ _ hc q=>mul_int q hc.ok
theorem Zcu:OpR X (binaryOp .Mod) (rI (fun _ j=>0<j) fun i j=> .int (i%j)):=opI fun i j _ _ _ _ _ hc q=>by
 have h1:(0:Int)<j:=hc;exact mod_int' (by omega) (by rw[Int.fmod_eq_emod_of_nonneg i (by omega)];exact q)
theorem Zhn:OpR X (binaryOp .Pow) (rI ZoU fun i j=> .int (i^j.toNat)):=opI fun _ _ _ _ _ _ _ hc q=>pow_int_small hc.1 hc.2.1 hc.2.2 q
theorem ZnO:OpR X (binaryOp .LShift) (rI ZoU fun i j=> .int (i*2^j.toNat)):=opI fun _ _ _ _ _ _ _ hc q=>lshift_int_small hc.1 hc.2.1 hc.2.2 q
theorem ZlM:OpR X (binaryOp .RShift) (rI (fun _ j=>0≤j) fun i j=> .int (i/2^j.toNat)):=opI fun i j _ _ _ _ _ hc q=>
 rshift_int hc (by rw[Qdx i (Zh4 _)];exact q)
theorem ZlN:OpR X (binaryOp .BitAnd) (rI0 fun i j=> .int (Builtin.bitAnd i j)):=ZoS fun _ _ _ _ _ _ _ q=>and_int q
theorem ZlO:OpR X (binaryOp .BitXor) (rI0 fun i j=> .int (Builtin.bitXor i j)):=ZoS fun _ _ _ _ _ _ _ q=>xor_int q
theorem unI {f:Value→Sem Value}{g:Int→Int}
  (rule:∀(i:Int) (t:Tok) (s:Shared) (Q:Value→Shared→Prop) (E:Value→Shared→Prop),Q (.int (g i) s.toks) {s with toks:=s.toks+1 }→wpAny (model X.prog X.w) X.A (f (.int i t)) Q E s):
  UnR X f (rU fun i=> .int (g i)):=by
 intro qc s σ H x v Q I rx h;obtain⟨i,rfl,q⟩:=h;obtain⟨t,rfl⟩:=rx;exact rule i t s _ _ ⟨.int (g i),H,I.tok _,⟨_,rfl⟩,q⟩
theorem Zdh:UnR X (unaryOp .USub) (rU fun i=> .int (-i)):=unI fun _ _ _ _ _ q=>neg_int q
end
def ZpA:V→V→Bool
 | .non,.non=>true| .non,.int _=>true| .int _,.non=>true| .non,.bl _=>true| .bl _,.non=>true| .non,.str _=>true| .str _,.non=>true
 | .int _,.int _=>true| .bl _,.bl _=>true| .str _,.str _=>true| .byt _,.byt _=>true
 | .int _,.str _=>true| .str _,.int _=>true| .bl _,.str _=>true| .str _,.bl _=>true
 |_,_=>false
def rEq:R2:=fun x y H Q=>ZpA x y=true∧Q (.bl (decide (x=y))) H
def rNe:R2:=fun x y H Q=>ZpA x y=true∧Q (.bl (!decide (x=y))) H
theorem ZiP {i j:Int}:decide (V.int i=V.int j)=(i==j):=by
 rw[QbU];simp
theorem ZlP {i j:Bool}:decide (V.bl i=V.bl j)=(i==j):=by
 rw[QbU];simp
theorem ZiQ {i j:Str}:decide (V.str i=V.str j)=(i==j):=by
 rw[QbU];simp
theorem ZiR {i j:Array UInt8}:decide (V.byt i=V.byt j)=(i.toList==j.toList):=by
 rw[QbU];cases i;cases j;simp
section
variable {X:Cx}{a b:Expr}{ta tb tc:TE}
theorem ZaT {σ:St}{H:Hp}{Q:VK}{k k':Bool}(I:Inv X qc σ H s)(q:Q (.bl k) H)(e:k=k'):EP X qc σ Q (.bool k') s:=by
 subst e;exact⟨.bl k,H,I,rfl,q⟩
theorem ZcJ:OpR X (compareOp .Eq) rEq:=by
 intro qc s σ H x y v u Q I rx ry h;obtain⟨hs,q⟩:=h
 cases x with
 |non=>
  cases rx
  cases y with
  |non=>cases ry;exact PySem.EqNone.eq_none_none (ZaT I q (by simp))
  |bl j=>cases ry;exact PySem.EqNone.eq_none_bool (ZaT I q (by simp))
  |int j=>obtain⟨t',rfl⟩:=ry;exact PySem.EqNone.eq_none_int (ZaT I q (by simp))
  |str j=>obtain⟨t',rfl⟩:=ry;exact PySem.EqNone.eq_none_str (ZaT I q (by simp))
  |_=>exact absurd (show false=true from hs) QaG
 |bl i=>
  cases rx
  cases y with
  |non=>cases ry;exact PySem.EqNone.eq_bool_none (ZaT I q (by simp))
  |bl j=>cases ry;exact eq_bool (ZaT I q ZlP)
  |str j=>obtain⟨t',rfl⟩:=ry;exact PySem.EqMixed.eq_bool_str (ZaT I q (by simp))
  |_=>exact absurd (show false=true from hs) QaG
 |int i=>
  obtain⟨t,rfl⟩:=rx
  cases y with
  |non=>cases ry;exact PySem.EqNone.eq_int_none (ZaT I q (by simp))
  |int j=>obtain⟨t',rfl⟩:=ry;exact eq_int (ZaT I q ZiP)
  |str j=>obtain⟨t',rfl⟩:=ry;exact PySem.EqMixed.eq_int_str (ZaT I q (by simp))
  |_=>exact absurd (show false=true from hs) QaG
 |str i=>
  obtain⟨t,rfl⟩:=rx
  cases y with
  |non=>cases ry;exact PySem.EqNone.eq_str_none (ZaT I q (by simp))
  |bl j=>cases ry;exact PySem.EqMixed.eq_str_bool (ZaT I q (by simp))
  |int j=>obtain⟨t',rfl⟩:=ry;exact PySem.EqMixed.eq_str_int (ZaT I q (by simp))
  |str j=>obtain⟨t',rfl⟩:=ry;exact eq_str (ZaT I q ZiQ)
  |_=>exact absurd (show false=true from hs) QaG
 |byt i=>
  obtain⟨t,rfl⟩:=rx
  cases y with
  |byt j=>obtain⟨t',rfl⟩:=ry;exact PySem.W.eq_bytes (ZaT I q ZiR)
  |_=>exact absurd (show false=true from hs) QaG
 |_=>cases y<;>exact absurd (show false=true from hs) QaG
theorem Zh5:OpR X (compareOp .NotEq) rNe:=by
 intro qc s σ H x y v u Q I rx ry h;obtain⟨hs,q⟩:=h
 cases x with
 |non=>
  cases rx
  cases y with
  |non=>cases ry;exact PySem.EqNone.ne_none_none (ZaT I q (by simp))
  |bl j=>cases ry;exact PySem.EqNone.ne_none_bool (ZaT I q (by simp))
  |int j=>obtain⟨t',rfl⟩:=ry;exact PySem.EqNone.ne_none_int (ZaT I q (by simp))
  |str j=>obtain⟨t',rfl⟩:=ry;exact PySem.EqNone.ne_none_str (ZaT I q (by simp))
  |_=>exact absurd (show false=true from hs) QaG
 |bl i=>
  cases rx
  cases y with
  |non=>cases ry;exact PySem.EqNone.ne_bool_none (ZaT I q (by simp))
  |bl j=>cases ry;exact ne_bool (ZaT I q (congrArg not ZlP))
  |str j=>obtain⟨t',rfl⟩:=ry;exact PySem.EqMixed.ne_bool_str (ZaT I q (by simp))
  |_=>exact absurd (show false=true from hs) QaG
 |int i=>
  obtain⟨t,rfl⟩:=rx
  cases y with
  |non=>cases ry;exact PySem.EqNone.ne_int_none (ZaT I q (by simp))
  |int j=>obtain⟨t',rfl⟩:=ry;exact ne_int (ZaT I q (congrArg not ZiP))
  |str j=>obtain⟨t',rfl⟩:=ry;exact PySem.EqMixed.ne_int_str (ZaT I q (by simp))
  |_=>exact absurd (show false=true from hs) QaG
 |str i=>
  obtain⟨t,rfl⟩:=rx
  cases y with
  |non=>cases ry;exact PySem.EqNone.ne_str_none (ZaT I q (by simp))
  |bl j=>cases ry;exact PySem.EqMixed.ne_str_bool (ZaT I q (by simp))
  |int j=>obtain⟨t',rfl⟩:=ry;exact PySem.EqMixed.ne_str_int (ZaT I q (by simp))
  |str j=>obtain⟨t',rfl⟩:=ry;exact ne_str (ZaT I q (congrArg not ZiQ))
  |_=>exact absurd (show false=true from hs) QaG
 |byt i=>
  obtain⟨t,rfl⟩:=rx
  cases y with
  |byt j=>obtain⟨t',rfl⟩:=ry;exact PySem.W.ne_bytes (ZaT I q (congrArg not ZiR))
  |_=>exact absurd (show false=true from hs) QaG
 |_=>cases y<;>exact absurd (show false=true from hs) QaG
theorem ZkN:OpR X (compareOp .Lt) (rI0 fun i j=> .bl (decide (i<j))):=ZoT fun _ _ _ _ _ _ _ q=>lt_int q
theorem ZnP:OpR X (compareOp .LtE) (rI0 fun i j=> .bl (decide (i≤j))):=ZoT fun _ _ _ _ _ _ _ q=>le_int q
theorem ZiS:OpR X (compareOp .Gt) (rI0 fun i j=> .bl (decide (j<i))):=ZoT fun _ _ _ _ _ _ _ q=>gt_int q
theorem ZnQ:OpR X (compareOp .GtE) (rI0 fun i j=> .bl (decide (j≤i))):=ZoT fun _ _ _ _ _ _ _ q=>ge_int q
theorem ZaF (b:Expr)(h:op≠ .In:=by decide)(h2:op≠ .NotIn:=by decide):behindInMarks op b=false:=by
 have e1:(op==CmpOp.In)=false:=by cases op<;>first|rfl|exact absurd rfl h
 have e2:(op==CmpOp.NotIn)=false:=by cases op<;>first|rfl|exact absurd rfl h2
 cases b<;>simp[behindInMarks,e1,e2]
theorem Zc5 {r:R2}(ho:OpR X (compareOp op) r)(ha:PE X a ta)(hb:PE X b tb)(hm:behindInMarks op b=false):PE X (.Compare a [op] [b] pos) (tOp r ta tb):=by
 intro qc s σ H Q I h;exact wpAny_Compare1 (Zo9 ha hb I h fun v u s2 x y H2 I2 rx ry q=>ho qc s2 σ H2 x y v u Q I2 rx ry q) hm
def Zbl (t:TE):TT:=fun σ H Q=>t σ H fun x H'=>∃k,x= .bl k∧Q k H'
theorem Zax {r:R2}(ho:OpR X (compareOp op) r)(ha:PE X a ta)(hb:PE X b tb)(hm:behindInMarks op b=false):PT X (.Compare a [op] [b] pos) (Zbl (tOp r ta tb)):=by
 intro qc s σ H Q I h
 refine Qei (thn (ha qc s σ H _ I h) fun v s1 ⟨x,H1,I1,r1,q1⟩=>thn (hb qc s1 σ H1 _ I1 q1) fun u s2 ⟨y,H2,I2,r2,q2⟩=>
  thn (ho qc s2 σ H2 x y v u _ I2 r1 r2 q2) fun c s3 ⟨z,H3,I3,r3,k,e,q3⟩=> ?_) hm
 subst e;cases r3;exact QbL ⟨H3,I3,q3⟩
theorem Zho:(sizeLine:Nat)<2^63:=by rw[sizeLine_eq];decide
theorem Zcf {x:V}(r:ZaZ [x] us):∃u,us=[u]∧Zbd x u:=by
 cases r with
 |cons r1 r2=>cases r2;exact⟨_,rfl,r1⟩
theorem ZiT {x y:V}(r:ZaZ [x,y] us):∃u w',us=[u,w']∧Zbd x u∧Zbd y w':=by
 cases r with
 |cons r1 r2=>
  cases r2 with
  |cons r3 r4=>cases r4;exact⟨_,_,rfl,r1,r3⟩
theorem ZbV:ZbW X (.builtin "abs") (fun xs H Q=>∃i,xs=[.int i]∧Q (.int (if i<0 then -i else i)) H):=by
 intro qc s σ H xs us Q I r h;obtain⟨i,rfl,q⟩:=h;obtain⟨u,rfl,t,rfl⟩:=Zcf r;exact call_abs_int fun u tk=>⟨.int (if i<0 then -i else i),H,I.tok _,⟨_,rfl⟩,q⟩
theorem Zfz (hc:X.calm=true):ZbW X (.builtin "max") (fun xs H Q=>∃i j,xs=[.int i,.int j]∧Q (.int (if j>i then j else i)) H):=by
 intro qc s σ H xs us Q I r h;obtain⟨i,j,rfl,q⟩:=h;obtain⟨u,w',rfl,⟨t,rfl⟩,⟨t',rfl⟩⟩:=ZiT r;refine max_two_ints (I.ok.hd hc) fun h' tk k=>⟨_,H,I.kept k,?_,q⟩;by_cases hj:j>i
 ·rw[if_pos hj,if_pos hj];exact⟨_,rfl⟩
 ·rw[if_neg hj,if_neg hj];exact⟨_,rfl⟩
theorem ZiU (hc:X.calm=true):ZbW X (.builtin "min") (fun xs H Q=>∃i j,xs=[.int i,.int j]∧Q (.int (if j<i then j else i)) H):=by
 intro qc s σ H xs us Q I r h;obtain⟨i,j,rfl,q⟩:=h;obtain⟨u,w',rfl,⟨t,rfl⟩,⟨t',rfl⟩⟩:=ZiT r;refine min_two_ints (I.ok.hd hc) fun h' tk k=>⟨_,H,I.kept k,?_,q⟩;by_cases hj:j<i
 ·rw[if_pos hj,if_pos hj];exact⟨_,rfl⟩
 ·rw[if_neg hj,if_neg hj];exact⟨_,rfl⟩
theorem ZiV:ZbW X (.type "int") (fun xs H Q=>(∃i,xs=[.int i]∧Q (.int i) H)∨∃k,xs=[.bl k]∧Q (.int (if k then 1 else 0)) H):=by
 intro qc s σ H xs us Q I r h;rcases h with⟨i,rfl,q⟩|⟨k,rfl,q⟩
 ·obtain⟨u,rfl,t,rfl⟩:=Zcf r;exact call_int_int ⟨.int i,H,I,⟨_,rfl⟩,q⟩
 ·obtain⟨u,rfl,r1⟩:=Zcf r;cases r1;exact call_int_bool ⟨.int (if k then 1 else 0),H,I.tok _,⟨_,rfl⟩,q⟩
end
structure Zpa (h:Heap)(x dx C:Addr)(mA:Str→Option Value):Prop where
 obj:h.get? x=some (PySem.W.instObj C dx)
 ns:h.Ns1 dx mA
 ne:dx≠x
theorem ZiW (n:h.Ns1 dx mA):∃od,h.get? dx=some od∧∀name,PySem.W.lookIn name od=some (mA name):=by
 obtain⟨o,es,ep,ho,hd,hk,_,hm⟩:=n;refine⟨o,ho,fun name=> ?_⟩;have e:=hm name;unfold nsFind findBy at e;rw[←Array.find?_toList] at e;unfold PySem.W.lookIn;rw[hd];dsimp only;split
 ·rename_i y q;rw[q] at e;exact congrArg some e
 ·rename_i q;rw[q] at e
  have a:es.toList.any (·.refKey)=false:=by
   rw[List.any_eq_false];intro y hy;obtain⟨z,t,hkey⟩:=hk y (Array.mem_toList_iff.mp hy);simp[DictEntry.refKey,hkey]
  have a':¬es.toList.any (·.refKey)=true:=by rw[a];exact QaG
  rw[if_neg a'];exact congrArg some e
theorem Zpa.look {x:Addr}(I:Zpa h x dx C mA):∃od,PySem.W.InstAt h x (PySem.W.instObj C dx) C (some od)∧∀name,PySem.W.lookIn name od=some (mA name):=
 let⟨od,ho,hl⟩:=ZiW I.ns
 ⟨od,⟨I.obj,rfl,rfl,ho⟩,hl⟩
theorem Zh1.some_of {v:V}{o:Option Value}(r:Zh1 (some v) o):∃u,o=some u∧Zbd v u:=by
 cases o with
 |none=>exact(show False from r).elim
 |some u=>exact⟨u,rfl,r⟩
section
variable {H H':Hp}{fs fs':List (Str×V)}
theorem Zmx (hok:HOk P w H h)(e:H a=some (.ins C dx fs)):∃mA,Zpa h a dx C mA∧(∀f,Zh1 (fs.lookup f) (mA f))∧PySem.Within mA (fs.map (·.1))∧fs.length≤1000∧H dx=some (.own a):=by
 obtain⟨d,z,ne,ob,mA,n,r,q⟩:=(show ZbG P w H h a (.ins C dx fs) from hok a _ e);exact⟨mA,⟨ob,n,ne⟩,r,q,z,d⟩
end
structure Cls (K:PySem.W.Frag)(C:Addr):Prop where
 pg:PySem.W.plainGet K C Str.empty=true
 hd:PySem.W.hasDictIn K C=true
 po:PySem.W.plainOver K C=true
 sa:PySem.W.findIn K (.ref C) "__setattr__" =some (some (.builtin "object.__setattr__"))
theorem Cls.get {K:PySem.W.Frag}(c:Cls K C)(f:Str):PySem.W.plainGet K C f=true:=c.pg
section
variable {X:Cx}{σ:St}{H:Hp}{Q:Value→Shared→Prop}{c:Value}{b:Bool}
inductive Zep (K:PySem.W.Frag) (H:Hp):V→Value→Prop where
 |non:Zep K H .non (.type "NoneType")
 |bl (x:Bool):Zep K H (.bl x) (.type "bool")
 |int (i:Int):Zep K H (.int i) (.type "int")
 |str (x:Str):Zep K H (.str x) (.type "str")
 |flt (x:UInt64):Zep K H (.flt x) (.type "float")
 |lst {a:Addr} {xs:List V} (e:H a=some (.lst xs)):Zep K H (.ref a) (.type "list")
 |frz {a:Addr} {o:Obj} {xs:List V} (e:H a=some (.frz o (.lst xs))):Zep K H (.ref a) (.type "list")
 |tup {a:Addr} {xs:List V} (e:H a=some (.tup xs)):Zep K H (.ref a) (.type "tuple")
 |dK {a:Addr} {kvs:List (Key×V)} (e:H a=some (.dK kvs)):Zep K H (.ref a) (.type "dict")
 |dT {a:Addr} {kvs:List (List Key×V)} (e:H a=some (.dT kvs)):Zep K H (.ref a) (.type "dict")
 |ins {a C dx:Addr} {fs:List (Str×V)} (e:H a=some (.ins C dx fs)) (cl:Cls K C) (ha:PySem.W.findIn K (.ref C) "__class__" =some (some (.builtin "object.__class__")))
   (hn:PySem.W.specialIn K (.builtin "object.__class__") "__get__" =some (some (.builtin "getset_descriptor.__get__"))) (htk:PySem.W.takesIn K (.builtin "object.__class__")=some true)
   (hm:PySem.W.mroIn K C (.type "object")=some true):Zep K H (.ref a) (.ref C)
theorem ZiX {x:V}{t:Value}(I:Inv X qc σ H s)(rx:Zbd x u)(ty:Zep X.K H x t)(e:PySem.W.kitOne X.K t c=some b)(h:∀tk,Q (.bool b) {s with toks:=tk }):
  wpAny (model X.prog X.w) A (call (.builtin "isinstance") [u,c]) Q E s:=by
 cases ty with
 |non=>cases(show u=Value.none from rx);exact Qbx PySem.W.kitx_none I.kIn QcM e (fun z=>nomatch z) h
 |bl y=>cases(show u=Value.bool y from rx);exact Qbx PySem.W.kitx_bool I.kIn QcM e (fun z=>nomatch z) h
 |int i=>obtain⟨t,q⟩:=(show∃t,u=Value.int i t from rx);cases q;exact Qbx PySem.W.kitx_int I.kIn QcM e (fun z=>nomatch z) h
 |str y=>obtain⟨t,q⟩:=(show∃t,u=Value.str y t from rx);cases q;exact Qbx PySem.W.kitx_str I.kIn QcM e (fun z=>nomatch z) h
 |flt y=>obtain⟨t,q⟩:=(show∃t,u=Value.float y t from rx);cases q;exact Qbx PySem.W.kitx_float I.kIn QcM e (fun z=>nomatch z) h
 | @lst a xs ea=>
  cases(show u=Value.ref a from rx);obtain⟨_,_,n,_,h1⟩:=(show ZbG X.prog X.w H s.heap a (.lst xs) from I.hok a _ ea);exact Qbx PySem.W.kitx_list I.kIn ⟨_,h1,rfl⟩ e (fun z=>nomatch z) h
 | @frz a ob xs ea=>
  cases(show u=Value.ref a from rx);obtain⟨_,_,_,n,_,h1⟩:=(show ZbG X.prog X.w H s.heap a (.frz ob (.lst xs)) from I.hok a _ ea);exact Qbx PySem.W.kitx_list I.kIn ⟨_,h1,rfl⟩ e (fun z=>nomatch z) h
 | @tup a xs ea=>
  cases(show u=Value.ref a from rx);obtain⟨_,_,_,p⟩:=(show ZbG X.prog X.w H s.heap a (.tup xs) from I.hok a _ ea);obtain⟨o,h1,h2,_⟩:=p;exact Qbx PySem.W.kitx_tuple I.kIn ⟨o,h1,h2⟩ e (fun z=>nomatch z) h
 | @dK a kvs ea=>
  cases(show u=Value.ref a from rx);obtain⟨_,_,vs,_,p⟩:=(show ZbG X.prog X.w H s.heap a (.dK kvs) from I.hok a _ ea);obtain⟨o,es,ep,h1,h2,_⟩:=p;exact Qbx PySem.W.kitx_dict I.kIn ⟨o,h1,h2.1⟩ e (fun z=>nomatch z) h
 | @dT a kvs ea=>
  cases(show u=Value.ref a from rx);obtain⟨_,_,xs,_,o,es,ep,h1,h2,_⟩:=(show ZbG X.prog X.w H s.heap a (.dT kvs) from I.hok a _ ea);exact Qbx PySem.W.kitx_dict I.kIn ⟨o,h1,h2.1⟩ e (fun z=>nomatch z) h
 | @ins a C dx fs ea cl ha hn htk hm=>
  cases(show u=Value.ref a from rx);obtain⟨mA,O,_⟩:=Zmx I.hok ea;obtain⟨od,J,_⟩:=O.look;exact Qbx (PySem.W.kitx_own (cl.get _) cl.hd ha hn htk hm) I.kIn J e (fun z=>nomatch z) h
end
structure Zc2 (k:Nat)(A:Around):Prop where
 hd:A.handled=none
 dp:A.depth+3*k+5<recursionLimit
 un:A.units+16*k+200<cLine
 gd:A.guards=some []
theorem Zc2.mono (r:Zc2 k A)(h:j≤k):Zc2 j A:=⟨r.hd,by have:=r.dp;omega,by have:=r.un;omega,r.gd⟩
theorem Zc2.deeper {k:Nat}{A:Around}(r:Zc2 (k+1) A)(env:Env):Zc2 k (A.deeper env):=
 ⟨r.hd,by have:=r.dp;show A.depth+1+3*k+5<_;omega,by have:=r.un;show A.units+3+16*k+200<_;omega,r.gd⟩
theorem Zc2.depth {k:Nat}{A:Around}(r:Zc2 k A):A.depth<recursionLimit:=by have:=r.dp;omega
theorem Zc2.units {k:Nat}{A:Around}(r:Zc2 k A):A.units+64<cLine:=by have:=r.un;omega
def ZaA:TA:=fun _ H Q=>Q [] H
def Zae (ta:TE)(tr:TA):TA:=fun σ H Q=>ta σ H fun x H1=>tr σ H1 fun xs H2=>Q (x::xs) H2
section
variable {X:Cx}{te:TE}{t:TA}
theorem Zab:PA X [] ZaA:=fun _ _ _ _ H Q I h=>Calls.spliced_nil ⟨[],H,I,.nil,h⟩
theorem ZaH (ha:PE X e te)(hr:PA X es t)(hs:starEach (e::es) X.env=(false,eval e X.env)::starEach es X.env:=by rfl):PA X (e::es) (Zae te t):=by
 intro pos qc s σ H Q I h;rw[hs];show wpAny _ _ (spliced ((false,eval e X.env)::backTo pos (starEach es X.env))) _ _ s;refine Qdz (thn (ha qc s σ H _ I h) fun u s1 ⟨x,H1,I1,r1,q1⟩=> ?_);exact thn (hr pos qc s1 σ H1 _ I1 q1) fun us s2 ⟨xs,H2,I2,r2,q2⟩=>⟨x::xs,H2,I2,.cons r1 r2,q2⟩
def Zeq (t:TA):TE:=fun σ H Q=>t σ H fun xs H1=>xs.length≤sizeLine∧∀p,H1 p=none→Q (.ref p) (upd H1 p (.tup xs))
def ZfA (t:TA):TE:=fun σ H Q=>t σ H fun xs H1=>xs.length≤sizeLine∧∀p,H1 p=none→Q (.ref p) (upd H1 p (.lst xs))
theorem ZaX {x1}(h:PA X es t):PE X (.Tuple es x1 pos) (Zeq t):=by
 intro qc s σ H Q I hq;refine wpAny_Tuple_spliced (thn (h pos qc s σ H _ I hq) fun us s1 ⟨xs,H1,I1,r,z,q⟩=>⟨by rw[←r.length];exact z,?_⟩);have hf:H1 s1.heap.objs.size=none:=I1.hok.fresh (Qaf _);refine⟨.ref s1.heap.objs.size,upd H1 s1.heap.objs.size (.tup xs),I1.laid (t':=s1.toks) (fun b u e=>Qak _ e) (Qaf _) ?_,rfl,q _ hf⟩;exact⟨z,us,r,⟨_,QaQ _ rfl,rfl,_,rfl⟩⟩
theorem Zbg (h:PA X es t):PE X (.List es pos) (ZfA t):=by
 intro qc s σ H Q I hq;refine wpAny_List_spliced (thn (h pos qc s σ H _ I hq) fun us s1 ⟨xs,H1,I1,r,z,q⟩=>⟨by rw[←r.length];exact z,?_⟩);have hf:H1 s1.heap.objs.size=none:=I1.hok.fresh (Qaf _);refine⟨.ref s1.heap.objs.size,upd H1 s1.heap.objs.size (.lst xs),I1.laid (t':=s1.toks) (fun b u e=>Qak _ e) (Qaf _) ?_,rfl,q _ hf⟩;exact⟨z,us,0,r,QaQ _ rfl⟩
end
abbrev Sp:=List V→Hp→VK→XK→Prop
abbrev CXT:=List Env→Hp→Shared→XK→Value→Shared→Prop
structure ZoV (P:Program)(w:World)(K:PySem.W.Frag)(mg:Str→Option Value)(base:Heap)(A:Around)(outer:List Env)(s:Shared)(H:Hp):Prop where
 frames:A.frames=some outer
 mod:Mod K mg base
 bs:∀b o,base.get? b=some o→s.heap.get? b=some o∧H b=none
 bsz:base.objs.size≤s.heap.objs.size
 funs:s.heap.FunFrames base outer
 frf:∀b∈frs outer,H b=none
 hok:HOk P w H s.heap
 bare:AllBare s.gens
def CE (outer:List Env)(P:Program)(w:World)(H:Hp)(s:Shared)(Q:VK)(u:Value)(s':Shared):Prop:=
 ∃v H',s'.os=s.os∧AllBare s'.gens∧Un (frs outer) [] H H' s.heap s'.heap∧HOk P w H' s'.heap∧Zbd v u∧Q v H'
def CR (CX:CXT)(outer:List Env)(P:Program)(w:World)(H:Hp)(s:Shared)(Q:VK)(E:XK)(r:Result)(s':Shared):Prop:=
 match r with
 | .ok (.ret u)=>CE outer P w H s Q u s'
 | .ok _=>False
 | .error e=>CX outer H s E e s'
structure Zcc (P:Program)(w:World)(K:PySem.W.Frag)(mg:Str→Option Value)(base:Heap)(CX:CXT)(k:Nat)(f:Addr)(fd:FuncData)(ps:List Str)(sp:Sp):Prop where
 len:∀vs H Q E,sp vs H Q E→vs.length=ps.length
 run:∀(A:Around) (outer:List Env) (s:Shared) (H:Hp) (args:Args) (us:List Value) (vs:List V) (Q:VK) (E:XK),Zc2 k A→ZoV P w K mg base A outer s H→BindsTo s fd args (ps.zip us)→ZaZ vs us→sp vs H Q E→
  codeAny (model P w) A (.call (.ref f) args) (CR CX outer P w H s Q E) s
section
variable {X:Cx}{σ:St}{H:Hp}
theorem Inv.env0 (I:Inv X qc σ H s):ZoV X.prog X.w X.K X.mg X.base X.A X.stack s H:=
 ⟨I.ok.frames,I.ok.mod,I.bs,QaI I.ok.bsz I.sz,I.stack,I.stkFree,I.hok,I.bare⟩
theorem Inv.after {Q:VK}(I:Inv X qc σ H s)(h:CE X.stack X.prog X.w H s Q u s'):EP X qc σ Q u s':=by
 obtain⟨v,H',os,bare,un,hok,r,q⟩:=h;obtain⟨hh,g,d,t,os'⟩:=s';obtain rfl:os'=s.os:=os;exact⟨v,H',I.call (h':=hh) (g':=g) (d':=d) (t':=t) (ch:=[]) un hok bare (fun b z=>absurd z (by simp)),r,q⟩
end
def ZaY (sp:Sp)(dvs:List V)(E:XK)(t:TA):TE:=fun σ H Q=>t σ H fun vs H1=>sp (vs++dvs) H1 Q E
def Zh6 (K:PySem.W.Frag)(fd:FuncData)(ps:List Str)(ds:List Value):Prop:=
 ∀(s:Shared) (us:List Value),K.In s.heap→(us++ds).length=ps.length→BindsTo s fd ⟨us,[]⟩ (ps.zip (us++ds))
theorem Zh6.all {K:PySem.W.Frag}{fd:FuncData}(h:∀us:List Value,us.length=ps.length→bindArgs fd ⟨us,[]⟩=pure (ps.zip us)):Zh6 K fd ps []:=fun s us _ hl=>by
 rw[QaS] at hl⊢;exact .of_eq (h us hl)
def ZiY (CX:CXT)(X:Cx)(E:XK):Prop:=∀(qc:List (Addr×Obj)) (σ:St) (H:Hp) (s:Shared) (e:Value) (s':Shared),Inv X qc σ H s→CX X.stack H s E e s'→X.xe e s'
section
variable {X:Cx}{CX:CXT}{f:Addr}{fd:FuncData}{sp:Sp}{dvs:List V}{ds:List Value}{E:XK}{m:Str}{qY:PySem.Pos}{o:Expr}{ta:TE}{t:TA}
theorem ZnR {σ:St}{H:Hp}{Q:VK}{vs:List V}(F:Zcc X.prog X.w X.K X.mg X.base CX k f fd ps sp)(hr:Zc2 k X.A)(hb:Zh6 X.K fd ps ds)(hd:ZaZ dvs ds)(hx:ZiY CX X E)
  (I:Inv X qc σ H s) (r:ZaZ vs us) (h:sp (vs++dvs) H Q E):wpAny (model X.prog X.w) X.A (call (.ref f) us) (EP X qc σ Q) X.xe s:=by
 have r2:ZaZ (vs++dvs) (us++ds):=r.append hd;have hl:(us++ds).length=ps.length:=by rw[←r2.length];exact F.len _ _ _ _ h
 refine wpAny_call (QeL (F.run X.A X.stack s H ⟨us,[]⟩ (us++ds) (vs++dvs) Q E hr I.env0 (hb s us I.kIn hl) r2 h) fun r s' hq=> ?_)
 cases r with
 |error e=>exact hx qc σ H s e s' I hq
 |ok fl=>
  cases fl with
  |ret u=>exact I.after hq
  |next=>exact False.elim hq
  |brk=>exact False.elim hq
  |cont=>exact False.elim hq
theorem Zmy (F:Zcc X.prog X.w X.K X.mg X.base CX k f fd ps sp)(hr:Zc2 k X.A)(hg:Gl X x)(hm:X.mg x=some (.ref f))(hk:PySem.W.keepIn X.K (.ref f)=true)(hb:Zh6 X.K fd ps ds)(hd:ZaZ dvs ds)(hx:ZiY CX X E)
  (ha:PA X (e::es) t) (hdb:(x==("__debug__" :Str))=false:=by decide) (he:starEach (e::es) X.env=(false,eval e X.env)::starEach es X.env:=by rfl) (hpl:(backTo pos (starEach es X.env)).any (·.1)=false:=by rfl):
  PE X (.Call (.Name x p) (e::es) [] pos) (ZaY sp dvs E t):=by
 intro qc s σ H Q I h;refine Qcm (Zmu I hg hm ?_ hdb);refine PySem.W.callWith_K (h₀:=X.base) I.ok.mod.kin hk (thn (ha pos qc s σ H _ I h) fun us s1 ⟨vs,H1,I1,r,q⟩=>⟨I1.kIn,?_⟩) he hpl;exact ZnR F hr hb hd hx I1 r q
end
structure ZaC (N P:List Str)(sc:Scope):Prop where
 kind:sc.kind= .function
 co:sc.isCoroutine=false
 gen:sc.isGenerator=false
 nd:N.Nodup
 pre:N.take P.length=P
 par:∀x∈P,sc.names.lookup x=some .local∨sc.names.lookup x=some .cell
 nofree:∀y∈sc.names,y.2≠ .free
theorem ZfB {kindOf:Str→Option NameKind}{x:Str}:∀{binds:List (Str×Value)} {m:Str→Option Value},(∀v,(x,v) ∉binds)→bindL kindOf binds m x=m x
 | [],_,_=>rfl
 | (n,v)::r,m,h=>by
  unfold bindL;rw[ZfB fun w hw=>h w (QaD _ hw)];split
  ·have:x≠n:=by rintro rfl;exact h v QaA
   simp[this]
  ·rfl
theorem ZfC {kindOf:Str→Option NameKind}{x:Str}:∀{binds:List (Str×Value)} {m:Str→Option Value},(∀v,(x,v) ∉binds)→bindC kindOf binds m x=m x
 | [],_,_=>rfl
 | (n,v)::r,m,h=>by
  unfold bindC;rw[ZfC fun w hw=>h w (QaD _ hw)];split
  ·rfl
  ·have:x≠n:=by rintro rfl;exact h v QaA
   simp[this]
theorem ZfD {kindOf:Str→Option NameKind}{x:Str}{v:Value}:∀{P:List Str} {vs:List Value} {i:Nat} {m:Str→Option Value},P.Nodup→P[i]?=some x→vs[i]?=some v→kindOf x=some .local→
  bindL kindOf (P.zip vs) m x=some v
 | [],_,_,_,_,h,_,_=>by simp at h
 |_::_,[],_,_,_,_,h,_=>by simp at h
 |p::P,w::vs,0,m,nd,h1,h2,hk=>by
  simp at h1 h2;subst h1;subst h2;show bindL kindOf ((p,w)::P.zip vs) m p=_;unfold bindL;rw[ZfB fun v hv=>(Qb7.mp nd).1 (Qek hv).1,if_pos hk];simp
 |p::P,w::vs,i+1,m,nd,h1,h2,hk=>by
  show bindL kindOf ((p,w)::P.zip vs) m x=_;unfold bindL;exact ZfD (i:=i) (Qb7.mp nd).2 (by simpa using h1) (by simpa using h2) hk
theorem ZfE {kindOf:Str→Option NameKind}{x:Str}{v:Value}:∀{P:List Str} {vs:List Value} {i:Nat} {m:Str→Option Value},P.Nodup→P[i]?=some x→vs[i]?=some v→kindOf x≠some .local→
  bindC kindOf (P.zip vs) m x=some v
 | [],_,_,_,_,h,_,_=>by simp at h
 |_::_,[],_,_,_,_,h,_=>by simp at h
 |p::P,w::vs,0,m,nd,h1,h2,hk=>by
  simp at h1 h2;subst h1;subst h2;show bindC kindOf ((p,w)::P.zip vs) m p=_;unfold bindC;rw[ZfC fun v hv=>(Qb7.mp nd).1 (Qek hv).1,if_neg hk];simp
 |p::P,w::vs,i+1,m,nd,h1,h2,hk=>by
  show bindC kindOf ((p,w)::P.zip vs) m x=_;unfold bindC;exact ZfE (i:=i) (Qb7.mp nd).2 (by simpa using h1) (by simpa using h2) hk
def start (N:List Str)(vs:List V):St:=vs.map some++List.replicate (N.length-vs.length) none
def Znx (CX:CXT)(P:Program)(w:World)(K:PySem.W.Frag)(mg:Str→Option Value)(base:Heap)(N:List Str)(qh:Str)(scope:Scope)(f:Addr)(cd:Value)(A:Around)(outer:List Env)(s:Shared)(H:Hp)(E:XK):Cx where
 prog:=P
 w:=w
 K:=K
 mg:=mg
 base:=base
 A:=A.deeper (envOfC qh scope s.heap.objs.size f cd)
 N:=N
 s₀:=s
 H₀:=H
 env:=envOfC qh scope s.heap.objs.size f cd
 outer:=outer
 stack:=envOfC qh scope s.heap.objs.size f cd::outer
 ex:=[]
 calm:=true
 fn:=fun _=>true
 pn:=[]
 xe:=fun e s'=>wpAny (model P w) (A.deeper (envOfC qh scope s.heap.objs.size f cd)) (leaving (envOfC qh scope s.heap.objs.size f cd) e) (fun _ s''=>CX outer H s E e s'') (fun e' s''=>CX outer H s E e' s'') s'
theorem Zhp {sc:Scope}(h:sc.names.lookup x=some .cell):∃c,(cellsFrom n sc.names []).lookup x=some c:=by
 have q:=Qea sc.names n [] (.inl h);exact QcN.mp q
theorem ZiZ {CX:CXT}{K:PySem.W.Frag}{f:Addr}{cd:Value}{outer:List Env}{s1:Shared}{H:Hp}{E:XK}{vs:List V}
  (S:ZaC N ps scope) (hd:A.handled=none) (e0:ZoV P w K mg base A outer s H) (hl:vs.length=ps.length) (r:ZaZ vs us)
  (x:InCallC s s.heap.objs.size (bindL (envOfC qh scope s.heap.objs.size f cd).kindOf (ps.zip us) fun _=>none) (cellsFrom (s.heap.objs.size+1) scope.names []) (bindC (envOfC qh scope s.heap.objs.size f cd).kindOf (ps.zip us) fun _=>none) s1):
  Inv (Znx CX P w K mg base N qh scope f cd A outer s H E) [] (start N vs) H s1:=by
 have hpl:ps.length≤N.length:=by have:=congrArg List.length S.pre;rw[QaC] at this;omega
 obtain⟨h1,tk,rfl,hk⟩:=x.done;have noA:∀b:Addr,b∉(Znx CX P w K mg base N qh scope f cd A outer s H E).ex:=fun b z=>absurd (show b∈([]:List Addr) from z) (by simp)
 refine⟨⟨e0.mod,S.kind,rfl,rfl,Qaf _,fun y z c h1 h2=> ?_,fun y hy=> ?_,fun y c _ h=> ?_,fun _=>hd,Around.frames_deeper e0.frames,.inr ⟨rfl,rfl⟩,fun b z=>absurd z (noA b),e0.bs,e0.bsz,fun b _ _=>noA b,fun b z=>absurd z (noA b),e0.funs,e0.frf⟩,
  rfl,e0.bare,Un.kept hk,⟨_,x.toInCall.ns,fun i y v h1 h2 h3=> ?_⟩,fun y c h=>⟨_,x.cell y c h⟩,e0.hok.fresh (Qaf _),fun y c h=> ?_,fun p hp=>absurd (show p∈([]:List (Addr×Obj)) from hp) (by simp),e0.hok.kept hk,?_⟩
 ·exact name_of_addr x.apart (QbA h1) (QbA h2)
 ·have hy:scope.names.lookup y=some .cell∨scope.names.lookup y=some .free:=hy;rcases hy with hy|hy
  ·exact Zhp hy
  ·exact absurd rfl (S.nofree _ (QbA hy))
 ·exact Qb0 (x.above y c (QbA h))
 ·have hi:i<vs.length:=by
   unfold start at h2;by_cases hi:i<vs.length
   ·exact hi
   ·rw[Qay (by simpa using hi)] at h2;rw[Qcc] at h2;split at h2<;>cases h2
  have ha:vs[i]?=some v:=by
   unfold start at h2;rw[Qax (by simpa using hi),Qah] at h2
   cases e:vs[i]? with
   |none=>rw[e] at h2;cases h2
   |some a=>rw[e] at h2;cases h2;rfl
  obtain⟨u,hu,rv⟩:=r.get ha
  have hp:ps[i]?=some y:=by
   rw[←S.pre,List.getElem?_take_of_lt (by omega)];exact h1
  have ndP:ps.Nodup:=by rw[←S.pre];exact S.nd.sublist (List.take_sublist _ _)
  refine⟨u,rv,?_⟩;rcases S.par y (Qaj hp) with k|k
  ·exact .inl ⟨k,ZfD ndP hp hu k⟩
  ·obtain⟨c,e⟩:=Zhp (n:=s.heap.objs.size+1) k;refine .inr ⟨.inl k,c,e,?_⟩;have q:=x.cell y c e;rw[ZfE ndP hp hu (by show scope.names.lookup y≠_;rw[k];decide)] at q;exact q
 ·exact e0.hok.fresh (Qb0 (x.above y c (QbA h)))
 ·unfold start;show _=N.length;rw[Qae,Qaa,Qbl];omega
theorem Zpb {CX:CXT}{K:PySem.W.Frag}{f:Addr}{name:Str}{params:Arguments}{dV kV doc pm cdv ct oc:Value}{an od:Option Addr}
  {osl:Array (Option Value)} {N ps:List Str} {sp:Sp} (lk:K.lookup f=some ⟨oc,od,.func (PySem.W.fnOf name qh params body scope dV kV doc pm an cdv ct),osl⟩) (hcd:PySem.W.codeIn K cdv qh=true) (S:ZaC N ps scope)
  (len:∀vs H Q E,sp vs H Q E→vs.length=ps.length)
  (hbody:∀(A:Around) (outer:List Env) (s:Shared) (H:Hp) (vs:List V) (Q:VK) (E:XK),Zc2 k (A.deeper (envOfC qh scope s.heap.objs.size f cdv))→sp vs H Q E→
   ∃t,PSs (Znx CX P w K mg base N qh scope f cdv A outer s H E) body t∧t {nx:=fun _ H'=>Q .non H',rt:=Q } (start N vs) H):
  Zcc P w K mg base CX (k+1) f (PySem.W.fnOf name qh params body scope dV kV doc pm an cdv ct) ps sp:=by
 refine⟨len,fun A outer s H args us vs Q E hr e0 hb r hsp=> ?_⟩;have hl:=len _ _ _ _ hsp;have KX:K.In s.heap:=e0.mod.kin.keeps fun b o e=>(e0.bs b o e).1;have lim:s.heap.NoLimit:=e0.mod.nolimit.keeps fun b o e=>(e0.bs b o e).1
 have qU:∀y∈ps.zip us,scope.names.lookup y.1=some .local∨(scope.names.lookup y.1=some .cell∧((cellsFrom (s.heap.objs.size+1) scope.names []).lookup y.1).isSome=true):=fun⟨n,v⟩ hy=>by
  rcases S.par n (Qek hy).1 with q|q
  ·exact .inl q
  ·exact .inr ⟨q,Qea _ _ _ (.inl q)⟩
 refine codeAny_call_function hr.depth (KX _ _ lk) rfl S.co S.gen rfl (PySem.W.codeRec_of KX hcd) (hb _ _ _ _ ?_);refine wpAny_newFunctionEnv_cells S.kind qU fun env he s1 x=> ?_;subst he;refine⟨lim.keeps x.toInCall.keep,codeAny_func ?_⟩;obtain⟨t,ht,hq⟩:=hbody A outer s H vs Q E (hr.deeper _) hsp;have I:Inv (Znx CX P w K mg base N qh scope f cdv A outer s H E) [] (start N vs) H s1:=ZiZ S hr.hd e0 hl r x;refine QbK (ht [] s1 (start N vs) H _ I hq) (fun fl s' hs=> ?_) fun e s' hs=>hs
 have fin:∀{σ':St} {H':Hp} {v:V} {u:Value},Inv (Znx CX P w K mg base N qh scope f cdv A outer s H E) [] σ' H' s'→Zbd v u→Q v H'→CE outer P w H s Q u s':=
  fun{σ' H' v u} J rv q=>⟨v,H',J.os,J.bare,J.base,J.hok,rv,q⟩
 cases fl with
 |ret u=>
  obtain⟨v,σ',H',J,rv,q⟩:=hs;exact fin J rv q
 |next=>
  obtain⟨σ',H',J,q⟩:=hs;exact fin (v:=V.non) (u:=Value.none) J rfl q
 |brk=>
  obtain⟨_,_,_,q⟩:=hs;exact False.elim q
 |cont=>
  obtain⟨_,_,_,q⟩:=hs;exact False.elim q
section
variable {X:Cx}{t:TA}{id T:String}{r:List V→Hp→VK→Prop}
def tCB (r:List V→Hp→VK→Prop)(t:TA):TE:=fun σ H Q=>t σ H fun vs H1=>r vs H1 Q
theorem Zao (hc:ZbW X (.builtin id) r)(hg:Gl X x)(hm:X.mg x=none)(hv:bootBuiltins x=some (.builtin id))(ha:PA X (e::es) t)(hn:x≠ "__name__" :=by decide)(hdb:(x==("__debug__" :Str))=false:=by decide)
  (he:starEach (e::es) X.env=(false,eval e X.env)::starEach es X.env:=by rfl) (hpl:(backTo pos (starEach es X.env)).any (·.1)=false:=by rfl):PE X (.Call (.Name x p) (e::es) [] pos) (tCB r t):=by
 intro qc s σ H Q I h;refine Qcm (Zdz I hg hm hv ?_ hn hdb);exact PyProof.Rows.callWith_builtin1 (thn (ha pos qc s σ H _ I h) fun us s1 ⟨vs,H1,I1,r1,q1⟩=>hc qc s1 σ H1 vs us Q I1 r1 q1) he hpl
theorem Za9 (hc:ZbW X (.type T) r)(hg:Gl X x)(hm:X.mg x=none)(hv:bootBuiltins x=some (.type T))(ha:PA X (e::es) t)(hn:x≠ "__name__" :=by decide)(hdb:(x==("__debug__" :Str))=false:=by decide)
  (he:starEach (e::es) X.env=(false,eval e X.env)::starEach es X.env:=by rfl) (hpl:(backTo pos (starEach es X.env)).any (·.1)=false:=by rfl):PE X (.Call (.Name x p) (e::es) [] pos) (tCB r t):=by
 intro qc s σ H Q I h;refine Qcm (Zdz I hg hm hv ?_ hn hdb);exact QbH (thn (ha pos qc s σ H _ I h) fun us s1 ⟨vs,H1,I1,r1,q1⟩=>hc qc s1 σ H1 vs us Q I1 r1 q1) he hpl
end
end L2
namespace HT
open PySem PyProof.Rows
variable {Q:Value→Shared→Prop}{b sl:Addr}{items:Array Value}{vl vu:Value}{lo hi:Option Int}
def lexLt:List Int→List Int→Bool
 | [],[]=>false
 | [],_::_=>true
 |_::_,[]=>false
 |x::xs,y::ys=>if x=y then lexLt xs ys else decide (x<y)
theorem lexLt_cons (x y:Int)(xs ys:List Int):lexLt (x::xs) (y::ys)=if x=y then lexLt xs ys else decide (x<y):=rfl
theorem ZeF:lexLt [] []=false:=rfl
theorem Zd9 (y:Int)(ys:List Int):lexLt [] (y::ys)=true:=rfl
theorem Zea (x:Int)(xs:List Int):lexLt (x::xs) []=false:=rfl
theorem ZkO (A:Around)(s:Shared)(a:Int)(t:Tok)(c:Int)(u:Tok):∃e,SeqAt.EqAt A s (.int a t) (.int c u) e∧(e=true↔a=c):=
 ⟨(a==c),QdA a t c u,by simp⟩
theorem rcLt_int (A:Around)(s:Shared)(a:Int)(t:Tok)(c:Int)(u:Tok)(prog:Program)(w:World)(E:Value→Shared→Prop)(Q:Value→Shared→Prop)(h:Q (.bool (decide (a<c))) s):
  wpAny (model prog w) A (richCompare .Lt (.int a t) (.int c u)) Q E s:=
 (PyProof.Rows.lt_int h:wpAny (model prog w) A (compareOp .Lt (.int a t) (.int c u)) Q E s)
section
open PySem.SeqAt
open PySem.AutoSeq1 (wpAny_loadPart')
open PySem.MeetsSeq PySem.MeetsSeq2 PySem.MeetsSeq3
theorem ZeG (l b:Addr)(items items2:Array Value)(n n2:Nat)(dd dd2:Option Addr)(sl sl2:Array (Option Value))(ns ms:List Int)(hi:IntsAre items.toList ns)(hj:IntsAre items2.toList ms):
  Meets (Builtin.«tuple.__lt__» ⟨[.ref l,.ref b],[]⟩)
   (fun _ R s=>s.heap.get? l=some {cls:=.type "tuple",dict:=dd,data:=.seq items n,slots:=sl }∧s.heap.get? b=some {cls:=.type "tuple",dict:=dd2,data:=.seq items2 n2,slots:=sl2 }∧
    R (.ok (.ret (.bool (lexLt ns ms)))) s):=
 .of_wp fun prog w A R s h=>by
  obtain⟨hp,g,d,tk,os⟩:=s;obtain⟨hl,hb,h⟩:=h;have f2:=AutoSeq1.sub_tuple_tuple;have z1:items.size=ns.length:=by rw[←hi.length];simp
  have z2:items2.size=ms.length:=by rw[←hj.length];simp
  wp_walk using Qa3 hl,Qa3 hb,wpAny_forIn_list _ (fun rest b s'=>b.1=none∧s'=⟨hp,g,d,tk,os⟩∧∃(vs ws:List Value) (ns' ms':List Int),rest=vs.zip ws∧
   IntsAre vs ns'∧IntsAre ws ms'∧ns'.length+items2.size=ms'.length+items.size∧R (.ok (.ret (.bool (lexLt ns' ms')))) ⟨hp,g,d,tk,os⟩) _
  case turn=>
   rintro⟨y,x⟩ rest b s' ⟨hb',rfl,vs,ws,ns',ms',hz,hvi,hwi,hlen,hR⟩
   cases hvi with
   |nil=>rw[List.zip_nil_left] at hz;cases hz
   |cons a t hvi'=>
    cases hwi with
    |nil=>rw[List.zip_nil_right] at hz;cases hz
    |cons c u hwi'=>
     rw[QdB] at hz;injection hz with hyx hrest
     injection hyx with hy hx
     subst hy hx;rw[lexLt_cons] at hR;simp only[QaF] at hlen;obtain⟨e,he,hiff⟩:=ZkO A.in1 ⟨hp,g,d,tk,os⟩ a t c u;refine Qad (he prog w _ _ ?_)
     cases e with
     |true=>
      rw[if_pos (hiff.mp rfl)] at hR
      wp_walk
      exact⟨rfl,rfl,_,_,_,_,hrest,hvi',hwi',by omega,hR⟩
     |false=>
      rw[if_neg (fun q=>absurd (hiff.mpr q) QaG)] at hR;have hri:=rcLt_int A.in1 ⟨hp,g,d,tk,os⟩ a t c u prog w
      wp_walk using hri
      exact⟨_,rfl,by simpa using hR⟩
  case fin=>
   rintro⟨b1,b2⟩ s' ⟨hb',rfl,vs,ws,ns',ms',hz,hvi,hwi,hlen,hR⟩;simp only at hb';subst hb'
   have hv:lexLt ns' ms'=decide (items.size<items2.size):=by
    cases hvi with
    |nil=>
     cases hwi with
     |nil=>
      simp only[Qbp] at hlen;rw[ZeF];exact(Qal (by omega)).symm
     |cons c u hw=>
      simp only[Qbp,QaF] at hlen;rw[Zd9];exact(Qan (by omega)).symm
    |cons a t hv=>
     cases hwi with
     |nil=>
      simp only[Qbp,QaF] at hlen;rw[Zea];exact(Qal (by omega)).symm
     |cons c u hw=>
      rw[QdB] at hz;cases hz
   rw[hv] at hR
   wp_walk
   exact⟨_,rfl,by simpa[Builtin.Tuple.tupleCompareSizes] using hR⟩
  case h=>
   exact⟨rfl,rfl,items.toList,items2.toList,ns,ms,rfl,hi,hj,by omega,h⟩
end
section
variable {prog:Program}{w:World}{A:Around}{E:Value→Shared→Prop}{s:Shared}
theorem lt_tupInts {l:Addr}{items2:Array Value}{ns ms:List Int}(hl:IsTup s.heap l items)(hb:IsTup s.heap b items2)(hi:IntsAre items.toList ns)(hj:IntsAre items2.toList ms)
  (hu:A.units<cLine) (h:Q (.bool (lexLt ns ms)) s):wpAny (model prog w) A (compareOp .Lt (.ref l) (.ref b)) Q E s:=by
 obtain⟨⟨cls,dd,data,sl⟩,ho,hc,n,hd⟩:=id hl;obtain⟨⟨cls2,dd2,data2,sl2⟩,ho2,hc2,n2,hd2⟩:=id hb;simp only at hc hd hc2 hd2;subst hc hd hc2 hd2
 exact richCompare_meets_room (op:=.Lt) ⟨_,ho,rfl⟩ ⟨_,ho2,rfl⟩ PySem.F.slot_tuple_lt PySem.F.entry_tuple_lt (PySem.F.args_tuple_lt_2 _ _) (ZeG l b items items2 n n2 dd dd2 sl sl2 ns ms hi hj)
  ⟨ho,ho2,show Value.bool (lexLt ns ms)≠Value.notImplemented∧Q (.bool (lexLt ns ms)) s from⟨(fun x=>nomatch x),h⟩⟩ hu
theorem cat_tup {t:Addr}{vs ws:List Value}(ht:IsTup s.heap t vs.toArray)(hb:IsTup s.heap b ws.toArray)(hv:vs≠ [])
  (h1:ws=[]→Q (.ref t) s) (h2:ws≠ []→Q (.ref s.heap.objs.size) {s with heap:=s.heap.push {cls:=.type "tuple",data:=.seq (vs++ws).toArray } })
  (hsz:vs.length+ws.length≤sizeLine):wpAny (model prog w) A (binaryOp .Add (.ref t) (.ref b)) Q E s:=by
 obtain⟨⟨cls,dd,data,sl⟩,ho,hc,n,hd⟩:=id ht;obtain⟨⟨cls2,dd2,data2,sl2⟩,ho2,hc2,n2,hd2⟩:=id hb;simp only at hc hd hc2 hd2;subst hc hd hc2 hd2;have e:vs.toArray++ws.toArray=(vs++ws).toArray:=by simp
 by_cases hw:ws=[]
 ·exact concat_meets ⟨_,ho,rfl⟩ ⟨_,ho2,rfl⟩ noFill_tuple_add seq_tuple_add Qeb QdW (QdR _ _)
   (tuple_addW1 t b vs.toArray ws.toArray n n2 dd dd2 sl sl2 (by simpa using hv) (by simp[hw])) ⟨ho,ho2,h1 hw⟩
 ·refine concat_meets ⟨_,ho,rfl⟩ ⟨_,ho2,rfl⟩ noFill_tuple_add seq_tuple_add Qeb QdW (QdR _ _)
   (tuple_addW2 t b vs.toArray ws.toArray n n2 dd dd2 sl sl2 (by simpa using hv) (by simpa using hw) (by rw[Qar,Qar];exact hsz)) ⟨ho,ho2,?_⟩
  rw[e];exact h2 hw
def sIx (n d:Nat):Option Int→Nat
 |none=>d
 |some v=>if v<0 then(v+(n:Int)).toNat else min v.toNat n
theorem sIx_nat (n d k:Nat):sIx n d (some (k:Int))=min k n:=by
 show(if(k:Int)<0 then((k:Int)+(n:Int)).toNat else min (k:Int).toNat n)=min k n;rw[if_neg (by omega),QcY]
theorem ZnS (n d:Nat)(hd:d≤n)(o:Option Int):sIx n d o≤n:=by
 cases o with
 |none=>exact hd
 |some v=>
  show(if v<0 then(v+(n:Int)).toNat else min v.toNat n)≤n;by_cases hv:v<0
  ·rw[if_pos hv];omega
  ·rw[if_neg hv];exact Nat.min_le_right _ _
theorem Zi0 (v:Int)(n d:Nat):(if v<0 then max (v+(n:Int)) 0 else min v (n:Int))=((sIx n d (some v):Nat):Int):=by
 show(if v<0 then max (v+(n:Int)) 0 else min v (n:Int))=(((if v<0 then(v+(n:Int)).toNat else min v.toNat n):Nat):Int);by_cases hv:v<0
 ·simp only[if_pos hv];omega
 ·simp only[if_neg hv];omega
theorem Zh7 (lo hi:Option Int)(n:Nat):Builtin.Slice.sliceAdjust lo hi 1 (n:Int)=(((sIx n 0 lo:Nat):Int),((sIx n n hi:Nat):Int)):=by
 have h1:¬((1:Int)<0):=by omega
 unfold Builtin.Slice.sliceAdjust;simp only[h1,Qdk];refine Prod.ext ?_ ?_
 ·cases lo with
  |none=>rfl
  |some v=>exact Zi0 v n 0
 ·cases hi with
  |none=>rfl
  |some v=>exact Zi0 v n n
theorem Zh8 (i j:Nat):Builtin.Slice.slicePlaces (i:Int) (j:Int) 1=j-i:=by
 unfold Builtin.Slice.slicePlaces;have h1:(1:Int)>0:=by omega
 simp only[h1,QeI,Int.ediv_one];split<;>omega
theorem Zer {v:Value}{o:Option Int}{Q:Option Int→Shared→Prop}(p:IsPart v o)(h:Q o s):wpAny (model prog w) A (Builtin.Slice.slicePartIndex v) Q E s:=by
 cases p with
 |none=>exact slicePart_none h
 |int i t=>exact slicePart_int h
theorem Zco {n:Nat}{Q:Int×Int×Nat→Shared→Prop}(hs:s.heap.IsSliceOf sl vl vu .none)(pl:IsPart vl lo)(pu:IsPart vu hi)
  (h:Q (((sIx n 0 lo:Nat):Int),1,sIx n n hi-sIx n 0 lo) s):wpAny (model prog w) A (Builtin.Slice.sliceApplied (.ref sl) (pure (n:Int))) Q E s:=by
 obtain⟨os,hos,hcs,hds⟩:=id hs;unfold Builtin.Slice.sliceApplied Builtin.Slice.sliceFields;refine Qad (Qad (wpAny_field hos hds (x:=vl) rfl (Qad (wpAny_field hos hds (x:=vu) rfl (Qad (wpAny_field hos hds (x:=.none) rfl (Qao ?_)))))));refine Qad (slicePart_none ?_);show wpAny _ _ (if((1:Int)==0)=true then _ else _) _ _ s;rw[if_neg (by decide)];refine Qad (Zer pl (Qad (Zer pu (Qad (Qao ?_)))));show wpAny _ _ (match Builtin.Slice.sliceAdjust lo hi 1 (n:Int) with|(lo,hi)=>pure (lo,(1:Int),Builtin.Slice.slicePlaces lo hi 1)) _ _ s;rw[Zh7 lo hi n];show wpAny _ _ (pure (((sIx n 0 lo:Nat):Int),(1:Int),Builtin.Slice.slicePlaces ((sIx n 0 lo:Nat):Int) ((sIx n n hi:Nat):Int) 1)) _ _ s;rw[Zh8];exact Qao h
theorem ZkP (xs:Array Value)(i k:Nat):((List.range k).filterMap fun(m:Nat)=>xs[((i:Int)+(m:Int)*1).toNat]?).toArray=((xs.toList.drop i).take k).toArray:=by
 have e:(fun(m:Nat)=>xs[((i:Int)+(m:Int)*1).toNat]?)=fun m=>xs[i+m]?:=by
  funext m
  have:((i:Int)+(m:Int)*1).toNat=i+m:=by omega
  rw[this]
 rw[e]
 have:=pick_run xs i k;rw[List.filterMap_map] at this;have e2:((fun x=>xs[x]?) ∘ fun x=>i+x)=fun m=>xs[i+m]?:=rfl;rw[e2] at this;rw[this]
theorem getItem_tuple_cut {t:Addr}(ht:IsTup s.heap t items)(hs:s.heap.IsSliceOf sl vl vu .none)(pl:IsPart vl lo)(pu:IsPart vu hi)
  (hw:¬(sIx items.size 0 lo=0∧sIx items.size items.size hi=items.size))
  (h:Q (.ref s.heap.objs.size) {s with heap:=s.heap.push {cls:=.type "tuple",data:=.seq ((items.toList.drop (sIx items.size 0 lo)).take (sIx items.size items.size hi-sIx items.size 0 lo)).toArray } })
  (hsz:items.size≤sizeLine):wpAny (model prog w) A (getItem (.ref t) (.ref sl)) Q E s:=by
 have htake:sizeOk (.seq ((items.toList.drop (sIx items.size 0 lo)).take (sIx items.size items.size hi-sIx items.size 0 lo)).toArray):=by
  show((items.toList.drop (sIx items.size 0 lo)).take (sIx items.size items.size hi-sIx items.size 0 lo)).toArray.size≤sizeLine;rw[Qar,QaC,Qbd,QaB];omega
 have hj:sIx items.size items.size hi≤items.size:=ZnS _ _ (Qaf _) hi;obtain⟨os,hos,hcs,hds⟩:=id hs;have hTs:s.TypeIs (.ref sl) "slice" :=⟨os,hos,hcs⟩;unfold getItem
 try with_reducible refine Qbs ?_
 first|refine Qad (Qao ?_)|skip
 refine Qad (wpAny_sequenceKey ht.typeIs (by decide) ?_)
 refine Qad (Qcd (name:=Str.ofString "__getitem__") ht.typeIs QbM
  (QbW QbM ht.typeIs entry_tuple_getitem ?_ (args_tuple_getitem _ _)))
 show wpAny _ _ (Builtin.Tuple.tupleItemsOf (.ref t)>>=_) _ _ s;refine Qad (tupleItemsOf_ ht ?_);refine Qad (QcO hTs ?_);rw[if_pos (by decide)];refine Qad (Zco hs pl pu ?_)
 have hno:¬((((sIx items.size 0 lo:Nat):Int)==0 && (1:Int)==1 && (sIx items.size items.size hi-sIx items.size 0 lo)==items.size)=true):=by
  intro q;rw[QbX,QbX] at q;have q1:((sIx items.size 0 lo:Nat):Int)=0:=eq_of_beq q.1.1;have q2:sIx items.size items.size hi-sIx items.size 0 lo=items.size:=eq_of_beq q.2;exact hw ⟨by omega,by omega⟩
 show wpAny _ _ (if(((sIx items.size 0 lo:Nat):Int)==0 && (1:Int)==1 && (sIx items.size items.size hi-sIx items.size 0 lo)==items.size)=true then _ else _) _ _ s;rw[if_neg hno,ZkP]
 first
  |exact Qad (m:=Builtin.Tuple.tupleExact _) (QbC (Qao ⟨_,rfl,Qao h⟩) htake)
  |exact Qad (m:=Builtin.Tuple.tupleExact _) (QbC (Qad (Qao (Qao ⟨_,rfl,Qao h⟩))) htake)
  |exact Qad (Qad (m:=Builtin.Tuple.tupleExact _) (QbC (Qao (Qao ⟨_,rfl,Qao h⟩)) htake))
  |exact Qad (Qad (m:=Builtin.Tuple.tupleExact _) (QbC (Qao ⟨_,rfl,Qao h⟩) htake))
end
end HT
namespace L2
open PySem PySem.Spec PyProof.Rows
variable {X:Cx}{n j t':Nat}{s:Shared}{qc:List (Addr×Obj)}{σ:St}{H:Hp}{its its':List Value}{e:Expr}{pos:PySem.Pos}{i:Int}{u v:Value}{T:String}
abbrev TO:=St→Hp→(Option Int→Hp→Prop)→Prop
def PO (X:Cx)(e:Option Expr)(t:TO):Prop:=
 ∀(qc:List (Addr×Obj)) (s:Shared) (σ:St) (H:Hp) (Q:Option Int→Hp→Prop),Inv X qc σ H s→t σ H Q→
  wpAny (model X.prog X.w) X.A (evalPart e X.env) (fun u s'=>∃o H',Inv X qc σ H' s'∧IsPart u o∧Q o H') X.xe s
def ZcP:TO:=fun _ H Q=>Q none H
def ZfF (t:TE):TO:=fun σ H Q=>t σ H fun x H1=>∃i,x= .int i∧Q (some i) H1
theorem ZcA {ns:List Int}:∀{us:List Value},ZaZ (ns.map V.int) us→IntsAre us ns:=by
 induction ns with
 |nil=>intro us r;rw[QcP] at r;cases r;exact .nil
 |cons n ns ih=>
  intro us r;rw[Qa5] at r
  cases r with
  |cons r1 r2=>
   obtain⟨t,e⟩:=r1;subst e;exact .cons n t (ih r2)
section
variable {te:TE}{lo hi:Option Expr}{tl th:TO}{p2:PySem.Pos}
theorem ZdA:PO X none ZcP:=by
 intro qc s σ H Q I h;rw[QeE];exact Qao ⟨none,H,I,.none,h⟩
theorem Zcv (h:PE X e te):PO X (some e) (ZfF te):=by
 intro qc s σ H Q I hw;rw[evalPart_some];refine thn (h qc s σ H _ I hw) fun u s1 ⟨x,H1,I1,r1,q1⟩=> ?_;obtain⟨i,rfl,q⟩:=q1;obtain⟨t,rfl⟩:=r1;exact⟨some i,H1,I1,.int i t,q⟩
def SlR (X:Cx)(r:V→Option Int→Option Int→Hp→VK→Prop):Prop:=
 ∀(qc:List (Addr×Obj)) (s:Shared) (σ:St) (H:Hp) (x:V) (v vl vu:Value) (lo hi:Option Int) (sl:Addr) (Q:VK),Inv X qc σ H s→Zbd x v→s.heap.IsSliceOf sl vl vu .none→IsPart vl lo→IsPart vu hi→r x lo hi H Q→
  ∃T id,typeLookup (.type T) "__getitem__" =pure (some (.builtin id))∧s.TypeIs v T∧wpAny (model X.prog X.w) X.A (getItem v (.ref sl)) (EP X qc σ Q) X.xe s
def tSl (r:V→Option Int→Option Int→Hp→VK→Prop)(te:TE)(tl th:TO):TE:=fun σ H Q=>te σ H fun x H1=>tl σ H1 fun l H2=>th σ H2 fun u H3=>r x l u H3 Q
theorem ZcB {r:V→Option Int→Option Int→Hp→VK→Prop}(hr:SlR X r)(he:PE X e te)(hl:PO X lo tl)(hu:PO X hi th):PE X (.Subscript e (.Slice lo hi none p2) pos) (tSl r te tl th):=by
 intro qc s σ H Q I h;refine QeJ (thn (he qc s σ H _ I h) fun v s1 ⟨x,H1,I1,r1,q1⟩=> ?_);refine wpAny_Slice (thn (hl qc s1 σ H1 _ I1 q1) fun vl s2 ⟨l,H2,I2,pl,q2⟩=>thn (hu qc s2 σ H2 _ I2 q2) fun vu s3 ⟨u,H3,I3,pu,q3⟩=> ?_);rw[QeE];refine Qao ?_;have I4:Inv X qc σ H3 {s3 with heap:=s3.heap.push {cls:=.type "slice",data:=.fields #[vl,vu,.none] } }:=I3.kept (t':=s3.toks) fun b ob q=>Qak _ q;obtain⟨T,id,hT,ht,hg⟩:=hr qc {s3 with heap:=s3.heap.push {cls:=.type "slice",data:=.fields #[vl,vu,.none] } } σ H3 x v vl vu l u s3.heap.objs.size Q I4 r1 (Heap.IsSliceOf.new ..) pl pu q3;show wpAny (model X.prog X.w) X.A (subscriptTail e (.Slice lo hi none p2) v (.ref s3.heap.objs.size)) (EP X qc σ Q) X.xe {s3 with heap:=s3.heap.push {cls:=.type "slice",data:=.fields #[vl,vu,.none] } };exact tail_any (ops:=[.ref s3.heap.objs.size,v]) ht hT hg (by with_unfolding_all rfl)
def Zgu (xs:List V)(lo hi:Option Int):List V:=(xs.drop (HT.sIx xs.length 0 lo)).take (HT.sIx xs.length xs.length hi-HT.sIx xs.length 0 lo)
theorem ZdB (xs:List V)(lo hi:Option Int):(Zgu xs lo hi).length≤xs.length:=by
 unfold Zgu;rw[QaC,Qbd];omega
def ZpT (K:PySem.W.Frag):V→Option Int→Option Int→Hp→VK→Prop:=fun x lo hi H Q=>∃a xs,x= .ref a∧SqT K H a xs∧
 ¬(HT.sIx xs.length 0 lo=0∧HT.sIx xs.length xs.length hi=xs.length)∧∀p,H p=none→Q (.ref p) (upd H p (.tup (Zgu xs lo hi)))
theorem ZnT:SlR X (ZpT X.K):=by
 intro qc s σ H x v vl vu lo hi sl Q I rx hs pl pu h;obtain⟨a,xs,rfl,hx,hw,q⟩:=h;cases rx;obtain⟨its,r,ht,hz⟩:=I.tuple hx;have hlen:its.toArray.size=xs.length:=by rw[Qar];exact r.length.symm
 refine⟨"tuple",_,PyProof.Rows.slot_tuple_getitem.lookup,ht.typeIs,?_⟩;refine HT.getItem_tuple_cut ht hs pl pu (by rw[hlen];exact hw) ?_ (by rw[hlen];exact hz);rw[hlen];refine⟨.ref s.heap.objs.size,_,I.laid (t':=s.toks) (o:=.tup (Zgu xs lo hi)) (fun b ob q=>Qak _ q) (Qaf _) ?_,rfl,q _ (I.hok.fresh (Qaf _))⟩;exact⟨QaI (ZdB xs lo hi) hz,_,(r.drop (HT.sIx xs.length 0 lo)).take (HT.sIx xs.length xs.length hi-HT.sIx xs.length 0 lo),QeR _ _⟩
def ZkQ (K:PySem.W.Frag):R2:=fun x y H Q=>∃a b xs ys,x= .ref a∧y= .ref b∧SqT K H a xs∧SqT K H b ys∧xs≠ []∧xs.length+ys.length≤sizeLine∧
 (ys=[]→Q (.ref a) H)∧(ys≠ []→∀p,H p=none→Q (.ref p) (upd H p (.tup (xs++ys))))
theorem ZaZ.nil_iff {xs:List V}{us:List Value}(r:ZaZ xs us):us=[]↔xs=[]:=by
 cases r with
 |nil=>simp
 |cons _ _=>simp
theorem Zmz:OpR X (binaryOp .Add) (ZkQ X.K):=by
 intro qc s σ H x y v u Q I rx ry h;obtain⟨a,b,xs,ys,rfl,rfl,ha,hb,hx,hz,q1,q2⟩:=h;cases rx;cases ry;obtain⟨its,r1,p1,_⟩:=I.tuple ha;obtain⟨its2,r2,p2,_⟩:=I.tuple hb;refine HT.cat_tup p1 p2 (fun z=>hx (r1.nil_iff.mp z)) (fun z=>⟨.ref a,H,I,rfl,q1 (r2.nil_iff.mp z)⟩) (fun z=> ?_) (by rw[←r1.length,←r2.length];exact hz);refine⟨.ref s.heap.objs.size,_,I.laid (t':=s.toks) (o:=.tup (xs++ys)) (fun b ob q=>Qak _ q) (Qaf _) ?_,rfl,q2 (fun w=>z (r2.nil_iff.mpr w)) _ (I.hok.fresh (Qaf _))⟩;exact⟨by rw[Qae];exact hz,_,r1.append r2,QeR _ _⟩
end
def ixN (n:Nat)(i:Int):Option Nat:=if 0≤i then(if i<n then some i.toNat else none) else if -(n:Int)≤i then some (i+n).toNat else none
def atI {α:Type}(xs:List α)(i:Int):Option α:=(ixN xs.length i).bind fun j=>xs[j]?
theorem Zgv (h:ixN n i=some j):seqIndex? i n=some j∧j<n∧-(n:Int)≤i∧i<n:=by
 unfold ixN at h;by_cases h0:0≤i
 ·rw[if_pos h0] at h;by_cases h1:i<n
  ·rw[if_pos h1] at h;have e:i.toNat=j:=QaR h;exact⟨by rw[Qdq h0 h1,e],by omega,by omega,h1⟩
  ·rw[if_neg h1] at h;cases h
 ·rw[if_neg h0] at h;by_cases h1: -(n:Int)≤i
  ·rw[if_pos h1] at h;have e:(i+n).toNat=j:=QaR h;exact⟨by rw[QeM (by omega) h1,e],by omega,h1,by omega⟩
  ·rw[if_neg h1] at h;cases h
theorem Zi1 {α:Type}{xs:List α}{v:α}(h:atI xs i=some v):∃j,seqIndex? i xs.length=some j∧xs[j]?=some v∧j<xs.length∧-(xs.length:Int)≤i∧i<xs.length:=by
 unfold atI at h
 cases e:ixN xs.length i with
 |none=>rw[e] at h;cases h
 |some j=>
  rw[e] at h;obtain⟨h1,h2,h3,h4⟩:=Zgv e;exact⟨j,h1,h,h2,h3,h4⟩
theorem ZbL {α:Type}{xs:List α}{v:α}(h:xs[j]?=some v):atI xs (j:Int)=some v:=by
 have hj:j<xs.length:=(Qac.mp h).1
 have e:ixN xs.length (j:Int)=some j:=by
  unfold ixN;rw[if_pos (by omega),if_pos (by omega)];simp
 unfold atI;rw[e];exact h
def ZmA (b:Expr):Prop:=∀o i,subscripted b false o i=operate [o,i] (getItem o i)
def IxR (X:Cx)(r:R2):Prop:=
 ∀(value qV:Expr) (qc:List (Addr×Obj)) (s:Shared) (σ:St) (H:Hp) (x y:V) (v u:Value) (Q:VK),Inv X qc σ H s→Zbd x v→Zbd y u→r x y H Q→
  subscripted qV false v u=operate [v,u] (getItem v u)→wpAny (model X.prog X.w) X.A (subscriptTail value qV v u) (EP X qc σ Q) X.xe s
def MtR (X:Cx)(id:String)(r:V→List V→Hp→VK→Prop):Prop:=
 ∀(qc:List (Addr×Obj)) (s:Shared) (σ:St) (H:Hp) (x:V) (xs:List V) (v:Value) (us:List Value) (Q:VK),Inv X qc σ H s→Zbd x v→ZaZ xs us→r x xs H Q→
  wpAny (model X.prog X.w) X.A (call (.builtin id) (v::us)) (EP X qc σ Q) X.xe s
section
variable {a b:Expr}{ta tb:TE}
theorem Zbv {r:R2}(hr:IxR X r)(ha:PE X a ta)(hb:PE X b tb)(hs:ZmA b):PE X (.Subscript a b pos) (tOp r ta tb):=by
 intro qc s σ H Q I h;exact QeJ (Zo9 ha hb I h fun v u s2 x y H2 I2 rx ry q=>hr a b qc s2 σ H2 x y v u Q I2 rx ry q (hs _ _))
def ZdC (K:PySem.W.Frag):R2:=fun x y H Q=>∃p xs i v,x= .ref p∧y= .int i∧SqL K H p xs∧atI xs i=some v∧Q v H
def Zny (K:PySem.W.Frag):R2:=fun x y H Q=>∃p xs i v,x= .ref p∧y= .int i∧SqT K H p xs∧atI xs i=some v∧Q v H
theorem ZmB:IxR X (ZdC X.K):=by
 intro value qV qc s σ H x y v u Q I rx ry h hs;obtain⟨p,xs,i,z,rfl,rfl,hq,he,q⟩:=h;cases rx;obtain⟨t,rfl⟩:=ry;obtain⟨its,r,pl,hz⟩:=I.list hq;obtain⟨j,h1,h2,h3,h4,h5⟩:=Zi1 he;obtain⟨w,ew,rw'⟩:=r.get h2;have hl:=r.length;have hn:=Zho;have fin:EP X qc σ Q w s:=⟨z,H,I,rw',q⟩;by_cases h0:0≤i
 ·have hj:i.toNat=j:=by
   rw[Qdq h0 h5] at h1;exact QaR h1
  exact item_listR pl.isList h0 (by omega) (by rw[hj];simpa using ew) fin hs
 ·have hj:(i+(its.toArray.size:Int)).toNat=j:=by
   rw[QeM (by omega) h4] at h1;rw[Qar,←hl];exact QaR h1
  exact Qec (x:=w) pl.isList.typeIs slot_list_getitem.lookup
   (wpAny_getItem_list_neg (Q:=fun r s'=>r=w∧EP X qc σ Q r s') pl.isList (by omega) (by rw[Qar]<;>omega) (by omega) (by rw[hj];simpa using ew) ⟨rfl,fin⟩) hs
theorem ZlQ:IxR X (Zny X.K):=by
 intro value qV qc s σ H x y v u Q I rx ry h hs;obtain⟨p,xs,i,z,rfl,rfl,hq,he,q⟩:=h;cases rx;obtain⟨t,rfl⟩:=ry;obtain⟨its,r,pl,hz⟩:=I.tuple hq;obtain⟨j,h1,h2,h3,h4,h5⟩:=Zi1 he;obtain⟨w,ew,rw'⟩:=r.get h2;have hl:=r.length;have hn:=Zho;have fin:EP X qc σ Q w s:=⟨z,H,I,rw',q⟩
 exact Qec (x:=w) pl.typeIs slot_tuple_getitem.lookup
  (getItem_tuple (j:=j) (Q:=fun r s'=>r=w∧EP X qc σ Q r s') pl (by omega) (by omega) (by rw[Qar,←hl];exact h1) (by simpa using ew) ⟨rfl,fin⟩) hs
theorem Zh9 (its:List Value)(n j:Nat)(u:Value):Obj.mapSeq (·.setIfInBounds j u) {cls:=.type "list",data:=.seq its.toArray n }={cls:=.type "list",data:=.seq (its.set j u).toArray n }:=by
 simp[Obj.mapSeq]
theorem Inv.lst {qc:List (Addr×Obj)}{σ:St}{H:Hp}{s:Shared}{p:Addr}{xs:List V}(I:Inv X qc σ H s)(h:H p=some (.lst xs)):
  ∃(its:List Value) (n:Nat),ZaZ xs its∧s.heap.get? p=some {cls:=.type "list",data:=.seq its.toArray n }∧xs.length≤sizeLine:=by
 obtain⟨z,its,n,r,e⟩:=I.hok p _ h;exact⟨its,n,r,e,z⟩
theorem Inv.lstUpd {p:Addr}{xs ys:List V}{n':Nat}{f:Obj→Obj}(I:Inv X qc σ H s)(h:H p=some (.lst xs))
  (ho:s.heap.get? p=some {cls:=.type "list",data:=.seq its.toArray n }) (hf:f {cls:=.type "list",data:=.seq its.toArray n }={cls:=.type "list",data:=.seq its'.toArray n' }) (r:ZaZ ys its') (hz:ys.length≤sizeLine) (t:Nat):
  Inv X qc σ (upd H p (.lst ys)) {s with heap:=s.heap.update p f,toks:=t }:=by
 have e:(s.heap.update p f).get? p=some {cls:=.type "list",data:=.seq its'.toArray n' }:=by
  rw[Qel f ho (by rw[hf]<;>rfl),hf]
 refine I.write (x:=p) (e:=p) (by rw[h];trivial) (.inl rfl) (fun b u hb q=>(Qed _ _ (Ne.symm hb)).trans q) ⟨_,e⟩ ?_;exact⟨hz,its',n',r,e⟩
def Zi2:V→V→V→Hp→(Hp→Prop)→Prop:=fun o i v H Q=>∃p xs k j,o= .ref p∧i= .int k∧H p=some (.lst xs)∧ixN xs.length k=some j∧Q (upd H p (.lst (xs.set j v)))
theorem ZcC:Zpy X Zi2:=by
 intro qc s σ H o i v ov iv u Q I ro ri rv h;obtain⟨p,xs,k,j,rfl,rfl,hp,hj,q⟩:=h;cases ro;obtain⟨t,rfl⟩:=ri;obtain⟨its,n,r,ho,hz⟩:=I.lst hp;obtain⟨h1,h2,h3,h4⟩:=Zgv hj;have hl:=r.length;have hn:=Zho
 have I':Inv X qc σ (upd H p (.lst (xs.set j v))) {s with heap:=s.heap.update p (Obj.mapSeq (·.setIfInBounds j u)) }:=
  I.lstUpd hp ho (Zh9 its n j u) (r.set rv j) (by rw[Qbf];exact hz) s.toks
 by_cases h0:0≤k
 ·have hk:k.toNat=j:=by
   rw[Qdq h0 h4] at h1;exact QaR h1
  exact PySem.W.ki_setAt ho h0 (by omega) (by rw[Qar,←hl];exact h4) (by rw[hk];exact⟨_,I',q⟩)
 ·have hk:(k+(its.toArray.size:Int)).toNat=j:=by
   rw[QeM (by omega) h3] at h1;rw[Qar,←hl];exact QaR h1
  exact PySem.W.ki_setBack ho (by omega) (by rw[Qar,←hl];exact h3) (by omega) (by rw[hk];exact⟨_,I',q⟩)
theorem ZfG (lo hi:Option Int)(n:Nat):(sliceBounds lo hi none n).1=((HT.sIx n 0 lo:Nat):Int)∧(sliceBounds lo hi none n).2.1=((HT.sIx n n hi:Nat):Int)∧(sliceBounds lo hi none n).2.2=1:=by
 refine⟨?_,?_,rfl⟩
 ·cases lo with
  |none=>simp[sliceBounds,HT.sIx]
  |some i=>
   simp only[sliceBounds,HT.sIx,Option.getD_none,show(1:Int)>0 by decide,QeI];by_cases h:i<0
   ·simp only[h,QeI]<;>omega
   ·simp only[h,Qdk]<;>omega
 ·cases hi with
  |none=>simp[sliceBounds,HT.sIx]
  |some i=>
   simp only[sliceBounds,HT.sIx,Option.getD_none,show(1:Int)>0 by decide,QeI];by_cases h:i<0
   ·simp only[h,QeI]<;>omega
   ·simp only[h,Qdk]<;>omega
theorem ZeH (its:List Value)(lo hi:Option Int):slicePick its.toArray lo hi none=((its.drop (HT.sIx its.length 0 lo)).take (HT.sIx its.length its.length hi-HT.sIx its.length 0 lo)).toArray:=by
 obtain⟨h1,h2,h3⟩:=ZfG lo hi its.toArray.size;unfold slicePick;rw[h1,h2,h3];simp only[sliceRange_one,pick_run,Qar]<;>rfl
def ZoW (K:PySem.W.Frag):V→Option Int→Option Int→Hp→VK→Prop:=fun x lo hi H Q=>∃a xs,x= .ref a∧SqL K H a xs∧∀p,H p=none→Q (.ref p) (upd H p (.lst (Zgu xs lo hi)))
theorem ZeI:SlR X (ZoW X.K):=by
 intro qc s σ H x v vl vu lo hi sl Q I rx hs pl pu h;obtain⟨a,xs,rfl,hx,q⟩:=h;cases rx;obtain⟨its,r,ht,hz⟩:=I.list hx;have hlen:=r.length;refine⟨"list",_,slot_list_getitem.lookup,ht.isList.typeIs,?_⟩;refine QdS ht.isList hs pl pu .none (by simp) ?_ (by rw[Qar]<;>omega);rw[ZeH,←hlen];refine⟨.ref s.heap.objs.size,_,I.laid (t':=s.toks) (o:=.lst (Zgu xs lo hi)) (fun b ob q=>Qak _ q) (Qaf _) ?_,rfl,q _ (I.hok.fresh (Qaf _))⟩;exact⟨QaI (ZdB xs lo hi) hz,_,0,(r.drop (HT.sIx xs.length 0 lo)).take (HT.sIx xs.length xs.length hi-HT.sIx xs.length 0 lo),QaQ _ rfl⟩
def ZfH:V→Bool
 | .non=>true
 | .bl _=>true
 | .int _=>true
 | .str _=>true
 |_=>false
def eqV:V→V→Bool
 | .non,.non=>true
 | .bl a,.bl b=>a==b
 | .bl a,.int b=>(if a then 1 else 0)==b
 | .int a,.bl b=>a==(if b then 1 else 0)
 | .int a,.int b=>a==b
 | .str a,.str b=>a==b
 |_,_=>false
theorem ZnU {A:Around}{y x:V}(ry:Zbd y u)(rx:Zbd x v)(fy:ZfH y=true)(fx:ZfH x=true):SeqAt.EqAt A s u v (eqV y x):=by
 cases y with
 |non=>
  cases ry
  cases x with
  |non=>cases rx;exact SeqAt.EqAt.same _
  |bl b=>cases rx;exact SeqAt.EqAt.none_bool b
  |int b=>obtain⟨t,rfl⟩:=rx;exact SeqAt.EqAt.none_int b t
  |str b=>obtain⟨t,rfl⟩:=rx;exact SeqAt.EqAt.none_str b t
  |_=>exact absurd (show false=true from fx) QaG
 |bl a=>
  cases ry
  cases x with
  |non=>cases rx;exact SeqAt.EqAt.bool_none a
  |bl b=>cases rx;exact SeqAt.EqAt.bool_bool a b
  |int b=>obtain⟨t,rfl⟩:=rx;exact SeqAt.EqAt.bool_int a b t
  |str b=>obtain⟨t,rfl⟩:=rx;exact SeqAt.EqAt.bool_str a b t
  |_=>exact absurd (show false=true from fx) QaG
 |int a=>
  obtain⟨t',rfl⟩:=ry
  cases x with
  |non=>cases rx;exact SeqAt.EqAt.int_none a t'
  |bl b=>cases rx;exact SeqAt.EqAt.int_bool a t' b
  |int b=>obtain⟨t,rfl⟩:=rx;exact QdA a t' b t
  |str b=>obtain⟨t,rfl⟩:=rx;exact SeqAt.EqAt.int_str a t' b t
  |_=>exact absurd (show false=true from fx) QaG
 |str a=>
  obtain⟨t',rfl⟩:=ry
  cases x with
  |non=>cases rx;exact SeqAt.EqAt.str_none a t'
  |bl b=>cases rx;exact SeqAt.EqAt.str_bool a t' b
  |int b=>obtain⟨t,rfl⟩:=rx;exact SeqAt.EqAt.str_int a t' b t
  |str b=>obtain⟨t,rfl⟩:=rx;exact SeqAt.EqAt.str_str a t' b t
  |_=>exact absurd (show false=true from fx) QaG
 |_=>exact absurd (show false=true from fy) QaG
def eqU (x:V)(u:Value):Bool:=match u with
 | .none=>eqV .non x
 | .bool b=>eqV (.bl b) x
 | .int i _=>eqV (.int i) x
 | .str z _=>eqV (.str z) x
 |_=>false
theorem ZlR {x y:V}(r:Zbd y u)(f:ZfH y=true):eqU x u=eqV y x:=by
 cases y with
 |non=>cases r;rfl
 |bl b=>cases r;rfl
 |int i=>obtain⟨t,rfl⟩:=r;rfl
 |str z=>obtain⟨t,rfl⟩:=r;rfl
 |_=>exact absurd (show false=true from f) QaG
theorem Zgw {x:V}:∀{xs:List V} {us:List Value},ZaZ xs us→xs.all ZfH=true→us.any (eqU x)=xs.any fun y=>eqV y x
 |_,_,.nil,_=>rfl
 |y::xs,u::us,.cons r t,f=>by
  rw[QcR,QbX] at f;rw[Qcr,Qcr,ZlR r f.1,Zgw t f.2]
theorem ZeJ {A:Around}{s:Shared}{x:V}{v:Value}(rx:Zbd x v)(fx:ZfH x=true):∀{xs:List V} {us:List Value},ZaZ xs us→xs.all ZfH=true→∀u∈us,SeqAt.EqAt A s u v (eqU x u)
 |_,_,.nil,_=>fun u hu=>by cases hu
 |y::xs,u::us,.cons r t,f=>fun u' hu=>by
  rw[QcR,QbX] at f;rcases QaJ.mp hu with rfl|hu
  ·rw[ZlR r f.1];exact ZnU r rx f.1 fx
  ·exact ZeJ rx fx t f.2 u' hu
def inV (x:V)(xs:List V):Bool:=xs.any fun y=>eqV y x
def rIn (K:PySem.W.Frag)(neg:Bool):R2:=fun x y H Q=>∃p xs,y= .ref p∧(SqL K H p xs∨SqT K H p xs)∧ZfH x=true∧xs.all ZfH=true∧Q (.bl (if neg then !inV x xs else inV x xs)) H
theorem Zi3:OpR X (compareOp .In) (rIn X.K false):=by
 intro qc s σ H x y v u Q I rx ry h;obtain⟨p,xs,rfl,hq,fx,fs,q⟩:=h;cases ry;rcases hq with hq|hq
 ·obtain⟨its,r,pl,hz⟩:=I.list hq;refine SeqAt.in_listAt (eqU x) pl.isList (fun w hw=>ZeJ rx fx r fs w (by simpa using hw)) ⟨.bl _,H,I,rfl,?_⟩;rw[show its.toArray.any (eqU x)=its.any (eqU x) by simp,Zgw r fs];exact q
 ·obtain⟨its,r,pl,hz⟩:=I.tuple hq;refine SeqAt.in_tupleAt (eqU x) pl (fun w hw=>ZeJ rx fx r fs w (by simpa using hw)) ⟨.bl _,H,I,rfl,?_⟩;rw[show its.toArray.any (eqU x)=its.any (eqU x) by simp,Zgw r fs];exact q
theorem ZfI:ZbW X (.builtin "len") (fun xs H Q=>∃p ys,xs=[.ref p]∧(SqL X.K H p ys∨SqT X.K H p ys)∧Q (.int ys.length) H):=by
 intro qc s σ H xs us Q I r h;obtain⟨p,ys,rfl,hq,q⟩:=h;obtain⟨u,rfl,rx⟩:=Zcf r;cases rx;have hn:=Zho;rcases hq with hq|hq
 ·obtain⟨its,r',pl,hz⟩:=I.list hq;have hlen:=r'.length;exact Calls.call_len_list pl.isList (by simp only[Qar]<;>omega) ⟨.int ys.length,H,I.tok _,⟨s.toks+1,by rw[Qar,hlen]⟩,q⟩
 ·obtain⟨its,r',pl,hz⟩:=I.tuple hq;have hlen:=r'.length;exact len_tuple pl (by simp only[Qar]<;>omega) ⟨.int ys.length,H,I.tok _,⟨s.toks+1,by rw[Qar,hlen]⟩,q⟩
theorem Zbz:ZbW X (.type "list") (fun xs H Q=>∃p ys,xs=[.ref p]∧(SqL X.K H p ys∨SqT X.K H p ys)∧∀l,H l=none→Q (.ref l) (upd H l (.lst ys))):=by
 intro qc s σ H xs us Q I r h;obtain⟨p,ys,rfl,hq,q⟩:=h;obtain⟨u,rfl,rx⟩:=Zcf r;cases rx
 have fin:∀(its:List Value),ZaZ ys its→ys.length≤sizeLine→∀(h':Heap) (c':Nat),(∀b o',s.heap.get? b=some o'→h'.get? b=some o')→
   h'.get? s.heap.objs.size=some {cls:=.type "list",dict:=none,data:=.seq its.toArray c',slots:=#[] }→EP X qc σ Q (.ref s.heap.objs.size) {s with heap:=h' }:=fun its r' hz h' c' kp e=>
  ⟨.ref s.heap.objs.size,_,I.laid (t':=s.toks) kp (Qaf _) (show ZbG X.prog X.w _ h' _ (.lst ys) from⟨hz,its,c',r',e⟩),rfl,q _ (I.hok.fresh (Qaf _))⟩
 rcases hq with hq|hq
 ·obtain⟨its,r',pl,hz⟩:=I.list hq;have hlen:=r'.length;obtain⟨o,ho,hc,n,hd⟩:=pl.isList;exact call_list_seq p (.inl rfl) ho hc hd (fun h' c' kp e=>fin its r' hz h' c' kp e) (by simp only[Qar]<;>omega)
 ·obtain⟨its,r',pl,hz⟩:=I.tuple hq;have hlen:=r'.length;obtain⟨o,ho,hc,n,hd⟩:=pl;exact call_list_seq p (.inr rfl) ho hc hd (fun h' c' kp e=>fin its r' hz h' c' kp e) (by simp only[Qar]<;>omega)
theorem Zcg:ZbW X (.type "tuple") (fun xs H Q=>∃p ys,xs=[.ref p]∧((SqL X.K H p ys∧∀l,H l=none→Q (.ref l) (upd H l (.tup ys)))∨(SqT X.K H p ys∧Q (.ref p) H))):=by
 intro qc s σ H xs us Q I r h;obtain⟨p,ys,rfl,h⟩:=h;obtain⟨u,rfl,rx⟩:=Zcf r;cases rx;rcases h with⟨hq,q⟩|⟨hq,q⟩
 ·obtain⟨its,r',pl,hz⟩:=I.list hq;have hlen:=r'.length;refine call_tuple_list pl.isList (fun h' kp=> ?_) (by simp only[Qar]<;>omega);have I1:Inv X qc σ H {s with heap:=h' }:=I.kept (t':=s.toks) kp
  have I2:Inv X qc σ (upd H h'.objs.size (.tup ys)) {s with heap:=h'.push {cls:=.type "tuple",data:=.seq its.toArray } }:=
   I1.laid (t':=s.toks) (fun b o e=>Qak _ e) (Qaf _) (show ZbG X.prog X.w _ _ _ (.tup ys) from⟨hz,its,r',QeR _ _⟩)
  exact⟨.ref h'.objs.size,_,I2,rfl,q _ (I1.hok.fresh (Qaf _))⟩
 ·obtain⟨its,r',pl,hz⟩:=I.tuple hq;exact call_tuple_same pl ⟨.ref p,H,I,rfl,q⟩
def tyV (K:PySem.W.Frag)(T:String)(x:V)(H:Hp):Prop:=match x with
 | .str _=>T= "str"
 | .int _=>T= "int"
 | .ref p=>(T= "list" ∧∃xs,SqL K H p xs)∨(T= "tuple" ∧∃o,K.lookup p=some o∧o.cls= .type "tuple" ∧o.dict=none)∨
   (T= "dict" ∧((∃kvs,H p=some (.dK kvs))∨∃kvs,H p=some (.dT kvs)))∨(T= "set" ∧∃S n,H p=some (.set S n))
 |_=>False
theorem ZnV {x:V}(I:Inv X qc σ H s)(r:Zbd x v)(ty:tyV X.K T x H):
  s.TypeIs v T∧∀a,v= .ref a→∃ob,s.heap.get? a=some ob∧ob.dict=none:=by
 cases x with
 |str z=>
  obtain⟨t,rfl⟩:=r;cases(show T= "str" from ty);exact⟨typeIs_str s z t,fun _ e=>nomatch e⟩
 |int i=>
  obtain⟨t,rfl⟩:=r;cases(show T= "int" from ty);exact⟨typeIs_int s i t,fun _ e=>nomatch e⟩
 |ref p=>
  cases r;rcases ty with⟨rfl,xs,hq⟩|⟨rfl,o,hk,hc,hd⟩|⟨rfl,hk⟩|⟨rfl,S,n,hk⟩
  ·obtain⟨its,_,pl,_⟩:=I.list hq;refine⟨pl.isList.typeIs,fun a e=> ?_⟩;cases e;obtain⟨o,n,e,c,hd,_⟩:=pl;exact⟨o,e,hd⟩
  ·refine⟨⟨o,I.kIn p o hk,hc⟩,fun a e=> ?_⟩;cases e;exact⟨o,I.kIn _ o hk,hd⟩
  ·have z:∃o,s.heap.get? p=some o∧o.ExactDict:=by
    rcases hk with⟨kvs,hk⟩|⟨kvs,hk⟩
    ·obtain⟨_,_,_,_,o,_,_,e,ex,_⟩:=I.hok p _ hk;exact⟨o,e,ex⟩
    ·obtain⟨_,_,_,_,o,_,_,e,ex,_⟩:=I.hok p _ hk;exact⟨o,e,ex⟩
   obtain⟨o,e,ex⟩:=z;refine⟨⟨o,e,ex.1⟩,fun a e2=> ?_⟩;cases e2;exact⟨o,e,ex.2.1⟩
  ·obtain⟨o,_,_,_,e,ex,_⟩:=I.hok p _ hk;refine⟨⟨o,e,ex.1⟩,fun a e2=> ?_⟩;cases e2;exact⟨o,e,ex.2.1⟩
 |_=>exact False.elim ty
def tBM (K:PySem.W.Frag)(T:String)(r:V→List V→Hp→VK→Prop)(to:TE)(t:TA):TE:=fun σ H Q=>to σ H fun x H1=>tyV K T x H1∧t σ H1 fun xs H2=>r x xs H2 Q
variable {o:Expr}{es:List Expr}{to:TE}{t:TA}{name:Str}{qY qA:PySem.Pos}{id:String}{r:V→List V→Hp→VK→Prop}
theorem Zdk (pa:PlainAttrs T)(slot:Slot T name id)(hty:typeOf (.builtin id)=pure (.type "method_descriptor"))(hm:MtR X id r)(ho:PE X o to)(ha:PA X (e::es) t)
  (hbase:attributeBase o name X.env (eval o X.env)=eval o X.env:=by rfl)
  (hfew:((backTo qA (starEach (e::es) X.env)).all (fun x=> !x.1) && (backToKw qA (keywordEach [] X.env)).all (fun x=>x.1.isSome)
   && decide ((e::es).length+([]:List Keyword).length+(if([]:List Keyword).isEmpty then 0 else 1)<30))=true:=by rfl)
  (hline:(qY.endLine==qA.line)=true:=by rfl) (hs:starEach (e::es) X.env=(false,eval e X.env)::starEach es X.env:=by rfl) (hplain:(backTo qA (starEach es X.env)).any (·.1)=false:=by rfl):
  PE X (.Call (.Attribute o name qY) (e::es) [] qA) (tBM X.K T r to t):=by
 intro qc s σ H Q I h;refine wpAny_Call_method_late hbase hfew hline rfl (thn (ho qc s σ H _ I h) fun v s1 ⟨x,H1,I1,r1,ty,q1⟩=> ?_);obtain⟨h1,h2⟩:=ZnV I1 r1 ty;refine⟨T,id,pa,slot,hty,h1,h2,?_⟩;have hA:=ha qA qc s1 σ H1 _ I1 q1;rw[hs] at hA⊢;refine Qee (by show(false ||(backTo qA (starEach es X.env)).any (·.1))=false;rw[hplain]<;>rfl) (Calls.evalArgs_plain ?_);exact thn hA fun us s2 ⟨vs,H2,I2,r2,q2⟩=>hm qc s2 σ H2 x vs v us Q I2 r1 r2 q2
end
def MtM (X:Cx)(id:String)(r:V→List V→Hp→VK→Prop):Prop:=
 ∀(qc:List (Addr×Obj)) (s:Shared) (σ:St) (H:Hp) (x:V) (xs:List V) (v:Value) (us:List Value) (Q:VK),Inv X qc σ H s→Zbd x v→ZaZ xs us→r x xs H Q→
  wpAny (model X.prog X.w) X.A (call (.builtin id) (v::us)) (EP X qc σ Q) X.xe s
theorem ZaZ.one:∀{x:V} {us:List Value},ZaZ [x] us→∃u,us=[u]∧Zbd x u
 |_,_,.cons r .nil=>⟨_,rfl,r⟩
theorem ZaZ.eraseIdx:∀{xs:List V} {us:List Value} (i:Nat),ZaZ xs us→ZaZ (xs.eraseIdx i) (us.eraseIdx i)
 |_,_,_,.nil=> .nil
 |_,_,0,.cons _ t=>t
 |_,_,i+1,.cons r t=> .cons r (ZaZ.eraseIdx i t)
theorem ZaZ.rep {xs:List V}{us:List Value}(h:ZaZ xs us):∀k:Nat,ZaZ (List.replicate k xs).flatten (List.replicate k us).flatten
 |0=> .nil
 |k+1=>by
  rw[Qce,Qce,Qa4,Qa4];exact ZaZ.append h (ZaZ.rep h k)
theorem ZdD {α:Type}:∀(l:List α) (i:Nat),(l.eraseIdx i).length≤l.length
 | [],_=>Qaf _
 |_::_,0=>Qcf _
 |_::r,i+1=>Qd7 (ZdD r i)
theorem ZfJ (its:List Value):∀(k:Nat) (acc:List Value),
  List.foldl (fun x1 x2=>x1++x2) acc.toArray (List.replicate k its.toArray)=(acc++(List.replicate k its).flatten).toArray
 |0,acc=>by simp
 |k+1,acc=>by
  have e:acc.toArray++its.toArray=(acc++its).toArray:=by simp
  have e2:(acc++its)++(List.replicate k its).flatten=acc++(List.replicate (k+1) its).flatten:=by
   rw[Qce,Qa4,Qaw]
  rw[←e2,←ZfJ its k (acc++its),←e,Qce,List.foldl_cons]
section
variable {l b:Addr}{xs ys zs:List V}
theorem Inv.lset {f:Array Value→Array Value}(I:Inv X qc σ H s)(hH:H l=some (.lst xs))
  (e:s.heap.get? l=some {cls:=.type "list",data:=.seq its.toArray n }) (hf:f its.toArray=its'.toArray) (hv:ZaZ ys its') (hz:ys.length≤sizeLine):
  Inv X qc σ (upd H l (.lst ys)) {s with heap:=s.heap.update l (Obj.mapSeq f),toks:=t' }:=by
 have q:=PySem.IsL.update e f;rw[hf] at q;refine I.write (x:=l) (e:=l) (by rw[hH];exact trivial) (.inl rfl) (fun b' u hb hu=>(Qed s.heap (Obj.mapSeq f) (Ne.symm hb)).trans hu) ⟨_,q⟩ ?_;exact⟨hz,its',_,hv,q⟩
theorem Inv.lnew (I:Inv X qc σ H s)(hv:ZaZ ys its)(hz:ys.length≤sizeLine):
  Inv X qc σ (upd H s.heap.objs.size (.lst ys)) {s with heap:=s.heap.push {cls:=.type "list",data:=.seq its.toArray },toks:=t' }:=
 I.laid (fun _ _ q=>Qak _ q) (Qaf _) ⟨hz,its,0,hv,QaQ _ rfl⟩
theorem Inv.fresh (I:Inv X qc σ H s):H s.heap.objs.size=none:=I.hok.fresh (Qaf _)
theorem Inv.lstM (I:Inv X qc σ H s)(hH:H l=some (.lst xs)):xs.length≤sizeLine∧∃(its:List Value) (n:Nat),ZaZ xs its∧xs.length=its.length∧s.heap.get? l=some {cls:=.type "list",data:=.seq its.toArray n }:=by
 obtain⟨z,its,n,r,e⟩:=I.hok l _ hH;exact⟨z,its,n,r,r.length,e⟩
theorem ZkR (h:n≤sizeLine):Builtin.List.listTooLong n=false:=by
 unfold Builtin.List.listTooLong;exact Qal (by omega)
end
def ZdE:V→List V→Hp→VK→Prop:=fun x vs H Q=>∃l xs y,x= .ref l∧vs=[y]∧H l=some (.lst xs)∧xs.length<sizeLine∧Q .non (upd H l (.lst (xs++ [y])))
theorem Zb1:MtM X "list.append" ZdE:=by
 intro qc s σ H x vs v us Q I rx rv h;obtain⟨l,xs,y,rfl,rfl,hH,hz,q⟩:=h;cases rx;obtain⟨u,rfl,ru⟩:=rv.one;obtain⟨z,its,n,r,hl,e⟩:=I.lstM hH;refine QcZ F.slot_list_append ⟨_,e,rfl⟩ F.entry_list_append (F.args_list_append_2 _ _) (PySem.list_append l its.toArray n u (by rw[Qar];omega)) ⟨e,?_⟩;refine⟨.non,_,I.lset (its':=its++ [u]) hH e (by simp) (r.append (.cons ru .nil)) ?_,rfl,q⟩;rw[Qae,Qem];omega
def Zi4:V→List V→Hp→VK→Prop:=fun x vs H Q=>∃l xs i k y,x= .ref l∧vs=[.int i]∧H l=some (.lst xs)∧-(2^63)≤i∧i<2^63∧seqIndex? i xs.length=some k∧xs[k]?=some y∧Q y (upd H l (.lst (xs.eraseIdx k)))
theorem ZeK:MtM X "list.pop" Zi4:=by
 intro qc s σ H x vs v us Q I rx rv h;obtain⟨l,xs,i,k,y,rfl,rfl,hH,h1,h2,hk,hy,q⟩:=h;cases rx;obtain⟨u,rfl,ru⟩:=rv.one;obtain⟨t,rfl⟩:=ru;obtain⟨z,its,n,r,hl,e⟩:=I.lstM hH;obtain⟨w,hw,rw'⟩:=r.get hy
 refine QcZ F.slot_list_pop ⟨_,e,rfl⟩ F.entry_list_pop (F.args_list_pop_2 _ _)
  (MeetsSeq.list_pop_at l its.toArray n i t k w (fitsIndex_both h1 h2) (by rw[Qar,←hl];exact hk) (by rw[←QaH];exact hw) (by rw[Qar];omega)) ⟨e,?_⟩
 refine⟨y,_,I.lset (its':=its.eraseIdx k) hH e ?_ (r.eraseIdx k) ?_,rw',q⟩
 ·show its.toArray.eraseIdxIfInBounds k=(its.eraseIdx k).toArray;rw[Qc0]
 ·have:=ZdD xs k;omega
def Znz:R2:=fun x y H Q=>∃l b xs zs,x= .ref l∧y= .ref b∧H l=some (.lst xs)∧H b=some (.lst zs)∧xs.length+zs.length≤sizeLine∧∀p,H p=none→Q (.ref p) (upd H p (.lst (xs++zs)))
theorem Zes:OpR X (binaryOp .Add) Znz:=by
 intro qc s σ H x y v u Q I rx ry h;obtain⟨l,b,xs,zs,rfl,rfl,hH,hB,hz,q⟩:=h;cases rx;cases ry;obtain⟨z,its,n,r,hl,e⟩:=I.lstM hH;obtain⟨z2,its2,n2,r2,hl2,e2⟩:=I.lstM hB;refine PySem.P.add_list e e2 ?_ (by rw[Qar,Qar];omega);have ea:its.toArray++its2.toArray=(its++its2).toArray:=by simp
 rw[ea];exact⟨.ref _,_,I.lnew (t':=s.toks) (r.append r2) (by rw[Qae];omega),rfl,q _ I.fresh⟩
theorem ZmC {α:Type}(xs:List α)(k:Nat):(List.replicate k xs).flatten.length=k*xs.length:=by
 induction k with
 |zero=>simp
 |succ k ih=>rw[Qce,Qa4,Qae,ih,Nat.succ_mul,QeN]
end L2
namespace Att
open PySem PySem.W PySem.Calls PyProof.Rows
variable {P:Params}{h:Heap}{l:OpenLaw}{n:Nat}
theorem ZdF :∀(ns:List Int) (vs:List Value),WellAll P h vs (ns.map WData.int)→IntsAre vs ns:=by
 intro ns
 induction ns with
 |nil=>
  intro vs w;rw[QcP] at w;cases w;exact .nil
 |cons n ns ih=>
  intro vs w;rw[Qa5] at w
  cases w with
  |cons a b=>
   cases a;exact .cons _ _ (ih _ b)
theorem Zi5 (hn:l.most=some n){args:List WData}{vals:List Value}
  (qm:l.row.toRowW.claim.pre args=true) (hwl:WellAll P h vals args):
  ∃a vs ns,vals=[Value.ref a]∧args=[WData.list (ns.map WData.int)]∧h.get? a=some {cls:=.type "list",data:=.seq vs.toArray }∧IntsAre vs ns∧ns.length≤n:=by
 have hsh:WShape.hasAll [] args [.list .int]=true:=(pre_splitW qm).1;have hc:l.pre.holds [] {args:=args }=true:=(pre_splitW qm).2;obtain⟨d,r,rfl,h1,h2⟩:=hasAllW_cons hsh;obtain rfl:=hasAllW_nil h2;obtain⟨xs,rfl,h3⟩:=hasW_list h1;obtain⟨ns,rfl⟩:=items_int h3
 have hlen:ns.length≤n:=by
  unfold OpenLaw.pre at hc
  have h4:(WTm.not (.lt (.lit (.int (n:Int))) (.len (.arg 0)))).holds [] {args:=[.list (ns.map .int)] }=true:=by
   have h4:=(holds_andW hc).1;rw[hn] at h4;exact h4
  have h5:=condW_of h4 (w_not (w_lt w_lit (w_len_list (w_arg rfl))));rw[Qaa] at h5;refine Nat.le_of_not_lt fun q=> ?_;have q':(n:Int)<((ns.length:Nat):Int):=by omega
  first
   | (rw[Qan q'] at h5;exact absurd h5 (by decide))
   | (simp at h5;omega)
 cases hwl with
 |cons w1 w2=>
  cases w2
  cases w1 with
  |list ho hall=>exact⟨_,_,ns,rfl,rfl,ho,ZdF ns _ hall,hlen⟩
theorem Zi6 (l:OpenLaw)(args:List WData):l.row.toRowW.claim.post args (.bool true) args=true:=
 postW_of (r:=l.row.toRowW) (X:=(true==true))
  (show WShape.has [] (.bool true) .bool=true by first|rfl|decide|simp[WShape.has,WShape.arms,WShape.armsAll])
  (show(WTm.eq .res (.lit (.bool true))).value [] {args:=args,res:=some (.bool true),after:=args }=some (.bool (true==true)) from w_eq_bool (w_res rfl) w_lit) rfl
theorem attach_call {q:Program}{q9:List Str}{XP:(Str→Option Value)→Heap→Prop}{YP:World→Heap→Prop}{d:DefRec}
  (hn:l.most=some n) (hdf:d.params.defaults=[])
  (call:∀(w:World) (s₀ s₁:Shared) (mg mb:Str→Option Value) (fa:Addr) (o:Obj) (pm cd doc:Value) (a:Addr) (vs:List Value) (ns:List Int),
   Ground q q9 [] XP w s₀ mg mb s₁.heap→YP w s₁.heap→
   s₁.heap.get? fa=some o→o.data= .func (docDef d.name d.params d.body d.scope pm cd doc)→s₁.heap.CodeRec cd d.name→mg d.name=some (.ref fa)→
   s₁.heap.get? a=some {cls:=.type "list",data:=.seq vs.toArray }→IntsAre vs ns→ns.length≤n→s₁.gens= #[]→
   codeAny (model l.prog w) callerA (.call (.ref fa) ⟨[.ref a],[]⟩) (fun r s'=>r= .ok (.ret (.bool true))∧OldK s₁.heap s'.heap∧s'.os=s₁.os∧AllBare s'.gens) s₁):
  WalkO q q9 XP YP l.row.toRowW d [] (fun f vs=>PySem.call f vs):=by
 intro w s₀ s₁ mg mb G Y fa o pm cd doc dV kV ho hd hcd hD hmg hg args vals as qm hlay hrd hwl hlo;obtain rfl:dV= .none:=Dflts.none hD hdf;obtain rfl:kV= .none:=Dflts.noKw hD;obtain⟨a,vs,ns,rfl,rfl,hobj,hints,hlen⟩:=Zi5 hn qm hwl;refine enter_call (QeL (call w s₀ s₁ mg mb fa o pm cd doc a vs ns G Y ho (fd_plain hd) hcd hmg hobj hints hlen hg) fun r s' hq=> ?_);obtain⟨rfl,h2,h3,h4⟩:=hq;exact⟨.inl ⟨.bool true,.bool true,[],rfl,fun _=>rfl,.bool true,Zi6 l _,fun _=>⟨Qcs,fun _ hm=>(nomatch hm)⟩⟩,h2,h3,h4⟩
end Att
namespace L2
open PySem PySem.Spec PyProof.Rows
variable {H H' H1 H2:Hp}{X:Cx}{n k m W i j t' tk:Nat}{w:World}{pos p tpos:PySem.Pos}{a f:Addr}{s:Shared}{A:Around}{σ:St}{x qh:Str}{d:PyData}{te t1 t2 t3 td:TE}{P prog:Program}{g:TG}{es ifs l tes:List Expr}{E:Value→Shared→Prop}{tt:TT}{u r v:Value}{env:Env}{qc:List (Addr×Obj)}{ds:List PyData}{scope:Scope}{rk:Value→Int}{xs a0:Array Keyed}{elt tg qp e b e1 e3 value o:Expr}{Q:VK}{h' h:Heap}{vs:List Value}{st:Stmt}{B:Prop}{T:String}{Nb ps:List Str}{wi:TI}{mg:Str→Option Value}{sp:Sp}{names:List (Str×NameKind)}{R:Result→Shared→Prop}{items:Array Value}{ch:List Addr}{ta:TA}
theorem ZdG:∀{vs:List Value} {ns:List Int},IntsAre vs ns→ZaZ (ns.map V.int) vs
 |_,_,.nil=> .nil
 |_,_,.cons n t h=> .cons ⟨t,rfl⟩ (ZdG h)
def Zpc (H:Hp):Prop:=∀b,H b=none∨∃o xs,H b=some (.frz o (.lst xs))
theorem ZkS {K:PySem.W.Frag}{mb:Str→Option Value}{CX:CXT}{fa:Addr}{fd:FuncData}{s₁:Shared}{ns:List Int}
  (KX:K.In s₁.heap) (hns:s₁.heap.Ns mainGlobals mg) (hb:s₁.heap.Ns builtinsNs mb) (hbb:∀x:Str,x≠ "__name__" →mb x=bootBuiltins x) (hlim:s₁.heap.NoLimit) (hg:s₁.gens= #[])
  (ha:s₁.heap.get? a=some {cls:=.type "list",data:=.seq vs.toArray }) (hi:IntsAre vs ns) (hl:ns.length≤sizeLine) (hr:Zc2 k callerA)
  (F:∀base:Heap,K.In base→base.Ns mainGlobals mg→Zcc P w K mg base CX k fa fd [x] sp) (hbind:∀(s:Shared) (u:Value),BindsTo s fd ⟨[u],[]⟩ [(x,u)])
  (hsp:∀H:Hp,Zpc H→SqL K H a (ns.map V.int)→sp [.ref a] H (fun v _=>v= .bl true) fun _ _ _=>False)
  (hCX:∀H e s',CX [] H s₁ (fun _ _ _=>False) e s'→False):
  codeAny (model P w) callerA (.call (.ref fa) ⟨[.ref a],[]⟩) (fun r s'=>r= .ok (.ret (.bool true))∧OldK s₁.heap s'.heap∧s'.os=s₁.os∧AllBare s'.gens) s₁:=by
 have rv:=ZdG hi;have lenV:=hi.length
 have core:∀H:Hp,Zpc H→SqL K H a (ns.map V.int)→HOk P w H s₁.heap→(∀b,H b≠none→b=a)→(H a≠none→K.lookup a=none)→
   codeAny (model P w) callerA (.call (.ref fa) ⟨[.ref a],[]⟩) (fun r s'=>r= .ok (.ret (.bool true))∧OldK s₁.heap s'.heap∧s'.os=s₁.os∧AllBare s'.gens) s₁:=by
  intro H hO hS hok hA hK;have base_of:∀{b:Addr} {o:Obj},s₁.heap.get? b=some o→H b=none→(ZkI s₁.heap H).get? b=some o:=fun e n=>ZkJ e n
  have noA:∀{b:Addr} {o:Obj} {es:Array DictEntry} {ep:Nat},s₁.heap.get? b=some o→o.data= .dict es ep→H b=none:=fun{b o es ep} e d=>by
   cases q:H b with
   |none=>rfl
   |some u=>
    have e':b=a:=hA b (by rw[q];simp);subst e';rw[ha] at e;cases e;have d':Data.seq vs.toArray _=Data.dict es ep:=d;cases d'
  have nsK:∀{b:Addr} {m:Str→Option Value},s₁.heap.Ns b m→(ZkI s₁.heap H).Ns b m:=fun{b m} ⟨o,es,ep,e,d,r⟩=>⟨o,es,ep,base_of e (noA e d),d,r⟩
  have hKb:K.In (ZkI s₁.heap H):=fun b o e=>base_of (KX b o e) (by
   cases q:H b with
   |none=>rfl
   |some u=>
    have e':b=a:=hA b (by rw[q];simp)
    subst e'
    rw[hK (by rw[q];simp)] at e;cases e)
  have hM:Mod K mg (ZkI s₁.heap H):=⟨hKb,nsK hns,⟨mb,nsK hb,hbb⟩,let⟨mc,h1,h2⟩:=hlim;⟨mc,nsK h1,h2⟩⟩;have e0:ZoV P w K mg (ZkI s₁.heap H) callerA [] s₁ H:=⟨rfl,hM,fun b o e=>Zms e,Nat.le_of_eq (ZiE _ _),trivial,fun b hb=>absurd (show b∈([]:List Addr) from hb) (by simp),hok,.of_eq hg⟩;refine QeL ((F _ hKb (nsK hns)).run callerA [] s₁ H ⟨[.ref a],[]⟩ [.ref a] [.ref a] _ _ hr e0 (hbind s₁ (.ref a)) (.cons rfl .nil) (hsp H hO hS)) fun r s' h=> ?_
  cases r with
  |error e=>exact(hCX H e s' h).elim
  |ok fl=>
   cases fl with
   |next=>exact False.elim h
   |brk=>exact False.elim h
   |cont=>exact False.elim h
   |ret u=>
    obtain⟨v,H',os,bare,un,hok',r',q⟩:=h;have q':v= .bl true:=q;subst q';obtain rfl:u=Value.bool true:=r';refine⟨rfl,OldK.of_keep fun b o e=> ?_,os,bare⟩
    cases q:H b with
    |none=>exact un.keep b o e q (by intro z;exact absurd (show b∈([]:List Addr) from z) (by simp)) (by simp)
    |some u=>
     rcases hO b with z|⟨ob,xs,z⟩
     ·rw[q] at z;cases z
     ·have z2:=un.frzs b ob _ z;obtain⟨e1,_⟩:=hok b _ z;obtain⟨e2,_⟩:=hok' b _ z2;rw[e] at e1;cases e1;exact e2
 cases hk:K.lookup a with
 |some o=>
  have e:=KX a o hk;rw[ha] at e;cases e;refine core (fun _=>none) (fun _=> .inl rfl) (.inr ⟨_,vs.toArray,_,hk,rfl,rfl,rfl,by rw[Qar,lenV];exact hl,by simpa using rv⟩) (fun b u z=>by have z':(none:Option HO)=some u:=z;cases z') (fun b z=>absurd rfl z) fun z=>absurd rfl z
 |none=>
  refine core (fun b=>if b=a then some (.frz {cls:=.type "list",data:=.seq vs.toArray } (.lst (ns.map V.int))) else none) (fun b=> ?_) (.inl (.inr ⟨{cls:=.type "list",data:=.seq vs.toArray },if_pos rfl⟩)) (fun b u z=> ?_) (fun b z=> ?_) fun _=>hk
  ·by_cases hb:b=a
   ·exact .inr ⟨_,_,if_pos hb⟩
   ·exact .inl (if_neg hb)
  ·by_cases hb:b=a
   ·have z':=(if_pos hb).symm.trans z;cases z';subst hb;exact⟨ha,by rw[Qaa];exact hl,vs,_,rv,ha⟩
   ·have z':=(if_neg hb).symm.trans z;cases z'
  ·by_cases hb:b=a
   ·exact hb
   ·exact absurd (if_neg hb) z
theorem walk_of {l:PySem.W.OpenLaw}{q:Program}{q9:List Str}{XP:(Str→Option Value)→Heap→Prop}{YP:World→Heap→Prop}{d:DefRec}{K:Params→PySem.W.Frag}{CX:World→CXT}{sp:World→Sp}
  (hn:l.most=some n) (hn2:n≤sizeLine) (hdf:d.params.defaults=[]) (hr:Zc2 k callerA)
  (hY:∀(w:World) (h:Heap),YP w h→(K w.params).In h)
  (F:∀(w:World) (mg:Str→Option Value) (fa:Addr) (h:Heap),(K w.params).In h→h.Ns mainGlobals mg→mg d.name=some (.ref fa)→
   ∃fd:FuncData,(∀(s:Shared) (u:Value),BindsTo s fd ⟨[u],[]⟩ [(x,u)])∧
    ∀base:Heap,(K w.params).In base→base.Ns mainGlobals mg→Zcc l.prog w (K w.params) mg base (CX w) k fa fd [x] (sp w))
  (hsp:∀(w:World) (H:Hp) (a:Addr) (ns:List Int),ns.length≤n→Zpc H→SqL (K w.params) H a (ns.map V.int)→sp w [.ref a] H (fun v _=>v= .bl true) fun _ _ _=>False)
  (hCX:∀(w:World) (H:Hp) (s:Shared) (e:Value) (s':Shared),CX w [] H s (fun _ _ _=>False) e s'→False):
  PySem.W.WalkO q q9 XP YP l.row.toRowW d [] (fun f vs=>PySem.call f vs):=by
 refine Att.attach_call hn hdf fun w s₀ s₁ mg mb fa o pm cd doc a vs ns G Y ho hd hcd hmg hobj hints hlen hg=> ?_;have KX:=hY w _ Y;obtain⟨fd,hb,hF⟩:=F w mg fa _ KX G.T.g hmg;exact ZkS KX G.T.g G.T.b G.T.builtins G.T.nolimit hg hobj hints (QaI hlen hn2) hr hF hb (fun H hO hS=>hsp w H a ns hlen hO hS) fun H e s'=>hCX w H s₁ e s'
def Zaz (s:Stmt):Arguments:=match s with
 | .FunctionDef _ a _ _ _ _ _ _ _ _=>a
 |_=>{posonlyargs:=[],args:=[],vararg:=none,kwonlyargs:=[],kw_defaults:=[],kwarg:=none,defaults:=[] }
def Zay (s:Stmt):List Stmt:=match s with
 | .FunctionDef _ _ b _ _ _ _ _ _ _=>b
 |_=>[]
def Zag (s:Stmt):Scope:=match s with
 | .FunctionDef _ _ _ _ _ _ sc _ _ _=>sc
 |_=>{kind:=.function,names:=[],isGenerator:=false,isCoroutine:=false }
abbrev CX0:CXT:=fun _ _ _ _ _ _=>False
abbrev E0:XK:=fun _ _ _=>False
theorem Zpd :ZiY CX0 X E0:=fun _ _ _ _ _ _ _ h=>h.elim
structure Fun (K:PySem.W.Frag)(x qh:Str)(st:Stmt)(f:Addr)(fd:FuncData):Prop where
 ex:∃(oc:Value) (od:Option Addr) (kV doc pm:Value) (an:Option Addr) (cdv ct:Value) (osl:Array (Option Value)),
  fd=PySem.W.fnOf x qh (Zaz st) (Zay st) (Zag st) .none kV doc pm an cdv ct∧K.lookup f=some ⟨oc,od,.func fd,osl⟩∧PySem.W.codeIn K cdv qh=true
 kp:PySem.W.keepIn K (.ref f)=true
section
variable {K:PySem.W.Frag}{base:Heap}
theorem Fun.ok {fd:FuncData}{N:List Str}(F:Fun K x qh st f fd)(S:ZaC N ps (Zag st))(len:∀vs H Q E,sp vs H Q E→vs.length=ps.length)
  (hbody:∀(cdv:Value) (A:Around) (outer:List Env) (s:Shared) (H:Hp) (vs:List V) (Q:VK) (E:XK),Zc2 k (A.deeper (envOfC qh (Zag st) s.heap.objs.size f cdv))→sp vs H Q E→
   ∃t,PSs (Znx CX0 P w K mg base N qh (Zag st) f cdv A outer s H E).nox (Zay st) t∧t {nx:=fun _ H'=>Q .non H',rt:=Q } (start N vs) H):Zcc P w K mg base CX0 (k+1) f fd ps sp:=by
 obtain⟨oc,od,kV,doc,pm,an,cdv,ct,osl,rfl,lk,hcd⟩:=F.ex;refine Zpb lk hcd S len fun A outer s H vs Q E hr hsp=> ?_;obtain⟨t,h,q⟩:=hbody cdv A outer s H vs Q E hr hsp;exact⟨t,h.nox,q⟩
theorem Fun.binds {fd:FuncData}(F:Fun K x qh st f fd)
  (h:∀(kV doc pm:Value) (an:Option Addr) (cdv ct:Value) (us:List Value),us.length=ps.length→bindArgs (PySem.W.fnOf x qh (Zaz st) (Zay st) (Zag st) .none kV doc pm an cdv ct) ⟨us,[]⟩=pure (ps.zip us)):Zh6 K fd ps []:=by
 obtain⟨oc,od,kV,doc,pm,an,cdv,ct,osl,rfl,lk,hcd⟩:=F.ex;exact .all (h kV doc pm an cdv ct)
theorem ZaP {oc:Value}{od an:Option Addr}{osl:Array (Option Value)}{kV doc pm cdv ct:Value}(l:K.lookup f=some ⟨oc,od,.func (PySem.W.fnOf x qh (Zaz st) (Zay st) (Zag st) .none kV doc pm an cdv ct),osl⟩)
  (c:PySem.W.codeIn K cdv qh=true) (k:PySem.W.keepIn K (.ref f)=true):Fun K x qh st f (PySem.W.fnOf x qh (Zaz st) (Zay st) (Zag st) .none kV doc pm an cdv ct):=⟨⟨oc,od,kV,doc,pm,an,cdv,ct,osl,rfl,l,c⟩,k⟩
end
theorem ZmD (hr:Zc2 k A):A.units+1<cLine:=QaN (Nat.add_le_add_left (by decide:1≤64) _) hr.units
theorem Zbs (h:n≤1000):n<sizeLine:=QaN h (by decide)
theorem pv (i:Nat)(hN:X.N[i]?=some x:=by rfl)(hv:Vis X.env.scope x:=by first|exact Or.inl rfl|exact Or.inr (Or.inl rfl)|exact Or.inr (Or.inr rfl))(hd:(x==("__debug__" :Str))=false:=by decide)
  (hcd:(x==("__classdict__" :Str))=false:=by decide):PE X (.Name x pos) (Zam i):=ZnH hN hv hd hcd
theorem ZcQ {A:Prop}(h:B):if false=true then A else B:=by
 rw[if_neg QaG];exact h
theorem ZdH {A:Prop}(h:A):if true=true then A else B:=by
 rw[if_pos rfl];exact h
theorem ZeL {c A:Prop} [Decidable c](h1:c→A)(h2:¬c→B):if c then A else B:=by
 by_cases h:c
 ·rw[if_pos h];exact h1 h
 ·rw[if_neg h];exact h2 h
def Zai (H H':Hp):Prop:=∀b o,H b=some o→H' b=some o
theorem Zai.refl (H:Hp):Zai H H:=fun _ _ h=>h
theorem Zai.trans (a:Zai H H1)(b:Zai H1 H2):Zai H H2:=fun c o h=>b c o (a c o h)
theorem Zai.free (e:Zai H H'){l:Addr}(h:H' l=Option.none):H l=Option.none:=by
 cases q:H l with
 |none=>rfl
 |some o=>
  rw[e l o q] at h;cases h
theorem Zai.seq {K:PySem.W.Frag}{xs:List V}(e:Zai H H')(h:SqL K H a xs):SqL K H' a xs:=by
 rcases h with(h|⟨o,h⟩)|h
 ·exact .inl (.inl (e _ _ h))
 ·exact .inl (.inr ⟨o,e _ _ h⟩)
 ·exact .inr h
def Zi7 (i j:Int):Prop:=0<j∧j.natAbs.log2<9000
theorem ZbM:OpR X (binaryOp .FloorDiv) (rI Zi7 fun i j=> .int (i/j)):=opI fun i j _ _ _ _ _ hc q=>by
 have h1:(0:Int)<j:=hc.1;exact floordiv_int (by omega) (by rw[Qdx i (by omega)];exact q) (.inl (PyProof.noPylong_of_log2 hc.2))
theorem Zgx :ZbW X (.builtin "isinstance") (fun xs H Q=>∃x t b,xs=[x,.ty T]∧Zep X.K H x t∧PySem.W.kitOne X.K t (.type T)=some b∧Q (.bl b) H):=by
 intro qc s σ H xs us Q I r h;obtain⟨x,t,b,rfl,ty,e,q⟩:=h;obtain⟨u,w',rfl,r1,r2⟩:=ZiT r;cases(show w'= .type T from r2);exact ZiX I r1 ty e fun tk=>⟨.bl b,H,I.tok _,rfl,q⟩
theorem Zgy (env:Env):∀(names:List (Str×NameKind)) (acc:List (Str×Addr)),(∀y∈names,y.2= .free→∃c,env.cells.lookup y.1=some c)→(∀y c,acc.lookup y=some c→env.cells.lookup y=some c)→
  ∃cl,(forIn names acc fun(x:Str×NameKind) (r:List (Str×Addr))=>if(x.2==NameKind.free)=true then(do let c←cellOf env x.1;pure (ForInStep.yield ((x.1,c)::r))) else pure (ForInStep.yield r):Sem _)=pure cl∧
   (∀y c,cl.lookup y=some c→env.cells.lookup y=some c)∧(∀y,(y,NameKind.free)∈names→(cl.lookup y).isSome=true)∧(∀y,(acc.lookup y).isSome=true→(cl.lookup y).isSome=true)
 | [],acc,_,h=>⟨acc,by simp,h,fun y z=>absurd z (by simp),fun _ z=>z⟩
 | (n,k)::r,acc,hf,h=>by
  by_cases hk:k= .free
  ·subst hk;obtain⟨c,hc⟩:=hf (n,.free) QaA rfl
   obtain⟨cl,e,h1,h2,h3⟩:=Zgy env r ((n,c)::acc) (fun y hy=>hf y (QaD _ hy)) (fun y d hd=>by
    rw[QbY] at hd
    cases z:y==n with
    |true=>
     rw[z] at hd
     have:y=n:=by simpa using z
     subst this
     cases hd
     exact hc
    |false=>rw[z] at hd;exact h y d hd)
   have hin:∀y,(((n,c)::acc).lookup y).isSome=true∨True:=fun _=> .inr trivial;refine⟨cl,?_,h1,fun y hy=> ?_,fun y hy=>h3 y ?_⟩
   ·rw[Qen];have e0:cellOf env n=pure c:=by unfold cellOf;rw[hc]
    simp only[beq_self_eq_true,QeI,e0,pure_bind];exact e
   ·rcases QaJ.mp hy with z|z
    ·cases z;exact h3 _ (by rw[QbY];simp)
    ·exact h2 y z
   ·rw[QbY]
    cases y==n with
    |true=>rfl
    |false=>exact hy
  ·obtain⟨cl,e,h1,h2,h3⟩:=Zgy env r acc (fun y hy=>hf y (QaD _ hy)) h;refine⟨cl,?_,h1,fun y hy=> ?_,h3⟩
   ·rw[Qen];have hb:(k==NameKind.free)=false:=by simpa using hk
    simp only[hb,Qcn,Qdk,pure_bind];exact e
   ·rcases QaJ.mp hy with z|z
    ·cases z;exact absurd rfl hk
    ·exact h2 y z
theorem ZmE (hf:∀y∈scope.names,y.2= .free→∃c,env.cells.lookup y.1=some c):∃cl,closureFor scope env=pure cl∧(∀y c,cl.lookup y=some c→env.cells.lookup y=some c)∧(∀y,(y,NameKind.free)∈scope.names→(cl.lookup y).isSome=true):=by
 obtain⟨cl,e,h1,h2,_⟩:=Zgy env scope.names [] hf (fun y c h=>by cases h);refine⟨cl,?_,h1,h2⟩;unfold closureFor;simp only[bind_pure];exact e
def Zcp:TT:=fun _ H Q=>Q true H
def PIf (X:Cx)(ifs:List Expr)(t:TT):Prop:=
 ∀(qc:List (Addr×Obj)) (s:Shared) (σ:St) (H:Hp) (Q:Bool→Hp→Prop),Inv X qc σ H s→t σ H Q→
  wpAny (model X.prog X.w) X.A (forIn ifs true fun c r=>if r=true then do let ok←isTrue c X.env (eval c X.env);pure (ForInStep.yield ok) else pure (ForInStep.yield r)) (TP X qc σ Q) X.xe s
theorem ZaQ:PIf X [] Zcp:=fun qc s σ H Q I h=>wpAny_tests_nil ⟨H,I,h⟩
theorem ZmF {c:Expr}{t:TT}(hc:PT X c t):PIf X [c] t:=fun qc s σ H Q I h=>wpAny_tests_one (hc qc s σ H Q I h)
theorem Zcw {k:NameKind}(hc:∀y∈names,y.2≠ .cell)(h:(names.map fun(n,k)=>if(k==NameKind.free && env.scope.kind== .function && env.kindOf n==some .cell) then(n,NameKind.cell) else(n,k)).lookup x=some k):
  (k= .cell∨k= .free)→names.lookup x=some .free∧(k= .cell→env.kindOf x=some .cell):=by
 induction names with
 |nil=>cases h
 |cons p r ih=>
  obtain⟨n,k0⟩:=p;intro hk;have h:List.lookup x ((if(k0==NameKind.free && env.scope.kind== .function && env.kindOf n==some .cell)=true then(n,NameKind.cell) else(n,k0))::_)=some k:=h;by_cases c:(k0==NameKind.free && env.scope.kind== .function && env.kindOf n==some .cell)=true
  ·rw[if_pos c] at h;rw[QbY] at h⊢
   cases z:x==n with
   |true=>
    have e:x=n:=by simpa using z
    subst e;simp only[QbX,beq_iff_eq] at c;exact⟨by rw[c.1.1],fun _=>c.2⟩
   |false=>rw[z] at h;exact ih (fun y hy=>hc y (QaD _ hy)) h hk
  ·rw[if_neg c] at h;rw[QbY] at h⊢
   cases z:x==n with
   |true=>
    rw[z] at h;have e:k0=k:=QaR h;subst e;rcases hk with rfl|rfl
    ·exact absurd rfl (hc (n,.cell) QaA)
    ·exact⟨rfl,fun z=>by cases z⟩
   |false=>rw[z] at h;exact ih (fun y hy=>hc y (QaD _ hy)) h hk
theorem ZeM (h:(names.map fun(n,k)=>if(k==NameKind.free && env.scope.kind== .function && env.kindOf n==some .cell) then(n,NameKind.cell) else(n,k)).lookup x=some .local):
  names.lookup x=some .local:=by
 induction names with
 |nil=>cases h
 |cons p r ih=>
  obtain⟨n,k0⟩:=p;have h:List.lookup x ((if(k0==NameKind.free && env.scope.kind== .function && env.kindOf n==some .cell)=true then(n,NameKind.cell) else(n,k0))::_)=some .local:=h;by_cases c:(k0==NameKind.free && env.scope.kind== .function && env.kindOf n==some .cell)=true
  ·rw[if_pos c] at h;rw[QbY] at h⊢
   cases z:x==n with
   |true=>rw[z] at h;cases h
   |false=>rw[z] at h;exact ih h
  ·rw[if_neg c] at h;rw[QbY] at h⊢
   cases z:x==n with
   |true=>rw[z] at h;exact h
   |false=>rw[z] at h;exact ih h
inductive DI (K:PySem.W.Frag) (H:Hp):V→PyData→Prop where
 |non:DI K H .non .none
 |bl (b:Bool):DI K H (.bl b) (.bool b)
 |int (i:Int):DI K H (.int i) (.int i)
 |str (x:Str):DI K H (.str x) (.str x)
 |tup {a:Addr} {xs:List V} {ds:List PyData}:SqT K H a xs→xs.length=ds.length→(∀(i:Nat) (x:V) (d:PyData),xs[i]?=some x→ds[i]?=some d→DI K H x d)→DI K H (.ref a) (.tuple ds)
 |lst {a:Addr} {xs:List V} {ds:List PyData}:SqL K H a xs→xs.length=ds.length→(∀(i:Nat) (x:V) (d:PyData),xs[i]?=some x→ds[i]?=some d→DI K H x d)→DI K H (.ref a) (.list ds)
theorem ZcR:∀{us:List Value} {ds:List PyData} {xs:List V},ZaZ xs us→xs.length=ds.length→(∀(i:Nat) (x:V) (d:PyData) (u:Value),xs[i]?=some x→ds[i]?=some d→Zbd x u→∃as,Reads s.heap u d as)→∃as,ReadsAll s.heap us ds as
 |_,ds,_,.nil,hl,_=>by
  cases ds with
  |nil=>exact⟨_,.nil⟩
  |cons d r=>cases hl
 |_,ds,_,.cons (a:=x) r t,hl,h=>by
  cases ds with
  |nil=>cases hl
  |cons d rest=>
   obtain⟨as,ra⟩:=h 0 x d _ rfl rfl r;obtain⟨bs,rb⟩:=ZcR t (by simpa using hl) (fun i y e u h1 h2 h3=>h (i+1) y e u (by simpa using h1) (by simpa using h2) h3);exact⟨_,.cons ra rb⟩
theorem DI.reads (I:Inv X qc σ H s){x:V}(h:DI X.K H x d):∀{u:Value},Zbd x u→∃as,Reads s.heap u d as:=by
 induction h with
 |non=>intro u r;cases r;exact⟨_,.none⟩
 |bl b=>intro u r;cases r;exact⟨_,.bool b⟩
 |int i=>intro u r;obtain⟨t,rfl⟩:=r;exact⟨_,.int i t⟩
 |str x=>intro u r;obtain⟨t,rfl⟩:=r;exact⟨_,.str x t⟩
 |tup hq hl _ ih=>
  intro u r;cases r;obtain⟨its,rv,⟨o,e,c,n,hd⟩,_⟩:=I.tuple hq;obtain⟨as,ra⟩:=ZcR (s:=s) rv hl (fun i y d u h1 h2 h3=>ih i y d h1 h2 h3);exact⟨_,.tuple e c hd (by simpa using ra)⟩
 |lst hq hl _ ih=>
  intro u r;cases r;obtain⟨its,rv,pl,_⟩:=I.list hq;obtain⟨o,e,c,n,hd⟩:=pl.isList;obtain⟨as,ra⟩:=ZcR (s:=s) rv hl (fun i y d u h1 h2 h3=>ih i y d h1 h2 h3);exact⟨_,.list e c hd (by simpa using ra)⟩
def ZmG (K:PySem.W.Frag)(g:Bool→Bool):R2:=fun x y H Q=>∃dx dy,DI K H x dx∧DI K H y dy∧dx.canLay0=true∧dy.canLay0=true∧dx.depth≤60∧Q (.bl (g (PyData.eqv dx dy))) H
theorem ZnW (hr:Zc2 k X.A):OpR X (compareOp .Eq) (ZmG X.K fun b=>b):=by
 intro qc s σ H x y v u Q I rx ry h;obtain⟨dx,dy,hx,hy,cx,cy,hd,q⟩:=h;obtain⟨as,ra⟩:=hx.reads I rx;obtain⟨bs,rb⟩:=hy.reads I ry;have hu:=hr.units;exact SeqAt.compareEq_reads ra rb cx cy (by omega) ⟨.bl _,H,I,rfl,q⟩
theorem Zhq (hr:Zc2 k X.A):OpR X (compareOp .NotEq) (ZmG X.K fun b=> !b):=by
 intro qc s σ H x y v u Q I rx ry h;obtain⟨dx,dy,hx,hy,cx,cy,hd,q⟩:=h;obtain⟨as,ra⟩:=hx.reads I rx;obtain⟨bs,rb⟩:=hy.reads I ry;have hu:=hr.units;exact SeqAt.compareNe_reads ra rb cx cy (by omega) ⟨.bl _,H,I,rfl,q⟩
theorem Zi8:OpR X (compareOp .IsNot) (fun x y H Q=>∃b c,x= .bl b∧y= .bl c∧Q (.bl (!(b==c))) H):=by
 intro qc s σ H x y v u Q I rx ry h;obtain⟨b,c,rfl,rfl,q⟩:=h;cases rx;cases ry;refine wpAny_isNot_plain rfl ⟨.bl _,H,I,?_,q⟩;show Value.bool (!(Value.bool b==Value.bool c))=Value.bool (!(b==c));cases b<;>cases c<;>rfl
theorem ZeN (bs:List Bool):(List.range bs.length).all (fun i=>bs.getD i true)=bs.all id:=by
 induction bs with
 |nil=>rfl
 |cons b r ih=>
  rw[QaF,List.range_succ_eq_map,QcR,QdC,QcR]
  have:(List.range r.length).all ((fun i=>(b::r).getD i true) ∘ Nat.succ)=(List.range r.length).all (fun i=>r.getD i true):=by
   congr 1
  rw[this,ih];rfl
theorem Zhr (hc:X.calm=true):ZbW X (.builtin "all") (fun xs H Q=>∃(p:Addr) (bs:List Bool),xs=[.ref p]∧SqL X.K H p (bs.map V.bl)∧Q (.bl (bs.all id)) H):=by
 intro qc s σ H xs us Q I r h;obtain⟨p,bs,rfl,hq,q⟩:=h;obtain⟨u,rfl,rx⟩:=Zcf r;cases rx;obtain⟨its,rv,pl,hz⟩:=I.list hq
 have hlt:p<s.heap.objs.size:=by
  obtain⟨o,e,_⟩:=pl.isList;exact Qau e
 have hlen:its.length=bs.length:=by have:=rv.length;rw[Qaa] at this;exact this.symm
 refine call_all_walk (QcX pl.isList ?_);refine⟨_,_,_,_,_,_,fun i=>bs.getD i true,rfl,Walks.list (A:=X.A.in1) (I.ok.hd hc) s.heap.objs.size p (QaX hlt) its.toArray,?_,?_,fun h' tk hk=> ?_⟩
 ·exact⟨⟨_,QaQ _ rfl,rfl,rfl⟩,(let⟨o,e,c⟩:=pl.isList;⟨o,Qak _ e,c⟩)⟩
 ·intro i v s' Q' E' hP hQ;have hv:its[i]?=some v:=by simpa using hP
  have hil:i<bs.length:=by rw[←hlen];exact(Qac.mp hv).1
  obtain⟨u,e,ru⟩:=rv.get (x:=V.bl (bs.getD i true)) (i:=i) (by rw[Qah,Qab hil,Qai,Qab hil];rfl);rw[hv] at e;cases e;cases ru;exact QbL hQ
 ·have e:(List.range its.toArray.size).all (fun i=>bs.getD i true)=bs.all id:=by
   rw[Qar,hlen];exact ZeN bs
  rw[e];refine⟨.bl _,H,?_,rfl,q⟩;exact I.kept fun b o eb=>hk b o (by simp;exact QaX (Qau eb)) (Qak _ eb)
theorem Zbh {K:PySem.W.Frag}(hK:X.K=K:=by rfl):ZbW X (.builtin "isinstance") (fun xs H Q=>∃x t b,xs=[x,.ty T]∧Zep K H x t∧PySem.W.kitOne K t (.type T)=some b∧Q (.bl b) H):=by
 subst hK;exact Zgx
theorem ZaD {K:PySem.W.Frag}(hK:X.K=K:=by rfl):IxR X (ZdC K):=by subst hK;exact ZmB
theorem ZdI {K:PySem.W.Frag}(hK:X.K=K:=by rfl):IxR X (Zny K):=by subst hK;exact ZlQ
theorem ZaI {K:PySem.W.Frag}(hK:X.K=K:=by rfl):ZbW X (.builtin "len") (fun xs H Q=>∃p ys,xs=[.ref p]∧(SqL K H p ys∨SqT K H p ys)∧Q (.int ys.length) H):=by subst hK;exact ZfI
theorem ZaZ.of_get:∀{xs:List V} {us:List Value},xs.length=us.length→(∀(i:Nat) (x:V) (u:Value),xs[i]?=some x→us[i]?=some u→Zbd x u)→ZaZ xs us
 | [],[],_,_=> .nil
 | [],_::_,h,_=>by cases h
 |_::_,[],h,_=>by cases h
 |x::xs,u::us,h,k=> .cons (k 0 x u rfl rfl) (ZaZ.of_get (by simpa using h) fun i y v h1 h2=>k (i+1) y v (by simpa using h1) (by simpa using h2))
theorem Zia {it acc:Value}{EE:Value→Shared→Prop}(hE:EE=notedBy (model prog w) A env fun e s'=>R (.error e) s')(I:Nat→Shared→Prop)
  (turn:∀n s,I n s→wpAny (model prog w) A (pyNext it) (fun r z1=>match r with
   |none=>R (.ok .next) z1
   |some v=>wpAny (model prog w) A (letOwnedTupleGo tg it v) (fun _ y1=>wpAny (model prog w) A (assign tg env v) (fun _ z2=>
     wpAny (model prog w) A (forIn ifs true fun c r=>if r=true then do let ok←isTrue c env (eval c env);pure (ForInStep.yield ok) else pure (ForInStep.yield r)) (fun ok z3=>
      if ok=true then wpAny (model prog w) A (eval elt env) (fun x z4=>wpAny (model prog w) A (call (.builtin "list.append") [acc,x]) (fun _ z5=>∃m,m<n∧I m z5) EE z4) EE z3 else∃m,m<n∧I m z3) EE z2) EE y1) EE z1) EE s)
  (n:Nat) (h:I n s):codeAny (model prog w) A (.compLoop (.ListComp elt [⟨tg,qp,ifs,0⟩] scope pos) 0 it acc env) R s:=by
 subst hE;refine codeAny_loop rfl I (fun n s hI=> ?_) n h;show wpAny _ A ((compTurn (.ListComp elt [⟨tg,qp,ifs,0⟩] scope pos) 0 it acc env).onRaise (fun x=>do noteFrame x env;theTreesLotGoes x)) _ _ s;refine wpAny_noted ?_;rw[compTurn_list];refine Qad (Qdj (Qad (QbK (turn n s hI) (fun r z1 q1=> ?_) fun _ _ z=>z)))
 cases r with
 |none=>exact Qao q1
 |some v=>
  refine Qad (QbK q1 (fun _ y1 q1=> ?_) fun _ _ z=>z);refine Qad (QbK q1 (fun _ z2 q2=>Qad (QbK q2 (fun ok z3 q3=> ?_) fun _ _ z=>z)) fun _ _ z=>z)
  cases ok with
  |false=>exact Qao ⟨rfl,q3⟩
  |true=>exact Qad (Qad (QbK q3 (fun x z4 q4=>Qad (QbK q4 (fun _ z5 q5=>Qao (Qao ⟨rfl,q5⟩)) fun _ _ z=>z)) fun _ _ z=>z))
def cxC (X:Cx)(xs Nb:List Str)(scope:Scope)(cl:List (Str×Addr))(C:Addr)(s₂:Shared)(H₂:Hp)(fp:List Addr):Cx:=
 {X with N:=xs++Nb,s₀:=s₂,H₀:=H₂,env:=compEnvC scope cl C X.env,outer:=X.stack,stack:=X.stack,ex:=fp,fn:=fun _=>false,pn:=[],xe:=fun _ _=>False }
def InB (X:Cx)(xs Nb:List Str)(scope:Scope)(φ:Cx→Prop):Prop:=∀(cl:List (Str×Addr)) (C:Addr) (s₂:Shared) (H₂:Hp) (fp:List Addr),φ (cxC X xs Nb scope cl C s₂ H₂ fp)
def CGo (k:Nat)(J:It)(g:TG)(tt:TT)(te:TE)(Q:VK)(σ:St)(H1:Hp):Prop:=∃W:Nat→Nat→List V→Hp→Prop,(∃m,W 0 m [] H1)∧∀i m ys H,W i m ys H→
 (J.stop i H∧∀D,H D=none→Q (.ref D) (upd H D (.lst ys)))∨(J.go i H∧ys.length<sizeLine∧∃N:List V→Hp→Prop,(∀zs H',N zs H'→∃m',m'<m∧W (i+1) m' zs H')∧∀v H' (pre:St),pre.length=k→J.yld i H v H'→g v (pre++σ) H' fun σ' H2=>(∃pre':St,σ'=pre'++σ∧pre'.length=k)∧tt σ' H2 fun ok H3=>if ok=true then te σ' H3 fun y H4=>N (ys++ [y]) H4 else N ys H3)
def ZbA (k:Nat)(wi:TI)(g:TG)(tt:TT)(te:TE):TE:=fun σ H Q=>wi σ H fun J H1=>CGo k J g tt te Q σ H1
theorem ZfK {xs:List Str}
  (hc:X.calm=true) (hi:PI X tg qp wi) (hlen:Nb.length=X.N.length) (hNb:∀p∈Nb.zip X.N,p.1=p.2∨scope.names.lookup p.1=none) (hxN:∀y∈Nb,scope.names.lookup y≠some .local)
  (hg:InB X xs Nb scope fun Y=>PG Y tg g) (ht:InB X xs Nb scope fun Y=>PIf Y ifs tt) (he:InB X xs Nb scope fun Y=>PE Y elt te)
  (qJ:∀y∈scope.names,y.2≠ .cell) (qU:scope.kind= .function) (qZ:∀y∈scope.names,y.2= .local→scope.names.lookup y.1=some .local)
  (qT:∀y∈scope.names,y.2= .free→X.env.kindOf y.1=some .cell)
  (hs:∀x,foldedSetIterable qp X.env x=pure x) {pos2:PySem.Pos} {use:Option (Value→Sem Unit)} {QQ:Value→Shared→Prop} {qc:List (Addr×Obj)} {s:Shared} {σ:St} {H:Hp} {Q:VK} (I:Inv X qc σ H s) (h:ZbA xs.length wi g tt te σ H Q)
  (post:∀(s2 s4:Shared) (H2 H4:Hp) (C D:Addr) (m4:Str→Option Value),Inv X qc σ H2 s2→s2.heap.objs.size≤C→s4.heap.Ns C m4→H4 C=none→(∀h',Heap.SameBut C s4.heap h'→Inv X qc σ H4 {s4 with heap:=h' })→Q (.ref D) H4→compPost (model X.prog X.w) X.A X.xe use QQ (.ref D) C (.ok .next) s4):
  wpAny (model X.prog X.w) X.A (comprehension (.ListComp elt [⟨tg,qp,ifs,0⟩] scope pos) scope X.env pos2 (newList []) false (eval qp X.env) use) QQ X.xe s:=by
 obtain⟨cl,hcl,cl1,cl2⟩:=ZmE (scope:=scope) (env:=X.env) (fun y hy hf=>I.ok.has y.1 (.inl (qT y hy hf)));refine wpAny_comprehension_free rfl hs hcl qU qZ (thn (hi qc s σ H _ I h) fun v s1 h1=>thn h1 fun itv s2 h2=> ?_);obtain⟨it,fp,tn,J,H2,e,I2,T,st2,f2,W,⟨m0,w0⟩,turn⟩:=h2;subst e;refine QbC (wpAny_newFunctionEnv qJ (by intro y hy;simp at hy) (fun h₁ hns₁ hsb₁=> ?_) qU);dsimp only at hns₁ hsb₁⊢;generalize hHp:s2.heap.push {cls:=.type "list",dict:=none,data:=.seq ([]:List Value).toArray }=Hp2 at hns₁ hsb₁⊢;have hC:Hp2.objs.size=s2.heap.objs.size+1:=by rw[←hHp,Qey]
 have hDC:s2.heap.objs.size≠Hp2.objs.size:=by rw[hC];exact QaX (Nat.lt_succ_self _)
 have below:∀b,b<s2.heap.objs.size→b≠Hp2.objs.size∧b≠s2.heap.objs.size:=fun b hb=>⟨by rw[hC];exact QaX (Qct hb),QaX hb⟩;have old:∀b o,s2.heap.get? b=some o→h₁.get? b=some o:=fun b o e=>hsb₁.extBut b o (below b (Qau e)).1 (Qak _ (hHp ▸ Qak _ e));have hacc:h₁.PlainList s2.heap.objs.size #[]:=⟨_,hsb₁.extBut _ _ hDC (Qak _ (hHp ▸ QaQ _ rfl))⟩;generalize hY:cxC X xs Nb scope cl Hp2.objs.size s2 H2 fp=Y;have Yprog:Y.prog=X.prog:=by rw[←hY];rfl
 have fpLt:∀b∈fp,b<s2.heap.objs.size:=fun b hb=>by
  obtain⟨o,e,_⟩:=T.obj _ _ st2 b hb;exact Qau e
 have cellLt:∀y c,cl.lookup y=some c→c<s2.heap.objs.size:=fun y c hc=>by
  obtain⟨v,q⟩:=I2.cell y c (cl1 y c hc);exact q.lt
 have frSub:∀b∈frs X.stack,b<s2.heap.objs.size:=fun b hb=>by
  rcases QaJ.mp (I2.stkSub b hb) with z|z
  ·rw[z];exact I2.lt
  ·by_cases hlt:b<s2.heap.objs.size
   ·exact hlt
   ·exact absurd z (I2.nofs (Nat.le_of_not_lt hlt))
 have ok:(cxC X xs Nb scope cl Hp2.objs.size s2 H2 fp).Ok:=by
  refine⟨I2.ok.mod,qU,I2.ok.glob,I2.ok.blt,(by show s2.heap.objs.size≤Hp2.objs.size;omega),fun y z c h1 h2=>I2.ok.inj y z c (cl1 y c h1) (cl1 z c h2),fun y hy=> ?_,fun y c hf _=>absurd hf (by intro z;cases z),I2.ok.hd,I2.ok.frames,.inl rfl,fun b hb=>⟨?_,fun y c h1 h2=> ?_⟩,I2.bs,QaI I2.ok.bsz I2.sz,fun b o e hb=> ?_,fun b hb hm=> ?_,I2.stack,I2.stkFree⟩
  ·have hy:(scope.names.map fun(n,k)=>if(k==NameKind.free && X.env.scope.kind== .function && X.env.kindOf n==some .cell) then(n,NameKind.cell) else(n,k)).lookup y=some .cell∨(scope.names.map fun(n,k)=>if(k==NameKind.free && X.env.scope.kind== .function && X.env.kindOf n==some .cell) then(n,NameKind.cell) else(n,k)).lookup y=some .free:=hy
   have q:scope.names.lookup y=some .free:=by
    rcases hy with z|z
    ·exact(Zcw qJ z (.inl rfl)).1
    ·exact(Zcw qJ z (.inr rfl)).1
   exact QcN.mp (cl2 y (QbA q))
  ·exact(below b (fpLt b hb)).1
  ·exact(f2 b hb).2.2.2.2.1 y c (cl1 y c h1) h2
  ·rcases(f2 b hb).2.2.2.1 with z|z
   ·exact I2.ok.noex b o e z
   ·exact absurd (QaU (Qau e) (QaI I2.ok.bsz z)) (QbG _)
  ·rcases QaJ.mp (I2.stkSub b hm) with z|z
   ·exact(f2 b hb).2.1 z
   ·exact(f2 b hb).2.2.1 z
 have fpY:∀{H':Hp} {pl:List (Addr×Obj)},(∀b∈fp,H' b=none)→(∀p∈pl,p.1=s2.heap.objs.size)→∀b∈fp,ZkL Y pl H' b:=fun{H' pl} hn hp b hb=>by
  rw[←hY];refine⟨hn b hb,(below b (fpLt b hb)).1,fun hm=> ?_,.inl hb,fun y c h1 h2=>(f2 b hb).2.2.2.2.1 y c (cl1 y c h1) h2,fun p hm z=> ?_⟩
  ·rcases QaJ.mp (I2.stkSub b hm) with z|z
   ·exact(f2 b hb).2.1 z
   ·exact(f2 b hb).2.2.1 z
  ·have hm:p∈pl:=hm;rw[hp p hm] at z;exact(below b (fpLt b hb)).2 z.symm
 have HD:H2 s2.heap.objs.size=none:=I2.hok.fresh (Qaf _);have HC:H2 Hp2.objs.size=none:=I2.hok.fresh (by omega);obtain⟨m2,hns2,hloc2⟩:=I2.loc
 have IY:∀tk,Inv (cxC X xs Nb scope cl Hp2.objs.size s2 H2 fp) [] (List.replicate xs.length none++σ) H2 {s2 with heap:=h₁,toks:=tk }:=fun tk=>by
  refine⟨ok,rfl,I2.bare,Un.kept old,⟨_,hns₁,fun i y v h1 h2 h3=> ?_⟩,fun y c h1=> ?_,HC,fun y c h1=>I2.freeC y c (cl1 y c h1),fun p hp=>absurd (show p∈([]:List (Addr×Obj)) from hp) (by simp),I2.hok.kept old,(by show(List.replicate xs.length (none:Option V)++σ).length=(xs++Nb).length;rw[Qae,Qae,Qbl,hlen,I2.len])⟩
  ·have h1:(xs++Nb)[i]?=some y:=h1;by_cases hik:i<xs.length
   ·rw[Qax (by rw[Qbl];exact hik),Qcc,if_pos hik] at h2;cases h2
   ·rw[Qay (by omega)] at h1;rw[Qay (by rw[Qbl];omega),Qbl] at h2;generalize i-xs.length=i at h1 h2;have h3:Vis (relabel scope X.env) y:=h3
    have key:∀k,(k=NameKind.cell∨k=NameKind.free)→(relabel scope X.env).names.lookup y=some k→∃u,Zbd v u∧Zpx (compEnvC scope cl Hp2.objs.size X.env) h₁ (fun x=>([]:List (Str×Value)).reverse.lookup x) y u:=fun k hk hl=>by
     obtain⟨q1,_⟩:=Zcw qJ hl hk;have q2:=qT (y,.free) (QbA q1) rfl
     have h1':X.N[i]?=some y:=by
      have hi':i<X.N.length:=by rw[←hlen];exact(Qac.mp h1).1
      have hz:(Nb.zip X.N)[i]?=some (y,X.N[i]):=by rw[List.getElem?_zip_eq_some];exact⟨h1,Qab hi'⟩
      rcases hNb _ (Qaj hz) with z|z
      ·have z:y=X.N[i]:=z;rw[z];exact Qab hi'
      ·have z:scope.names.lookup y=none:=z;rw[q1] at z;cases z
     obtain⟨u,r,l⟩:=hloc2 i y v h1' h2 (.inr (.inl q2));refine⟨u,r,.inr ⟨?_,?_⟩⟩
     ·rcases hk with rfl|rfl
      ·exact .inl hl
      ·exact .inr hl
     ·rcases l with⟨k1,_⟩|⟨_,c,e1,z⟩
      ·rw[q2] at k1;cases k1
      ·obtain⟨c',e2⟩:=QcN.mp (cl2 y (QbA q1));have e3:=cl1 y c' e2;rw[e1] at e3;cases e3;obtain⟨o,ho,hd⟩:=z;exact⟨c,e2,o,old c o ho,hd⟩
    rcases h3 with h3|h3|h3
    ·
     exfalso;exact hxN y (Qaj h1) (ZeM h3)
    ·exact key _ (.inl rfl) h3
    ·exact key _ (.inr rfl) h3
  ·obtain⟨v,o,ho,hd⟩:=I2.cell y c (cl1 y c h1);exact⟨v,o,old c o ho,hd⟩
 have noErr:∀{α:Type} {m:Sem α} {G:α→Shared→Prop} {E':Value→Shared→Prop} {s':Shared},wpAny (model X.prog X.w) X.A m G (fun _ _=>False) s'→wpAny (model X.prog X.w) X.A m G E' s':=fun h=>QbK h (fun _ _ q=>q) fun _ _ q=>q.elim
 have loop:∀(tk:Nat) (R:Result→Shared→Prop),R=compPost (model X.prog X.w) X.A X.xe use QQ (.ref s2.heap.objs.size) Hp2.objs.size→
   codeAny (model X.prog X.w) X.A (.compLoop (.ListComp elt [⟨tg,qp,ifs,0⟩] scope pos) 0 (.ref it) (.ref s2.heap.objs.size) (compEnvC scope cl Hp2.objs.size X.env)) R {s2 with heap:=h₁,toks:=tk }:=by
  rintro tk R rfl
  refine Zia rfl (fun n s'=>∃i σv H' ys its,σv.length=xs.length∧Inv Y [] (σv++σ) H' s'∧tn i s'.heap∧(∀b∈fp,H' b=none)∧ZaZ ys its∧ys.length≤sizeLine∧s'.heap.PlainList s2.heap.objs.size its.toArray∧H' s2.heap.objs.size=none∧W i n ys H') ?_ m0
   ⟨0,List.replicate xs.length none,H2,[],[],Qbl,hY ▸ IY tk,T.keep _ _ _ st2 fun b _ o e=>old b o e,fun b hb=>(f2 b hb).1,.nil,QaW _,hacc,HD,w0⟩
  rintro n s3 ⟨i,σv,H3,ys,its,lv,I3,st3,fr3,rv,hz,⟨nn,pl3⟩,HD3,w3⟩
  have I3p:Inv Y [(s2.heap.objs.size,{cls:=.type "list",data:=.seq its.toArray nn })] (σv++σ) H3 s3:=I3.pins_of fun p hp=>by
   rw[QaE] at hp;subst hp;refine⟨pl3,HD3,?_,fun hm=> ?_,fun v z=>by cases z⟩
   ·rw[←hY];exact hDC
   ·rw[←hY] at hm;exact absurd (frSub _ hm) (QbG _)
  have pinD:∀p∈[((s2.heap.objs.size:Addr),({cls:=.type "list",data:=.seq its.toArray nn }:Obj))],p.1=s2.heap.objs.size:=fun p hp=>by
   rw[QaE] at hp;rw[hp]
  subst hY;rcases turn i n ys H3 w3 with⟨stop,qn⟩|⟨go,hlt,NN,hNN,step⟩
  ·refine noErr (thn (T.done (cxC X xs Nb scope cl Hp2.objs.size s2 H2 fp) rfl rfl rfl hc i _ s3 _ H3 (fun _ _=>False) I3p (fpY fr3 pinD) st3 stop) fun r s4 ⟨hr,I4⟩=> ?_);subst hr;obtain⟨m4,hns4,_⟩:=I4.loc;refine post s2 s4 H2 (upd H3 s2.heap.objs.size (.lst ys)) Hp2.objs.size s2.heap.objs.size m4 I2 (by omega) hns4 (by rw[Zan (Ne.symm hDC)];exact I4.free) (fun h' sb=> ?_) (qn _ HD3);have pl4:=(I4.pin _ (Qas _ QaA)).1;have up:∀b o,b≠Hp2.objs.size→s4.heap.get? b=some o→h'.get? b=some o:=fun b o hb e=>sb.extBut b o hb e;have base:=I4.base;have HC4:H3 Hp2.objs.size=none:=I4.free;have neC:∀b o,s2.heap.get? b=some o→b≠Hp2.objs.size:=fun b o e=>(below b (Qau e)).1;have neD:∀b o,s2.heap.get? b=some o→b≠s2.heap.objs.size:=fun b o e=>(below b (Qau e)).2
   have hokN:HOk X.prog X.w (upd H3 s2.heap.objs.size (.lst ys)) h':=fun b u e=>by
    by_cases hb:b=s2.heap.objs.size
    ·subst hb;rw[Zaa] at e;cases e;exact⟨hz,its,nn,rv,up _ _ hDC pl4⟩
    ·rw[Zan hb] at e;refine(I4.hok b u e).stay (fun c v hc q=>up c v ?_ q) (fun c q=>by rw[Zan (Zak q HD3)];exact q) fun c xs q=>by rw[Zan (Zak q HD3)];exact q
     rcases hc with z|z
     ·rw[z];exact Zak e HC4
     ·exact Zak z HC4
   refine I2.call' (s':={s4 with heap:=h' }) (ch:=fp) I4.os ⟨fun b o e n hb hx'=>up b o (neC b o e) (base.keep b o e n hb hx'),fun b o e n hb hx'=> ?_,fun b o e n hx'=> ?_,fun b o e hx'=> ?_,fun b xs e=> ?_,fun b o u e=> ?_,fun b ps e=> ?_⟩ hokN I4.bare (fun b hb=> ?_)
   ·obtain⟨sl,q⟩:=base.slot b o e n hb hx';exact⟨sl,up b _ (neC b o e) q⟩
   ·rw[Zan (neD b o e)];exact base.free b o e n hx'
   ·obtain⟨o',q⟩:=base.there b o e hx';exact⟨o',up b o' (neC b o e) q⟩
   ·have q:=base.tups b xs e;rw[Zan (Zak q HD3)];exact q
   ·have q:=base.frzs b o u e;rw[Zan (Zak q HD3)];exact q
   ·obtain⟨more,q⟩:=base.tbls b ps e;exact⟨more,by rw[Zan (Zak q HD3)];exact q⟩
   ·obtain⟨_,g1,_,g3,g4,g5⟩:=f2 b hb;exact⟨g3,g1,g4,g5⟩
  ·refine noErr (thn (T.item (cxC X xs Nb scope cl Hp2.objs.size s2 H2 fp) rfl rfl rfl hc i _ s3 _ H3 (fun _ _=>False) I3p (fpY fr3 pinD) st3 go) fun r s4 ⟨u,hr,h4⟩=> ?_);subst hr;refine noErr (thn h4 fun _ s5 ⟨v,H5,I5,r5,y5,st5,fr5⟩=> ?_);have I5':=I5.pinned (fpY fr5 pinD) (T.obj _ _ st5);have stp:=step v H5 σv lv y5;refine noErr (thn (hg cl Hp2.objs.size s2 H2 fp _ s5 _ H5 v u _ I5' r5 stp) fun _ s6 ⟨σ6,H6,I6,⟨pre',e6,l6⟩,stp⟩=> ?_);subst e6
   have again:∀{s7 s8:Shared} {H7:Hp} {zs:List V} {ws:List Value} {m':Nat},Inv (cxC X xs Nb scope cl Hp2.objs.size s2 H2 fp) ([((s2.heap.objs.size:Addr),({cls:=.type "list",data:=.seq its.toArray nn }:Obj))]++Zfx fp s5.heap) (pre'++σ) H7 s7→
     (∃h',s8={s7 with heap:=h' }∧(∀b o,b≠s2.heap.objs.size→s7.heap.get? b=some o→h'.get? b=some o)∧h'.PlainList s2.heap.objs.size ws.toArray)→ZaZ zs ws→zs.length≤sizeLine→m'<n→W (i+1) m' zs H7→
     ∃m,m<n∧∃i σv H' ys its,σv.length=xs.length∧Inv (cxC X xs Nb scope cl Hp2.objs.size s2 H2 fp) [] (σv++σ) H' s8∧tn i s8.heap∧(∀b∈fp,H' b=none)∧ZaZ ys its∧ys.length≤sizeLine∧s8.heap.PlainList s2.heap.objs.size its.toArray∧H' s2.heap.objs.size=none∧W i m ys H':=by
    rintro s7 s8 H7 zs ws m' I7 ⟨h',rfl,up,plw⟩ rz hzz hm w7;have HD7:H7 s2.heap.objs.size=none:=(I7.pin _ (Qas _ (QaL _ QaA))).2.1
    have fr7:∀b∈fp,H7 b=none:=fun b hb=>by
     obtain⟨o,e,d⟩:=T.obj _ _ st5 b hb;exact(I7.pin (b,o) (Qas _ (Qas _ (Zcz hb e)))).2.1
    have I7':Inv (cxC X xs Nb scope cl Hp2.objs.size s2 H2 fp) [] (pre'++σ) H7 s7:=I7.pins_of fun p hp=>absurd hp (by simp);refine⟨m',hm,i+1,pre',H7,zs,ws,l6,?_,?_,fr7,rz,hzz,plw,HD7,w7⟩
    ·have:=I7'.turned (it:=s2.heap.objs.size) (h':=h') (t':=s7.toks) up HD7 hDC (.inr (Qaf _)) (fun y c h1 h2=>absurd (cellLt y c h1) (by rw[h2];exact QbG _)) (fun p hp=>absurd (show p∈([]:List (Addr×Obj)) from hp) (by simp));exact this
    ·refine T.keep _ _ _ st5 fun b hb o e=>up b o (below b (fpLt b hb)).2 ?_;exact(I7.pin (b,o) (Qas _ (Qas _ (Zcz hb e)))).1
   refine noErr (thn (ht cl Hp2.objs.size s2 H2 fp _ s6 _ H6 _ I6 stp) fun okb s7 ⟨H7,I7,q7⟩=> ?_);have pl7:=(I7.pin _ (Qas _ (QaL _ QaA))).1
   cases okb with
   |false=>
    rw[if_neg QaG] at q7⊢;obtain⟨m',hm,w7⟩:=hNN _ _ q7;exact again I7 ⟨s7.heap,rfl,fun _ _ _ e=>e,nn,pl7⟩ rv hz hm w7
   |true=>
    rw[if_pos rfl] at q7⊢;refine noErr (thn (he cl Hp2.objs.size s2 H2 fp _ s7 _ H7 _ I7 q7) fun w' s8 ⟨y,H8,I8,r8,q8⟩=> ?_);obtain⟨m',hm,w8⟩:=hNN _ _ q8;have pl8:=(I8.pin _ (Qas _ (QaL _ QaA))).1;refine wpAny_list_append_plain (hsz:=by have:=rv.length;simp only[Qar];omega) ⟨nn,pl8⟩ fun h9 pl9 sb9=> ?_;refine again I8 ⟨h9,rfl,fun b o hb e=>sb9.extBut b o hb e,?_⟩ (rv.append (.cons r8 .nil)) (by rw[Qae,Qem];omega) hm w8;have e9:its.toArray.push w'=(its++ [w']).toArray:=by simp
    rw[←e9];exact pl9
 refine codeAny_compStart_list (loop _ _ rfl) (noErr (T.self _ 0 _ _ _ (T.keep _ _ _ st2 fun b _ o e=>old b o e) (loop _ _ rfl)))
theorem ZaM {xs:List Str}
  (hc:X.calm=true) (hi:PI X tg qp wi) (hlen:Nb.length=X.N.length) (hNb:∀p∈Nb.zip X.N,p.1=p.2∨scope.names.lookup p.1=none) (hxN:∀y∈Nb,scope.names.lookup y≠some .local)
  (hg:InB X xs Nb scope fun Y=>PG Y tg g) (ht:InB X xs Nb scope fun Y=>PIf Y ifs tt) (he:InB X xs Nb scope fun Y=>PE Y elt te)
  (qJ:∀y∈scope.names,y.2≠ .cell) (qU:scope.kind= .function) (qZ:∀y∈scope.names,y.2= .local→scope.names.lookup y.1=some .local)
  (qT:∀y∈scope.names,y.2= .free→X.env.kindOf y.1=some .cell)
  (hs:∀x,foldedSetIterable qp X.env x=pure x:=by intro _;rfl):
  PE X (.ListComp elt [⟨tg,qp,ifs,0⟩] scope pos) (ZbA xs.length wi g tt te):=by
 intro qc s σ H Q I h;rw[eval_ListComp];exact ZfK (use:=none) (QQ:=EP X qc σ Q) hc hi hlen hNb hxN hg ht he qJ qU qZ qT hs I h fun s2 s4 H2 H4 C D m4 _ _ hn _ IX q=>⟨m4,hn,fun h' sb=>⟨.ref D,H4,IX h' sb,rfl,q⟩⟩
theorem ZcU {xs:List Str}{spos py:PySem.Pos}{g2:TG}{y:Str}
  (hg2:PG X (.Name y py) g2) (hsw:swapsWith (.ListComp elt [⟨tg,qp,ifs,0⟩] scope pos) (some (.Name y py)) spos.line X.env=pure true)
  (hc:X.calm=true) (hi:PI X tg qp wi) (hlen:Nb.length=X.N.length) (hNb:∀p∈Nb.zip X.N,p.1=p.2∨scope.names.lookup p.1=none) (hxN:∀y∈Nb,scope.names.lookup y≠some .local)
  (hg:InB X xs Nb scope fun Y=>PG Y tg g) (ht:InB X xs Nb scope fun Y=>PIf Y ifs tt) (he:InB X xs Nb scope fun Y=>PE Y elt te)
  (qJ:∀y∈scope.names,y.2≠ .cell) (qU:scope.kind= .function) (qZ:∀y∈scope.names,y.2= .local→scope.names.lookup y.1=some .local)
  (qT:∀y∈scope.names,y.2= .free→X.env.kindOf y.1=some .cell)
  (hs:∀x,foldedSetIterable qp X.env x=pure x:=by intro _;rfl):
  PS X (.Assign [.Name y py] (.ListComp elt [⟨tg,qp,ifs,0⟩] scope pos) spos) (ZbU (ZbA xs.length wi g tt te) g2):=by
 intro qc s σ H D I h;rw[exec_Assign_Name_used _ _ _ _ hsw];refine Qad (Qdj (Qad ?_));show wpAny (model X.prog X.w) X.A (comprehension (.ListComp elt [⟨tg,qp,ifs,0⟩] scope pos) scope X.env _ (newList []) false (eval qp X.env) (some (assign (.Name y py) X.env))>>=fun _=>pure ()) _ _ s;refine Qad (QbK (ZfK (use:=some (assign (.Name y py) X.env)) (QQ:=fun _ s'=>SP X qc D .next s') hc hi hlen hNb hxN hg ht he qJ qU qZ qT hs I h ?_) (fun _ s' hq=>Qao (Qao hq)) fun _ _ e=>e);intro s2 s4 H2 H4 C R m4 I2 hC hn HC IX q;have I4:Inv X qc σ H4 s4:=IX s4.heap (Heap.SameBut.refl _ _);obtain⟨o,es,ep,ho,hd,hn'⟩:=id hn;have hLC:C≠X.env.locals:=fun z=>absurd (QaU I2.lt hC) (by rw[z];exact QbG _);have hfsC:C∉X.fs:=I2.nofs hC
 have I4p:Inv X ((C,o)::qc) σ H4 s4:=I4.pins_of fun p hp=>by
  rcases QaJ.mp hp with rfl|z
  ·exact⟨ho,HC,hLC,hfsC,fun v z=>by rw[hd] at z;cases z⟩
  ·exact I4.pin p (Qas _ z)
 show wpAny _ X.A (assign (.Name y py) X.env (.ref R)) _ _ s4;refine thn (hg2 _ s4 σ H4 (.ref R) (.ref R) _ I4p rfl q) fun _ s5 ⟨σ5,H5,I5,q5⟩=> ?_;have pC:=I5.pin (C,o) (Qas _ QaA);refine⟨m4,⟨o,es,ep,pC.1,hd,hn'⟩,fun h' sb=>⟨σ5,H5,?_,q5⟩⟩;have I6:Inv X qc σ5 H5 s5:=I5.pins_of fun p hp=>I5.pin p (Qas _ (QaD _ hp))
 exact I6.turned (it:=C) (h':=h') (t':=s5.toks) (fun b o hb e=>sb.extBut b o hb e) pC.2.1 hLC (.inr (QaI I2.sz hC)) (fun y c e z=>by
   obtain⟨v,qq⟩:=I2.cell y c e
   exact absurd (QaU qq.lt hC) (by rw[z];exact QbG _)) (fun p hp z=>by
   exact absurd (QaU (Qau (I2.pin p hp).1) hC) (by rw[z];exact QbG _))
theorem Zgz {K:PySem.W.Frag}{xs:List V}(Pv:Nat→List V→Hp→Prop)(h0:Pv 0 [] H)(hb:xs.length≤1000)(hz:∀i ys H,Pv i ys H→ys.length≤i)(hl:∀i ys H,i≤xs.length→Pv i ys H→SqL K H a xs)
  (hs:∀i x ys H (pre:St),pre.length=k→xs[i]?=some x→Pv i ys H→g x (pre++σ) H fun σ' H2=>(∃pre':St,σ'=pre'++σ∧pre'.length=k)∧tt σ' H2 fun ok H3=>if ok=true then te σ' H3 fun y H4=>Pv (i+1) (ys++ [y]) H4 else Pv (i+1) ys H3) (hd:∀ys H,Pv xs.length ys H→∀D,H D=none→Q (.ref D) (upd H D (.lst ys))):CGo k (Itl K a) g tt te Q σ H:=by
 refine⟨fun i m ys H=>m=xs.length-i∧i≤xs.length∧Pv i ys H,⟨xs.length,by simp,QaW _,h0⟩,?_⟩;rintro i m ys H ⟨rfl,hi,p⟩;have q:=hl i ys H hi p;by_cases hlt:i<xs.length
 ·refine .inr ⟨⟨xs,xs[i],q,by simp[hlt]⟩,QaN (hz i ys H p) (Zbs (by omega)),Pv (i+1),fun zs H' p'=>⟨xs.length-(i+1),by omega,rfl,hlt,p'⟩,fun x H' pre hp y=> ?_⟩;obtain⟨e,y⟩:=y;subst e;exact hs i x ys _ pre hp (y xs q) p
 ·have e:i=xs.length:=by omega
  subst e;exact .inl ⟨⟨xs,q,Qaf _⟩,hd ys H p⟩
theorem Zi9 {K:PySem.W.Frag}{xs:List V}(Pv:Nat→List V→Hp→Prop)(h0:Pv 0 [] H)(hb:xs.length≤1000)(hz:∀i ys H,Pv i ys H→ys.length≤i)(hl:∀i ys H,i≤xs.length→Pv i ys H→SqT K H a xs)
  (hs:∀i x ys H (pre:St),pre.length=k→xs[i]?=some x→Pv i ys H→g x (pre++σ) H fun σ' H2=>(∃pre':St,σ'=pre'++σ∧pre'.length=k)∧tt σ' H2 fun ok H3=>if ok=true then te σ' H3 fun y H4=>Pv (i+1) (ys++ [y]) H4 else Pv (i+1) ys H3) (hd:∀ys H,Pv xs.length ys H→∀D,H D=none→Q (.ref D) (upd H D (.lst ys))):CGo k (Itt K a) g tt te Q σ H:=by
 refine⟨fun i m ys H=>m=xs.length-i∧i≤xs.length∧Pv i ys H,⟨xs.length,by simp,QaW _,h0⟩,?_⟩;rintro i m ys H ⟨rfl,hi,p⟩;have q:=hl i ys H hi p;by_cases hlt:i<xs.length
 ·refine .inr ⟨⟨xs,xs[i],q,by simp[hlt]⟩,QaN (hz i ys H p) (Zbs (by omega)),Pv (i+1),fun zs H' p'=>⟨xs.length-(i+1),by omega,rfl,hlt,p'⟩,fun x H' pre hp y=> ?_⟩;obtain⟨e,y⟩:=y;subst e;exact hs i x ys _ pre hp (y xs q) p
 ·have e:i=xs.length:=by omega
  subst e;exact .inl ⟨⟨xs,q,Qaf _⟩,hd ys H p⟩
theorem ZgA {lo:Int}(Pv:Nat→List V→Hp→Prop)(h0:Pv 0 [] H)(hb:n≤1000)(hz:∀i ys H,Pv i ys H→ys.length≤i)
  (hs:∀(i:Nat) ys H (pre:St),pre.length=k→i<n→Pv i ys H→g (.int (lo+i)) (pre++σ) H fun σ' H2=>(∃pre':St,σ'=pre'++σ∧pre'.length=k)∧tt σ' H2 fun ok H3=>if ok=true then te σ' H3 fun y H4=>Pv (i+1) (ys++ [y]) H4 else Pv (i+1) ys H3) (hd:∀ys H,Pv n ys H→∀D,H D=none→Q (.ref D) (upd H D (.lst ys))):CGo k (Itr lo n) g tt te Q σ H:=by
 refine⟨fun i m ys H=>m=n-i∧i≤n∧Pv i ys H,⟨n,by simp,QaW _,h0⟩,?_⟩;rintro i m ys H ⟨rfl,hi,p⟩;by_cases hlt:i<n
 ·refine .inr ⟨hlt,QaN (hz i ys H p) (Zbs (by omega)),Pv (i+1),fun zs H' p'=>⟨n-(i+1),by omega,rfl,hlt,p'⟩,fun x H' pre hp y=> ?_⟩;obtain⟨e,y⟩:=y;subst e y;exact hs i ys _ pre hp hlt p
 ·have e:i=n:=by omega
  subst e;exact .inl ⟨Qaf _,hd ys H p⟩
abbrev e2 (elt tg qp:Expr)(ifs:List Expr)(tg2 iter2:Expr)(ifs2:List Expr)(scope:Scope)(pos:PySem.Pos):Expr:=.ListComp elt [⟨tg,qp,ifs,0⟩,⟨tg2,iter2,ifs2,0⟩] scope pos
theorem ZgB {K:PySem.W.Frag}{t:TGs}(hc:X.calm=true)(h:PGs X es t)(hK:X.K=K:=by rfl)
  (hn:(assignEach es X.env).length=n:=by rfl) (hst:(assignEach es X.env).findIdx? (·.1)=none:=by rfl):PG X (.Tuple es k pos) (Zhk K n t):=by
 subst hK;exact Zcn hc h hn hst
theorem ZkT {K:PySem.W.Frag}(hK:X.K=K:=by rfl):SlR X (ZoW K):=by subst hK;exact ZeI
def dT (ns:List Int):PyData:=.tuple (ns.map .int)
theorem ZcS:∀ns ms:List Int,PyData.eqvAll (ns.map .int) (ms.map .int)=decide (ns=ms)
 | [],[]=>rfl
 | [],_::_=>rfl
 |_::_,[]=>rfl
 |n::ns,m::ms=>by
  show(PyData.eqv (.int n) (.int m) && PyData.eqvAll (ns.map .int) (ms.map .int))=_;rw[ZcS ns ms];show((n==m) && _)=_;by_cases h:n=m
  ·subst h;by_cases h2:ns=ms<;>simp[h2]
  ·simp[h]
theorem ZlS (ns ms:List Int):PyData.eqv (dT ns) (dT ms)=decide (ns=ms):=ZcS ns ms
theorem ZeO:∀ns:List Int,PyData.canLayAll0 (ns.map .int)=true
 | []=>rfl
 |_::ns=>by show(true && _)=true;rw[ZeO ns];rfl
theorem ZnX (ns:List Int):(dT ns).canLay0=true:=ZeO ns
theorem Zdr:∀ns:List Int,PyData.depthAll (ns.map .int)=0
 | []=>rfl
 |_::ns=>by show max 0 _=0;rw[Zdr ns];rfl
def ZbP (H H':Hp):Prop:=∀b ys,H b=some (.tup ys)→H' b=some (.tup ys)
theorem ZbP.refl (H:Hp):ZbP H H:=fun _ _ h=>h
theorem ZbP.trans (a:ZbP H H1)(b:ZbP H1 H2):ZbP H H2:=fun c y h=>b c y (a c y h)
theorem ZbP.lst {H H1:Hp}{p:Addr}{xs ys:List V}(a:ZbP H H1)(h:H1 p=some (.lst xs)):ZbP H (upd H1 p (.lst ys)):=fun c y e=>by
 have:=a c y e;have hn:c≠p:=fun z=>by rw[z,h] at this;cases this
 rw[Zan hn];exact this
theorem Zai.tups (s:Zai H H'):ZbP H H':=fun b ys e=>s b _ e
def tot (L:List (Int×List Int)):Int:=(L.map (·.1)).sum
theorem Zat {α:Type}{L:List α}{e:α}(h:L[i]?=some e):L.take (i+1)=L.take i++ [e]:=by
 rw[Qc1,h];rfl
theorem ZdJ (ns:List Int):∀n,preSum (fun i=>ns.getD i 0) n=(ns.take n).sum
 |0=>rfl
 |n+1=>by
  show preSum _ n+ns.getD n 0=_;rw[ZdJ ns n,Qc1,Qai]
  cases ns[n]? with
  |none=>simp
  |some z=>simp
theorem ZcD (hc:X.calm=true):ZbW X (.builtin "sum") (fun xs H Q=>∃(p:Addr) (ns:List Int),xs=[.ref p]∧SqL X.K H p (ns.map V.int)∧Q (.int ns.sum) H):=by
 intro qc s σ H xs us Q I r h;obtain⟨p,ns,rfl,hq,q⟩:=h;obtain⟨u,rfl,rx⟩:=Zcf r;cases rx;obtain⟨its,rv,pl,hz⟩:=I.list hq
 have hlt:p<s.heap.objs.size:=by
  obtain⟨o,e,_⟩:=pl.isList;exact Qau e
 have hlen:its.length=ns.length:=by have:=rv.length;rw[Qaa] at this;exact this.symm
 refine call_sum_walkAnyS (QcX pl.isList ?_);refine⟨_,_,_,_,_,_,_,fun i=>ns.getD i 0,rfl,(Walks.list (A:=X.A.in1) (I.ok.hd hc) s.heap.objs.size p (QaX hlt) its.toArray).toS,?_,?_,?_,fun s' t' hm=> ?_⟩
 ·exact⟨⟨_,QaQ _ rfl,rfl,rfl⟩,(let⟨o,e,c⟩:=pl.isList;⟨o,Qak _ e,c⟩)⟩
 ·intro b hb;simp at hb;rcases hb with rfl|rfl
  ·simp[Qey]
  ·rw[Qey];exact Qct hlt
 ·intro i v hP;have hv:its[i]?=some v:=by simpa using hP
  have hil:i<ns.length:=by rw[←hlen];exact(Qac.mp hv).1
  obtain⟨u,e,ru⟩:=rv.get (x:=V.int (ns.getD i 0)) (i:=i) (by rw[Qah,Qab hil,Qai,Qab hil];rfl);rw[hv] at e;cases e;exact ru
 ·have e:preSum (fun i=>ns.getD i 0) its.toArray.size=ns.sum:=by
   rw[Qar,hlen,ZdJ,QaZ]
  rw[e];obtain⟨hk,hg,hd,ho,ht⟩:=hm;refine⟨.int _,H,?_,⟨t',rfl⟩,q⟩
  have es:s'={s with heap:=s'.heap,toks:=s'.toks }:=by
   cases s';simp_all
  rw[es];exact I.kept fun b o eb=>hk b o (by simp;exact QaX (Qau eb)) (Qak _ eb)
theorem ZaZ.rev {xs:List V}{us:List Value}(r:ZaZ xs us):ZaZ xs.reverse us.reverse:=by
 induction r with
 |nil=>exact .nil
 |cons a b ih=>rw[List.reverse_cons,List.reverse_cons];exact ih.append (.cons a .nil)
theorem ZgC:ZbW X (.builtin "sorted") (fun xs H Q=>∃(p:Addr) (ns:List Int),xs=[.ref p]∧SqL X.K H p (ns.map V.int)∧ns.length<64∧∀(l:Addr) (ms:List Int),H l=none→ms.Perm ns→ms.Pairwise (· ≤ ·)→Q (.ref l) (upd H l (.lst (ms.map V.int)))):=by
 intro qc s σ H xs us Q I r h;obtain⟨p,ns,rfl,hq,h64,q⟩:=h;obtain⟨u,rfl,rx⟩:=Zcf r;cases rx;obtain⟨its,rv,pl,hz⟩:=I.list hq;have hlen:its.length=ns.length:=by have:=rv.length;rw[Qaa] at this;exact this.symm
 refine sorted_ints (vs:=its) pl.isList (ZcA rv) (by omega) fun out ms hI hp hw=> ?_;obtain⟨e,he⟩:=Qeo s.heap its out;have hl:ms.length=ns.length:=hp.length_eq;refine⟨.ref _,upd H (s.heap.objs.size+1) (.lst (ms.map V.int)),I.laid (t':=s.toks) (fun b ob z=>QdX z) (Qcf _) ⟨?_,out.toList,e,ZdG hI,?_⟩,rfl,q _ ms (I.hok.fresh (Qcf _)) hp hw⟩
 ·rw[Qaa,hl];exact Qb0 (Zbs (by omega))
 ·rw[he]
theorem ZkU {it t:Addr}(hne:t≠it)(n:Nat):∀(i:Nat) (s:Shared) (Q:List Value→Shared→Prop),s.heap.IsListIter it t i→s.heap.IsList t items→i+n≤items.size→
  (∀h',h'.IsListIter it t (i+n)→Heap.SameBut it s.heap h'→Q ((items.toList.drop i).take n) {s with heap:=h' })→wpAny (model prog w) A (draw (.ref it) n) Q E s:=by
 induction n with
 |zero=>
  intro i s Q a _ _ hQ;refine Qao ?_
  have:=hQ s.heap a (Heap.SameBut.refl ..);simpa using this
 |succ n ih=>
  intro i s Q a b hle hQ;have lt:i<items.size:=by omega
  refine Qad (m:=pyNext (.ref it)) (Qd9 a b (x:=items[i]) (by simp[lt]) fun h1 a1 s1=> ?_);refine Qad (Qbs (ih (i+1) _ _ a1 (b.extBut s1.extBut hne) (by omega) fun h2 a2 s2=>Qao ?_))
  have:=hQ h2 (by rw[show i+(n+1)=i+1+n by omega];exact a2) (s1.trans s2);rw[show items.toList.drop i=items[i]::items.toList.drop (i+1) by simp[Qbn,lt],List.take_succ_cons] at this;exact this
theorem Zib {t:Addr}{Q:List Value→Shared→Prop}(hh:A.handled=none)(ht:s.heap.IsList t items)
  (hQ:∀h',Heap.ExtBut s.heap.objs.size s.heap h'→Q items.toList {s with heap:=h' }):wpAny (model prog w) A (unpackItems (.ref t) items.size none) Q E s:=by
 have ne:t≠s.heap.objs.size:=by obtain⟨o,ho,_⟩:=ht;exact QaX (Qau ho)
 unfold unpackItems notIterableAtAll;refine Qad (Qad (wpAny_specialOf ht.typeIs slot_list_iter.lookup (Qao ?_)));simp only[Qcn,Qdk];refine Qad (Qbs (QcX ht ?_));refine Qad (Qbs (ZkU ne items.size 0 _ _ ⟨_,QaQ _ rfl,rfl,rfl⟩ (ht.push _) (by omega) fun h1 a1 s1=> ?_));rw[show List.take items.size (List.drop 0 items.toList)=items.toList by rw[Qck];exact QaM (by simp),if_neg (by simp)];have t1:h1.IsList t items:=(ht.push _).extBut s1.extBut ne;refine Qad (Qbs (Qej hh a1 t1 (by simp) fun h2 e2=> ?_));simp only[Option.isSome_none,Qcn,Qdk];exact Qao (hQ h2 fun b o hb e=>e2 b o hb (s1.extBut b o hb (Qak _ e)))
def ZnY (K:PySem.W.Frag)(n:Nat)(t:TGs):TG:=fun v σ H Q=>∃a xs,v= .ref a∧SqL K H a xs∧xs.length=n∧t xs σ H Q
theorem Zja {t:TGs}(hc:X.calm=true)(h:PGs X es t)
  (hn:(assignEach es X.env).length=n:=by rfl) (hst:(assignEach es X.env).findIdx? (·.1)=none:=by rfl):PG X (.Tuple es k pos) (ZnY X.K n t):=by
 intro qc s σ H v u Q I r hw;obtain⟨a,xs,rfl,hq,hl,hw⟩:=hw;cases r;obtain⟨its,rv,pl,hz⟩:=I.list hq;rw[arm_assign_Tuple];refine Qad (Qdj ?_);unfold unpack;rw[hst,show(assignEach es X.env).length=its.toArray.size by simp[hn,←hl,rv.length]];refine Qad (Qbs (Zib (I.ok.hd hc) pl.isList fun h' hx=> ?_));have I1:Inv X qc σ H {s with heap:=h' }:=I.kept (t':=s.toks) fun b o e=>hx b o (QaX (Qau e)) e;exact h qc _ σ H xs _ Q I1 (by simpa using rv) hw
def ZpB (K:PySem.W.Frag)(te:TE)(tk:TO):TE:=fun σ H Q=>te σ H fun x H1=>tk σ H1 fun k H2=>k=some (-1)∧∃a xs,x= .ref a∧SqL K H2 a xs∧∀p,H2 p=none→Q (.ref p) (upd H2 p (.lst xs.reverse))
theorem ZnZ {st:Option Expr}{tk:TO}{p2:PySem.Pos}(he:PE X e te)(hk:PO X st tk)(hsub:∀a b:Addr,subscripted (.Slice none none st p2) false (.ref a) (.ref b)=operate [.ref a,.ref b] (getItem (.ref a) (.ref b)):=by intro _ _;with_unfolding_all rfl):PE X (.Subscript e (.Slice none none st p2) pos) (ZpB X.K te tk):=by
 intro qc s σ H Q I h;refine QeJ (thn (he qc s σ H _ I h) fun v s1 ⟨x,H1,I1,r1,q1⟩=> ?_);refine wpAny_Slice ?_;rw[QeE];refine Qao (Qao (thn (hk qc s1 σ H1 _ I1 q1) fun vk s3 ⟨k,H3,I3,pk,q3⟩=> ?_));obtain⟨rfl,a,xs,rfl,hx,q⟩:=q3;cases r1;have I4:Inv X qc σ H3 {s3 with heap:=s3.heap.push {cls:=.type "slice",data:=.fields #[.none,.none,vk] } }:=I3.kept (t':=s3.toks) fun b ob z=>Qak _ z;obtain⟨its,r,ht,hz⟩:=I4.list hx;have hlen:=r.length;show wpAny (model X.prog X.w) X.A (subscriptTail e (.Slice none none st p2) (.ref a) (.ref s3.heap.objs.size)) (EP X qc σ Q) X.xe {s3 with heap:=s3.heap.push {cls:=.type "slice",data:=.fields #[.none,.none,vk] } };refine tail_any (ops:=[.ref a,.ref s3.heap.objs.size]) ht.isList.typeIs slot_list_getitem.lookup ?_ (hsub _ _);refine QdS ht.isList (Heap.IsSliceOf.new ..) .none .none pk (by simp) ?_ (by rw[Qar]<;>omega);rw[PySem.W.krv_pick];refine⟨.ref _,_,I4.laid (t':=s3.toks) (o:=.lst xs.reverse) (fun b ob z=>Qak _ z) (Qaf _) ?_,rfl,q _ (I4.hok.fresh (Qaf _))⟩;exact⟨by rw[QcH];exact hz,its.reverse,0,ZaZ.rev r,QaQ _ rfl⟩
abbrev WL:=List (Int×List Int)
def mx (i j:Int):Int:=if j>i then j else i
def Pos (L:WL):Prop:=∀e∈L,0<e.1
inductive Th (H:Hp):V→PyData→Prop where
 |non:Th H .non .none
 |bl (b:Bool):Th H (.bl b) (.bool b)
 |int (i:Int):Th H (.int i) (.int i)
 |str (x:Str):Th H (.str x) (.str x)
 |tup {a:Addr} {xs:List V} {ds:List PyData}:H a=some (.tup xs)→xs.length=ds.length→(∀(i:Nat) (x:V) (d:PyData),xs[i]?=some x→ds[i]?=some d→Th H x d)→Th H (.ref a) (.tuple ds)
 |lst {a:Addr} {xs:List V} {ds:List PyData}:H a=some (.lst xs)→xs.length=ds.length→(∀(i:Nat) (x:V) (d:PyData),xs[i]?=some x→ds[i]?=some d→Th H x d)→Th H (.ref a) (.list ds)
theorem Th.di {K:PySem.W.Frag}{x:V}(h:Th H x d):DI K H x d:=by
 induction h with
 |non=>exact .non
 |bl b=>exact .bl b
 |int i=>exact .int i
 |str x=>exact .str x
 |tup a b _ ih=>exact .tup (SqT.of a) b ih
 |lst a b _ ih=>exact .lst (SqL.of a) b ih
theorem Th.up {x:V}(h:Th H x d)(s:Zai H H'):Th H' x d:=by
 induction h with
 |non=>exact .non
 |bl b=>exact .bl b
 |int i=>exact .int i
 |str x=>exact .str x
 |tup a b _ ih=>exact .tup (s _ _ a) b ih
 |lst a b _ ih=>exact .lst (s _ _ a) b ih
def Zhs:PyData→String
 | .none=> "NoneType"
 | .bool _=> "bool"
 | .int _=> "int"
 | .str _=> "str"
 | .list _=> "list"
 | .tuple _=> "tuple"
 | .dict _=> "dict"
theorem Th.ty {K:PySem.W.Frag}{x:V}(h:Th H x d):Zep K H x (.type (Zhs d)):=by
 cases h with
 |non=>exact .non
 |bl b=>exact .bl b
 |int i=>exact .int i
 |str x=>exact .str x
 |tup a _ _=>exact .tup a
 |lst a _ _=>exact .lst a
def isInt:PyData→Bool
 | .int _| .bool _=>true
 |_=>false
def Zjb:PyData→Bool
 | .bool _=>true
 |_=>false
theorem Zjc {K:PySem.W.Frag}(d:PyData):PySem.W.kitOne K (.type (Zhs d)) (.type "int")=some (isInt d):=by
 cases d<;>with_unfolding_all rfl
theorem ZeP {K:PySem.W.Frag}(d:PyData):PySem.W.kitOne K (.type (Zhs d)) (.type "bool")=some (Zjb d):=by
 cases d<;>with_unfolding_all rfl
structure Zpe (n:Nat)(d:PyData):Prop where
 lay:d.canLay0=true
 show':d.showable=true
 dep:d.depth≤n
 wt:d.weight≤400*12^n
 short:d.intsShort 80=true
theorem Zjd {i:Int}(h1: -(10^79)<i)(h2:i<10^79):(Str.ofString (toString i)).length≤80:=by
 by_cases h0:0≤i
 ·exact QaI (toString_length_le (k:=79) h0 (by decide) h2) (by decide)
 ·rw[len_text_neg (by omega)]
  have:=toString_length_le (v:=0-i) (k:=79) (by omega) (by decide) (by omega);omega
theorem Zpe.int {i:Int}(h1: -(10^79)<i)(h2:i<10^79):Zpe 0 (.int i):=by
 have hl:i≠0→i.natAbs.log2<300:=fun z=>by
  refine(Nat.log2_lt (by omega)).mpr ?_
  have:(10:Int) ^79≤2^300:=by decide +kernel
  omega
 refine⟨rfl,?_,Qaf _,?_,Qan (Zjd h1 h2)⟩
 ·show decide (i.natAbs.log2<1920)=true;by_cases z:i=0
  ·subst z;rfl
  ·have:=hl z;exact Qan (by omega)
 ·show(if i==0 then 0 else i.natAbs.log2+1)≤_;by_cases z:i=0
  ·subst z;decide
  ·rw[if_neg (by simpa using z)]
   have:=hl z;show _≤400;omega
section
variable {t:TA}
theorem Zap {c:Const}(ha:PE X (.Constant c j p) te)(hr:PA X es t):PA X (.Constant c j p::es) (Zae te t):=ZaH ha hr rfl
theorem Zac (ha:PE X (.Name x p) te)(hr:PA X es t):PA X (.Name x p::es) (Zae te t):=ZaH ha hr rfl
theorem Zht (ha:PE X (.Tuple l k p) te)(hr:PA X es t):PA X (.Tuple l k p::es) (Zae te t):=ZaH ha hr rfl
theorem ZmH (ha:PE X (.List l p) te)(hr:PA X es t):PA X (.List l p::es) (Zae te t):=ZaH ha hr rfl
theorem Zic {o:UnaryOp}(ha:PE X (.UnaryOp o e p) te)(hr:PA X es t):PA X (.UnaryOp o e p::es) (Zae te t):=ZaH ha hr rfl
theorem Zbm {a:Expr}{o:Operator}(ha:PE X (.BinOp a o b p) te)(hr:PA X es t):PA X (.BinOp a o b p::es) (Zae te t):=ZaH ha hr rfl
theorem ZbB {a:Expr}(ha:PE X (.Subscript a b p) te)(hr:PA X es t):PA X (.Subscript a b p::es) (Zae te t):=ZaH ha hr rfl
theorem ZaV {f:Expr}{kw:List Keyword}(ha:PE X (.Call f l kw p) te)(hr:PA X es t):PA X (.Call f l kw p::es) (Zae te t):=ZaH ha hr rfl
end
theorem Zb2 {e2:Expr}{t:TA}(h1:PE X e1 t1)(h2:PE X e2 t2)(hr:PA X es t)(s1:∀l,starEach (e1::l) X.env=(false,eval e1 X.env)::starEach l X.env:=by intro _;rfl)(s2:∀l,starEach (e2::l) X.env=(false,eval e2 X.env)::starEach l X.env:=by intro _;rfl):PA X (e1::e2::es) (Zae t1 (Zae t2 t)):=(ZaH h1 (ZaH h2 hr (s2 _)) (s1 _))
theorem Zje {e2:Expr}{t:TA}(h1:PE X e1 t1)(h2:PE X e2 t2)(h3:PE X e3 t3)(hr:PA X es t)(s1:∀l,starEach (e1::l) X.env=(false,eval e1 X.env)::starEach l X.env:=by intro _;rfl)(s2:∀l,starEach (e2::l) X.env=(false,eval e2 X.env)::starEach l X.env:=by intro _;rfl)(s3:∀l,starEach (e3::l) X.env=(false,eval e3 X.env)::starEach l X.env:=by intro _;rfl):PA X (e1::e2::e3::es) (Zae t1 (Zae t2 (Zae t3 t))):=(ZaH h1 (ZaH h2 (ZaH h3 hr (s3 _)) (s2 _)) (s1 _))
theorem ZeQ {e2 e4:Expr}{t4:TE}{t:TA}(h1:PE X e1 t1)(h2:PE X e2 t2)(h3:PE X e3 t3)(h4:PE X e4 t4)(hr:PA X es t)(s1:∀l,starEach (e1::l) X.env=(false,eval e1 X.env)::starEach l X.env:=by intro _;rfl)(s2:∀l,starEach (e2::l) X.env=(false,eval e2 X.env)::starEach l X.env:=by intro _;rfl)(s3:∀l,starEach (e3::l) X.env=(false,eval e3 X.env)::starEach l X.env:=by intro _;rfl)(s4:∀l,starEach (e4::l) X.env=(false,eval e4 X.env)::starEach l X.env:=by intro _;rfl):PA X (e1::e2::e3::e4::es) (Zae t1 (Zae t2 (Zae t3 (Zae t4 t)))):=(ZaH h1 (ZaH h2 (ZaH h3 (ZaH h4 hr (s4 _)) (s3 _)) (s2 _)) (s1 _))
theorem Zjf {a:Expr}{t:Option Expr}{l:Nat}:swapsWith (.Subscript a b p) t l env=pure false:=rfl
theorem Inv.turnedNew {p:Addr}{xs:List V}(I:Inv X qc σ H s)(k:∀b o,b∉ch→s.heap.get? b=some o→h'.get? b=some o)(hf:∀b∈ch,ZkL X qc H b)(hp:s.heap.objs.size≤p)
  (new:ZbG X.prog X.w (upd H p (.tup xs)) h' p (.tup xs)):Inv X qc σ (upd H p (.tup xs)) {s with heap:=h',toks:=t' }:=by
 have hn:H p=none:=I.hok.fresh hp;have nit:∀b u,H b=some u→b∉ch:=fun b u e z=>by rw[(hf b z).1] at e;cases e
 have nL:X.env.locals∉ch:=fun z=>(hf _ z).2.1 rfl
 refine I.step (g':=s.gens) (d':=s.drawn) (ch:=ch) (fun b hb=> ?_) (fun b o _ _ hc e _=>k b o hc e) (fun b o _ _ hc e _=>⟨o.slots,k b o hc e⟩) (fun b o _ e n=> ?_)
  (fun b o hc e=>⟨o,k b o hc e⟩) (fun b xs e=> ?_) (fun b o u e=> ?_) (fun b ps e=>⟨#[],?_⟩) (fun m hm=> ?_) (fun b u e=> ?_) I.bare
 ·obtain⟨f0,f1,f2,f3,f4,f5⟩:=hf b hb;exact⟨f3,f1,f4,f5⟩
 ·rw[Zan (fun z=>by rw[z] at e;exact absurd (QaU (Qau e) hp) (QbG _))];exact n
 ·rw[Zan (Zak e hn)];exact e
 ·rw[Zan (Zak e hn)];exact e
 ·rw[Zan (Zak e hn),e];simp
 ·obtain⟨o,es,ep,ho,r⟩:=hm;exact⟨o,es,ep,k _ o nL ho,r⟩
 ·by_cases hb:b=p
  ·subst hb;rw[Zaa] at e;cases e;exact new
  ·rw[Zan hb] at e;refine(I.hok b u e).stay (fun c v hc q=>k c v ?_ q) (fun c q=>by rw[Zan (Zak q hn)];exact q) fun c xs q=>by rw[Zan (Zak q hn)];exact q
   rcases hc with z|z
   ·rw[z];exact nit b u e
   ·exact nit c _ z
theorem Inv.turnedL (I:Inv X qc σ H s)(k:∀b o,b∉ch→s.heap.get? b=some o→h'.get? b=some o)(hf:∀b∈ch,ZkL X qc H b):Inv X qc σ H {s with heap:=h',toks:=t' }:=by
 have nit:∀b u,H b=some u→b∉ch:=fun b u e z=>by rw[(hf b z).1] at e;cases e
 have nL:X.env.locals∉ch:=fun z=>(hf _ z).2.1 rfl
 refine I.step (g':=s.gens) (d':=s.drawn) (ch:=ch) (fun b hb=> ?_) (fun b o _ _ hc e _=>k b o hc e) (fun b o _ _ hc e _=>⟨o.slots,k b o hc e⟩) (fun b o _ e n=>n)
  (fun b o hc e=>⟨o,k b o hc e⟩) (fun b xs e=>e) (fun b o u e=>e) (fun b ps e=>⟨#[],by rw[e];simp⟩) (fun m hm=> ?_) (fun b u e=> ?_) I.bare
 ·obtain⟨f0,f1,f2,f3,f4,f5⟩:=hf b hb;exact⟨f3,f1,f4,f5⟩
 ·obtain⟨o,es,ep,ho,r⟩:=hm;exact⟨o,es,ep,k _ o nL ho,r⟩
 ·refine(I.hok b u e).stay (fun c v hc q=>k c v ?_ q) (fun _ q=>q) fun _ _ q=>q;rcases hc with z|z
  ·rw[z];exact nit b u e
  ·exact nit c _ z
def Itz (K:PySem.W.Frag)(a b:Addr):It:=
 ⟨fun i H=>∃xs ys x y,SqL K H a xs∧SqL K H b ys∧xs[i]?=some x∧ys[i]?=some y,
  fun i H v H'=>∃p x y,v= .ref p∧H p=none∧H'=upd H p (.tup [x,y])∧(∀xs,SqL K H a xs→xs[i]?=some x)∧(∀ys,SqL K H b ys→ys[i]?=some y),
  fun i H=>∃xs ys,SqL K H a xs∧SqL K H b ys∧(xs[i]?=none∨ys[i]?=none)⟩
def Zpf (z TI TO i1 i2 a b:Addr)(i:Nat)(h:Heap):Prop:=IsZip h z TI TO .none∧IsPair h TI (.ref i1) (.ref i2)∧(∃u v,IsPair h TO u v)∧h.IsListIter i1 a i∧h.IsListIter i2 b i
theorem ZkV {K:PySem.W.Frag}(a b z TI TO i1 i2:Addr)(D:ZipApart z TI TO i1 i2 a b):Zmw P w K (.Tuple es k pos) (Itz K a b) [z,TI,TO,i1,i2] z (Zpf z TI TO i1 i2 a b) where
 mem:=by simp
 obj:=fun i h st c hc=>by
  obtain⟨hz,hTI,⟨u,v,hTO⟩,⟨o1,e1,c1,d1⟩,⟨o2,e2,c2,d2⟩⟩:=st;simp only[QaJ,Qbe,Qco] at hc;rcases hc with rfl|rfl|rfl|rfl|rfl
  ·exact⟨_,hz,fun v q=>by cases q⟩
  ·exact⟨_,hTI,fun v q=>by cases q⟩
  ·exact⟨_,hTO,fun v q=>by cases q⟩
  ·exact⟨o1,e1,fun v q=>by rw[d1] at q;cases q⟩
  ·exact⟨o2,e2,fun v q=>by rw[d2] at q;cases q⟩
 keep:=fun i h h' st q=>by
  obtain⟨hz,hTI,⟨u,v,hTO⟩,l1,l2⟩:=st;exact⟨q _ (by simp) _ hz,q _ (by simp) _ hTI,⟨u,v,q _ (by simp) _ hTO⟩,l1.at fun o e=>q _ (by simp) o e,l2.at fun o e=>q _ (by simp) o e⟩
 item:=by
  intro X hP hw hK hc i qc s σ H E I hf st hg;subst hP hw hK;obtain⟨xs,ys,x,y,hq1,hq2,hx,hy⟩:=hg;obtain⟨hz,hTI,⟨u,v,hTO⟩,l1,l2⟩:=st;obtain⟨its1,rv1,p1,_⟩:=I.list hq1;obtain⟨its2,rv2,p2,_⟩:=I.list hq2;obtain⟨ux,hux,rux⟩:=rv1.get hx;obtain⟨uy,huy,ruy⟩:=rv2.get hy;refine wpAny_pyNext_zip_item D hz hTI hTO l1 l2 p1.isList p2.isList (x:=ux) (y:=uy) (by simpa using hux) (by simpa using huy) fun h' z1 TO1 j1 j2 T1 sz kp=> ?_;refine⟨_,rfl,wpAny_letOwnedTupleGo_zip z1 fun h2 z2 sb=> ?_⟩;have hzlt:z<s.heap.objs.size:=Qau hz;have hpz:s.heap.objs.size≠z:=QeK hzlt;have T2:IsPair h2 s.heap.objs.size ux uy:=sb.extBut _ _ hpz T1
  have kp2:∀c o,c∉ [z,TI,TO,i1,i2]→s.heap.get? c=some o→h2.get? c=some o:=fun c o hc e=>by
   simp only[QaJ,Qbe,Qco,not_or] at hc;exact sb.extBut _ _ hc.1 (kp c o hc.1 hc.2.2.1 hc.2.2.2.1 hc.2.2.2.2 e)
  have I2:Inv X qc σ (upd H s.heap.objs.size (.tup [x,y])) {s with heap:=h2,toks:=s.toks }:=I.turnedNew kp2 hf (Qaf _) ⟨by show 2≤sizeLine;decide,[ux,uy],.cons rux (.cons ruy .nil),⟨_,T2,rfl,_,rfl⟩⟩;refine⟨.ref s.heap.objs.size,_,I2,rfl,⟨_,x,y,rfl,I.hok.fresh (Qaf _),rfl,fun xs' h=> ?_,fun ys' h=> ?_⟩,⟨z2,?_,⟨ux,uy,?_⟩,?_,?_⟩,fun c hc=> ?_⟩
  ·rw[I.list_inj h hq1];exact hx
  ·rw[I.list_inj h hq2];exact hy
  ·exact sb.extBut _ _ D.TIz (kp _ _ D.TIz D.TITO D.TIi1 D.TIi2 hTI)
  ·exact sb.extBut _ _ D.TOz TO1
  ·exact j1.at fun o e=>sb.extBut _ _ D.i1z e
  ·exact j2.at fun o e=>sb.extBut _ _ D.i2z e
  ·have hlt:c<s.heap.objs.size:=by
    simp only[QaJ,Qbe,Qco] at hc;rcases hc with rfl|rfl|rfl|rfl|rfl
    ·exact hzlt
    ·exact Qau hTI
    ·exact Qau hTO
    ·obtain⟨_,e,_⟩:=l1;exact Qau e
    ·obtain⟨_,e,_⟩:=l2;exact Qau e
   rw[Zan (QaX hlt)];exact(hf c hc).1
 done:=by
  intro X hP hw hK hc i qc s σ H E I hf st hg;subst hP hw hK;obtain⟨xs,ys,hq1,hq2,hend⟩:=hg;obtain⟨hz,hTI,⟨u,v,hTO⟩,l1,l2⟩:=st;obtain⟨its1,rv1,p1,_⟩:=I.list hq1;obtain⟨its2,rv2,p2,_⟩:=I.list hq2;have e1:=rv1.length;have e2:=rv2.length;refine wpAny_pyNext_zip_end (I.ok.hd hc) D hz hTI hTO l1 l2 p1.isList p2.isList (hend.imp (fun q=> ?_) (fun q=> ?_)) fun h' kp=>⟨rfl,I.turnedL (t':=s.toks) (ch:=[z,TI,TO,i1,i2]) (fun c o hc e=> ?_) hf⟩
  ·rw[QaY] at q;simp;omega
  ·rw[QaY] at q;simp;omega
  ·simp only[QaJ,Qbe,Qco,not_or] at hc;exact kp c o hc.1 hc.2.2.1 hc.2.2.2.1 hc.2.2.2.2 e
 self:=fun _ _ _ _ _ st h=>wpAny_pyIter_zip st.1 h
def ZpC (K:PySem.W.Frag)(ta:TA):TI:=fun σ H R=>ta σ H fun vs H1=>∃a b,vs=[.ref a,.ref b]∧(∃xs,SqL K H1 a xs)∧(∃ys,SqL K H1 b ys)∧R (Itz K a b) H1
theorem Zn0 {a:Expr}(hg:Gl X "zip")(hm:X.mg "zip" =none)(ha:PA X [a,b] ta)
  (hs:starEach [a,b] X.env=[(false,eval a X.env),(false,eval b X.env)]:=by rfl) (hs2:starEach [b] X.env=[(false,eval b X.env)]:=by rfl):PI X (.Tuple tes tk tpos) (.Call (.Name "zip" p) [a,b] [] pos) (ZpC X.K ta):=by
 intro qc s σ H R I h;refine Qcm (Zdz I hg hm boot_zip ?_);refine QbH (thn (ha pos qc s σ H _ I h) fun us s1 ⟨vs,H1,I1,r1,l1,l2,e,⟨xs,hx⟩,⟨ys,hy⟩,q⟩=> ?_) (by rw[hs,hs2]) (by rw[hs2];rfl);subst e;obtain⟨u1,u2,rfl,rfl,rfl⟩:=ZiT r1;obtain⟨its1,rv1,p1,_⟩:=I1.list hx;obtain⟨its2,rv2,p2,_⟩:=I1.list hy;have a1:l1<s1.heap.objs.size:=by obtain⟨_,e,_⟩:=p1.isList;exact Qau e
 have a2:l2<s1.heap.objs.size:=by obtain⟨_,e,_⟩:=p2.isList;exact Qau e
 refine call_zip_2 p1.isList p2.isList fun h' hz hTI hTO hi1 hi2 sz kp=> ?_;refine wpAny_pyIter_zip hz ?_;refine⟨_,[_,_,_,_,_],_,_,H1,rfl,I1.kept (t':=s1.toks) kp,ZkV l1 l2 _ _ _ _ _ (zipApart_new a1 a2),⟨hz,hTI,⟨_,_,hTO⟩,hi1,hi2⟩,fun c hc=> ?_,q⟩
 have hge:s1.heap.objs.size≤c:=by
  simp only[QaJ,Qbe,Qco] at hc;rcases hc with rfl|rfl|rfl|rfl|rfl
  ·exact Qdg _ _
  ·exact Qdg _ _
  ·exact Qdg _ _
  ·exact Qaf _
  ·exact Qdg _ _
 exact I1.fpOk hge (I1.hok.fresh hge)
theorem Zpg {K:PySem.W.Frag}{b:Addr}{xs ys:List V}(Pv:Nat→List V→Hp→Prop)(h0:Pv 0 [] H)(hn:n=min xs.length ys.length)(hb:n≤1000)(hz:∀i zs H,Pv i zs H→zs.length≤i)(hl:∀i zs H,i≤n→Pv i zs H→SqL K H a xs∧SqL K H b ys)
  (hs:∀i x y zs H (pre:St) (p:Addr),pre.length=k→xs[i]?=some x→ys[i]?=some y→Pv i zs H→H p=none→g (.ref p) (pre++σ) (upd H p (.tup [x,y])) fun σ' H2=>(∃pre':St,σ'=pre'++σ∧pre'.length=k)∧tt σ' H2 fun ok H3=>if ok=true then te σ' H3 fun y H4=>Pv (i+1) (zs++ [y]) H4 else Pv (i+1) zs H3) (hd:∀zs H,Pv n zs H→∀D,H D=none→Q (.ref D) (upd H D (.lst zs))):CGo k (Itz K a b) g tt te Q σ H:=by
 refine⟨fun i m zs H=>m=n-i∧i≤n∧Pv i zs H,⟨n,by simp,QaW _,h0⟩,?_⟩;rintro i m zs H ⟨rfl,hi,p⟩;obtain⟨q1,q2⟩:=hl i zs H hi p;by_cases hlt:i<n
 ·have h1:i<xs.length:=by omega
  have h2:i<ys.length:=by omega
  refine .inr ⟨⟨xs,ys,xs[i],ys[i],q1,q2,by simp[h1],by simp[h2]⟩,QaN (hz i zs H p) (Zbs (by omega)),Pv (i+1),fun zs H' p'=>⟨n-(i+1),by omega,rfl,hlt,p'⟩,fun x H' pre hp y=> ?_⟩;obtain⟨q,x1,y1,rfl,hq,rfl,e1,e2⟩:=y;exact hs i x1 y1 zs _ pre q hp (e1 xs q1) (e2 ys q2) p hq
 ·have e:i=n:=by omega
  subst e;refine .inl ⟨⟨xs,ys,q1,q2,?_⟩,hd zs H p⟩;by_cases hx:xs.length≤ys.length
  ·exact .inl (Qbm (by omega))
  ·exact .inr (Qbm (by omega))
structure FA (n W:Nat)(ds:List PyData):Prop where
 lay:PyData.canLayAll0 ds=true
 show':PyData.showableAll ds=true
 dep:PyData.depthAll ds≤n
 wt:PyData.weightAll ds≤W
 short:PyData.intsShortAll 80 ds=true
structure FD (n W:Nat)(d:PyData):Prop where
 lay:d.canLay0=true
 show':d.showable=true
 dep:d.depth≤n
 wt:d.weight≤W
 short:d.intsShort 80=true
theorem FA.nil :FA n W []:=⟨rfl,rfl,QaW _,QaW _,rfl⟩
theorem FA.cons {w:Nat}(h:FD n w d)(k:FA n W ds):FA n (w+1+W) (d::ds):=by
 refine⟨?_,?_,?_,?_,?_⟩
 ·show(d.canLay0 && _)=true;rw[h.lay,k.lay];rfl
 ·show(d.showable && _)=true;rw[h.show',k.show'];rfl
 ·show max d.depth _≤n;have:=h.dep;have:=k.dep;omega
 ·show d.weight+1+PyData.weightAll ds≤_;have:=h.wt;have:=k.wt;omega
 ·show(d.intsShort 80 && _)=true;rw[h.short,k.short];rfl
theorem FA.mono {V:Nat}(h:FA n W ds)(a:n≤m)(b:W≤V):FA m V ds:=⟨h.lay,h.show',QaI h.dep a,QaI h.wt b,h.short⟩
theorem FD.mono {V:Nat}(h:FD n W d)(a:n≤m)(b:W≤V):FD m V d:=⟨h.lay,h.show',QaI h.dep a,QaI h.wt b,h.short⟩
theorem FA.all {n w:Nat}:∀{ds:List PyData},(∀d∈ds,FD n w d)→FA n (ds.length*(w+1)) ds
 | [],_=>FA.nil
 |d::ds,h=>by
  have:=FA.cons (h d QaA) (FA.all fun x hx=>h x (QaD _ hx));refine this.mono (Qaf _) ?_;rw[QaF,Nat.succ_mul];omega
theorem FA.lst (h:FA n W ds):FD (n+1) W (.list ds):=⟨h.lay,h.show',by show PyData.depthAll ds+1≤n+1;have:=h.dep;omega,h.wt,h.short⟩
theorem FA.tup (h:FA n W ds):FD (n+1) W (.tuple ds):=⟨h.lay,h.show',by show PyData.depthAll ds+1≤n+1;have:=h.dep;omega,h.wt,h.short⟩
theorem FD.int {n:Nat}{i:Int}(h1: -(10^79)<i)(h2:i<10^79):FD n 400 (.int i):=by
 have:=Zpe.int h1 h2;exact⟨this.lay,this.show',QaI this.dep (QaW _),by have:=this.wt;simpa using this,this.short⟩
theorem FD.bl (b:Bool):FD n 0 (.bool b):=⟨rfl,rfl,QaW _,Qaf _,rfl⟩
theorem FD.non :FD n 0 .none:=⟨rfl,rfl,QaW _,Qaf _,rfl⟩
theorem FD.len (h:FD n 200000 d):d.shown.length≤sizeLine:=by
 have h1:=PyData.shown_le 80 (by decide) d (PyData.leavesShort_of_canLay0 80 d h.lay h.short);have h2:=h.wt;have h4:sizeLine=16777216:=by decide
 rw[h4];omega
theorem FD.noD (h:FD n W d):d.hasDict=false:=PyData.hasDict_of_canLay d h.lay
def ThL (H:Hp)(xs:List V)(ds:List PyData):Prop:=xs.length=ds.length∧∀(i:Nat) (x:V) (d:PyData),xs[i]?=some x→ds[i]?=some d→Th H x d
theorem ThL.nil :ThL H [] []:=⟨rfl,fun i x d h=>by simp at h⟩
theorem ThL.cons {x:V}{xs:List V}(h:Th H x d)(k:ThL H xs ds):ThL H (x::xs) (d::ds):=by
 refine⟨by rw[QaF,QaF,k.1],fun i y e h1 h2=> ?_⟩
 cases i with
 |zero=>cases h1;cases h2;exact h
 |succ i=>exact k.2 i y e h1 h2
theorem ThL.append {xs ys:List V}{es:List PyData}(k:ThL H xs ds)(l:ThL H ys es):ThL H (xs++ys) (ds++es):=by
 refine⟨by rw[Qae,Qae,k.1,l.1],fun i x d h1 h2=> ?_⟩;by_cases hi:i<xs.length
 ·rw[Qax hi] at h1;rw[Qax (k.1 ▸ hi)] at h2;exact k.2 i x d h1 h2
 ·rw[Qay (by omega)] at h1;rw[Qay (by rw[←k.1];omega),←k.1] at h2;exact l.2 _ x d h1 h2
theorem ThL.take {H:Hp}{xs:List V}{ds:List PyData}(k:ThL H xs ds)(n:Nat):ThL H (xs.take n) (ds.take n):=by
 refine⟨by rw[QaC,QaC,k.1],fun i x d h1 h2=> ?_⟩;rw[Qbv] at h1 h2;split at h1
 ·rename_i hi;rw[if_pos hi] at h2;exact k.2 i x d h1 h2
 ·cases h1
theorem ThL.drop {H:Hp}{xs:List V}{ds:List PyData}(k:ThL H xs ds)(n:Nat):ThL H (xs.drop n) (ds.drop n):=by
 refine⟨by rw[Qbd,Qbd,k.1],fun i x d h1 h2=> ?_⟩;rw[Qbw] at h1 h2;exact k.2 _ x d h1 h2
theorem ThL.tup {H:Hp}{a:Addr}{xs:List V}{ds:List PyData}(k:ThL H xs ds)(h:H a=some (.tup xs)):Th H (.ref a) (.tuple ds):=.tup h k.1 k.2
theorem ThL.lst {H:Hp}{a:Addr}{xs:List V}{ds:List PyData}(k:ThL H xs ds)(h:H a=some (.lst xs)):Th H (.ref a) (.list ds):=.lst h k.1 k.2
theorem ThL.ints (ns:List Int):ThL H (ns.map V.int) (ns.map .int):=by
 refine⟨by simp,fun i x d h1 h2=> ?_⟩;rw[Qah] at h1 h2
 cases z:ns[i]? with
 |none=>rw[z] at h1;cases h1
 |some n=>rw[z] at h1 h2;cases h1;cases h2;exact .int n
theorem sIx_nat {n m d:Nat}(h:m≤n):HT.sIx n d (some (m:Int))=m:=by
 rw[HT.sIx_nat];exact Qcq h
theorem Zjg {xs:List V}(h:n≤xs.length):Zgu xs none (some (n:Int))=xs.take n:=by
 unfold Zgu;rw[sIx_nat h];show(xs.drop 0).take (n-0)=_;simp
theorem ZfL {xs:List V}(h:n≤xs.length):Zgu xs (some (n:Int)) none=xs.drop n:=by
 unfold Zgu;rw[sIx_nat h];show(xs.drop n).take (xs.length-n)=_;rw[QaM (by simp)]
def Zn1 (acc:List Int)(k:Int):List Int:=if k∈acc then acc else acc++ [k]
def dd (ns:List Int):List Int:=ns.foldl Zn1 []
section
variable {κ:Type} [DecidableEq κ]
def Zid (kvs:List (κ×V))(k:κ):Option V:=(kvs.find? fun kv=>decide (kv.1=k)).map (·.2)
def Zie (kvs:List (κ×V))(k:κ)(v:V):List (κ×V):=
 if(kvs.any fun kv=>decide (kv.1=k))=true then kvs.map (fun kv=>if kv.1=k then(kv.1,v) else kv) else kvs++ [(k,v)]
theorem ZcV {p:κ×V}{r:List (κ×V)}{k:κ}(e:p.1=k):Zid (p::r) k=some p.2:=by simp[Zid,Qb8,e]
theorem ZcW {p:κ×V}{r:List (κ×V)}{k:κ}(e:¬p.1=k):Zid (p::r) k=Zid r k:=by simp[Zid,Qb8,e]
theorem Zhu (k:κ):∀kvs:List (κ×V),(kvs.any fun kv=>decide (kv.1=k))=(Zid kvs k).isSome
 | []=>rfl
 |p::r=>by
  rw[Qcr];by_cases e:p.1=k
  ·simp only[ZcV e,Qan e,Bool.true_or,Option.isSome_some]
  ·rw[ZcW e,Qal e,Bool.false_or];exact Zhu k r
theorem ZdK (kvs:List (κ×V))(k:κ)(v:V):(Zie kvs k v).length≤kvs.length+1:=by
 unfold Zie;split
 ·rw[Qaa];omega
 ·rw[Qae,QaF,Qbp];omega
theorem Zh1.isSome_eq {o:Option V}{u:Option Value}(r:Zh1 o u):o.isSome=u.isSome:=by
 cases o with
 |none=>cases u with
  |none=>rfl
  |some _=>exact(show False from r).elim
 |some _=>cases u with
  |none=>exact(show False from r).elim
  |some _=>rfl
theorem Zh1.getD {o:Option V}{u:Option Value}{d:V}{d':Value}(r:Zh1 o u)(rd:Zbd d d'):Zbd (o.getD d) (u.getD d'):=by
 cases o with
 |none=>cases u with
  |none=>exact rd
  |some _=>exact(show False from r).elim
 |some _=>cases u with
  |none=>exact(show False from r).elim
  |some _=>exact r
theorem KV.val {kvs:List (κ×V)}{vs:List (κ×Value)}(r:KV kvs vs)(k:κ):Zh1 (Zid kvs k) (valueAt vs k):=by
 unfold KV at r
 induction r with
 |nil=>exact QcM
 | @cons p q ps qs h t ih=>
  obtain⟨h1,h2⟩:=h;by_cases e:p.1=k
  ·have e':q.1=k:=h1.symm.trans e;have b:valueAt (q::qs) k=some q.2:=by simp[valueAt,Qb8,e']
   rw[ZcV e,b];exact h2
  ·have e':¬q.1=k:=fun z=>e (h1.trans z);have b:valueAt (q::qs) k=valueAt qs k:=by simp[valueAt,Qb8,e']
   rw[ZcW e,b];exact ih
theorem KV.any {kvs:List (κ×V)}{vs:List (κ×Value)}(r:KV kvs vs)(k:κ):(kvs.any fun kv=>decide (kv.1=k))=vs.any fun kv=>decide (kv.1=k):=by
 unfold KV at r
 induction r with
 |nil=>rfl
 |cons h t ih=>rw[Qcr,Qcr,ih,h.1]
theorem KV.repl {kvs:List (κ×V)}{vs:List (κ×Value)}(r:KV kvs vs)(k:κ){y:V}(ry:Zbd y u):
  KV (kvs.map fun kv=>if kv.1=k then(kv.1,y) else kv) (vs.map fun kv=>if kv.1=k then(kv.1,u) else kv):=by
 unfold KV at r⊢
 induction r with
 |nil=>exact .nil
 | @cons p q ps qs h t ih=>
  rw[Qa5,Qa5];refine .cons ?_ ih;obtain⟨h1,h2⟩:=h;by_cases e:p.1=k
  ·rw[if_pos e,if_pos (h1.symm.trans e)];exact⟨h1,ry⟩
  ·rw[if_neg e,if_neg (fun z=>e (h1.trans z))];exact⟨h1,h2⟩
theorem KV.put {kvs:List (κ×V)}{vs:List (κ×Value)}(r:KV kvs vs)(k:κ){y:V}(ry:Zbd y u):KV (Zie kvs k y) (stored vs k u):=by
 unfold Zie stored;rw[r.any k];by_cases e:(vs.any fun kv=>decide (kv.1=k))=true
 ·rw[if_pos e,if_pos e];exact r.repl k ry
 ·rw[if_neg e,if_neg e];exact Paired.snoc r ⟨rfl,ry⟩
theorem KV.length {kvs:List (κ×V)}{vs:List (κ×Value)}(r:KV kvs vs):kvs.length=vs.length:=QeD r
end
theorem ZkW {k:Key}(r:Zbd (kV k) u):(Zbp P w).is k u=true:=by
 cases k with
 |inl i=>obtain⟨t,e⟩:=(show∃t,u=Value.int i t from r);subst e;exact Zgq P w i t
 |inr x=>obtain⟨t,e⟩:=(show∃t,u=Value.str x t from r);subst e;exact Zgr P w x t
theorem ZfM {P:Program}{w:World}:∀{ks:List Key} {us:List Value},ZaZ (ks.map kV) us→ItemsAre (Zbp P w) ks us
 | [],_,r=>by rw[QcP] at r;cases r;exact .nil
 |k::ks,_,r=>by
  rw[Qa5] at r
  cases r with
  |cons h t=>exact .cons (ZkW h) (ZfM t)
abbrev KT (H:Hp):List (List Key×V)→List (List Key×Addr×Value)→Prop:=Paired fun p q=>p.1=q.1∧H q.2.1=some (.tup (p.1.map kV))∧Zbd p.2 q.2.2
theorem KT.val {kvs:List (List Key×V)}{xs:List (List Key×Addr×Value)}(r:KT H kvs xs)(k:List Key):Zh1 (Zid kvs k) ((atKey xs k).map (·.2)):=by
 induction r with
 |nil=>exact QcM
 | @cons p q ps qs h t ih=>
  obtain⟨h1,_,h2⟩:=h;by_cases e:p.1=k
  ·have e':q.1=k:=h1.symm.trans e;have b:atKey (q::qs) k=some q.2:=by simp[atKey,Qb8,e']
   rw[ZcV e,b];exact h2
  ·have e':¬q.1=k:=fun z=>e (h1.trans z);have b:atKey (q::qs) k=atKey qs k:=by simp[atKey,Qb8,e']
   rw[ZcW e,b];exact ih
theorem KT.repl {kvs:List (List Key×V)}{xs:List (List Key×Addr×Value)}(r:KT H kvs xs)(k:List Key){y:V}(ry:Zbd y u):
  KT H (kvs.map fun kv=>if kv.1=k then(kv.1,y) else kv) (xs.map (putAt k u)):=by
 induction r with
 |nil=>exact .nil
 | @cons p q ps qs h t ih=>
  rw[Qa5,Qa5];refine .cons ?_ ih;obtain⟨h1,h2,h3⟩:=h;unfold putAt;by_cases e:p.1=k
  ·rw[if_pos e,if_pos (h1.symm.trans e)];exact⟨h1,h2,ry⟩
  ·rw[if_neg e,if_neg (fun z=>e (h1.trans z))];exact⟨h1,h2,h3⟩
theorem KT.put {kvs:List (List Key×V)}{xs:List (List Key×Addr×Value)}(r:KT H kvs xs)(k:List Key){b:Addr}{y:V}(hb:H b=some (.tup (k.map kV)))(ry:Zbd y u):
  KT H (Zie kvs k y) (storedH xs k b u):=by
 have e:(kvs.any fun kv=>decide (kv.1=k))=(atKey xs k).isSome:=by
  rw[Zhu,(r.val k).isSome_eq,Option.isSome_map]
 unfold Zie storedH;rw[e];by_cases q:(atKey xs k).isSome=true
 ·rw[if_pos q,if_pos q];exact r.repl k ry
 ·rw[if_neg q,if_neg q];exact Paired.snoc r ⟨rfl,hb,ry⟩
theorem KT.keeps {kvs:List (List Key×V)}{xs:List (List Key×Addr×Value)}(r:KT H kvs xs)(ht:∀b ys,H b=some (.tup ys)→H' b=some (.tup ys)):KT H' kvs xs:=
 Paired.mapP r fun _ _ z=>⟨z.1,ht _ _ z.2.1,z.2.2⟩
theorem Zn2 {u:HO}(ok:HOk P w H h)(e:Rd H a u):ZbG P w H h a u:=e.ok ok
theorem Zjh {kvs:List (Key×V)}(ok:HOk P w H h)(e:Rd H a (.dK kvs)):kvs.length≤sizeLine∧(a==sysModules)=false∧∃vs,KV kvs vs∧h.DictOf (Zbp P w) a vs:=
 show ZbG P w H h a (.dK kvs) from Zn2 ok e
theorem Zph {kvs:List (Key×V)}(ok:HOk P w H h)(e:H a=some (.dK kvs)):kvs.length≤sizeLine∧(a==sysModules)=false∧∃vs,KV kvs vs∧h.DictOf (Zbp P w) a vs:=Zjh ok (.inl e)
theorem Zhv {ks:List Key}(ok:HOk P w H h)(e:H a=some (.tup (ks.map kV))):(tupleKind (Zbp P w)).is h ks a:=by
 obtain⟨_,its,r,o,h1,h2,n,h3⟩:=(show ZbG P w H h a (.tup (ks.map kV)) from ok a _ e);exact⟨o,its.toArray,n,h1,h2,h3,by simpa using ZfM r⟩
theorem Zji {kvs:List (List Key×V)}(ok:HOk P w H h)(e:Rd H a (.dT kvs)):kvs.length≤sizeLine∧(a==sysModules)=false∧
  ∃xs,KT H kvs xs∧h.DictOfH (tupleKind (Zbp P w)) a xs:=by
 obtain⟨z,y,xs,r,o,es,ep,h1,h2,h3,h4,h5⟩:=(show ZbG P w H h a (.dT kvs) from Zn2 ok e);refine⟨z,y,xs,r,o,es,ep,h1,h2,h3,h4,fun x hx=> ?_,h5⟩
 have all:∀{l:List (List Key×V)} {m:List (List Key×Addr×Value)},KT H l m→∀x∈m,(tupleKind (Zbp P w)).is h x.1 x.2.1:=by
  intro l m q
  induction q with
  |nil=>intro x hx;exact nomatch hx
  | @cons p q ps qs hq t ih=>
   intro x hx;rcases QaJ.mp hx with e|hx
   ·subst e;exact Zhv ok (by rw[←hq.1];exact hq.2.1)
   ·exact ih x hx
 exact all r x hx
theorem Zpi {kvs:List (List Key×V)}(ok:HOk P w H h)(e:H a=some (.dT kvs)):kvs.length≤sizeLine∧(a==sysModules)=false∧
  ∃xs,KT H kvs xs∧h.DictOfH (tupleKind (Zbp P w)) a xs:=Zji ok (.inl e)
def ZlT (H:Hp)(a:Addr)(y:V)(r:Option V):Prop:=
 (∃kvs k,Rd H a (.dK kvs)∧y=kV k∧r=Zid kvs k)∨∃kvs k b,Rd H a (.dT kvs)∧y= .ref b∧H b=some (.tup (k.map kV))∧r=Zid kvs k
def Zn3 (H:Hp)(a:Addr)(y v:V)(H':Hp):Prop:=
 (∃kvs k,H a=some (.dK kvs)∧y=kV k∧kvs.length<sizeLine∧H'=upd H a (.dK (Zie kvs k v)))∨
 ∃kvs k b,H a=some (.dT kvs)∧y= .ref b∧H b=some (.tup (k.map kV))∧kvs.length<sizeLine∧H'=upd H a (.dT (Zie kvs k v))
theorem ZlT.t {b:Addr}{kvs:List (List Key×V)}{k:List Key}(e:H a=some (.dT kvs))(eb:H b=some (.tup (k.map kV))):ZlT H a (.ref b) (Zid kvs k):=.inr ⟨kvs,k,b,.inl e,rfl,eb,rfl⟩
theorem Zn3.t {b:Addr}{kvs:List (List Key×V)}{k:List Key}{v:V}(e:H a=some (.dT kvs))(eb:H b=some (.tup (k.map kV)))(hl:kvs.length<sizeLine):
  Zn3 H a (.ref b) v (upd H a (.dT (Zie kvs k v))):=.inr ⟨kvs,k,b,e,rfl,eb,hl,rfl⟩
section
variable {y v:V}{o:Option V}
theorem Inv.big (I:Inv X qc σ H s):sysModules<s.heap.objs.size:=by
 have h:mainGlobals<s.heap.objs.size:=(I.mod.glob.keeps I.bk).lt;exact Nat.lt_trans (by decide) h
theorem Zjj {Q:Value→Shared→Prop}(hu:A.units+1<cLine)(I:Inv X qc σ H s)(g:ZlT H a y (some v))(ry:Zbd y u)(h:∀w' s',Inv X qc σ H s'→Zbd v w'→Q w' s'):
  wpAny (model X.prog X.w) A (getItem (.ref a) u) Q E s:=by
 rcases g with⟨kvs,k,e,ey,l⟩|⟨kvs,k,b,e,ey,eb,l⟩
 ·subst ey;obtain⟨z,hd,vs,rel,dd⟩:=Zjh I.hok e;obtain⟨w',hw,rw'⟩:=Zh1.some_of (v:=v) (o:=valueAt vs k) (by rw[l];exact rel.val k);exact wpAny_getItem_of (ZkW ry) dd.mapOf hw (h w' _ (I.tok _) rw')
 ·subst ey;cases(show u=Value.ref b from ry);obtain⟨z,hd,xs,rel,dd⟩:=Zji I.hok e;obtain⟨w',hw,rw'⟩:=Zh1.some_of (v:=v) (o:=(atKey xs k).map (·.2)) (by rw[l];exact rel.val k);obtain⟨p,hp,hp2⟩:=Option.map_eq_some_iff.mp hw;refine wpAny_getItem_heap (QdD hu) (Zhv I.hok eb) dd hp ?_;rw[hp2];exact h w' _ (I.tok _) rw'
theorem Zjk {ob:HO}(I:Inv X qc σ H s)(mu:Mut (H a))(hs:Heap.SameBut a s.heap h')(he:∃q,h'.get? a=some q)(new:ZbG X.prog X.w (upd H a ob) h' a ob):
  Inv X qc σ (upd H a ob) {s with heap:=h',toks:=t' }:=
 I.write (x:=a) (e:=a) mu (.inl rfl) (fun b q hb z=>(hs.2 b hb).trans z) he new
theorem Zn4 {kvs:List (Key×V)}{vs:List (Key×Value)}(z:kvs.length≤sizeLine)(hd:(a==sysModules)=false)(rel:KV kvs vs)(dd:h'.DictOf (Zbp P w) a vs):
  ZbG P w H' h' a (.dK kvs):=⟨z,hd,vs,rel,dd⟩
theorem Zjl {Q:Unit→Shared→Prop}(hu:A.units+1<cLine)(I:Inv X qc σ H s)(g:Zn3 H a y v H')(ry:Zbd y u)(rv:Zbd v r)(h:∀s',Inv X qc σ H' s'→Q () s'):
  wpAny (model X.prog X.w) A (setItem (.ref a) u r) Q E s:=by
 rcases g with⟨kvs,k,e,ey,l,eH⟩|⟨kvs,k,b,e,ey,eb,l,eH⟩
 ·subst ey eH;obtain⟨z,hd,vs,rel,dd⟩:=Zph I.hok e;have hz:vs.length≤sizeLine:=by rw[←rel.length];exact z
  have hl:(Zie kvs k v).length≤sizeLine:=by have:=ZdK kvs k v;omega
  refine wpAny_setItem_pairs (hsz:=hz) (ZkW ry) dd fun h' dd' hs=>h _ ?_;have he:∃q,h'.get? a=some q:=let⟨q,_,_,hq,_⟩:=dd';⟨q,hq⟩;exact Zjk I (by rw[e];exact QcM) hs he (Zn4 hl hd (rel.put k rv) dd')
 ·subst ey eH;cases(show u=Value.ref b from ry);obtain⟨z,hd,xs,rel,dd⟩:=Zpi I.hok e;have hz:xs.length≤sizeLine:=by rw[←QeD rel];exact z
  have hl:(Zie kvs k v).length≤sizeLine:=by have:=ZdK kvs k v;omega
  refine wpAny_setItem_heap (hsz:=hz) (QdD hu) (Zhv I.hok eb) dd fun h' dd' hs=>h _ ?_;obtain⟨q,es,ep,hq,h2,h3,h4,_,h5⟩:=dd';refine Zjk I (by rw[e];exact QcM) hs ⟨q,hq⟩ ⟨hl,hd,_,(rel.put k eb rv).keeps fun c ys ec=> ?_,q,es,ep,hq,h2,h3,h4,h5⟩;rw[Zan (Zo5 ec e (fun z=>nomatch z))];exact ec
end
def ZpD (i:Expr):Prop:=∀ov iv,subscripted i false ov iv=operate [ov,iv] (getItem ov iv)
theorem ZmI {qV:Expr}{id:String}{Q:Value→Shared→Prop}
  (hl:typeLookup (.type T) "__getitem__" =pure (some (.builtin id))) (hs:ZpD qV)
  (h:wpAny (model prog w) A (eval value env) (fun o s₁=>wpAny (model prog w) A (eval qV env) (fun i s₂=>s₂.TypeIs o T∧wpAny (model prog w) A (getItem o i) Q E s₂) E s₁) E s):
  wpAny (model prog w) A (eval (.Subscript value qV pos) env) Q E s:=by
 refine QeJ (QbK h (fun o s₁ h₁=>QbK h₁ (fun i s₂ h₂=> ?_) fun _ _ x=>x) fun _ _ x=>x);obtain⟨hT,h₂⟩:=h₂;unfold subscriptTail;refine Qad ?_;rw[getitemInPython_of_ne hT.not_modules];refine Qad (wpAny_specialOf hT hl ?_)
 have fin:wpAny (model prog w) A (subscripted qV false o i) (fun r s₃=>wpAny (model prog w) A (letTemporaryGo value o r>>=fun _=>pure r) Q E s₃) E s₂:=by
  rw[hs o i];exact wpAny_operating (QbK h₂ (fun r s₃ h₃=>Qad (wpAny_letTemporaryGo (Qao h₃))) fun _ _ x=>x)
 first
  |exact Qao (Qad fin)
  |exact Qad (Qao (Qad fin))
  |exact Qad fin
theorem ZgD {y:V}{o:Option V}(I:Inv X qc σ H s)(g:ZlT H a y o):s.TypeIs (.ref a) "dict" :=by
 rcases g with⟨kvs,k,e,_,_⟩|⟨kvs,k,b,e,_,_,_⟩
 ·obtain⟨_,_,vs,_,dd⟩:=Zjh I.hok e;exact dd.typeIs
 ·obtain⟨_,_,xs,_,dd⟩:=Zji I.hok e;exact dd.typeIs
def Zn5 (td ty:TE):TE:=fun σ H Q=>td σ H fun x H1=>ty σ H1 fun y H2=>∃a v,x= .ref a∧ZlT H2 a y (some v)∧Q v H2
def Zn6 (td ty tv:TE):TS:=fun D σ H=>tv σ H fun v H1=>td σ H1 fun x H2=>ty σ H2 fun y H3=>∃a H4,x= .ref a∧Zn3 H3 a y v H4∧D.nx σ H4
section
variable {i:Expr}{pos':PySem.Pos}{ty tv:TE}
theorem ZmJ (hu:X.A.units+1<cLine)(ho:PE X o td)(hi:PE X i ty)(hs:ZpD i):PE X (.Subscript o i pos) (Zn5 td ty):=by
 intro qc s σ H Q I h;refine ZmI PySem.F.slot_dict_getitem.lookup hs (thn (ho qc s σ H _ I h) fun u s1 ⟨x,H1,I1,rx,q1⟩=>thn (hi qc s1 σ H1 _ I1 q1) fun iv s2 ⟨y,H2,I2,ry,a,v,ex,g,q2⟩=> ?_);subst ex;obtain rfl:u=Value.ref a:=rx;exact⟨ZgD I2 g,Zjj hu I2 g ry fun w' s3 I3 rw'=>⟨v,H2,I3,rw',q2⟩⟩
theorem ZmK (hu:X.A.units+1<cLine)(ho:PE X o td)(hi:PE X i ty)(hv:PE X value tv)(hs:swapsWith value (some (.Subscript o i pos')) pos.line X.env=pure false):
  PS X (.Assign [.Subscript o i pos'] value pos) (Zn6 td ty tv):=by
 intro qc s σ H D I h;refine wpAny_Assign_Subscript (thn (hv qc s σ H _ I h) fun r s1 ⟨v,H1,I1,rv,q1⟩=>thn (ho qc s1 σ H1 _ I1 q1) fun u s2 ⟨x,H2,I2,rx,q2⟩=>thn (hi qc s2 σ H2 _ I2 q2) fun iv s3 ⟨y,H3,I3,ry,a,H4,ex,g,q3⟩=> ?_) hs;subst ex;obtain rfl:u=Value.ref a:=rx;exact Zjl hu I3 g ry rv fun s4 I4=>⟨σ,H4,I4,q3⟩
end
theorem ZkX (h:Heap)(hb:sysModules<h.objs.size):ZbG P w H (h.push {cls:=.type "dict",data:=.dict #[] }) h.objs.size (.dT []):=
 ⟨QaW _,beq_eq_false_iff_ne.mpr (Ne.symm (QaX hb)),[],.nil,_,#[],0,QaQ _ rfl,⟨rfl,rfl,rfl⟩,rfl,rfl,List.nodup_nil⟩
def ZlU:TE:=fun _ H Q=>∀p,H p=none→Q (.ref p) (upd H p (.dT []))
theorem ZkY:PE X (.Dict [] [] pos) ZlU:=fun qc s σ H Q I h=>
 wpAny_Dict_empty ⟨.ref s.heap.objs.size,_,I.laid (a:=s.heap.objs.size) (o:=.dT []) (t':=s.toks) (fun _ _ q=>Qak _ q) (Qaf _) (ZkX s.heap I.big),rfl,h _ (I.hok.fresh (Qaf _))⟩
structure M2 (X:Cx)(o:Expr)(m:Str)(qY:PySem.Pos)(e f:Expr)(qA:PySem.Pos):Prop where
 base:attributeBase o m X.env (eval o X.env)=eval o X.env
 few:((backTo qA (starEach [e,f] X.env)).all (fun x=> !x.1) && (backToKw qA (keywordEach [] X.env)).all (fun x=>x.1.isSome)
  && decide (([e,f]:List Expr).length+([]:List Keyword).length+(if([]:List Keyword).isEmpty then 0 else 1)<30))=true
 line:(qY.endLine==qA.line)=true
 trees:backTo qA (starEach [e,f] X.env)=[(false,eval e X.env),(false,eval f X.env)]
def IsD (H:Hp)(a:Addr):Prop:=(∃kvs,Rd H a (.dK kvs))∨∃kvs,Rd H a (.dT kvs)
theorem Zn7 (I:Inv X qc σ H s)(d:IsD H a):
  s.TypeIs (.ref a) "dict" ∧(∀b,Value.ref a= .ref b→∃ob,s.heap.get? b=some ob∧ob.dict=none)∧(a==sysModules)=false:=by
 rcases d with⟨kvs,e⟩|⟨kvs,e⟩
 ·obtain⟨_,hd,vs,_,dd⟩:=Zjh I.hok e;refine⟨dd.typeIs,fun b q=> ?_,hd⟩;cases q;obtain⟨ob,_,_,h1,h2,_⟩:=dd;exact⟨ob,h1,h2.2.1⟩
 ·obtain⟨_,hd,xs,_,dd⟩:=Zji I.hok e;refine⟨dd.typeIs,fun b q=> ?_,hd⟩;cases q;obtain⟨ob,_,_,h1,h2,_⟩:=dd;exact⟨ob,h1,h2.2.1⟩
section
variable {y d:V}{o:Option V}
theorem Zn8 {Q:Value→Shared→Prop}(hu:A.units+1<cLine)(I:Inv X qc σ H s)(g:ZlT H a y o)(ry:Zbd y u)(rd:Zbd d r)(h:∀w' s',Inv X qc σ H s'→Zbd (o.getD d) w'→Q w' s'):
  wpAny (model X.prog X.w) A (call (.builtin "dict.get") [.ref a,u,r]) Q E s:=by
 rcases g with⟨kvs,k,e,ey,l⟩|⟨kvs,k,b,e,ey,eb,l⟩
 ·subst ey;obtain⟨z,hd,vs,rel,dd⟩:=Zjh I.hok e;refine call_meetsIn Qda dd.typeIs Qef (QdY _ _ _) (meets_dict_get_default (Zbp X.prog X.w) a (ZkW ry) hd r) ⟨_,dd.mapOf,h _ _ (I.tok _) ?_⟩;rw[l];exact(rel.val k).getD rd
 ·subst ey;cases(show u=Value.ref b from ry);obtain⟨z,hd,xs,rel,dd⟩:=Zji I.hok e;refine call_meetsIn Qda dd.typeIs Qef (QdY _ _ _) (meetsH_dict_get_default (tupleKind (Zbp X.prog X.w)) a b hd r) ⟨QdD hu,k,xs,Zhv I.hok eb,dd,h _ _ (I.tok _) ?_⟩;rw[l];exact(rel.val k).getD rd
end
def ZlV (td ty tx:TE):TE:=fun σ H Q=>td σ H fun x H1=>∃a,x= .ref a∧IsD H1 a∧ty σ H1 fun y H2=>tx σ H2 fun z H3=>∃o,ZlT H3 a y o∧Q (o.getD z) H3
section
variable {f:Expr}{qY qA:PySem.Pos}{ty tx:TE}
theorem ZkZ (hu:X.A.units+1<cLine)(ho:PE X o td)(he:PE X e ty)(hf:PE X f tx)(m:M2 X o "get" qY e f qA):PE X (.Call (.Attribute o "get" qY) [e,f] [] qA) (ZlV td ty tx):=by
 intro qc s σ H Q I h;refine wpAny_Call_method m.base m.few m.line PySem.F.plainAttrs_dict Qda PySem.F.type_dict_get (thn (ho qc s σ H _ I h) fun u s1 ⟨x,H1,I1,rx,a,ex,d,q1⟩=> ?_);subst ex;obtain rfl:u=Value.ref a:=rx;obtain⟨t1,t2,_⟩:=Zn7 I1 d;refine⟨t1,t2,?_⟩;rw[m.trees]
 refine Qee rfl (Calls.evalArgs_plain (Qdz (thn (he qc s1 σ H1 _ I1 q1) fun iv s2 ⟨y,H2,I2,ry,q2⟩=>
  Qdz (thn (hf qc s2 σ H2 _ I2 q2) fun fv s3 ⟨z,H3,I3,rz,ov,g,q3⟩=>Calls.spliced_nil ?_))))
 exact Zn8 hu I3 g ry rz fun w' s4 I4 rw'=>⟨_,H3,I4,rw',q3⟩
end
def Ite (K:PySem.W.Frag)(a:Addr):It:=
 ⟨fun i H=>∃xs x,SqL K H a xs∧xs[i]?=some x,
  fun i H v H'=>∃p x,v= .ref p∧H p=none∧H'=upd H p (.tup [.int (i:Int),x])∧∀xs,SqL K H a xs→xs[i]?=some x,
  fun i H=>∃xs,SqL K H a xs∧xs[i]?=none⟩
def Zn9 (e it a:Addr)(i:Nat)(h:Heap):Prop:=(∃old,IsEnum h e it (i:Int) old)∧h.IsListIter it a i
theorem Zjm {K:PySem.W.Frag}(a e it:Addr)(hei:e≠it)(hle:a≠e)(hli:a≠it):Zmw P w K (.Tuple es k pos) (Ite K a) [e,it] e (Zn9 e it a) where
 mem:=by simp
 obj:=fun i h st c hc=>by
  obtain⟨⟨old,he⟩,⟨o1,e1,c1,d1⟩⟩:=st;simp only[QaJ,Qbe,Qco] at hc;rcases hc with rfl|rfl
  ·exact⟨_,he,fun v q=>by cases q⟩
  ·exact⟨o1,e1,fun v q=>by rw[d1] at q;cases q⟩
 keep:=fun i h h' st q=>by
  obtain⟨⟨old,he⟩,l1⟩:=st;exact⟨⟨old,q _ (by simp) _ he⟩,l1.at fun o x=>q _ (by simp) o x⟩
 item:=by
  intro X hP hw hK hc i qc s σ H E I hf st hg;subst hP hw hK;obtain⟨xs,x,hq1,hx⟩:=hg;obtain⟨⟨old,he⟩,l1⟩:=st;obtain⟨its1,rv1,p1,_⟩:=I.list hq1;obtain⟨ux,hux,rux⟩:=rv1.get hx;refine wpAny_pyNext_enum_item he l1 p1.isList (x:=ux) (by simpa using hux) hei fun h' z1 j1 T1 sz kp=> ?_;refine⟨_,rfl,wpAny_letOwnedTupleGo_enum z1 fun h2 z2 sb=> ?_⟩;have helt:e<s.heap.objs.size:=Qau he;have hpe:s.heap.objs.size≠e:=QeK helt;have T2:=sb.extBut _ _ hpe T1
  have kp2:∀c o,c∉ [e,it]→s.heap.get? c=some o→h2.get? c=some o:=fun c o hc x=>by
   simp only[QaJ,Qbe,Qco,not_or] at hc;exact sb.extBut _ _ hc.1 (kp c o hc.1 hc.2 x)
  have I2:Inv X qc σ (upd H s.heap.objs.size (.tup [.int (i:Int),x])) {s with heap:=h2,toks:=s.toks+1 }:=I.turnedNew kp2 hf (Qaf _) ⟨by show 2≤sizeLine;decide,[.int (i:Int) s.toks,ux],.cons ⟨_,rfl⟩ (.cons rux .nil),⟨_,T2,rfl,_,rfl⟩⟩;refine⟨.ref s.heap.objs.size,_,I2,rfl,⟨_,x,rfl,I.hok.fresh (Qaf _),rfl,fun xs' h=> ?_⟩,⟨⟨ux,by simpa using z2⟩,?_⟩,fun c hc=> ?_⟩
  ·rw[I.list_inj h hq1];exact hx
  ·exact j1.at fun o x=>sb.extBut _ _ (Ne.symm hei) x
  ·have hlt:c<s.heap.objs.size:=by
    simp only[QaJ,Qbe,Qco] at hc;rcases hc with rfl|rfl
    ·exact helt
    ·obtain⟨_,x,_⟩:=l1;exact Qau x
   rw[Zan (QaX hlt)];exact(hf c hc).1
 done:=by
  intro X hP hw hK hc i qc s σ H E I hf st hg;subst hP hw hK;obtain⟨xs,hq1,hend⟩:=hg;obtain⟨⟨old,he⟩,l1⟩:=st;obtain⟨its1,rv1,p1,_⟩:=I.list hq1;have e1:=rv1.length;rw[QaY] at hend;refine wpAny_pyNext_enum_end (I.ok.hd hc) he l1 p1.isList (by simp;omega) fun h' kp=>⟨rfl,I.turnedL (t':=s.toks) (ch:=[e,it]) (fun c o hc x=> ?_) hf⟩;simp only[QaJ,Qbe,Qco,not_or] at hc;exact kp c o hc.2 x
 self:=fun _ _ _ _ _ st h=>by
  obtain⟨⟨old,he⟩,_⟩:=st;exact wpAny_pyIter_enum he h
theorem Zeb:bootBuiltins "enumerate" =some (.type "enumerate"):=by decide +kernel
def ZmL (K:PySem.W.Frag)(ta:TA):TI:=fun σ H R=>ta σ H fun vs H1=>∃a,vs=[.ref a]∧(∃xs,SqL K H1 a xs)∧R (Ite K a) H1
theorem Zjn {a:Expr}(hg:Gl X "enumerate")(hm:X.mg "enumerate" =none)(ha:PA X [a] ta)
  (hs:starEach [a] X.env=[(false,eval a X.env)]:=by rfl):PI X (.Tuple tes tk tpos) (.Call (.Name "enumerate" p) [a] [] pos) (ZmL X.K ta):=by
 intro qc s σ H R I h;refine Qcm (Zdz I hg hm Zeb ?_);refine QbH (rest:=[]) (thn (ha pos qc s σ H _ I h) fun us s1 ⟨vs,H1,I1,r1,l1,e,⟨xs,hx⟩,q⟩=> ?_) hs rfl;subst e;obtain⟨u1,rfl,rfl⟩:=Zcf r1;obtain⟨its1,rv1,p1,_⟩:=I1.list hx;have a1:l1<s1.heap.objs.size:=by obtain⟨_,e,_⟩:=p1.isList;exact Qau e
 refine call_enumerate_list p1.isList fun h' he hit sz kp=> ?_;refine wpAny_pyIter_enum he ?_;refine⟨_,[_,_],_,_,H1,rfl,I1.kept (t':=s1.toks) kp,Zjm l1 _ _ (Nat.succ_ne_self _) (QaX (Qct a1)) (QaX a1),⟨⟨_,he⟩,hit⟩,fun c hc=> ?_,q⟩
 have hge:s1.heap.objs.size≤c:=by
  simp only[QaJ,Qbe,Qco] at hc;rcases hc with rfl|rfl
  ·exact Qcf _
  ·exact Qaf _
 exact I1.fpOk hge (I1.hok.fresh hge)
theorem Zk0 {K:PySem.W.Frag}{xs:List V}{tb:TS}{D:ZiG}(Pv:Nat→St→Hp→Prop)(h0:Pv 0 σ H)(hl:∀i σ H,i≤xs.length→Pv i σ H→SqL K H a xs)
  (hs:∀i x σ H (p:Addr),xs[i]?=some x→Pv i σ H→H p=none→g (.ref p) σ (upd H p (.tup [.int (i:Int),x])) fun σ2 H2=>tb {D with nx:=Pv (i+1),ct:=Pv (i+1),bk:=D.nx } σ2 H2) (hd:∀σ H,Pv xs.length σ H→D.nx σ H):
  ∃W:Nat→Nat→St→Hp→Prop,(∃m,W 0 m σ H)∧∀i m σ H,W i m σ H→
   ((Ite K a).stop i H∧D.nx σ H)∨((Ite K a).go i H∧∃N:St→Hp→Prop,(∀σ' H',N σ' H'→∃m',m'<m∧W (i+1) m' σ' H')∧∀x H',(Ite K a).yld i H x H'→g x σ H' fun σ2 H2=>tb {D with nx:=N,ct:=N,bk:=D.nx } σ2 H2):=by
 refine⟨fun i m σ H=>m=xs.length-i∧i≤xs.length∧Pv i σ H,⟨xs.length,by simp,QaW _,h0⟩,?_⟩;rintro i m σ H ⟨rfl,hi,p⟩;have q1:=hl i σ H hi p;by_cases hlt:i<xs.length
 ·refine .inr ⟨⟨xs,xs[i],q1,by simp[hlt]⟩,Pv (i+1),fun σ' H' p'=>⟨xs.length-(i+1),by omega,rfl,hlt,p'⟩,fun x H' y=> ?_⟩;obtain⟨q,x1,rfl,hq,rfl,e1⟩:=y;exact hs i x1 σ _ q (e1 xs q1) p hq
 ·have e:i=xs.length:=by omega
  subst e;exact .inl ⟨⟨xs,q1,Qbm (Qaf _)⟩,hd σ H p⟩
def RK (rk:Value→Int)(xs:Array Keyed)(i:Nat):Int:=match xs[i]? with
 |some p=>rk p.1
 |none=>0
theorem Zjo {ys:Array Keyed}(h:xs[i]?=ys[j]?):RK rk xs i=RK rk ys j:=by unfold RK;rw[h]
theorem RK_bub {a d:Nat}(ha:a<xs.size)(hd:d≤a)(k:Nat):RK rk (bubble xs a d) k=if k=a-d then RK rk xs a else if a-d<k∧k≤a then RK rk xs (k-1) else RK rk xs k:=by
 have z:=getElem?_bubble ha d hd k;split
 ·rename_i h;rw[if_pos h] at z;exact Zjo z
 ·rename_i h;rw[if_neg h] at z;split
  ·rename_i g;rw[if_pos g] at z;exact Zjo z
  ·rename_i g;rw[if_neg g] at z;exact Zjo z
theorem RK_mir {a b:Nat}(hb:b≤xs.size)(k:Nat):RK rk (mirror xs a b ((b-a)/2)) k=if a≤k∧k<b then RK rk xs (a+b-1-k) else RK rk xs k:=by
 have z:=getElem?_mirror_all (i:=a) hb k;split
 ·rename_i h;rw[if_pos h] at z;exact Zjo z
 ·rename_i h;rw[if_neg h] at z;exact Zjo z
structure SB (k0:SortKind)(a0:Array Keyed)(st:SortSt):Prop where
 pm:(arrOf st).Perm a0
 kd:kindOf st=k0
 fl:failedOf st=none
 pn:pendingOf st= #[]
theorem SB.sz {k0:SortKind}{st:SortSt}(b:SB k0 a0 st):(arrOf st).size=a0.size:=b.pm.size_eq
theorem SB.put {k0:SortKind}{st:SortSt}(b:SB k0 a0 st)(p:xs.Perm (arrOf st)):SB k0 a0 (setArr st xs):=⟨p.trans b.pm,b.kd,b.fl,b.pn⟩
def Zjp (prog:Program)(w:World)(A:Around)(s:Shared)(k0:SortKind)(a0:Array Keyed)(rk:Value→Int):Prop:=
 ∀(E:Value→Shared→Prop) (x y:Keyed) (Q:Bool→Shared→Prop),x∈a0.toList→y∈a0.toList→Q (decide (rk x.1<rk y.1)) s→wpAny (model prog w) A (keyLt' k0 x.1 y.1) Q E s
section
variable {k0:SortKind}
theorem SB.got {st:SortSt}(b:SB k0 a0 st)(hi:i<a0.size):∃x,(arrOf st)[i]?=some x∧x∈a0.toList∧RK rk (arrOf st) i=rk x.1:=by
 have hi':i<(arrOf st).size:=by rw[b.sz];exact hi
 have z:=QaP hi';refine⟨_,z,(Qa2.mp b.pm).subset (QbQ hi'),?_⟩;unfold RK;rw[z]
theorem Zjq (hL:Zjp prog w A s k0 a0 rk){st:SortSt}(b:SB k0 a0 st)(hi:i<a0.size)(hj:j<a0.size){Q:Option Bool→SortSt→Prop}
  (h:Q (some (decide (RK rk (arrOf st) i<RK rk (arrOf st) j))) st):wpS (model prog w) A E s (ltAt' i j) Q st:=by
 obtain⟨x,ex,mx,rx⟩:=b.got (rk:=rk) hi;obtain⟨y,ey,my,ry⟩:=b.got (rk:=rk) hj;rw[rx,ry] at h;rw[ltAt'_eq];refine Qap (QcI ?_);dsimp only;rw[QeP,QeP,ex,ey];refine Qap (Qav (Qap (Qav ?_)));rw[lt'_eq];refine Qap (QcI (Qap (Qdl (QdZ ?_))));rw[b.kd];exact hL _ x y _ mx my ⟨rfl,Qav h⟩
theorem ZlW (hL:Zjp prog w A s k0 a0 rk){st:SortSt}(b:SB k0 a0 st){f:Nat}(hm:m≤a0.size)(f1:1≤f)(fm:f≤m){Q:AscSt→SortSt→Prop}(up:∀i j,i≤j→j<f→RK rk (arrOf st) i≤RK rk (arrOf st) j)
  (h:∀n,f≤n→n≤m→(∀i j,i≤j→j<n→RK rk (arrOf st) i≤RK rk (arrOf st) j)→(n=m∨RK rk (arrOf st) n<RK rk (arrOf st) (n-1))→Q (none,n) st):wpS (model prog w) A E s (ascLoop f m) Q st:=by
 unfold ascLoop;refine Qbc (fun n c t=>t=st∧c=(none,n)∧∀i j,i≤j→j<n→RK rk (arrOf st) i≤RK rk (arrOf st) j) ?_ ?_ ⟨rfl,rfl,up⟩
 ·rintro n c t fn nm ⟨rfl,rfl,u⟩;refine Qap (Zjq hL b (by omega) (by omega) ?_);dsimp only;by_cases z:RK rk (arrOf t) n<RK rk (arrOf t) (n-1)
  ·rw[Qan z,if_pos rfl];exact Qav (h n fn (by omega) u (.inr z))
  ·rw[Qal z,if_neg (by simp)];refine Qav ⟨rfl,rfl,fun i j ij jn=> ?_⟩;rcases QbI (Qc2 jn) with q|rfl
   ·exact u i j ij q
   ·rcases QbI ij with q|rfl
    ·have:=u i (j-1) (by omega) (by omega);omega
    ·exact Qba _
 ·rintro c t ⟨rfl,rfl,u⟩;rw[Nat.max_eq_right fm] at u⊢;exact h m fm (Qaf _) u (.inl rfl)
theorem Zjr (hL:Zjp prog w A s k0 a0 rk){st:SortSt}(b:SB k0 a0 st)(hm:m≤a0.size)(n1:1≤n)(nm:n≤m){Q:Option Nat→SortSt→Prop}(dn:∀i j,i≤j→j<n→RK rk (arrOf st) j≤RK rk (arrOf st) i)
  (h:∀r t,SB k0 a0 t→1≤r→r≤m→(∀i j,i≤j→j<r→RK rk (arrOf t) i≤RK rk (arrOf t) j)→Q (some r) t):wpS (model prog w) A E s (tail3 n m) Q st:=by
 unfold tail3;refine Qap (QeA ?_);have b2:=b.put (Qd0 (arrOf st) 0 n ((n-0)/2));have hn:n≤(arrOf st).size:=by rw[b.sz];omega
 refine Qap (ZlW hL b2 hm n1 nm (fun i j ij jn=> ?_) fun r nr rm u _=>Qav (h r _ b2 (by omega) rm u));have z1:=RK_mir (rk:=rk) (xs:=arrOf st) (a:=0) hn i;have z2:=RK_mir (rk:=rk) (xs:=arrOf st) (a:=0) hn j;rw[if_pos ⟨QaW _,by omega⟩] at z1;rw[if_pos ⟨QaW _,jn⟩] at z2;have z3:=dn (0+n-1-j) (0+n-1-i) (by omega) (by omega);rw[←z1,←z2] at z3;exact z3
theorem mir_same {a b:Nat}(hb:b≤xs.size)(e:∀i,a≤i→i<b→RK rk xs i=RK rk xs (b-1))(k:Nat):RK rk (mirror xs a b ((b-a)/2)) k=RK rk xs k:=by
 rw[RK_mir hb];split
 ·rename_i h;rw[e k h.1 h.2];exact e _ (by omega) (by omega)
 ·rfl
theorem ZmM (hL:Zjp prog w A s k0 a0 rk){st:SortSt}(b:SB k0 a0 st){f:Nat}(hm:m≤a0.size)(f1:1≤f)(fm:f≤m){Q:DescSt→SortSt→Prop}(dn:∀i j,i≤j→j<f→RK rk (arrOf st) j≤RK rk (arrOf st) i)
  (h:∀n q t,SB k0 a0 t→f≤n→n≤m→(∀i j,i≤j→j<n→RK rk (arrOf t) j≤RK rk (arrOf t) i)→q+1≤n→(∀i,n-(q+1)≤i→i<n→RK rk (arrOf t) i=RK rk (arrOf t) (n-1))→Q (none,n,q) t):wpS (model prog w) A E s (descLoop f m) Q st:=by
 unfold descLoop;refine Qbc (fun n c t=>∃q,c=(none,n,q)∧SB k0 a0 t∧(∀i j,i≤j→j<n→RK rk (arrOf t) j≤RK rk (arrOf t) i)∧q+1≤n∧∀i,n-(q+1)≤i→i<n→RK rk (arrOf t) i=RK rk (arrOf t) (n-1)) ?_ ?_ ⟨0,rfl,b,dn,f1,fun i h1 h2=>by rw[show i=f-1 by omega]⟩
 ·rintro n c t fn nm ⟨q,rfl,bt,d,qn,e⟩;dsimp only;refine Qap (Zjq hL bt (by omega) (by omega) ?_);dsimp only
  have ext:∀xs:Array Keyed,(∀k,RK rk xs k=RK rk (arrOf t) k)→RK rk (arrOf t) n≤RK rk (arrOf t) (n-1)→∀i j,i≤j→j<n+1→RK rk xs j≤RK rk xs i:=fun xs hx le i j ij jn=>by
   rw[hx,hx];rcases QbI (Qc2 jn) with z|rfl
   ·exact d i j ij z
   ·rcases QbI ij with z|rfl
    ·have:=d i (j-1) (by omega) (by omega);omega
    ·exact Qba _
  by_cases z:RK rk (arrOf t) n<RK rk (arrOf t) (n-1)
  ·rw[Qan z,if_pos rfl];by_cases q0:q>0
   ·rw[if_pos q0];have hn:n≤(arrOf t).size:=by rw[bt.sz];omega
    exact Qap (QeA (Qav ⟨0,rfl,bt.put (Qd0 _ _ _ _),ext _ (mir_same hn e) (QbP z),by omega,fun i h1 h2=>by rw[show i=n+1-1 by omega]⟩))
   ·rw[if_neg q0];exact Qav ⟨0,rfl,bt,ext _ (fun _=>rfl) (QbP z),by omega,fun i h1 h2=>by rw[show i=n+1-1 by omega]⟩
  ·rw[Qal z,if_neg (by simp)];refine Qap (Zjq hL bt (by omega) (by omega) ?_);dsimp only;by_cases y:RK rk (arrOf t) (n-1)<RK rk (arrOf t) n
   ·rw[Qan y,if_pos rfl];exact Qav (h n q t bt fn (by omega) d qn e)
   ·rw[Qal y,if_neg (by simp)];have same:RK rk (arrOf t) n=RK rk (arrOf t) (n-1):=by omega
    refine Qav ⟨q+1,rfl,bt,ext _ (fun _=>rfl) (by omega),by omega,fun i h1 h2=> ?_⟩;rw[Nat.add_sub_cancel];rcases QbI (Qc2 h2) with x|rfl
    ·rw[same];exact e i (by omega) x
    ·rfl
 ·rintro c t ⟨q,rfl,bt,d,qn,e⟩;rw[Nat.max_eq_right fm] at d qn e⊢;exact h m q t bt fm (Qaf _) d qn e
theorem Zjs (hL:Zjp prog w A s k0 a0 rk){st:SortSt}(b:SB k0 a0 st)(hm:m≤a0.size)(nm:n+1≤m){Q:Option Nat→SortSt→Prop}(dn:∀i j,i≤j→j<n+1→RK rk (arrOf st) j≤RK rk (arrOf st) i)
  (h:∀r t,SB k0 a0 t→1≤r→r≤m→(∀i j,i≤j→j<r→RK rk (arrOf t) i≤RK rk (arrOf t) j)→Q (some r) t):wpS (model prog w) A E s (descPart n m) Q st:=by
 unfold descPart;refine Qap (Qdl (Qcj ⟨rfl,Qap (ZmM hL b hm (by omega) nm dn fun r q t bt nr rm d qr e=> ?_)⟩));dsimp only;by_cases q0:q>0
 ·rw[if_pos q0];have hr:r≤(arrOf t).size:=by rw[bt.sz];omega
  refine Qap (QeA (Zjr hL (bt.put (Qd0 _ _ _ _)) hm (by omega) rm (fun i j ij jr=> ?_) h));have z1:=mir_same hr e i;have z2:=mir_same hr e j;have z3:=d i j ij jr;rw[←z1,←z2] at z3;exact z3
 ·rw[if_neg q0];exact Zjr hL bt hm (by omega) rm d h
theorem Zoa (hL:Zjp prog w A s k0 a0 rk){st:SortSt}(b:SB k0 a0 st)(hm:m≤a0.size)(m1:1≤m){Q:Option Nat→SortSt→Prop}
  (h:∀r t,SB k0 a0 t→1≤r→r≤m→(∀i j,i≤j→j<r→RK rk (arrOf t) i≤RK rk (arrOf t) j)→Q (some r) t):wpS (model prog w) A E s (countRun' 0 m) Q st:=by
 rw[countRun0_eq];refine Qap (ZlW hL b hm (Qaf _) m1 (fun i j ij j1=>by rw[show i=j by omega];exact Qba _) fun n n1 nm u z=> ?_);dsimp only;by_cases e:n=m
 ·rw[if_pos (by simpa using e)];exact Qav (h n st b n1 nm u)
 ·rw[if_neg (by simpa using e)];have lt:=z.resolve_left e;by_cases n2:n>1
  ·rw[if_pos n2];refine Qap (Zjq hL b (by omega) (by omega) ?_);dsimp only;by_cases y:RK rk (arrOf st) 0<RK rk (arrOf st) (n-1)
   ·rw[Qan y,if_pos rfl];exact Qav (h n st b n1 nm u)
   ·rw[Qal y,if_neg (by simp)];have hn:n≤(arrOf st).size:=by rw[b.sz];omega
    have al:∀i,0≤i→i<n→RK rk (arrOf st) i=RK rk (arrOf st) (n-1):=fun i _ hi=>by
     have q1:=u 0 i (QaW _) hi;have q2:=u i (n-1) (by omega) (by omega);omega
    refine Qap (QeA (Zjs hL (b.put (Qd0 _ _ _ _)) hm (by omega) (fun i j ij jn=> ?_) h));have z1:=mir_same hn al i;have z2:=mir_same hn al j
    have z3:RK rk (arrOf st) j≤RK rk (arrOf st) i:=by
     rcases QbI (Qc2 jn) with q|rfl
     ·rw[al i (QaW _) (by omega),al j (QaW _) q];exact Qba _
     ·rcases QbI ij with q|rfl
      ·rw[al i (QaW _) q];omega
      ·exact Qba _
    rw[←z1,←z2] at z3;exact z3
  ·rw[if_neg n2];have e1:n=1:=by omega
   subst e1;refine Zjs hL b hm (by omega) (fun i j ij j2=> ?_) h;rcases QbI ij with q|rfl
   ·rw[show i=0 by omega,show j=1 by omega];exact QbP lt
   ·exact Qba _
theorem Zob (hL:Zjp prog w A s k0 a0 rk){st:SortSt}(b:SB k0 a0 st){r:Nat}(hm:m≤a0.size)(rm:r≤m){Q:Bool→SortSt→Prop}(up:∀i j,i≤j→j<r→RK rk (arrOf st) i≤RK rk (arrOf st) j)
  (h:∀t,SB k0 a0 t→(∀i j,i≤j→j<m→RK rk (arrOf t) i≤RK rk (arrOf t) j)→Q true t):wpS (model prog w) A E s (binarySort' 0 m r) Q st:=by
 rw[binarySort'_eq];simp only[Qca];refine Qap (Qbz (Qbc (fun n c t=>c=(none,())∧SB k0 a0 t∧∀i j,i≤j→j<min n m→RK rk (arrOf t) i≤RK rk (arrOf t) j) (Q:=fun c t=>c=(none,())∧SB k0 a0 t∧∀i j,i≤j→j<m→RK rk (arrOf t) i≤RK rk (arrOf t) j) ?_ ?_ ⟨rfl,b,fun i j ij jl=> ?_⟩) ?_)
 ·rintro n c t n1 nm ⟨rfl,bt,u⟩;rw[Qcq (Qb0 nm)] at u
  refine Qap (Qbz (Qbc (fun x c t2=>t2=t∧∃l g,c=(none,l,g)∧l≤g∧g≤n∧g-l≤n-x∧(∀i,i<l→RK rk (arrOf t) i≤RK rk (arrOf t) n)∧∀i,g≤i→i<n→RK rk (arrOf t) n<RK rk (arrOf t) i)
   (Q:=fun c t2=>t2=t∧∃l g,c=(none,l,g)∧l≤n∧(∀i,i<l→RK rk (arrOf t) i≤RK rk (arrOf t) n)∧∀i,l≤i→i<n→RK rk (arrOf t) n<RK rk (arrOf t) i) ?_ ?_ ⟨rfl,0,n,rfl,QaW _,Qaf _,Qaf _,fun i hi=>absurd hi (Qdr _),fun i h1 h2=>by omega⟩) ?_)
  ·rintro x c t2 _ xn ⟨rfl,l,g,rfl,lg,gn,gl,lo,hi⟩;dsimp only;by_cases z:l≥g
   ·rw[if_pos z];have e:l=g:=by omega
    subst e;exact Qav ⟨rfl,l,l,rfl,gn,lo,hi⟩
   ·rw[if_neg z];refine Qap (Zjq hL bt (by omega) (by omega) ?_);dsimp only;by_cases y:RK rk (arrOf t2) n<RK rk (arrOf t2) ((l+g)/2)
    ·rw[Qan y,if_pos rfl];refine Qav ⟨rfl,l,(l+g)/2,rfl,by omega,by omega,by omega,lo,fun i h1 h2=> ?_⟩
     have:=u _ i h1 h2;omega
    ·rw[Qal y,if_neg (by simp)];refine Qav ⟨rfl,(l+g)/2+1,g,rfl,by omega,by omega,by omega,fun i h1=> ?_,hi⟩
     have:=u i ((l+g)/2) (by omega) (by omega);omega
  ·rintro c t2 ⟨rfl,l,g,rfl,lg,gn,gl,lo,hi⟩;have e:l=g:=by omega
   subst e;exact⟨rfl,l,l,rfl,gn,lo,hi⟩
  ·rintro c t2 ⟨rfl,l,g,rfl,ln,lo,hi⟩;show wpS _ _ _ _ (moveDown' n l>>=fun _=>pure _) _ _;rw[moveDown'_eq];refine Qap (QbZ (Qav ⟨rfl,bt.put (bubble_perm _ _ _),fun i j ij jn=> ?_⟩));rw[Qcq (by omega)] at jn;have hn:n<(arrOf t2).size:=by rw[bt.sz];omega
   have z1:=RK_bub (rk:=rk) hn (Nat.sub_le n l) i;have z2:=RK_bub (rk:=rk) hn (Nat.sub_le n l) j;rw[show n-(n-l)=l by omega] at z1 z2;show RK rk (bubble (arrOf t2) n (n-l)) i≤RK rk (bubble (arrOf t2) n (n-l)) j;rw[z1,z2];by_cases c1:i=l
   ·rw[if_pos c1];by_cases c2:j=l
    ·rw[if_pos c2];exact Qba _
    ·rw[if_neg c2,if_pos (by omega)]
     have:=hi (j-1) (by omega) (by omega);omega
   ·rw[if_neg c1];by_cases c3:l<i∧i≤n
    ·rw[if_pos c3,if_neg (by omega),if_pos (by omega)];exact u _ _ (by omega) (by omega)
    ·rw[if_neg c3];by_cases c2:j=l
     ·rw[if_pos c2];exact lo i (by omega)
     ·rw[if_neg c2];by_cases c4:l<j∧j≤n
      ·rw[if_pos c4];exact u _ _ (by omega) (by omega)
      ·rw[if_neg c4];exact u _ _ ij (by omega)
 ·rintro c t ⟨rfl,bt,u⟩;refine⟨rfl,bt,fun i j ij jm=>u i j ij (by omega)⟩
 ·by_cases z:j<r
  ·exact up i j ij z
  ·rw[show i=j by omega];exact Qba _
 ·rintro c t ⟨rfl,bt,u⟩;exact Qav (h t bt u)
theorem ZmN (hL:Zjp prog w A s k0 a0 rk){st:SortSt}(b:SB k0 a0 st)(h2:2≤a0.size)(h64:a0.size<64){Q:Unit→SortSt→Prop}
  (h:∀t,(arrOf t).Perm a0→failedOf t=none→(∀i j,i≤j→j<a0.size→RK rk (arrOf t) i≤RK rk (arrOf t) j)→Q () t):wpS (model prog w) A E s sortRuns' Q st:=by
 rw[sortRuns'_eq];refine Qap (QcI ?_)
 have mr:minRun' a0.size a0.size 0=a0.size:=by
  cases z:a0.size with
  |zero=>omega
  |succ n=>rw[minRun'_succ,if_pos (by omega),Qep]
 dsimp only;rw[b.sz,mr]
 let Fin':SortSt→Prop:=fun t=>(arrOf t).Perm a0∧failedOf t=none∧pendingOf t= #[(0,a0.size,0)]∧∀i j,i≤j→j<a0.size→RK rk (arrOf t) i≤RK rk (arrOf t) j
 have fin:∀t,SB k0 a0 t→(∀i j,i≤j→j<a0.size→RK rk (arrOf t) i≤RK rk (arrOf t) j)→Fin' (setPending t ((pendingOf t).push (0,a0.size,0))):=fun t bt u=>
  ⟨bt.pm,bt.fl,(by show(pendingOf t).push _=_;rw[bt.pn];rfl),u⟩
 refine Qap (Qbz (Qbc (fun n c t=>(n=0∧c=(none,0)∧SB k0 a0 t)∨(0<n∧c=(none,a0.size)∧Fin' t)) (Q:=fun c t=>c=(none,a0.size)∧Fin' t) ?_ ?_ (.inl ⟨rfl,rfl,b⟩)) ?_)
 ·rintro n c t _ _ (⟨rfl,rfl,bt⟩|⟨n0,rfl,ft⟩)
  ·dsimp only;rw[if_neg (by omega)];simp only[Qca,Nat.min_self,Nat.sub_zero];refine Qap (Zoa hL bt (Qaf _) (by omega) fun r t2 b2 r1 r2 u2=> ?_);dsimp only;have last:∀t3,SB k0 a0 t3→(∀i j,i≤j→j<a0.size→RK rk (arrOf t3) i≤RK rk (arrOf t3) j)→(pendingOf t3).back?=none∧Fin' (setPending t3 ((pendingOf t3).push (0,a0.size,0))):=fun t3 b3 u3=>⟨by rw[b3.pn];rfl,fin t3 b3 u3⟩;by_cases z:r<a0.size
   ·rw[if_pos z];refine Qap (Qdl (Qcj ⟨rfl,Qap (Zob hL b2 (Qaf _) r2 u2 fun t3 b3 u3=> ?_)⟩));rw[if_neg (by simp)];refine Qap (QcI ?_);rw[(last t3 b3 u3).1];dsimp only;exact Qap (QbZ (Qav (.inr ⟨Nat.succ_pos _,rfl,(last t3 b3 u3).2⟩)))
   ·rw[if_neg z];have e:r=a0.size:=by omega
    subst e;refine Qap (QcI ?_);rw[(last t2 b2 u2).1];dsimp only;exact Qap (QbZ (Qav (.inr ⟨Nat.succ_pos _,rfl,(last t2 b2 u2).2⟩)))
  ·dsimp only;rw[if_pos (Qaf _)];exact Qav ⟨rfl,ft⟩
 ·rintro c t (⟨z,_,_⟩|⟨_,e,ft⟩)
  ·omega
  ·exact⟨e,ft⟩
 ·rintro c t ⟨rfl,ft⟩;dsimp only;refine Qap (Qbz (Qbc (fun _ c t2=>t2=t∧c=(none,())) (Q:=fun c t2=>t2=t∧c=(none,())) ?_ (fun _ _ z=>z) ⟨rfl,rfl⟩) ?_)
  ·rintro n c t2 _ _ ⟨rfl,rfl⟩;refine Qap (QcI ?_);rw[if_pos (by rw[ft.2.2.1];exact Qaf 1)];exact Qav ⟨rfl,rfl⟩
  ·rintro c t2 ⟨rfl,rfl⟩;exact Qav (h _ ft.1 ft.2.1 ft.2.2.2)
end
def Zcs:List Int→List Int→Bool
 | [],[]=>false
 | [],_::_=>true
 |_::_,[]=>false
 |a::x,b::y=>if a=b then Zcs x y else decide (a<b)
theorem ZcE:∀x:List Int,Zcs x x=false
 | []=>rfl
 |a::x=>by unfold Zcs;rw[if_pos rfl];exact ZcE x
theorem ZcF:∀{x y z:List Int},Zcs x y=true→Zcs y z=true→Zcs x z=true
 | [],[],_,h,_=>by cases h
 | [],_::_,[],_,h=>by cases h
 | [],_::_,_::_,_,_=>rfl
 |_::_,[],_,h,_=>by cases h
 |_::_,_::_,[],_,h=>by cases h
 |a::x,b::y,c::z,h1,h2=>by
  unfold Zcs at h1 h2⊢;by_cases e1:a=b
  ·subst e1;rw[if_pos rfl] at h1;by_cases e2:a=c
   ·rw[if_pos e2] at h2⊢;exact ZcF h1 h2
   ·rw[if_neg e2] at h2⊢;exact h2
  ·rw[if_neg e1] at h1;have l1:=QaK h1;by_cases e2:b=c
   ·subst e2;rw[if_neg e1];exact h1
   ·rw[if_neg e2] at h2;have l2:=QaK h2;rw[if_neg (by omega)];exact Qan (by omega)
theorem Zds:∀{x y:List Int},Zcs x y=false→Zcs y x=false→x=y
 | [],[],_,_=>rfl
 | [],_::_,h,_=>by cases h
 |_::_,[],_,h=>by cases h
 |a::x,b::y,h1,h2=>by
  unfold Zcs at h1 h2;by_cases e:a=b
  ·subst e;rw[if_pos rfl] at h1 h2;rw[Zds h1 h2]
  ·rw[if_neg e] at h1;rw[if_neg (Ne.symm e)] at h2;have l1:=Qa6 h1;have l2:=Qa6 h2;omega
theorem Zdi {α:Type}{p q:α→Bool}:∀{l:List α},(∀z∈l,p z=true→q z=true)→(l.filter p).length≤(l.filter q).length
 | [],_=>Qaf _
 |a::l,h=>by
  have ih:=Zdi (l:=l) fun z hz=>h z (QaD _ hz);have ha:=h a QaA
  cases hp:p a with
  |true=>rw[Qa8 hp,Qa8 (ha hp)];simp only[QaF];omega
  |false=>
   rw[Qa9 (by simp[hp])]
   cases hq:q a with
   |true=>rw[Qa8 hq];simp only[QaF];omega
   |false=>rw[Qa9 (by simp[hq])];exact ih
theorem ZdL {α:Type}{p q:α→Bool}:∀{l:List α} {x:α},(∀z∈l,p z=true→q z=true)→x∈l→q x=true→p x=false→(l.filter p).length<(l.filter q).length
 | [],x,_,hx,_,_=>by cases hx
 |a::l,x,h,hx,q1,p1=>by
  have hl:∀z∈l,p z=true→q z=true:=fun z hz=>h z (QaD _ hz);rcases QaJ.mp hx with rfl|hx
  ·rw[Qa9 (by simp[p1]),Qa8 q1]
   have:=Zdi hl;simp only[QaF];omega
  ·have ih:=ZdL hl hx q1 p1;have ha:=h a QaA
   cases hp:p a with
   |true=>rw[Qa8 hp,Qa8 (ha hp)];simp only[QaF];omega
   |false=>
    rw[Qa9 (by simp[hp])]
    cases hq:q a with
    |true=>rw[Qa8 hq];simp only[QaF];omega
    |false=>rw[Qa9 (by simp[hq])];exact ih
def ZoX:Value→Int
 | .int n _=>n
 |_=>0
theorem Zhw:∀{vs:List Value} {u:List Int},IntsAre vs u→vs.map ZoX=u
 |_,_,.nil=>rfl
 |_,_,.cons n t h=>by rw[Qa5,Zhw h];rfl
def kfI (h:Heap)(v:Value):List Int:=match v with
 | .ref a=>match h.get? a with
  |some o=>match o.data with
   | .seq its _=>its.toList.map ZoX
   |_=>[]
  |none=>[]
 |_=>[]
def Zif (h:Heap)(v:Value)(u:List Int):Prop:=∃a o its n,v= .ref a∧h.get? a=some o∧o.cls= .type "tuple" ∧o.data= .seq its n∧IntsAre its.toList u
theorem Zif.kf {u:List Int}(t:Zif h v u):kfI h v=u:=by
 obtain⟨a,o,its,n,rfl,e,c,d,i⟩:=t;unfold kfI;dsimp only;rw[e];dsimp only;rw[d];exact Zhw i
theorem Zif.keep' {u:List Int}(t:Zif h v u)(k:∀(b:Addr) (o:Obj),o.cls= .type "tuple" →h.get? b=some o→h'.get? b=some o):Zif h' v u:=by
 obtain⟨a,o,its,n,rfl,e,c,r⟩:=t;exact⟨a,o,its,n,rfl,k a o c e,c,r⟩
theorem ZgE (b:Bool)(x y:Value):keyLt' (tuples' b) x y=(do
  let xs←Builtin.List.listItems x
  let ys←Builtin.List.listItems y
  for ((p,q),i) in (xs.toList.zip ys.toList).zipIdx do
   if !(←eqBool p q) then return←oneLt' (b && i==0) p q
  return decide (xs.size<ys.size)):=rfl
theorem ZmO (b:Bool){i j:Int}{t u:Tok}{Q:Bool→Shared→Prop}(h:Q (decide (i<j)) s):wpAny (model prog w) A (oneLt' b (.int i t) (.int j u)) Q E s:=by
 cases b with
 |true=>exact oneLt_int h
 |false=>
  rw[oneLt'_eq,if_neg (by simp)];have q:wpAny (model prog w) A (richCompare .Lt (.int i t) (.int j u)) (fun v s'=>wpAny (model prog w) A (truthOfDropped v) Q E s') E s:=PyProof.Rows.lt_int (QbL h);exact Qad q
abbrev ZmP (b:Bool)(z:(Value×Value)×Nat)(r:Option Bool×Unit):Sem (ForInStep (Option Bool×Unit)):=do
 if !(←eqBool z.1.1 z.1.2) then
  let v←oneLt' (b && z.2==0) z.1.1 z.1.2
  pure (ForInStep.done (some v,()))
 else pure (ForInStep.yield (none,()))
theorem Zhx (b:Bool):∀{xs ys:List Value} {u v:List Int} (i:Nat) {Q:Option Bool×Unit→Shared→Prop},IntsAre xs u→IntsAre ys v→(∀r,(r=(some (Zcs u v),())∨(r=(none,())∧Zcs u v=decide (u.length<v.length)))→Q r s)→
  wpAny (model prog w) A (forIn ((xs.zip ys).zipIdx i) ((none,()):Option Bool×Unit) (ZmP b)) Q E s
 |_,ys,_,v,i,Q,.nil,hy,h=>by
  rw[List.zip_nil_left,List.zipIdx_nil,List.forIn_nil];refine Qao (h _ (.inr ⟨rfl,?_⟩));cases hy<;>rfl
 |_,_,_,_,i,Q,.cons a t hx,.nil,h=>by
  rw[List.zip_nil_right,List.zipIdx_nil,List.forIn_nil];refine Qao (h _ (.inr ⟨rfl,?_⟩));rfl
 |_,_,_,_,i,Q,.cons (ns:=u) a t hx,.cons (ns:=v) c t' hy,h=>by
  rw[QdB,List.zipIdx_cons,Qen];refine Qad (Qad ((intKind prog w).eqBool (a:=a) (b:=c) (Qex _ _ _ _) (Qex _ _ _ _) ?_));by_cases e:a=c
  ·rw[Qan e];refine Qao ?_;refine Zhx b (i+1) hx hy fun r hr=>h r ?_
   have l1:Zcs (a::u) (c::v)=Zcs u v:=by
    conv=>lhs;unfold Zcs
    rw[if_pos e]
   rw[l1];rcases hr with z|⟨z,y⟩
   ·exact .inl z
   ·refine .inr ⟨z,?_⟩;rw[y];simp only[QaF,Nat.add_lt_add_iff_right]
  ·rw[Qal e];refine Qad (ZmO _ ?_);refine Qao (Qao (h _ (.inl ?_)))
   have l1:Zcs (a::u) (c::v)=decide (a<c):=by
    conv=>lhs;unfold Zcs
    rw[if_neg e]
   rw[l1]
theorem ZmQ (b:Bool){x y:Value}{u v:List Int}{Q:Bool→Shared→Prop}(hx:Zif s.heap x u)(hy:Zif s.heap y v)(h:Q (Zcs u v) s):wpAny (model prog w) A (keyLt' (tuples' b) x y) Q E s:=by
 obtain⟨a,o,its,n,rfl,e,c,d,i⟩:=hx;obtain⟨a',o',its',n',rfl,e',c',d',i'⟩:=hy;rw[ZgE];refine Qad (QdE e d (Qad (QdE e' d' ?_)));refine Qad (Zhx b 0 i i' fun r hr=> ?_);rcases hr with rfl|⟨rfl,z⟩
 ·exact Qao h
 ·rw[z,←i.length,←i'.length,QaB,QaB] at h;exact Qao h
theorem Zjt {α β:Type}{f:α→Sem β}(R:α→β→Prop):∀{l:List α} {Q:List β→Shared→Prop},(∀x∈l,∀Q':β→Shared→Prop,(∀y,R x y→Q' y s)→wpAny (model prog w) A (f x) Q' E s)→(∀ys,Paired R l ys→Q ys s)→wpAny (model prog w) A (l.mapM f) Q E s
 | [],Q,_,h=>by rw[Qd1];exact Qao (h [] .nil)
 |x::l,Q,hf,h=>by
  rw[QdL];refine Qad (hf x QaA _ fun y hy=>Qad (Zjt R (fun z hz=>hf z (QaD _ hz)) fun ys hys=>Qao (h _ (.cons hy hys))))
theorem ZfN (v:Value):firstOfTuple' v=(do
  if(←typeOf v) != .type "tuple" then return none
  return(←Builtin.List.listItems v)[0]?):=rfl
theorem Zju {x:Value}{u:List Int}{Q:Option Value→Shared→Prop}(t:Zif s.heap x u)(hu:u≠ [])(h:∀y,(∃a tk,y=some (Value.int a tk))→Q y s):wpAny (model prog w) A (firstOfTuple' x) Q E s:=by
 obtain⟨a,o,its,n,rfl,e,c,d,i⟩:=t;rw[ZfN];refine Qad (QcO (T:= "tuple") ⟨o,e,c⟩ ?_);rw[if_neg (by decide)];refine Qad (QdE e d (Qao (h _ ?_)))
 cases hi:its.toList with
 |nil=>rw[hi] at i;cases i;exact absurd rfl hu
 |cons z zs=>
  rw[hi] at i
  cases i with
  |cons m t hr=>
   refine⟨m,t,?_⟩;rw[←QaH,hi];rfl
theorem ZdM:∀{vs:List Value} {ys:List (Option Value)},Paired (fun _ y=>∃a tk,y=some (Value.int a tk)) vs ys→∃zs:List Value,ys=zs.map some∧zs.length=vs.length∧∀z∈zs,∃a tk,z=Value.int a tk
 |_,_,.nil=>⟨[],rfl,rfl,fun z hz=>by cases hz⟩
 |_,_,.cons ⟨a,tk,e⟩ t=>by
  obtain⟨zs,e1,e2,e3⟩:=ZdM t;refine⟨.int a tk::zs,by rw[e,e1];rfl,by simp[e2],fun z hz=> ?_⟩;rcases QaJ.mp hz with rfl|hz
  ·exact⟨a,tk,rfl⟩
  ·exact e3 z hz
theorem ZfO:∀{zs:List Value},(∀z∈zs,∃a tk,z=Value.int a tk)→zs.mapM typeOf=(pure (zs.map fun _=>Value.type "int"):Sem (List Value))
 | [],_=>by rw[Qd1];rfl
 |z::zs,h=>by
  obtain⟨a,tk,rfl⟩:=h z QaA;rw[QdL,ZfO fun y hy=>h y (QaD _ hy)];rfl
theorem Zjv (hv:∀v∈vs,∃u,Zif s.heap v u∧u≠ [])(h1:vs≠ []){Q:SortKind→Shared→Prop}(h:Q (tuples' true) s):wpAny (model prog w) A (keyKind' vs.toArray) Q E s:=by
 rw[keyKind'_eq,Qc3];refine Qad ?_
 have step:wpAny (model prog w) A (vs.mapM firstOfTuple') (fun ys s'=>wpAny (model prog w) A (pure ys.toArray) (fun firsts s'=>wpAny (model prog w) A (do
   if(firsts.all fun x=>x.isSome)=true then
    rule "list.sort.keys-are-tuples"
    let __do_lift←oneTypeOnly' (firsts.filterMap id)
    pure (tuples' (__do_lift.any fun x=>x !=Value.type "tuple"))
   else
    if(firsts[0]?.bind id).isSome=true then pure general'
    else do
     let __do_lift←oneTypeOnly' vs.toArray
     pure (if __do_lift.isSome=true then oneType' else general')) Q E s') E s') E s:=by
  refine Zjt (fun _ y=>∃a tk,y=some (Value.int a tk)) (fun x hx Q' hq=> ?_) fun ys hys=> ?_
  ·obtain⟨u,t,hu⟩:=hv x hx;exact Zju t hu hq
  ·obtain⟨zs,e1,e2,e3⟩:=ZdM hys;subst e1;refine Qao ?_;rw[if_pos (by simp)];refine Qad (Qcj ?_)
   have ef:(zs.map some).toArray.filterMap id=zs.toArray:=by
    rw[List.filterMap_toArray];congr 1
    induction zs with
    |nil=>rfl
    |cons z zs ih=>simp
   rw[ef,oneTypeOnly'_eq,Qc3,ZfO e3]
   have z0:∃z zs',zs=z::zs':=by
    cases zs with
    |nil=>rw[Qbp] at e2;exact absurd (Qdh e2.symm) h1
    |cons z zs'=>exact⟨z,zs',rfl⟩
   obtain⟨z,zs',rfl⟩:=z0;simp only[map_pure,pure_bind];have g0:(List.map (fun _=>Value.type "int") (z::zs')).toArray[0]?=some (Value.type "int"):=by simp
   have ga:((List.map (fun _=>Value.type "int") (z::zs')).toArray.all fun x=>x==Value.type "int")=true:=by
    rw[List.all_toArray,QdC,Qch];intro _ _;rfl
   rw[g0];dsimp only;rw[ga,if_pos rfl];exact Qad (Qao (Qao h))
 exact Qad step
theorem Zk1 {k0:SortKind}{P:Fin→Shared→Prop}(hb:s.heap.get? a=some (seqObj "list" vs.toArray n))(h64:vs.length<64)
  (hk:2≤vs.length→∀h':Heap,(∀b o,b≠a→s.heap.get? b=some o→h'.get? b=some o)→∀(E:Value→Shared→Prop) (Q:SortKind→Shared→Prop),Q k0 {s with heap:=h' }→wpAny (model prog w) A (keyKind' vs.toArray) Q E {s with heap:=h' })
  (hL:∀h':Heap,(∀b o,b≠a→s.heap.get? b=some o→h'.get? b=some o)→Zjp prog w A {s with heap:=h' } k0 (pairsOf vs) rk)
  (h:∀xs:Array Keyed,xs.Perm (pairsOf vs)→(∀i j,i≤j→j<(pairsOf vs).size→RK rk xs i≤RK rk xs j)→P (.done (.ret .none)) {s with heap:=sortedHeap s.heap a vs (xs.map (·.2)) }):
  wpAny (model prog w) A (Builtin.«list.sort» ⟨[.ref a],[]⟩) P E s:=by
 have la:a<s.heap.objs.size:=Qau hb;have sv:vs.toArray.size=vs.length:=Qar ..;rw[list_sort_plain];refine Qad (QdE hb rfl (Qad (Qd2 hb rfl ?_)));have g1:=get?_update_seq hb (fun _=>(#[]:Array Value))
 have k1:∀b o,b≠a→s.heap.get? b=some o→(s.heap.update a (Obj.mapSeq fun _=> #[])).get? b=some o:=fun b o nb z=>by
  rw[QcJ _ _ _ _ nb];exact z
 refine Qad (QeB g1 rfl (Qad (wpAny_newTuple (Qad (Qd3 (Qbs ?_))))));show wpAny (model prog w) A _ P E {s with heap:=((s.heap.update a (Obj.mapSeq fun _=> #[])).push (seqObj "tuple" vs.toArray 0)).push (seqObj "list" #[] 0) };have g6:=Qak (seqObj "list" #[] 0) (Qak (seqObj "tuple" vs.toArray 0) g1);have k6:∀b o,b≠a→s.heap.get? b=some o→(((s.heap.update a (Obj.mapSeq fun _=> #[])).push (seqObj "tuple" vs.toArray 0)).push (seqObj "list" #[] 0)).get? b=some o:=fun b o nb z=>Qak _ (Qak _ (k1 b o nb z))
 have done:∀(xs:Array Keyed) (t:SortSt),arrOf t=xs→failedOf t=none→xs.Perm (pairsOf vs)→(∀i j,i≤j→j<(pairsOf vs).size→RK rk xs i≤RK rk xs j)→
   wpAny (model prog w) A (do
    let touched:=(←seqEpoch a) !=(if(#[]:Array Value).size==vs.toArray.size then n else n+1)
    Builtin.List.listUpdate (.ref a) fun _=>(arrOf t).map (·.2)
    if let some e:=failedOf t then rule "list.sort.comparison-raised";throw e
    if touched then rule "list.sort.modified";raiseError "ValueError" "list modified during sort"
    ret .none) P E {s with heap:=((s.heap.update a (Obj.mapSeq fun _=> #[])).push (seqObj "tuple" vs.toArray 0)).push (seqObj "list" #[] 0) }:=by
  rintro xs t rfl ft pm up;refine Qad (QeB g6 rfl (Qad (Qd2 g6 rfl ?_ (hsz2:=?_))))
  ·rw[ft];dsimp only;rw[if_neg (by simp)];exact Qao (h _ pm up)
  ·show((arrOf t).map (·.2)).size≤sizeLine+1;rw[QdM,pm.size_eq,Qdb];exact QaI (show vs.length≤1000 by omega) (by decide)
 by_cases h2:vs.toArray.size<2
 ·rw[if_pos h2,if_pos h2];refine Qad (Qao ?_);dsimp only;rw[StateT.run_pure];refine Qad (Qao (done _ (SortSt.mk' general' (vs.toArray.zip vs.toArray) #[] 7 none) rfl rfl (QcS _) fun i j ij jl=> ?_));rw[Qdb] at jl;rw[show i=j by omega];exact Qba _
 ·rw[if_neg h2,if_neg h2];refine Qad (hk (by omega) _ k6 _ _ ?_);refine Qad (QbK (ZmN (hL _ k6) (st:=SortSt.mk' k0 (vs.toArray.zip vs.toArray) #[] 7 none) (a0:=pairsOf vs) ⟨QcS _,rfl,rfl,rfl⟩ (by rw[Qdb];omega) (by rw[Qdb];exact h64) (Q:=fun _ t=>(arrOf t).Perm (pairsOf vs)∧failedOf t=none∧∀i j,i≤j→j<(pairsOf vs).size→RK rk (arrOf t) i≤RK rk (arrOf t) j) fun t p1 p2 p3=>⟨p1,p2,p3⟩) ?_ fun _ _ z=>z);rintro⟨⟨⟩,t⟩ s' ⟨rfl,p1,p2,p3⟩;exact done _ t rfl p2 p1 p3
def hsh (prog:Program)(w:World)(u:List Int):Int:=tupleKeyHash (intKind prog w) u
end L2
namespace TimG
open PySem PySem.Spec PyProof.Rows
variable {i j na mg n ac bc lo ia ib base k m src d qg n0 nrem:Nat}{a out b a₀ arr xs:Array Keyed}{p y key q:Keyed}{prog:Program}{w:World}{A:Around}{E:Value→Shared→Prop}{s:Shared}{L o X Y l W U T:List Keyed}{Q:Option Nat→SortSt→Prop}{P:Array (Nat×Nat×Nat)}{left:Bool}{c:Prop}{Rs:List (List Keyed)}
class KO where
 rk:Value→Int
 ik:Keyed→Prop
 kd:SortKind
variable [KO]
def Zaw (p:Keyed):Int:=KO.rk p.1
def Ik (p:Keyed):Prop:=KO.ik p
def IkA (a:Array Keyed):Prop:=∀p∈a.toList,Ik p
class KL (prog:Program) (w:World) (A:Around) (s:Shared):Prop where
 lt:∀{E:Value→Shared→Prop} {x y:Keyed} {st:SortSt} {Q:Option Bool→SortSt→Prop},kindOf st=KO.kd→Ik x→Ik y→Q (some (decide (Zaw x<Zaw y))) st→wpS (model prog w) A E s (lt' x y) Q st
def K (a:Array Keyed)(i:Nat):Int:=L2.RK KO.rk a i
theorem Zhy (hj:j≤xs.size)(k:Nat):K (mirror xs i j ((j-i)/2)) k=if i≤k∧k<j then K xs (i+j-1-k) else K xs k:=L2.RK_mir hj k
theorem Zbt (hj:j≤xs.size)(heq:∀k,i≤k→k<j→K xs k=K xs (j-1))(k:Nat):K (mirror xs i j ((j-i)/2)) k=K xs k:=L2.mir_same hj heq k
theorem Zk2 (hs:src<xs.size)(hd:d≤src)(k:Nat):K (bubble xs src d) k=if k=src-d then K xs src else if src-d<k∧k≤src then K xs (k-1) else K xs k:=L2.RK_bub hs hd k
def ZbQ:Bool→Keyed→Array Keyed→Nat→Nat→Nat→StateT SortSt Sem (Option Nat):=sortPriv%PySem.Builtin.gallop
def Zdt:Array Keyed→Array Keyed→StateT SortSt Sem (Array Keyed):=sortPriv%PySem.Builtin.mergeLo
def Zdu:Array Keyed→Array Keyed→StateT SortSt Sem (Array Keyed):=sortPriv%PySem.Builtin.mergeHi
def ZaN:Nat→StateT SortSt Sem Unit:=sortPriv%PySem.Builtin.setMinGallop
abbrev ZlX (st:SortSt)(g:Nat):SortSt:=SortSt.mk' (kindOf st) (arrOf st) (pendingOf st) g (failedOf st)
theorem Zbu (g:Nat):ZaN g=modify fun s=>ZlX s g:=rfl
def Zch (left:Bool)(key:Keyed)(arr:Array Keyed)(base i:Nat):StateT SortSt Sem (Option Bool):=do
 let x←elem' arr (base+i)
 if left then lt' x key else return(←lt' key x).map (!·)
theorem Zig (left:Bool)(key:Keyed)(arr:Array Keyed)(base n qg:Nat):ZbQ left key arr base n qg=(do
 let mut lastofs:=0
 let mut ofs:=1
 let mut lo:=0
 let mut hi:=0
 let some right←Zch left key arr base qg|return none
 if right then
  let maxofs:=n-qg
  for _ in [0:n] do
   if ofs≥maxofs then break
   let some more←Zch left key arr base (qg+ofs)|return none
   if !more then break
   lastofs:=ofs
   ofs:=2*ofs+1
  lo:=qg+lastofs+1
  hi:=qg+min ofs maxofs
 else
  let maxofs:=qg+1
  for _ in [0:n] do
   if ofs≥maxofs then break
   let some found←Zch left key arr base (qg-ofs)|return none
   if found then break
   lastofs:=ofs
   ofs:=2*ofs+1
  lo:=qg+1-min ofs maxofs
  hi:=qg-lastofs
 for _ in [0:n] do
  if lo≥hi then break
  let m:=lo+(hi-lo)/2
  let some more←Zch left key arr base m|return none
  if more then lo:=m+1 else hi:=m
 return some hi):=rfl
section
variable  [KL prog w A s]
theorem ZaG {st:SortSt}{Q:Keyed→SortSt→Prop}(e:arr[i]?=some p)(h:Q p st):wpS (model prog w) A E s (elem' arr i) Q st:=by
 rw[QeP,e];exact Qav h
theorem ZdN {x:Keyed}{st:SortSt}{Q:Option Bool→SortSt→Prop}(hk:kindOf st=KO.kd)(hx:Ik x)(hy:Ik y)(h:Q (some (decide (Zaw x<Zaw y))) st):wpS (model prog w) A E s (lt' x y) Q st:=KL.lt hk hx hy h
def Zca (left:Bool)(key x:Keyed):Bool:=if left=true then decide (Zaw x<Zaw key) else !decide (Zaw key<Zaw x)
theorem Zih {st:SortSt}{Q:Option Bool→SortSt→Prop}(hk:kindOf st=KO.kd)(hkey:Ik key)(e:arr[base+i]?=some p)(hp:Ik p)(h:Q (some (Zca left key p)) st):wpS (model prog w) A E s (Zch left key arr base i) Q st:=by
 unfold Zch;refine Qap (ZaG e ?_)
 cases left with
 |true=>exact ZdN hk hp hkey h
 |false=>exact Qap (ZdN hk hkey hp (Qav h))
def ZpE (left:Bool)(key:Keyed)(arr:Array Keyed)(base n lo hi:Nat):StateT SortSt Sem (Option Nat):=do
 let mut lo:=lo
 let mut hi:=hi
 for _ in [0:n] do
  if lo≥hi then break
  let m:=lo+(hi-lo)/2
  let some more←Zch left key arr base m|return none
  if more then lo:=m+1 else hi:=m
 return some hi
theorem Zjw {hi:Nat}{st:SortSt}{b:Nat→Bool}
  (bey:∀{i:Nat} {Q:Option Bool→SortSt→Prop},i<n→Q (some (b i)) st→wpS (model prog w) A E s (Zch left key arr base i) Q st) (anti:∀i j,i≤j→j<n→b j=true→b i=true)
  (hl:lo≤hi) (hn:hi≤n) (h1:∀i,i<lo→b i=true) (h2:∀i,hi≤i→i<n→b i=false)
  (h:∀k,k≤n→(∀i,i<k→b i=true)→(∀i,k≤i→i<n→b i=false)→Q (some k) st):wpS (model prog w) A E s (ZpE left key arr base n lo hi) Q st:=by
 unfold ZpE
 refine Qap (Qbz (Qbc (I:=fun x c st''=>st''=st∧∃l r,c=(none,l,r)∧l≤r∧r≤n∧r-l≤n-x∧(∀i,i<l→b i=true)∧(∀i,r≤i→i<n→b i=false))
  (Q:=fun c st''=>st''=st∧∃l,c=(none,l,l)∧l≤n∧(∀i,i<l→b i=true)∧(∀i,l≤i→i<n→b i=false)) ?step ?fin ⟨rfl,lo,hi,rfl,hl,hn,by omega,h1,h2⟩) ?post)
 case fin=>
  rintro c st'' ⟨rfl,l,r,rfl,a1,a2,a3,a4,a5⟩
  have:l=r:=by omega
  subst this;exact⟨rfl,l,rfl,a2,a4,a5⟩
 case step=>
  rintro x c st'' _ hx ⟨rfl,l,r,rfl,a1,a2,a3,a4,a5⟩;dsimp only;by_cases hge:l≥r
  ·rw[if_pos hge]
   have:l=r:=by omega
   subst this;exact Qav ⟨rfl,l,rfl,a2,a4,a5⟩
  ·rw[if_neg hge];refine Qap (bey (by omega) ?_);dsimp only
   cases hm:b (l+(r-l)/2) with
   |true=>
    refine Qav ⟨rfl,l+(r-l)/2+1,r,rfl,by omega,a2,by omega,fun i hi=> ?_,a5⟩;exact anti i (l+(r-l)/2) (by omega) (by omega) hm
   |false=>
    refine Qav ⟨rfl,l,l+(r-l)/2,rfl,by omega,by omega,by omega,a4,fun i hi hin=> ?_⟩
    cases z:b i with
    |false=>rfl
    |true=>rw[anti _ i hi hin z] at hm;cases hm
 case post=>
  rintro c st'' ⟨rfl,l,rfl,a2,a4,a5⟩;exact Qav (h l a2 a4 a5)
theorem Zii {st:SortSt}{b:Nat→Bool}(hk:kindOf st=KO.kd)(hkey:Ik key)(hh:qg<n)
  (hb:∀i,i<n→∃p,arr[base+i]?=some p∧Ik p∧b i=Zca left key p) (anti:∀i j,i≤j→j<n→b j=true→b i=true)
  (h:∀k,k≤n→(∀i,i<k→b i=true)→(∀i,k≤i→i<n→b i=false)→Q (some k) st):wpS (model prog w) A E s (ZbQ left key arr base n qg) Q st:=by
 have bey:∀{i:Nat} {Q:Option Bool→SortSt→Prop},i<n→Q (some (b i)) st→wpS (model prog w) A E s (Zch left key arr base i) Q st:=fun{i Q} hi q=>by
  obtain⟨p,e,ip,eb⟩:=hb i hi;exact Zih hk hkey e ip (by rw[←eb];exact q)
 rw[Zig];refine Qap (bey hh ?_);dsimp only
 have low:∀{i j:Nat},i≤j→j<n→b i=false→b j=false:=fun{i j} hij hj hf=>by
  cases z:b j with
  |false=>rfl
  |true=>rw[anti i j hij hj z] at hf;cases hf
 cases hright:b qg with
 |true=>
  rw[if_pos rfl]
  refine Qap (Qbz (Qbc (I:=fun x c st''=>st''=st∧∃l o,c=(none,l,o)∧x+1≤o∧l<o∧qg+l<n∧b (qg+l)=true)
   (Q:=fun c st''=>st''=st∧∃l o,c=(none,l,o)∧l<o∧qg+l<n∧b (qg+l)=true∧(n-qg≤o∨(qg+o<n∧b (qg+o)=false))) ?_ ?_ ⟨rfl,0,1,rfl,by omega,by omega,by omega,hright⟩) ?_)
  ·rintro x c st'' _ hx ⟨rfl,l,o,rfl,a0,a1,a2,a3⟩;dsimp only;by_cases hge:o≥n-qg
   ·rw[if_pos hge];exact Qav ⟨rfl,l,o,rfl,a1,a2,a3,.inl hge⟩
   ·rw[if_neg hge];refine Qap (bey (by omega) ?_);dsimp only
    cases hm:b (qg+o) with
    |true=>exact Qav ⟨rfl,o,2*o+1,rfl,by omega,by omega,by omega,hm⟩
    |false=>exact Qav ⟨rfl,l,o,rfl,a1,a2,a3,.inr ⟨by omega,hm⟩⟩
  ·rintro c st'' ⟨rfl,l,o,rfl,a0,a1,a2,a3⟩;exact⟨rfl,l,o,rfl,a1,a2,a3,.inl (by omega)⟩
  ·rintro c st'' ⟨rfl,l,o,rfl,a1,a2,a3,a4⟩;refine Zjw (lo:=qg+l+1) (hi:=qg+min o (n-qg)) bey anti (by omega) (by omega) (fun i hi=>anti i (qg+l) (by omega) a2 a3) (fun i hi hin=> ?_) h;rcases a4 with a4|⟨a4,a5⟩
   ·omega
   ·exact low (by omega) hin a5
 |false=>
  rw[if_neg (by decide)]
  refine Qap (Qbz (Qbc (I:=fun x c st''=>st''=st∧∃l o,c=(none,l,o)∧x+1≤o∧l<o∧l≤qg∧b (qg-l)=false)
   (Q:=fun c st''=>st''=st∧∃l o,c=(none,l,o)∧l<o∧l≤qg∧b (qg-l)=false∧(qg+1≤o∨(o≤qg∧b (qg-o)=true))) ?_ ?_ ⟨rfl,0,1,rfl,by omega,by omega,by omega,hright⟩) ?_)
  ·rintro x c st'' _ hx ⟨rfl,l,o,rfl,a0,a1,a2,a3⟩;dsimp only;by_cases hge:o≥qg+1
   ·rw[if_pos hge];exact Qav ⟨rfl,l,o,rfl,a1,a2,a3,.inl hge⟩
   ·rw[if_neg hge];refine Qap (bey (by omega) ?_);dsimp only
    cases hm:b (qg-o) with
    |true=>exact Qav ⟨rfl,l,o,rfl,a1,a2,a3,.inr ⟨by omega,hm⟩⟩
    |false=>exact Qav ⟨rfl,o,2*o+1,rfl,by omega,by omega,by omega,hm⟩
  ·rintro c st'' ⟨rfl,l,o,rfl,a0,a1,a2,a3⟩;exact⟨rfl,l,o,rfl,a1,a2,a3,.inl (by omega)⟩
  ·rintro c st'' ⟨rfl,l,o,rfl,a1,a2,a3,a4⟩;refine Zjw (lo:=qg+1-min o (qg+1)) (hi:=qg-l) bey anti (by omega) (by omega) (fun i hi=> ?_) (fun i hi hin=>low hi hin a3) h;rcases a4 with a4|⟨a4,a5⟩
   ·omega
   ·exact anti i (qg-o) (by omega) (by omega) a5
end
variable [KO]
def Srt (l:List Keyed):Prop:=l.Pairwise fun x y=>Zaw x≤Zaw y
structure MI (L o X Y:List Keyed):Prop where
 perm:(o++(X++Y)).Perm L
 so:Srt o
 sx:Srt X
 sy:Srt Y
 le:∀x∈o,∀y∈X++Y,Zaw x≤Zaw y
theorem Zci {a b:List Keyed}(h1:Srt a)(h2:Srt b)(h:∀x∈a,∀y∈b,Zaw x≤Zaw y):Srt (a++b):=Qb3.mpr ⟨h1,h2,h⟩
theorem Zjx {a b:List Keyed}(h:Srt (a++b)):Srt a:=(Qb3.mp h).1
theorem Zjy {a b:List Keyed}(h:Srt (a++b)):Srt b:=(Qb3.mp h).2.1
theorem Zet {a b:List Keyed}(h:Srt (a++b)):∀x∈a,∀y∈b,Zaw x≤Zaw y:=(Qb3.mp h).2.2
theorem MI.moveA {P:List Keyed}(h:MI L o (P++X) Y)(hp:∀p∈P,∀y∈Y,Zaw p≤Zaw y):MI L (o++P) X Y:=by
 refine⟨?_,Zci h.so (Zjx h.sx) fun x hx y hy=>h.le x hx y (QaL _ (QaL _ hy)),Zjy h.sx,h.sy,fun x hx y hy=> ?_⟩
 ·have:=h.perm;rw[Qaw] at this;rw[Qaw];exact this
 ·rcases Qaq.mp hx with hx|hx
  ·refine h.le x hx y ?_;rcases Qaq.mp hy with hy|hy
   ·exact QaL _ (Qas _ hy)
   ·exact Qas _ hy
  ·rcases Qaq.mp hy with hy|hy
   ·exact Zet h.sx x hx y hy
   ·exact hp x hx y hy
theorem MI.moveB {P:List Keyed}(h:MI L o X (P++Y))(hp:∀p∈P,∀x∈X,Zaw p≤Zaw x):MI L (o++P) X Y:=by
 refine⟨?_,Zci h.so (Zjx h.sy) fun x hx y hy=>h.le x hx y (Qas _ (QaL _ hy)),h.sx,Zjy h.sy,fun x hx y hy=> ?_⟩
 ·refine List.Perm.trans ?_ h.perm;rw[Qaw];refine Qbq o ?_;rw[←Qaw,←Qaw];exact Qcl Y Qdc
 ·rcases Qaq.mp hx with hx|hx
  ·refine h.le x hx y ?_;rcases Qaq.mp hy with hy|hy
   ·exact QaL _ hy
   ·exact Qas _ (Qas _ hy)
  ·rcases Qaq.mp hy with hy|hy
   ·exact hp x hx y hy
   ·exact Zet h.sy x hx y hy
def Fin' (L R:List Keyed):Prop:=R.Perm L∧Srt R
theorem MI.endA (h:MI L o X []):Fin' L (o++X):=by
 have:=h.perm;rw[QaS] at this;exact⟨this,Zci h.so h.sx fun x hx y hy=>h.le x hx y (QaL _ hy)⟩
theorem MI.lastA (h:MI L o X Y)(hp:∀y∈Y,∀x∈X,Zaw y≤Zaw x):Fin' L (o++Y++X):=by
 have h2:MI L o X (Y++ []):=by rw[QaS];exact h
 exact(h2.moveB hp).endA
theorem ZgF (a b:Array Keyed):Zdt a b=(do
 rule "list.sort.merge-lo"
 let total:=a.size+b.size
 let done (out:Array Keyed) (ia ib:Nat):=out++a.extract ia a.size++b.extract ib b.size
 let lastOfA (out:Array Keyed) (ia ib:Nat):=out++b.extract ib b.size++a.extract ia a.size
 let mut out:Array Keyed:=#[←elem' b 0]
 let mut ia:=0
 let mut ib:=1
 if ib==b.size then return done out ia ib
 if ia+1==a.size then return lastOfA out ia ib
 let mut minGallop:=gallopOf (←get)
 for _ in [0:total] do
  let mut acount:=0
  let mut bcount:=0
  for _ in [0:total] do
   let some bWins←lt' (←elem' b ib) (←elem' a ia)|return done out ia ib
   if bWins then
    out:=out.push (←elem' b ib);ib:=ib+1;bcount:=bcount+1;acount:=0
    if ib==b.size then return done out ia ib
    if bcount≥minGallop then break
   else
    out:=out.push (←elem' a ia);ia:=ia+1;acount:=acount+1;bcount:=0
    if ia+1==a.size then return lastOfA out ia ib
    if acount≥minGallop then break
  rule "list.sort.gallop"
  minGallop:=minGallop+1
  for _ in [0:total] do
   if minGallop>1 then minGallop:=minGallop-1
   ZaN minGallop
   let some k←ZbQ false (←elem' b ib) a ia (a.size-ia) 0|return done out ia ib
   acount:=k
   if k>0 then
    out:=out++a.extract ia (ia+k);ia:=ia+k
    if ia+1==a.size then return lastOfA out ia ib
    if ia==a.size then return done out ia ib
   out:=out.push (←elem' b ib);ib:=ib+1
   if ib==b.size then return done out ia ib
   let some k←ZbQ true (←elem' a ia) b ib (b.size-ib) 0|return done out ia ib
   bcount:=k
   if k>0 then
    out:=out++b.extract ib (ib+k);ib:=ib+k
    if ib==b.size then return done out ia ib
   out:=out.push (←elem' a ia);ia:=ia+1
   if ia+1==a.size then return lastOfA out ia ib
   if acount<7 && bcount<7 then break
  minGallop:=minGallop+1
  ZaN minGallop
 unsupported "internal:list.sort.merge-bound"):=rfl
theorem Zdv (a:Array Keyed)(i:Nat):(a.extract i a.size).toList=a.toList.drop i:=by
 rw[Qb4,QbO];exact QaM (by rw[Qbd,QaB];exact Qaf _)
theorem ZmR (a:Array Keyed)(i k:Nat):(a.extract i (i+k)).toList=(a.toList.drop i).take k:=by
 rw[Qb4,QbO,Qcg]
theorem ZgG (e:a[i]?=some p):a.toList.drop i=p::a.toList.drop (i+1):=by
 have h:a.toList[i]?=some p:=by rw[QaH];exact e
 obtain⟨hi,rfl⟩:=Qac.mp h;exact Qbn hi
theorem Zcj (h:i<a.size):∃p,a[i]?=some p∧p∈a.toList:=⟨a[i],QaP h,by simp⟩
def ZcG (st st':SortSt):Prop:=kindOf st'=kindOf st∧arrOf st'=arrOf st∧pendingOf st'=pendingOf st∧failedOf st'=failedOf st
theorem ZcG.refl (st:SortSt):ZcG st st:=⟨rfl,rfl,rfl,rfl⟩
theorem ZcG.gal {st st':SortSt}(h:ZcG st st')(g:Nat):ZcG st (ZlX st' g):=⟨h.1,h.2.1,h.2.2.1,h.2.2.2⟩
structure Two (a b:Array Keyed):Prop where
 ia:∀p∈a.toList,Ik p
 ib:∀p∈b.toList,Ik p
 sa:Srt a.toList
 sb:Srt b.toList
def LoI (a b out:Array Keyed)(i j:Nat):Prop:=MI (a.toList++b.toList) out.toList (a.toList.drop i) (b.toList.drop j)
theorem LoI.pushA (h:LoI a b out i j)(e:a[i]?=some p)(hp:∀y∈b.toList.drop j,Zaw p≤Zaw y):LoI a b (out.push p) (i+1) j:=by
 unfold LoI at h⊢;rw[ZgG e] at h;rw[Qcu];exact MI.moveA (P:=[p]) h fun q hq y hy=>by rw[QaE.mp hq];exact hp y hy
theorem LoI.pushB (h:LoI a b out i j)(e:b[j]?=some p)(hp:∀y∈a.toList.drop i,Zaw p≤Zaw y):LoI a b (out.push p) i (j+1):=by
 unfold LoI at h⊢;rw[ZgG e] at h;rw[Qcu];exact MI.moveB (P:=[p]) h fun q hq y hy=>by rw[QaE.mp hq];exact hp y hy
theorem LoI.blockA (h:LoI a b out i j)(hp:∀x∈(a.toList.drop i).take k,∀y∈b.toList.drop j,Zaw x≤Zaw y):LoI a b (out++a.extract i (i+k)) (i+k) j:=by
 unfold LoI at h⊢;rw[Qbg,ZmR,←Qez];rw[←QaT k (a.toList.drop i)] at h;exact h.moveA hp
theorem LoI.blockB (h:LoI a b out i j)(hp:∀x∈(b.toList.drop j).take k,∀y∈a.toList.drop i,Zaw x≤Zaw y):LoI a b (out++b.extract j (j+k)) i (j+k):=by
 unfold LoI at h⊢;rw[Qbg,ZmR,←Qez];rw[←QaT k (b.toList.drop j)] at h;exact h.moveB hp
theorem LoI.done (h:LoI a b out i j)(hj:j=b.size):Fin' (a.toList++b.toList) (out++a.extract i a.size++b.extract j b.size).toList:=by
 unfold LoI at h;rw[Qbg,Qbg,Zdv,Zdv];rw[QbV (l:=b.toList) (by rw[QaB];omega)] at h⊢;rw[QaS];exact h.endA
theorem LoI.last (h:LoI a b out i j)(hp:∀y∈b.toList.drop j,∀x∈a.toList.drop i,Zaw y≤Zaw x):Fin' (a.toList++b.toList) (out++b.extract j b.size++a.extract i a.size).toList:=by
 rw[Qbg,Qbg,Zdv,Zdv];exact MI.lastA h hp
theorem Zk3 (h:Srt (p::l)):∀y∈p::l,Zaw p≤Zaw y:=fun y hy=>by
 rcases QaJ.mp hy with rfl|hy
 ·exact Qba _
 ·exact(QdF.mp h).1 y hy
theorem Zhz (h:Srt l)(i:Nat):Srt (l.drop i):=List.Pairwise.drop h
theorem ZfP (h:Srt a.toList)(e:a[i]?=some p):∀y∈a.toList.drop i,Zaw p≤Zaw y:=by
 have:=Zhz h i;rw[ZgG e] at this⊢;exact Zk3 this
section
variable  [KL prog w A s]
theorem Zc6 {st:SortSt}(hk:kindOf st=KO.kd)(hkey:Ik key)(hh:qg<n)(hn:base+n≤arr.size)(hi:∀p∈arr.toList,Ik p)(hs:∀(i j:Nat) (p q:Keyed),i≤j→j<n→arr[base+i]?=some p→arr[base+j]?=some q→Zaw p≤Zaw q)
  (h:∀k,k≤n→(∀i p,i<k→arr[base+i]?=some p→Zca left key p=true)→(∀i p,k≤i→i<n→arr[base+i]?=some p→Zca left key p=false)→Q (some k) st):wpS (model prog w) A E s (ZbQ left key arr base n qg) Q st:=by
 refine Zii (b:=fun i=>match arr[base+i]? with|some p=>Zca left key p|none=>false) hk hkey hh (fun i hi'=> ?_) (fun i j hij hj hb=> ?_) fun k hk1 hk2 hk3=>h k hk1 (fun i p hik e=> ?_) (fun i p hki hin e=> ?_)
 ·obtain⟨p,e,hp⟩:=Zcj (a:=arr) (i:=base+i) (by omega);exact⟨p,e,hi p hp,by rw[e]⟩
 ·obtain⟨p,e,hp⟩:=Zcj (a:=arr) (i:=base+i) (by omega);obtain⟨q,e',hq⟩:=Zcj (a:=arr) (i:=base+j) (by omega);rw[e'] at hb;rw[e]
  have:=hs i j p q hij hj e e';show Zca left key p=true;have hb:Zca left key q=true:=hb;unfold Zca at hb⊢
  cases left with
  |true=>rw[if_pos rfl] at hb⊢;exact Qan (by have:=QaK hb;omega)
  |false=>
   rw[if_neg (by decide)] at hb⊢;rw[Qal (by intro z;rw[Qan (show Zaw key<Zaw q by omega)] at hb;cases hb)];rfl
 ·have:=hk2 i hik;rw[e] at this;exact this
 ·have:=hk3 i hki hin;rw[e] at this;exact this
end
variable [KO]
abbrev LoS:=Option (Array Keyed)×Array Keyed×Nat×Nat×Nat×Nat×Nat
def ZoY (a b out:Array Keyed)(ia ib mg ac bc:Nat):StateT SortSt Sem (ForInStep LoS):=do
 let p←elem' a ia
 if(ia+1+1==a.size)=true then pure (.done (some (out.push p++b.extract ib b.size++a.extract (ia+1) a.size),out.push p,ia+1,ib,mg,ac,bc))
 else if(decide (ac<7) && decide (bc<7))=true then pure (.done (none,out.push p,ia+1,ib,mg,ac,bc)) else pure (.yield (none,out.push p,ia+1,ib,mg,ac,bc))
def Zpj (a b out:Array Keyed)(ia ib mg ac bc:Nat):StateT SortSt Sem (ForInStep LoS):=
 if(ib==b.size)=true then pure (.done (some (out++a.extract ia a.size++b.extract ib b.size),out,ia,ib,mg,ac,bc))
 else do
  let p←elem' a ia
  let x←ZbQ true p b ib (b.size-ib) 0
  match x with
  |some k=>
   if k>0 then
    if(ib+k==b.size)=true then pure (.done (some (out++b.extract ib (ib+k)++a.extract ia a.size++b.extract (ib+k) b.size),out++b.extract ib (ib+k),ia,ib+k,mg,ac,k))
    else ZoY a b (out++b.extract ib (ib+k)) ia (ib+k) mg ac k
   else ZoY a b out ia ib mg ac k
  |_=>pure (.done (some (out++a.extract ia a.size++b.extract ib b.size),out,ia,ib,mg,ac,bc))
def ZoZ (a b out:Array Keyed)(ia ib mg ac bc:Nat):StateT SortSt Sem (ForInStep LoS):=do
 let p←elem' b ib
 Zpj a b (out.push p) ia (ib+1) mg ac bc
def Zo0 (a b out:Array Keyed)(ia ib mg ac bc:Nat):StateT SortSt Sem (ForInStep LoS):=do
 ZaN mg
 let p←elem' b ib
 let x←ZbQ false p a ia (a.size-ia) 0
 match x with
 |some k=>
  if k>0 then
   if(ia+k+1==a.size)=true then pure (.done (some (out++a.extract ia (ia+k)++b.extract ib b.size++a.extract (ia+k) a.size),out++a.extract ia (ia+k),ia+k,ib,mg,k,bc))
   else if(ia+k==a.size)=true then pure (.done (some (out++a.extract ia (ia+k)++a.extract (ia+k) a.size++b.extract ib b.size),out++a.extract ia (ia+k),ia+k,ib,mg,k,bc))
   else ZoZ a b (out++a.extract ia (ia+k)) (ia+k) ib mg k bc
  else ZoZ a b out ia ib mg k bc
 |_=>pure (.done (some (out++a.extract ia a.size++b.extract ib b.size),out,ia,ib,mg,ac,bc))
def loG (a b:Array Keyed)(s:LoS):StateT SortSt Sem (ForInStep LoS):=if s.2.2.2.2.1>1 then Zo0 a b s.2.1 s.2.2.1 s.2.2.2.1 (s.2.2.2.2.1-1) s.2.2.2.2.2.1 s.2.2.2.2.2.2 else Zo0 a b s.2.1 s.2.2.1 s.2.2.2.1 s.2.2.2.2.1 s.2.2.2.2.2.1 s.2.2.2.2.2.2
abbrev LoR:=Option (Array Keyed)×Array Keyed×Nat×Nat×Nat×Nat
def loP (a b:Array Keyed)(mg:Nat)(s:LoR):StateT SortSt Sem (ForInStep LoR):=do
 let p←elem' b s.2.2.2.1
 let q←elem' a s.2.2.1
 let x←lt' p q
 match x with
 |some bWins=>
  if bWins=true then do
   let p←elem' b s.2.2.2.1
   if(s.2.2.2.1+1==b.size)=true then pure (.done (some (s.2.1.push p++a.extract s.2.2.1 a.size++b.extract (s.2.2.2.1+1) b.size),s.2.1.push p,s.2.2.1,s.2.2.2.1+1,0,s.2.2.2.2.2+1))
   else if s.2.2.2.2.2+1≥mg then pure (.done (none,s.2.1.push p,s.2.2.1,s.2.2.2.1+1,0,s.2.2.2.2.2+1))
   else pure (.yield (none,s.2.1.push p,s.2.2.1,s.2.2.2.1+1,0,s.2.2.2.2.2+1))
  else do
   let p←elem' a s.2.2.1
   if(s.2.2.1+1+1==a.size)=true then pure (.done (some (s.2.1.push p++b.extract s.2.2.2.1 b.size++a.extract (s.2.2.1+1) a.size),s.2.1.push p,s.2.2.1+1,s.2.2.2.1,s.2.2.2.2.1+1,0))
   else if s.2.2.2.2.1+1≥mg then pure (.done (none,s.2.1.push p,s.2.2.1+1,s.2.2.2.1,s.2.2.2.2.1+1,0))
   else pure (.yield (none,s.2.1.push p,s.2.2.1+1,s.2.2.2.1,s.2.2.2.2.1+1,0))
 |_=>pure (.done (some (s.2.1++a.extract s.2.2.1 a.size++b.extract s.2.2.2.1 b.size),s.2.1,s.2.2.1,s.2.2.2.1,s.2.2.2.2.1,s.2.2.2.2.2))
abbrev LoO:=Option (Array Keyed)×Array Keyed×Nat×Nat×Nat
def loO (a b:Array Keyed)(s:LoO):StateT SortSt Sem (ForInStep LoO):=do
 let s1←forIn [0:a.size+b.size] ((none,s.2.1,s.2.2.1,s.2.2.2.1,0,0):LoR) fun _ s1=>loP a b s.2.2.2.2 s1
 match s1.1 with
 |some r=>pure (.done (some r,s1.2.1,s1.2.2.1,s1.2.2.2.1,s.2.2.2.2))
 |none=>do
  liftM (rule "list.sort.gallop")
  let s2←forIn [0:a.size+b.size] ((none,s1.2.1,s1.2.2.1,s1.2.2.2.1,s.2.2.2.2+1,s1.2.2.2.2.1,s1.2.2.2.2.2):LoS) fun _ s2=>loG a b s2
  match s2.1 with
  |some r=>pure (.done (some r,s2.2.1,s2.2.2.1,s2.2.2.2.1,s2.2.2.2.2.1))
  |none=>do
   ZaN (s2.2.2.2.2.1+1)
   pure (.yield (none,s2.2.1,s2.2.2.1,s2.2.2.2.1,s2.2.2.2.2.1+1))
theorem ifc {α:Type} [Decidable c]{x y z:α}(h:y=z):(if c then x else y)=(if c then x else z):=by rw[h]
theorem ifd {α:Type} [Decidable c]{x x2 y z:α}(h1:x=x2)(h:y=z):(if c then x else y)=(if c then x2 else z):=by rw[h,h1]
theorem ZfQ (a b:Array Keyed):Zdt a b=(do
 liftM (rule "list.sort.merge-lo")
 let p←elem' b 0
 if(1==b.size)=true then pure (#[p]++a.extract 0 a.size++b.extract 1 b.size)
 else if(0+1==a.size)=true then pure (#[p]++b.extract 1 b.size++a.extract 0 a.size)
 else do
  let g←get
  let s1←forIn [0:a.size+b.size] ((none,#[p],0,1,gallopOf g):LoO) fun _ s1=>loO a b s1
  match s1.1 with
  |some r=>pure r
  |none=>unsupported "internal:list.sort.merge-bound"):=by
 rw[ZgF];dsimp only;refine congrArg _ (funext fun _=>congrArg _ (funext fun p=> ?_));refine ifc (ifc ?_);refine congrArg _ (funext fun g=> ?_);congr 1
 ·congr 1
  funext x s1
  unfold loO;refine congrArg _ (funext fun s2=> ?_);obtain⟨r,s2⟩:=s2
  cases r with
  |some r=>rfl
  |none=>
   dsimp only;refine congrArg _ (funext fun _=>congrArg _ (funext fun s3=> ?_));obtain⟨r,s3⟩:=s3
   cases r with
   |some r=>rfl
   |none=>rfl
 ·funext s1
  obtain⟨r,s1⟩:=s1
  cases r with
  |some r=>rfl
  |none=>rfl
variable [KO]
theorem ZeR (h:y∈a.toList.drop j):∃i,j+i<a.size∧a[j+i]?=some y:=by
 obtain⟨i,hi⟩:=Qat.mp h;rw[Qbw,QaH] at hi;exact⟨i,(Array.getElem?_eq_some_iff.mp hi).1,hi⟩
theorem ZhA (h:y∈(a.toList.drop j).take k):∃i,i<k∧a[j+i]?=some y:=by
 obtain⟨i,hi⟩:=Qat.mp h;rw[Qbv] at hi;split at hi
 ·rw[Qbw,QaH] at hi;exact⟨i,by assumption,hi⟩
 ·cases hi
theorem srt_idx (h:Srt a.toList)(hij:i≤j)(e1:a[i]?=some p)(e2:a[j]?=some q):Zaw p≤Zaw q:=by
 refine ZfP h e1 q ?_;refine Qat.mpr ⟨j-i,?_⟩;rw[Qbw,QaH,show i+(j-i)=j by omega];exact e2
structure LoV (a b out:Array Keyed)(ia ib:Nat):Prop where
 mi:LoI a b out ia ib
 ha:ia+1<a.size
 hb:ib<b.size
section
variable {st st':SortSt} [KL prog w A s]
def OkN (a b:Array Keyed)(st:SortSt)(n0:Nat)(c:LoS)(st':SortSt):Prop:=ZcG st st'∧∃out ia ib mg ac bc,c=(none,out,ia,ib,mg,ac,bc)∧LoV a b out ia ib∧n0≤ia+ib
def OkF (a b:Array Keyed)(st:SortSt)(c:LoS)(st':SortSt):Prop:=ZcG st st'∧∃r rest,c=(some r,rest)∧Fin' (a.toList++b.toList) r.toList
def Zoc (a b:Array Keyed)(st:SortSt)(n0:Nat):ForInStep LoS→SortSt→Prop:=fun r st'=>match r with
 | .done c=>OkF a b st c st'∨OkN a b st n0 c st'
 | .yield c=>OkN a b st n0 c st'
theorem ZcX (hla:∀p,a[a.size-1]?=some p→∀y∈b.toList,Zaw y<Zaw p)(h:LoI a b out ia ib)(hi:ia+1=a.size):Fin' (a.toList++b.toList) (out++b.extract ib b.size++a.extract ia a.size).toList:=by
 refine h.last fun y hy x hx=> ?_;obtain⟨i,hi2,e⟩:=ZeR hx
 have:ia+i=a.size-1:=by omega
 rw[this] at e;exact QbP (hla x e y (Qcw hy))
theorem ZlY (hla:∀p,a[a.size-1]?=some p→∀y∈b.toList,Zaw y<Zaw p)(h:LoV a b out ia ib)(hn:n0≤ia+ib)(kp:ZcG st st')(hle:∀p,a[ia]?=some p→∀y∈b.toList.drop ib,Zaw p≤Zaw y):wpS (model prog w) A E s (ZoY a b out ia ib mg ac bc) (Zoc a b st n0) st':=by
 have ha:=h.ha;obtain⟨p,e,_⟩:=Zcj (a:=a) (i:=ia) (by omega);unfold ZoY;refine Qap (ZaG e ?_);have h1:=h.mi.pushA e (hle p e);by_cases c1:(ia+1+1==a.size)=true
 ·rw[if_pos c1];exact Qav (.inl ⟨kp,_,_,rfl,ZcX hla h1 (by simpa using c1)⟩)
 ·rw[if_neg c1];have c1:ia+1+1≠a.size:=by simpa using c1
  have v:LoV a b (out.push p) (ia+1) ib:=⟨h1,by omega,h.hb⟩;split
  ·exact Qav (.inr ⟨kp,_,_,_,_,_,_,rfl,v,by omega⟩)
  ·exact Qav ⟨kp,_,_,_,_,_,_,rfl,v,by omega⟩
theorem Zod (T:Two a b)(hk:kindOf st=KO.kd)(hla:∀p,a[a.size-1]?=some p→∀y∈b.toList,Zaw y<Zaw p)(h:LoI a b out ia ib)(ha:ia+1<a.size)(hb:ib≤b.size)(hn:n0≤ia+ib)(kp:ZcG st st'):wpS (model prog w) A E s (Zpj a b out ia ib mg ac bc) (Zoc a b st n0) st':=by
 unfold Zpj;by_cases c1:(ib==b.size)=true
 ·rw[if_pos c1];exact Qav (.inl ⟨kp,_,_,rfl,h.done (by simpa using c1)⟩)
 rw[if_neg c1];have c1:ib≠b.size:=by simpa using c1
 obtain⟨p,e,mp⟩:=Zcj (a:=a) (i:=ia) (by omega);refine Qap (ZaG e (Qap (Zc6 (kp.1.trans hk) (T.ia p mp) (by omega) (by omega) T.ib (fun i j p q hij _ e1 e2=>srt_idx T.sb (by omega) e1 e2) fun k hk1 hlt hge=> ?_)));dsimp only
 have ge:∀y∈b.toList.drop (ib+k),Zaw p≤Zaw y:=fun y hy=>by
  obtain⟨i,hi,ei⟩:=ZeR hy
  have:=hge (k+i) y (by omega) (by omega) (by rw[←Qd4];exact ei);unfold Zca at this;rw[if_pos rfl] at this
  have:=Qa6 this;omega
 by_cases c2:k>0
 ·rw[if_pos c2]
  have h2:=h.blockB (k:=k) fun x hx y hy=>by
   obtain⟨i,hi,ei⟩:=ZhA hx
   have:=hlt i x hi ei;unfold Zca at this;rw[if_pos rfl] at this
   have:=QaK this
   have:=ZfP T.sa e y hy;omega
  by_cases c3:(ib+k==b.size)=true
  ·rw[if_pos c3];exact Qav (.inl ⟨kp,_,_,rfl,h2.done (by simpa using c3)⟩)
  ·rw[if_neg c3];have c3:ib+k≠b.size:=by simpa using c3
   exact ZlY hla ⟨h2,ha,by omega⟩ (by omega) kp fun p' e'=>by rw[e] at e';cases e';exact ge
 ·rw[if_neg c2];have k0:k=0:=by omega
  subst k0;exact ZlY hla ⟨h,ha,by omega⟩ hn kp fun p' e'=>by rw[e] at e';cases e';exact ge
theorem ZlZ (T:Two a b)(hk:kindOf st=KO.kd)(hla:∀p,a[a.size-1]?=some p→∀y∈b.toList,Zaw y<Zaw p)(h:LoV a b out ia ib)(hn:n0≤ia+ib)(kp:ZcG st st')(hle:∀p,b[ib]?=some p→∀y∈a.toList.drop ia,Zaw p≤Zaw y):wpS (model prog w) A E s (ZoZ a b out ia ib mg ac bc) (Zoc a b st n0) st':=by
 have hb:=h.hb;obtain⟨p,e,_⟩:=Zcj (a:=b) (i:=ib) hb;unfold ZoZ;exact Qap (ZaG e (Zod T hk hla (h.mi.pushB e (hle p e)) h.ha (by omega) (by omega) kp))
theorem Zl0 (T:Two a b)(hk:kindOf st=KO.kd)(hla:∀p,a[a.size-1]?=some p→∀y∈b.toList,Zaw y<Zaw p)(h:LoV a b out ia ib)(hn:n0≤ia+ib)(kp:ZcG st st'):wpS (model prog w) A E s (Zo0 a b out ia ib mg ac bc) (Zoc a b st n0) st':=by
 have hb:=h.hb;have ha:=h.ha;obtain⟨p,e,mp⟩:=Zcj (a:=b) (i:=ib) hb;unfold Zo0;rw[Zbu];refine Qap (QbZ ?_);have kp:=kp.gal mg;refine Qap (ZaG e (Qap (Zc6 (kp.1.trans hk) (T.ib p mp) (by omega) (by omega) T.ia (fun i j p q hij _ e1 e2=>srt_idx T.sa (by omega) e1 e2) fun k hk1 hlt hge=> ?_)));dsimp only
 have ge:∀y∈a.toList.drop (ia+k),Zaw p≤Zaw y:=fun y hy=>by
  obtain⟨i,hi,ei⟩:=ZeR hy
  have:=hge (k+i) y (by omega) (by omega) (by rw[←Qd4];exact ei);unfold Zca at this;rw[if_neg (by decide)] at this
  cases z:decide (Zaw p<Zaw y) with
  |true=>have:=QaK z;omega
  |false=>rw[z] at this;cases this
 have lt:∀(i:Nat) (x:Keyed),i<k→a[ia+i]?=some x→Zaw x≤Zaw p:=fun i x hi ei=>by
  have:=hlt i x hi ei;unfold Zca at this;rw[if_neg (by decide)] at this
  cases z:decide (Zaw p<Zaw x) with
  |true=>rw[z] at this;cases this
  |false=>have:=Qa6 z;omega
 by_cases c2:k>0
 ·rw[if_pos c2]
  have h2:=h.mi.blockA (k:=k) fun x hx y hy=>by
   obtain⟨i,hi,ei⟩:=ZhA hx
   have:=lt i x hi ei
   have:=ZfP T.sb e y hy;omega
  by_cases c3:(ia+k+1==a.size)=true
  ·rw[if_pos c3];exact Qav (.inl ⟨kp,_,_,rfl,ZcX hla h2 (by simpa using c3)⟩)
  rw[if_neg c3];have c3:ia+k+1≠a.size:=by simpa using c3
  by_cases c4:(ia+k==a.size)=true
  ·have c4:ia+k=a.size:=by simpa using c4
   exfalso;obtain⟨x,ex,_⟩:=Zcj (a:=a) (i:=a.size-1) (by omega);have h3:=hla x ex p mp;have h4:=lt (k-1) x (by omega) (by rw[show ia+(k-1)=a.size-1 by omega];exact ex);omega
  ·rw[if_neg c4];have c4:ia+k≠a.size:=by simpa using c4
   exact ZlZ T hk hla ⟨h2,by omega,hb⟩ (by omega) kp fun p' e'=>by rw[e] at e';cases e';exact ge
 ·rw[if_neg c2];have k0:k=0:=by omega
  subst k0;exact ZlZ T hk hla h hn kp fun p' e'=>by rw[e] at e';cases e';exact ge
theorem Zpk (T:Two a b)(hk:kindOf st=KO.kd)(hla:∀p,a[a.size-1]?=some p→∀y∈b.toList,Zaw y<Zaw p){c:LoS}(h:OkN a b st n0 c st'):wpS (model prog w) A E s (loG a b c) (Zoc a b st n0) st':=by
 obtain⟨kp,out,ia,ib,mg,ac,bc,rfl,v,hn⟩:=h;unfold loG;dsimp only;split
 ·exact Zl0 T hk hla v hn kp
 ·exact Zl0 T hk hla v hn kp
def OkR (a b:Array Keyed)(st:SortSt)(n0:Nat)(c:LoR)(st':SortSt):Prop:=ZcG st st'∧∃out ia ib ac bc,c=(none,out,ia,ib,ac,bc)∧LoV a b out ia ib∧n0≤ia+ib
def ZpF (a b:Array Keyed)(st:SortSt)(c:LoR)(st':SortSt):Prop:=ZcG st st'∧∃r rest,c=(some r,rest)∧Fin' (a.toList++b.toList) r.toList
theorem Zpl (T:Two a b)(hk:kindOf st=KO.kd)(hla:∀p,a[a.size-1]?=some p→∀y∈b.toList,Zaw y<Zaw p){c:LoR}(h:OkR a b st n0 c st'):wpS (model prog w) A E s (loP a b mg c) (fun r st'=>match r with
  | .done c=>ZpF a b st c st'∨OkR a b st (n0+1) c st'
  | .yield c=>OkR a b st (n0+1) c st') st':=by
 obtain⟨kp,out,ia,ib,ac,bc,rfl,v,hn⟩:=h;have hb:=v.hb;have ha:=v.ha;obtain⟨p,e,mp⟩:=Zcj (a:=b) (i:=ib) hb;obtain⟨q,e2,mq⟩:=Zcj (a:=a) (i:=ia) (by omega);unfold loP;refine Qap (ZaG e (Qap (ZaG e2 (Qap (ZdN (kp.1.trans hk) (T.ib p mp) (T.ia q mq) ?_)))));dsimp only;by_cases hlt:Zaw p<Zaw q
 ·rw[Qan hlt,if_pos rfl];refine Qap (ZaG e ?_);have h1:=v.mi.pushB e fun y hy=>by have:=ZfP T.sa e2 y hy;omega
  by_cases c1:(ib+1==b.size)=true
  ·rw[if_pos c1];exact Qav (.inl ⟨kp,_,_,rfl,h1.done (by simpa using c1)⟩)
  rw[if_neg c1];have c1:ib+1≠b.size:=by simpa using c1
  have v1:LoV a b (out.push p) ia (ib+1):=⟨h1,ha,by omega⟩;split
  ·exact Qav (.inr ⟨kp,_,_,_,_,_,rfl,v1,by omega⟩)
  ·exact Qav ⟨kp,_,_,_,_,_,rfl,v1,by omega⟩
 ·rw[Qal hlt,if_neg (by decide)];refine Qap (ZaG e2 ?_);have h1:=v.mi.pushA e2 fun y hy=>by have:=ZfP T.sb e y hy;omega
  by_cases c1:(ia+1+1==a.size)=true
  ·rw[if_pos c1];exact Qav (.inl ⟨kp,_,_,rfl,ZcX hla h1 (by simpa using c1)⟩)
  rw[if_neg c1];have c1:ia+1+1≠a.size:=by simpa using c1
  have v1:LoV a b (out.push q) (ia+1) ib:=⟨h1,by omega,hb⟩;split
  ·exact Qav (.inr ⟨kp,_,_,_,_,_,rfl,v1,by omega⟩)
  ·exact Qav ⟨kp,_,_,_,_,_,rfl,v1,by omega⟩
theorem ZgH {Q:Array Keyed→SortSt→Prop}(T:Two a b)(hk:kindOf st=KO.kd)(a1:1≤a.size)(b1:1≤b.size)(h0:∀p,b[0]?=some p→∀x∈a.toList,Zaw p≤Zaw x)(hla:∀p,a[a.size-1]?=some p→∀y∈b.toList,Zaw y<Zaw p)
  (h:∀r st',ZcG st st'→Fin' (a.toList++b.toList) r.toList→Q r st'):wpS (model prog w) A E s (Zdt a b) Q st:=by
 rw[ZfQ];refine Qap (Qdl (Qcj ⟨rfl,?_⟩));obtain⟨p,e,mp⟩:=Zcj (a:=b) (i:=0) (by omega);refine Qap (ZaG e ?_);have st0:LoI a b #[] 0 0:=⟨by show(a.toList++b.toList).Perm _;exact QcC _,Qcs,by rw[Qck];exact T.sa,by rw[Qck];exact T.sb,fun x hx=>by cases hx⟩;have st1:LoI a b #[p] 0 1:=st0.pushB e (h0 p e);by_cases c1:(1==b.size)=true
 ·rw[if_pos c1];exact Qav (h _ _ (ZcG.refl st) (st1.done (by simpa using c1)))
 rw[if_neg c1];have c1:1≠b.size:=by simpa using c1
 by_cases c2:(0+1==a.size)=true
 ·rw[if_pos c2];exact Qav (h _ _ (ZcG.refl st) (ZcX hla st1 (by simpa using c2)))
 rw[if_neg c2];have c2:1≠a.size:=by simpa using c2
 refine Qap (QcI ?_)
 refine Qap (Qbz (Qbc (I:=fun x c st'=>ZcG st st'∧∃out ia ib mg,c=(none,out,ia,ib,mg)∧LoV a b out ia ib∧x≤ia+ib)
  (Q:=fun c st'=>ZcG st st'∧∃r rest,c=(some r,rest)∧Fin' (a.toList++b.toList) r.toList) ?step ?fin ⟨ZcG.refl st,_,_,_,_,rfl,⟨st1,by omega,by omega⟩,by omega⟩) ?post)
 case post=>
  rintro c st' ⟨kp,r,rest,rfl,f⟩;exact Qav (h r st' kp f)
 case fin=>
  rintro c st' ⟨kp,out,ia,ib,mg,rfl,v,hx⟩
  have:=v.ha
  have:=v.hb;omega
 case step=>
  rintro x c st1 _ hx ⟨kp,out,ia,ib,mg,rfl,v,hn⟩;unfold loO;dsimp only;refine Qap (Qbz (Qbc (I:=fun y c st'=>OkR a b st (x+y) c st') (Q:=fun c st'=>ZpF a b st c st'∨OkR a b st (x+1) c st') ?_ ?_ ⟨kp,_,_,_,_,_,rfl,v,hn⟩) ?_)
  ·rintro y c st2 _ hy hR;refine Qbz (Zpl T hk hla hR) fun r st3 hr=> ?_
   cases r with
   |done c=>
    rcases hr with hr|⟨k3,out,ia,ib,ac,bc,e3,v3,n3⟩
    ·exact .inl hr
    ·exact .inr ⟨k3,out,ia,ib,ac,bc,e3,v3,by omega⟩
   |yield c=>exact hr
  ·rintro c st2 ⟨k3,out,ia,ib,ac,bc,e3,v3,n3⟩;exact .inr ⟨k3,out,ia,ib,ac,bc,e3,v3,by omega⟩
  ·rintro c st2 (⟨k2,r,rest,rfl,f⟩|⟨k2,out2,ia2,ib2,ac2,bc2,rfl,v2,n2⟩)
   ·exact Qav ⟨k2,_,_,rfl,f⟩
   ·dsimp only;refine Qap (Qdl (Qcj ⟨rfl,?_⟩));refine Qap (Qbz (Qbc (I:=fun y c st'=>OkN a b st (x+1) c st') (Q:=fun c st'=>OkF a b st c st'∨OkN a b st (x+1) c st') ?_ ?_ ⟨k2,_,_,_,_,_,_,rfl,v2,n2⟩) ?_)
    ·rintro y c st3 _ hy hR;refine Qbz (Zpk T hk hla hR) fun r st4 hr=> ?_
     cases r with
     |done c=>exact hr
     |yield c=>exact hr
    ·exact fun c st3 hR=> .inr hR
    ·rintro c st3 (⟨k3,r,rest,rfl,f⟩|⟨k3,out3,ia3,ib3,mg3,ac3,bc3,rfl,v3,n3⟩)
     ·exact Qav ⟨k3,_,_,rfl,f⟩
     ·dsimp only;rw[Zbu];exact Qap (QbZ (Qav ⟨k3.gal _,_,_,_,_,rfl,v3,by omega⟩))
end
variable [KO]
theorem ZgI (a b:Array Keyed):Zdu a b=(do
 rule "list.sort.merge-hi"
 let total:=a.size+b.size
 let done (out:Array Keyed) (na nb:Nat):=a.extract 0 na++b.extract 0 nb++out.reverse
 let firstOfB (out:Array Keyed) (na nb:Nat):=b.extract 0 nb++a.extract 0 na++out.reverse
 let mut na:=a.size-1
 let mut nb:=b.size
 let mut out:Array Keyed:=#[←elem' a na]
 if na==0 then return done out na nb
 if nb==1 then return firstOfB out na nb
 let mut minGallop:=gallopOf (←get)
 for _ in [0:total] do
  let mut acount:=0
  let mut bcount:=0
  for _ in [0:total] do
   let some aWins←lt' (←elem' b (nb-1)) (←elem' a (na-1))|return done out na nb
   if aWins then
    na:=na-1;out:=out.push (←elem' a na);acount:=acount+1;bcount:=0
    if na==0 then return done out na nb
    if acount≥minGallop then break
   else
    nb:=nb-1;out:=out.push (←elem' b nb);bcount:=bcount+1;acount:=0
    if nb==1 then return firstOfB out na nb
    if bcount≥minGallop then break
  rule "list.sort.gallop"
  minGallop:=minGallop+1
  for _ in [0:total] do
   if minGallop>1 then minGallop:=minGallop-1
   ZaN minGallop
   let some at_←ZbQ false (←elem' b (nb-1)) a 0 na (na-1)|return done out na nb
   let k:=na-at_
   acount:=k
   if k>0 then
    out:=out++(a.extract at_ na).reverse;na:=at_
    if na==0 then return done out na nb
   nb:=nb-1;out:=out.push (←elem' b nb)
   if nb==1 then return firstOfB out na nb
   let some at_←ZbQ true (←elem' a (na-1)) b 0 nb (nb-1)|return done out na nb
   let k:=nb-at_
   bcount:=k
   if k>0 then
    out:=out++(b.extract at_ nb).reverse;nb:=at_
    if nb==1 then return firstOfB out na nb
    if nb==0 then return done out na nb
   na:=na-1;out:=out.push (←elem' a na)
   if na==0 then return done out na nb
   if acount<7 && bcount<7 then break
  minGallop:=minGallop+1
  ZaN minGallop
 unsupported "internal:list.sort.merge-bound"):=rfl
structure HI (L X Y o:List Keyed):Prop where
 perm:((X++Y)++o).Perm L
 so:Srt o
 sx:Srt X
 sy:Srt Y
 le:∀y∈X++Y,∀z∈o,Zaw y≤Zaw z
theorem HI.moveA {P:List Keyed}(h:HI L (X++P) Y o)(hp:∀p∈P,∀y∈Y,Zaw y≤Zaw p):HI L X Y (P++o):=by
 refine⟨?_,Zci (Zjy h.sx) h.so fun x hx y hy=>h.le x (QaL _ (Qas _ hx)) y hy,Zjx h.sx,h.sy,fun y hy z hz=> ?_⟩
 ·refine List.Perm.trans ?_ h.perm;rw[←Qaw];refine Qcl o ?_;rw[Qaw,Qaw];exact Qbq X Qdc
 ·rcases Qaq.mp hz with hz|hz
  ·rcases Qaq.mp hy with hy|hy
   ·exact Zet h.sx y hy z hz
   ·exact hp z hz y hy
  ·refine h.le y ?_ z hz;rcases Qaq.mp hy with hy|hy
   ·exact QaL _ (QaL _ hy)
   ·exact Qas _ hy
theorem HI.moveB {P:List Keyed}(h:HI L X (Y++P) o)(hp:∀p∈P,∀x∈X,Zaw x≤Zaw p):HI L X Y (P++o):=by
 refine⟨?_,Zci (Zjy h.sy) h.so fun x hx y hy=>h.le x (Qas _ (Qas _ hx)) y hy,h.sx,Zjx h.sy,fun y hy z hz=> ?_⟩
 ·have:=h.perm;rw[←Qaw,Qaw] at this;rw[←Qaw] at this;rw[←Qaw];simpa[Qaw] using this
 ·rcases Qaq.mp hz with hz|hz
  ·rcases Qaq.mp hy with hy|hy
   ·exact hp z hz y hy
   ·exact Zet h.sy y hy z hz
  ·refine h.le y ?_ z hz;rcases Qaq.mp hy with hy|hy
   ·exact QaL _ hy
   ·exact Qas _ (QaL _ hy)
theorem HI.endA (h:HI L [] Y o):Fin' L (Y++o):=⟨h.perm,Zci h.sy h.so fun y hy z hz=>h.le y hy z hz⟩
theorem HI.firstB (h:HI L X Y o)(hp:∀p∈X,∀y∈Y,Zaw y≤Zaw p):Fin' L (Y++X++o):=by
 have h2:HI L ([]++X) Y o:=h;rw[Qaw];exact(h2.moveA hp).endA
theorem ZeS (a:Array Keyed)(n:Nat):(a.extract 0 n).toList=a.toList.take n:=by
 rw[Qb4,QbO,Qck,Nat.sub_zero]
theorem Zjz (a:Array Keyed)(m n:Nat):(a.extract m n).toList=(a.toList.take n).drop m:=by
 rw[Qb4,QbO,List.drop_take]
theorem ZjA (e:a[i]?=some p):a.toList.take (i+1)=a.toList.take i++ [p]:=by
 have h:a.toList[i]?=some p:=by rw[QaH];exact e
 rw[Qc1,h];rfl
def HiI (a b out:Array Keyed)(na nb:Nat):Prop:=HI (a.toList++b.toList) (a.toList.take na) (b.toList.take nb) out.toList.reverse
theorem HiI.pushA {nb:Nat}(h:HiI a b out (na+1) nb)(e:a[na]?=some p)(hp:∀y∈b.toList.take nb,Zaw y≤Zaw p):HiI a b (out.push p) na nb:=by
 unfold HiI at h⊢;rw[ZjA e] at h;rw[Qcu,QcK];exact HI.moveA (P:=[p]) h fun q hq y hy=>by rw[QaE.mp hq];exact hp y hy
theorem HiI.pushB {nb:Nat}(h:HiI a b out na (nb+1))(e:b[nb]?=some p)(hp:∀y∈a.toList.take na,Zaw y≤Zaw p):HiI a b (out.push p) na nb:=by
 unfold HiI at h⊢;rw[ZjA e] at h;rw[Qcu,QcK];exact HI.moveB (P:=[p]) h fun q hq y hy=>by rw[QaE.mp hq];exact hp y hy
theorem HiI.blockA {nb:Nat}(h:HiI a b out na nb)(hm:m≤na)(hp:∀x∈(a.toList.take na).drop m,∀y∈b.toList.take nb,Zaw y≤Zaw x):HiI a b (out++(a.extract m na).reverse) m nb:=by
 unfold HiI at h⊢;rw[Qbg,QcK,Qcx,List.reverse_reverse,Zjz];rw[←QaT m (a.toList.take na),List.take_take,Qcq hm] at h;exact h.moveA hp
theorem HiI.blockB {nb:Nat}(h:HiI a b out na nb)(hm:m≤nb)(hp:∀x∈(b.toList.take nb).drop m,∀y∈a.toList.take na,Zaw y≤Zaw x):HiI a b (out++(b.extract m nb).reverse) na m:=by
 unfold HiI at h⊢;rw[Qbg,QcK,Qcx,List.reverse_reverse,Zjz];rw[←QaT m (b.toList.take nb),List.take_take,Qcq hm] at h;exact h.moveB hp
theorem HiI.done {nb:Nat}(h:HiI a b out 0 nb):Fin' (a.toList++b.toList) (a.extract 0 0++b.extract 0 nb++out.reverse).toList:=by
 unfold HiI at h;rw[Qbg,Qbg,ZeS,ZeS,Qcx];exact HI.endA h
theorem HiI.first {nb:Nat}(h:HiI a b out na nb)(hp:∀p∈a.toList.take na,∀y∈b.toList.take nb,Zaw y≤Zaw p):Fin' (a.toList++b.toList) (b.extract 0 nb++a.extract 0 na++out.reverse).toList:=by
 rw[Qbg,Qbg,ZeS,ZeS,Qcx];exact HI.firstB h hp
variable [KO]
abbrev HiS:=Option (Array Keyed)×Nat×Nat×Array Keyed×Nat×Nat×Nat
def Zo1 (a b:Array Keyed)(na nb:Nat)(out:Array Keyed)(mg ac bc:Nat):StateT SortSt Sem (ForInStep HiS):=do
 let p←elem' a (na-1)
 if(na-1==0)=true then pure (.done (some (a.extract 0 (na-1)++b.extract 0 nb++(out.push p).reverse),na-1,nb,out.push p,mg,ac,bc))
 else if(decide (ac<7) && decide (bc<7))=true then pure (.done (none,na-1,nb,out.push p,mg,ac,bc)) else pure (.yield (none,na-1,nb,out.push p,mg,ac,bc))
def Zpm (a b:Array Keyed)(na nb:Nat)(out:Array Keyed)(mg ac bc:Nat):StateT SortSt Sem (ForInStep HiS):=
 if(nb==1)=true then pure (.done (some (b.extract 0 nb++a.extract 0 na++out.reverse),na,nb,out,mg,ac,bc))
 else do
  let p←elem' a (na-1)
  let x←ZbQ true p b 0 nb (nb-1)
  match x with
  |some m=>
   if nb-m>0 then
    if(m==1)=true then pure (.done (some (b.extract 0 m++a.extract 0 na++(out++(b.extract m nb).reverse).reverse),na,m,out++(b.extract m nb).reverse,mg,ac,nb-m))
    else if(m==0)=true then pure (.done (some (a.extract 0 na++b.extract 0 m++(out++(b.extract m nb).reverse).reverse),na,m,out++(b.extract m nb).reverse,mg,ac,nb-m))
    else Zo1 a b na m (out++(b.extract m nb).reverse) mg ac (nb-m)
   else Zo1 a b na nb out mg ac (nb-m)
  |_=>pure (.done (some (a.extract 0 na++b.extract 0 nb++out.reverse),na,nb,out,mg,ac,bc))
def Zo2 (a b:Array Keyed)(na nb:Nat)(out:Array Keyed)(mg ac bc:Nat):StateT SortSt Sem (ForInStep HiS):=do
 let p←elem' b (nb-1)
 Zpm a b na (nb-1) (out.push p) mg ac bc
def Zo3 (a b:Array Keyed)(na nb:Nat)(out:Array Keyed)(mg ac bc:Nat):StateT SortSt Sem (ForInStep HiS):=do
 ZaN mg
 let p←elem' b (nb-1)
 let x←ZbQ false p a 0 na (na-1)
 match x with
 |some m=>
  if na-m>0 then
   if(m==0)=true then pure (.done (some (a.extract 0 m++b.extract 0 nb++(out++(a.extract m na).reverse).reverse),m,nb,out++(a.extract m na).reverse,mg,na-m,bc))
   else Zo2 a b m nb (out++(a.extract m na).reverse) mg (na-m) bc
  else Zo2 a b na nb out mg (na-m) bc
 |_=>pure (.done (some (a.extract 0 na++b.extract 0 nb++out.reverse),na,nb,out,mg,ac,bc))
def hiG (a b:Array Keyed)(s:HiS):StateT SortSt Sem (ForInStep HiS):=if s.2.2.2.2.1>1 then Zo3 a b s.2.1 s.2.2.1 s.2.2.2.1 (s.2.2.2.2.1-1) s.2.2.2.2.2.1 s.2.2.2.2.2.2 else Zo3 a b s.2.1 s.2.2.1 s.2.2.2.1 s.2.2.2.2.1 s.2.2.2.2.2.1 s.2.2.2.2.2.2
abbrev HiR:=Option (Array Keyed)×Nat×Nat×Array Keyed×Nat×Nat
def hiP (a b:Array Keyed)(mg:Nat)(s:HiR):StateT SortSt Sem (ForInStep HiR):=do
 let p←elem' b (s.2.2.1-1)
 let q←elem' a (s.2.1-1)
 let x←lt' p q
 match x with
 |some aWins=>
  if aWins=true then do
   let p←elem' a (s.2.1-1)
   if(s.2.1-1==0)=true then pure (.done (some (a.extract 0 (s.2.1-1)++b.extract 0 s.2.2.1++(s.2.2.2.1.push p).reverse),s.2.1-1,s.2.2.1,s.2.2.2.1.push p,s.2.2.2.2.1+1,0))
   else if s.2.2.2.2.1+1≥mg then pure (.done (none,s.2.1-1,s.2.2.1,s.2.2.2.1.push p,s.2.2.2.2.1+1,0))
   else pure (.yield (none,s.2.1-1,s.2.2.1,s.2.2.2.1.push p,s.2.2.2.2.1+1,0))
  else do
   let p←elem' b (s.2.2.1-1)
   if(s.2.2.1-1==1)=true then pure (.done (some (b.extract 0 (s.2.2.1-1)++a.extract 0 s.2.1++(s.2.2.2.1.push p).reverse),s.2.1,s.2.2.1-1,s.2.2.2.1.push p,0,s.2.2.2.2.2+1))
   else if s.2.2.2.2.2+1≥mg then pure (.done (none,s.2.1,s.2.2.1-1,s.2.2.2.1.push p,0,s.2.2.2.2.2+1))
   else pure (.yield (none,s.2.1,s.2.2.1-1,s.2.2.2.1.push p,0,s.2.2.2.2.2+1))
 |_=>pure (.done (some (a.extract 0 s.2.1++b.extract 0 s.2.2.1++s.2.2.2.1.reverse),s.2.1,s.2.2.1,s.2.2.2.1,s.2.2.2.2.1,s.2.2.2.2.2))
abbrev HiO:=Option (Array Keyed)×Nat×Nat×Array Keyed×Nat
def hiO (a b:Array Keyed)(s:HiO):StateT SortSt Sem (ForInStep HiO):=do
 let s1←forIn [0:a.size+b.size] ((none,s.2.1,s.2.2.1,s.2.2.2.1,0,0):HiR) fun _ s1=>hiP a b s.2.2.2.2 s1
 match s1.1 with
 |some r=>pure (.done (some r,s1.2.1,s1.2.2.1,s1.2.2.2.1,s.2.2.2.2))
 |none=>do
  liftM (rule "list.sort.gallop")
  let s2←forIn [0:a.size+b.size] ((none,s1.2.1,s1.2.2.1,s1.2.2.2.1,s.2.2.2.2+1,s1.2.2.2.2.1,s1.2.2.2.2.2):HiS) fun _ s2=>hiG a b s2
  match s2.1 with
  |some r=>pure (.done (some r,s2.2.1,s2.2.2.1,s2.2.2.2.1,s2.2.2.2.2.1))
  |none=>do
   ZaN (s2.2.2.2.2.1+1)
   pure (.yield (none,s2.2.1,s2.2.2.1,s2.2.2.2.1,s2.2.2.2.2.1+1))
theorem ZfR (a b:Array Keyed):Zdu a b=(do
 liftM (rule "list.sort.merge-hi")
 let p←elem' a (a.size-1)
 if(a.size-1==0)=true then pure (a.extract 0 (a.size-1)++b.extract 0 b.size++ #[p].reverse)
 else if(b.size==1)=true then pure (b.extract 0 b.size++a.extract 0 (a.size-1)++ #[p].reverse)
 else do
  let g←get
  let s1←forIn [0:a.size+b.size] ((none,a.size-1,b.size,#[p],gallopOf g):HiO) fun _ s1=>hiO a b s1
  match s1.1 with
  |some r=>pure r
  |none=>unsupported "internal:list.sort.merge-bound"):=by
 rw[ZgI];dsimp only;refine congrArg _ (funext fun _=>congrArg _ (funext fun p=> ?_));refine ifc (ifc ?_);refine congrArg _ (funext fun g=> ?_);congr 1
 ·congr 1
  funext x s1
  unfold hiO;refine congrArg _ (funext fun s2=> ?_);obtain⟨r,s2⟩:=s2
  cases r with
  |some r=>rfl
  |none=>
   dsimp only;refine congrArg _ (funext fun _=>congrArg _ (funext fun s3=> ?_));obtain⟨r,s3⟩:=s3
   cases r with
   |some r=>rfl
   |none=>rfl
 ·funext s1
  obtain⟨r,s1⟩:=s1
  cases r with
  |some r=>rfl
  |none=>rfl
variable [KO]
theorem ZgJ (h:y∈(a.toList.take n).drop m):∃i,m≤i∧i<n∧a[i]?=some y:=by
 obtain⟨i,hi⟩:=Qat.mp h;rw[Qbw,Qbv] at hi;split at hi
 ·rw[QaH] at hi;exact⟨m+i,by omega,by assumption,hi⟩
 ·cases hi
theorem Zc7 (h:y∈a.toList.take n):∃i,i<n∧a[i]?=some y:=by
 obtain⟨i,_,h2,h3⟩:=ZgJ (m:=0) (n:=n) (a:=a) (y:=y) (by rw[Qck];exact h);exact⟨i,h2,h3⟩
theorem ZeT (h:Srt a.toList)(e:a[n-1]?=some p):∀y∈a.toList.take n,Zaw y≤Zaw p:=fun y hy=>by
 obtain⟨i,hi,ei⟩:=Zc7 hy;exact srt_idx h (by omega) ei e
structure HiV (a b out:Array Keyed)(na nb:Nat):Prop where
 mi:HiI a b out na nb
 ha:0<na
 ha2:na≤a.size
 hb:1<nb
 hb2:nb≤b.size
section
variable {st st':SortSt} [KL prog w A s]
def OhN (a b:Array Keyed)(st:SortSt)(n0:Nat)(c:HiS)(st':SortSt):Prop:=ZcG st st'∧∃na nb out mg ac bc,c=(none,na,nb,out,mg,ac,bc)∧HiV a b out na nb∧na+nb+n0≤a.size+b.size
def OhF (a b:Array Keyed)(st:SortSt)(c:HiS)(st':SortSt):Prop:=ZcG st st'∧∃r rest,c=(some r,rest)∧Fin' (a.toList++b.toList) r.toList
def Zoe (a b:Array Keyed)(st:SortSt)(n0:Nat):ForInStep HiS→SortSt→Prop:=fun r st'=>match r with
 | .done c=>OhF a b st c st'∨OhN a b st n0 c st'
 | .yield c=>OhN a b st n0 c st'
theorem ZcH (h0:∀p,b[0]?=some p→∀x∈a.toList,Zaw p<Zaw x){nb:Nat}(h:HiI a b out na nb)(hi:nb=1):Fin' (a.toList++b.toList) (b.extract 0 nb++a.extract 0 na++out.reverse).toList:=by
 refine h.first fun p hp y hy=> ?_;obtain⟨i,hi2,e⟩:=Zc7 hy
 have:i=0:=by omega
 subst this;exact QbP (h0 y e p (QbS hp))
theorem ZeU {nb:Nat}(h:HiI a b out na nb)(hi:na=0):Fin' (a.toList++b.toList) (a.extract 0 na++b.extract 0 nb++out.reverse).toList:=by
 subst hi;exact h.done
theorem Zl1 {nb:Nat}(h:HiV a b out na nb)(hn:na+nb+n0≤a.size+b.size)(kp:ZcG st st')(hle:∀p,a[na-1]?=some p→∀y∈b.toList.take nb,Zaw y≤Zaw p):wpS (model prog w) A E s (Zo1 a b na nb out mg ac bc) (Zoe a b st n0) st':=by
 have ha:=h.ha;have ha2:=h.ha2;obtain⟨p,e,_⟩:=Zcj (a:=a) (i:=na-1) (by omega);unfold Zo1;refine Qap (ZaG e ?_);have h1:HiI a b (out.push p) (na-1) nb:=HiI.pushA (by rw[show na-1+1=na by omega];exact h.mi) e (hle p e);by_cases c1:(na-1==0)=true
 ·rw[if_pos c1];exact Qav (.inl ⟨kp,_,_,rfl,ZeU h1 (by simpa using c1)⟩)
 ·rw[if_neg c1];have c1:na-1≠0:=by simpa using c1
  have v:HiV a b (out.push p) (na-1) nb:=⟨h1,by omega,by omega,h.hb,h.hb2⟩;split
  ·exact Qav (.inr ⟨kp,_,_,_,_,_,_,rfl,v,by omega⟩)
  ·exact Qav ⟨kp,_,_,_,_,_,_,rfl,v,by omega⟩
theorem Zof (T:Two a b)(hk:kindOf st=KO.kd)(h0:∀p,b[0]?=some p→∀x∈a.toList,Zaw p<Zaw x){nb:Nat}(h:HiI a b out na nb)(ha:0<na)(ha2:na≤a.size)(hb:1≤nb)(hb2:nb≤b.size)(hn:na+nb+n0≤a.size+b.size)(kp:ZcG st st'):wpS (model prog w) A E s (Zpm a b na nb out mg ac bc) (Zoe a b st n0) st':=by
 unfold Zpm;by_cases c1:(nb==1)=true
 ·rw[if_pos c1];exact Qav (.inl ⟨kp,_,_,rfl,ZcH h0 h (by simpa using c1)⟩)
 rw[if_neg c1];have c1:nb≠1:=by simpa using c1
 obtain⟨p,e,mp⟩:=Zcj (a:=a) (i:=na-1) (by omega);refine Qap (ZaG e (Qap (Zc6 (kp.1.trans hk) (T.ia p mp) (by omega) (by omega) T.ib (fun i j p q hij _ e1 e2=>srt_idx T.sb (by omega) e1 e2) fun k hk1 hlt hge=> ?_)));dsimp only
 have ge:∀(i:Nat) (y:Keyed),k≤i→i<nb→b[i]?=some y→Zaw p≤Zaw y:=fun i y hi1 hi2 ei=>by
  have:=hge i y hi1 hi2 (by rw[Qca];exact ei);unfold Zca at this;rw[if_pos rfl] at this
  have:=Qa6 this;omega
 have lt:∀(i:Nat) (y:Keyed),i<k→b[i]?=some y→Zaw y<Zaw p:=fun i y hi ei=>by
  have:=hlt i y hi (by rw[Qca];exact ei);unfold Zca at this;rw[if_pos rfl] at this;exact QaK this
 by_cases c2:nb-k>0
 ·rw[if_pos c2]
  have h2:=h.blockB (m:=k) (by omega) fun x hx y hy=>by
   obtain⟨i,hi1,hi2,ei⟩:=ZgJ hx
   have:=ge i x hi1 hi2 ei
   have:=ZeT T.sa e y hy;omega
  by_cases c3:(k==1)=true
  ·rw[if_pos c3];exact Qav (.inl ⟨kp,_,_,rfl,ZcH h0 h2 (by simpa using c3)⟩)
  rw[if_neg c3];have c3:k≠1:=by simpa using c3
  by_cases c4:(k==0)=true
  ·have c4:k=0:=by simpa using c4
   exfalso;obtain⟨x,ex,_⟩:=Zcj (a:=b) (i:=0) (by omega);have h3:=h0 x ex p mp;have h4:=ge 0 x (by omega) (by omega) ex;omega
  ·rw[if_neg c4];have c4:k≠0:=by simpa using c4
   refine Zl1 ⟨h2,ha,ha2,by omega,by omega⟩ (by omega) kp fun p' e' y hy=> ?_;rw[e] at e';cases e';obtain⟨i,hi,ei⟩:=Zc7 hy;exact QbP (lt i y hi ei)
 ·rw[if_neg c2];refine Zl1 ⟨h,ha,ha2,by omega,hb2⟩ hn kp fun p' e' y hy=> ?_;rw[e] at e';cases e';obtain⟨i,hi,ei⟩:=Zc7 hy;exact QbP (lt i y (by omega) ei)
theorem Zl2 (T:Two a b)(hk:kindOf st=KO.kd)(h0:∀p,b[0]?=some p→∀x∈a.toList,Zaw p<Zaw x){nb:Nat}(h:HiV a b out na nb)(hn:na+nb+n0≤a.size+b.size)(kp:ZcG st st')(hle:∀p,b[nb-1]?=some p→∀y∈a.toList.take na,Zaw y≤Zaw p):wpS (model prog w) A E s (Zo2 a b na nb out mg ac bc) (Zoe a b st n0) st':=by
 have hb:=h.hb;have hb2:=h.hb2;obtain⟨p,e,_⟩:=Zcj (a:=b) (i:=nb-1) (by omega);unfold Zo2;exact Qap (ZaG e (Zof T hk h0 (HiI.pushB (by rw[show nb-1+1=nb by omega];exact h.mi) e (hle p e)) h.ha h.ha2 (by omega) (by omega) (by omega) kp))
theorem Zl3 (T:Two a b)(hk:kindOf st=KO.kd)(h0:∀p,b[0]?=some p→∀x∈a.toList,Zaw p<Zaw x){nb:Nat}(h:HiV a b out na nb)(hn:na+nb+n0≤a.size+b.size)(kp:ZcG st st'):wpS (model prog w) A E s (Zo3 a b na nb out mg ac bc) (Zoe a b st n0) st':=by
 have hb:=h.hb;have hb2:=h.hb2;have ha:=h.ha;have ha2:=h.ha2;obtain⟨p,e,mp⟩:=Zcj (a:=b) (i:=nb-1) (by omega);unfold Zo3;rw[Zbu];refine Qap (QbZ ?_);have kp:=kp.gal mg;refine Qap (ZaG e (Qap (Zc6 (kp.1.trans hk) (T.ib p mp) (by omega) (by omega) T.ia (fun i j p q hij _ e1 e2=>srt_idx T.sa (by omega) e1 e2) fun k hk1 hlt hge=> ?_)));dsimp only
 have ge:∀(i:Nat) (y:Keyed),k≤i→i<na→a[i]?=some y→Zaw p≤Zaw y:=fun i y hi1 hi2 ei=>by
  have:=hge i y hi1 hi2 (by rw[Qca];exact ei);unfold Zca at this;rw[if_neg (by decide)] at this
  cases z:decide (Zaw p<Zaw y) with
  |true=>have:=QaK z;omega
  |false=>rw[z] at this;cases this
 have lt:∀(i:Nat) (x:Keyed),i<k→a[i]?=some x→Zaw x≤Zaw p:=fun i x hi ei=>by
  have:=hlt i x hi (by rw[Qca];exact ei);unfold Zca at this;rw[if_neg (by decide)] at this
  cases z:decide (Zaw p<Zaw x) with
  |true=>rw[z] at this;cases this
  |false=>have:=Qa6 z;omega
 by_cases c2:na-k>0
 ·rw[if_pos c2]
  have h2:=h.mi.blockA (m:=k) (by omega) fun x hx y hy=>by
   obtain⟨i,hi1,hi2,ei⟩:=ZgJ hx
   have:=ge i x hi1 hi2 ei
   have:=ZeT T.sb e y hy;omega
  by_cases c3:(k==0)=true
  ·rw[if_pos c3];exact Qav (.inl ⟨kp,_,_,rfl,ZeU h2 (by simpa using c3)⟩)
  rw[if_neg c3];have c3:k≠0:=by simpa using c3
  refine Zl2 T hk h0 ⟨h2,by omega,by omega,hb,hb2⟩ (by omega) kp fun p' e' y hy=> ?_;rw[e] at e';cases e';obtain⟨i,hi,ei⟩:=Zc7 hy;exact lt i y hi ei
 ·rw[if_neg c2];refine Zl2 T hk h0 h hn kp fun p' e' y hy=> ?_;rw[e] at e';cases e';obtain⟨i,hi,ei⟩:=Zc7 hy;exact lt i y (by omega) ei
theorem Zog (T:Two a b)(hk:kindOf st=KO.kd)(h0:∀p,b[0]?=some p→∀x∈a.toList,Zaw p<Zaw x){c:HiS}(h:OhN a b st n0 c st'):wpS (model prog w) A E s (hiG a b c) (Zoe a b st n0) st':=by
 obtain⟨kp,na,nb,out,mg,ac,bc,rfl,v,hn⟩:=h;unfold hiG;dsimp only;split
 ·exact Zl3 T hk h0 v hn kp
 ·exact Zl3 T hk h0 v hn kp
def OhR (a b:Array Keyed)(st:SortSt)(n0:Nat)(c:HiR)(st':SortSt):Prop:=ZcG st st'∧∃na nb out ac bc,c=(none,na,nb,out,ac,bc)∧HiV a b out na nb∧na+nb+n0≤a.size+b.size
def ZpG (a b:Array Keyed)(st:SortSt)(c:HiR)(st':SortSt):Prop:=ZcG st st'∧∃r rest,c=(some r,rest)∧Fin' (a.toList++b.toList) r.toList
theorem Zoh (T:Two a b)(hk:kindOf st=KO.kd)(h0:∀p,b[0]?=some p→∀x∈a.toList,Zaw p<Zaw x){c:HiR}(h:OhR a b st n0 c st'):wpS (model prog w) A E s (hiP a b mg c) (fun r st'=>match r with
  | .done c=>ZpG a b st c st'∨OhR a b st (n0+1) c st'
  | .yield c=>OhR a b st (n0+1) c st') st':=by
 obtain⟨kp,na,nb,out,ac,bc,rfl,v,hn⟩:=h;have hb:=v.hb;have hb2:=v.hb2;have ha:=v.ha;have ha2:=v.ha2;obtain⟨p,e,mp⟩:=Zcj (a:=b) (i:=nb-1) (by omega);obtain⟨q,e2,mq⟩:=Zcj (a:=a) (i:=na-1) (by omega);unfold hiP;refine Qap (ZaG e (Qap (ZaG e2 (Qap (ZdN (kp.1.trans hk) (T.ib p mp) (T.ia q mq) ?_)))));dsimp only;by_cases hlt:Zaw p<Zaw q
 ·rw[Qan hlt,if_pos rfl];refine Qap (ZaG e2 ?_);have h1:HiI a b (out.push q) (na-1) nb:=HiI.pushA (by rw[show na-1+1=na by omega];exact v.mi) e2 fun y hy=>by have:=ZeT T.sb e y hy;omega
  by_cases c1:(na-1==0)=true
  ·rw[if_pos c1];exact Qav (.inl ⟨kp,_,_,rfl,ZeU h1 (by simpa using c1)⟩)
  rw[if_neg c1];have c1:na-1≠0:=by simpa using c1
  have v1:HiV a b (out.push q) (na-1) nb:=⟨h1,by omega,by omega,hb,hb2⟩;split
  ·exact Qav (.inr ⟨kp,_,_,_,_,_,rfl,v1,by omega⟩)
  ·exact Qav ⟨kp,_,_,_,_,_,rfl,v1,by omega⟩
 ·rw[Qal hlt,if_neg (by decide)];refine Qap (ZaG e ?_);have h1:HiI a b (out.push p) na (nb-1):=HiI.pushB (by rw[show nb-1+1=nb by omega];exact v.mi) e fun y hy=>by have:=ZeT T.sa e2 y hy;omega
  by_cases c1:(nb-1==1)=true
  ·rw[if_pos c1];exact Qav (.inl ⟨kp,_,_,rfl,ZcH h0 h1 (by simpa using c1)⟩)
  rw[if_neg c1];have c1:nb-1≠1:=by simpa using c1
  have v1:HiV a b (out.push p) na (nb-1):=⟨h1,ha,ha2,by omega,by omega⟩;split
  ·exact Qav (.inr ⟨kp,_,_,_,_,_,rfl,v1,by omega⟩)
  ·exact Qav ⟨kp,_,_,_,_,_,rfl,v1,by omega⟩
theorem ZgK {Q:Array Keyed→SortSt→Prop}(T:Two a b)(hk:kindOf st=KO.kd)(a1:1≤a.size)(b1:1≤b.size)(h0:∀p,b[0]?=some p→∀x∈a.toList,Zaw p<Zaw x)(hla:∀p,a[a.size-1]?=some p→∀y∈b.toList,Zaw y<Zaw p)
  (h:∀r st',ZcG st st'→Fin' (a.toList++b.toList) r.toList→Q r st'):wpS (model prog w) A E s (Zdu a b) Q st:=by
 rw[ZfR];refine Qap (Qdl (Qcj ⟨rfl,?_⟩));obtain⟨p,e,mp⟩:=Zcj (a:=a) (i:=a.size-1) (by omega);refine Qap (ZaG e ?_);have ta:a.toList.take a.size=a.toList:=QaM (by rw[QaB];exact Qaf _);have tb:b.toList.take b.size=b.toList:=QaM (by rw[QaB];exact Qaf _)
 have st0:HiI a b #[] a.size b.size:=by
  unfold HiI;rw[ta,tb];exact⟨by show((a.toList++b.toList)++ []).Perm _;rw[QaS],Qcs,T.sa,T.sb,fun y _ z hz=>by cases hz⟩
 have st1:HiI a b #[p] (a.size-1) b.size:=HiI.pushA (out:=#[]) (by rw[show a.size-1+1=a.size by omega];exact st0) e fun y hy=>QbP (hla p e y (QbS hy));by_cases c1:(a.size-1==0)=true
 ·rw[if_pos c1];exact Qav (h _ _ (ZcG.refl st) (ZeU st1 (by simpa using c1)))
 rw[if_neg c1];have c1:a.size-1≠0:=by simpa using c1
 by_cases c2:(b.size==1)=true
 ·rw[if_pos c2];exact Qav (h _ _ (ZcG.refl st) (ZcH h0 st1 (by simpa using c2)))
 rw[if_neg c2];have c2:b.size≠1:=by simpa using c2
 refine Qap (QcI ?_)
 refine Qap (Qbz (Qbc (I:=fun x c st'=>ZcG st st'∧∃na nb out mg,c=(none,na,nb,out,mg)∧HiV a b out na nb∧na+nb+x≤a.size+b.size)
  (Q:=fun c st'=>ZcG st st'∧∃r rest,c=(some r,rest)∧Fin' (a.toList++b.toList) r.toList) ?step ?fin ⟨ZcG.refl st,_,_,_,_,rfl,⟨st1,by omega,by omega,by omega,Qaf _⟩,by omega⟩) ?post)
 case post=>
  rintro c st' ⟨kp,r,rest,rfl,f⟩;exact Qav (h r st' kp f)
 case fin=>
  rintro c st' ⟨kp,na,nb,out,mg,rfl,v,hx⟩
  have:=v.ha
  have:=v.hb;omega
 case step=>
  rintro x c st1 _ hx ⟨kp,na,nb,out,mg,rfl,v,hn⟩;unfold hiO;dsimp only;refine Qap (Qbz (Qbc (I:=fun y c st'=>OhR a b st (x+y) c st') (Q:=fun c st'=>ZpG a b st c st'∨OhR a b st (x+1) c st') ?_ ?_ ⟨kp,_,_,_,_,_,rfl,v,hn⟩) ?_)
  ·rintro y c st2 _ hy hR;refine Qbz (Zoh T hk h0 hR) fun r st3 hr=> ?_
   cases r with
   |done c=>
    rcases hr with hr|⟨k3,na,nb,out,ac,bc,e3,v3,n3⟩
    ·exact .inl hr
    ·exact .inr ⟨k3,na,nb,out,ac,bc,e3,v3,by omega⟩
   |yield c=>exact hr
  ·rintro c st2 ⟨k3,na,nb,out,ac,bc,e3,v3,n3⟩;exact .inr ⟨k3,na,nb,out,ac,bc,e3,v3,by omega⟩
  ·rintro c st2 (⟨k2,r,rest,rfl,f⟩|⟨k2,na2,nb2,out2,ac2,bc2,rfl,v2,n2⟩)
   ·exact Qav ⟨k2,_,_,rfl,f⟩
   ·dsimp only;refine Qap (Qdl (Qcj ⟨rfl,?_⟩));refine Qap (Qbz (Qbc (I:=fun y c st'=>OhN a b st (x+1) c st') (Q:=fun c st'=>OhF a b st c st'∨OhN a b st (x+1) c st') ?_ ?_ ⟨k2,_,_,_,_,_,_,rfl,v2,n2⟩) ?_)
    ·rintro y c st3 _ hy hR;refine Qbz (Zog T hk h0 hR) fun r st4 hr=> ?_
     cases r with
     |done c=>exact hr
     |yield c=>exact hr
    ·exact fun c st3 hR=> .inr hR
    ·rintro c st3 (⟨k3,r,rest,rfl,f⟩|⟨k3,na3,nb3,out3,mg3,ac3,bc3,rfl,v3,n3⟩)
     ·exact Qav ⟨k3,_,_,rfl,f⟩
     ·dsimp only;rw[Zbu];exact Qap (QbZ (Qav ⟨k3.gal _,_,_,_,_,rfl,v3,by omega⟩))
end
variable [KO]
theorem ZgL (i:Nat):mergeAt' i=(do
 let s←get
 let(some (sa,na,power),some (sb,nb,_)):=((pendingOf s)[i]?,(pendingOf s)[i+1]?)|unsupported "internal:list.sort.pending"
 set (setPending s (((pendingOf s).setIfInBounds i (sa,na+nb,power)).eraseIdxIfInBounds (i+1)))
 let some k←ZbQ false (←elem' (arrOf s) sb) (arrOf s) sa na 0|return false
 let(sa,na):=(sa+k,na-k)
 if na==0 then return true
 let some nb←ZbQ true (←elem' (arrOf s) (sa+na-1)) (arrOf s) sb nb (nb-1)|return false
 if nb==0 then return true
 let x:=(arrOf s).extract sa sb
 let y:=(arrOf s).extract sb (sb+nb)
 let merged←if na≤nb then Zdt x y else Zdu x y
 modify fun s=>setArr s (merged.toList.zipIdx.foldl (fun a (p,j)=>a.setIfInBounds (sa+j) p) (arrOf s))
 return(failedOf (←get)).isNone):=rfl
theorem ZjB:∀(l:List Keyed) (j o:Nat) (a:Array Keyed),o+j+l.length≤a.size→((l.zipIdx j).foldl (fun a (p:Keyed×Nat)=>a.setIfInBounds (o+p.2) p.1) a).toList=a.toList.take (o+j)++l++a.toList.drop (o+j+l.length)
 | [],j,o,a,_=>by
  show a.toList=_;rw[QaS,Qbp,Qep,QaT]
 |x::l,j,o,a,h=>by
  rw[QaF] at h;rw[List.zipIdx_cons,List.foldl_cons];have ih:=ZjB l (j+1) o (a.setIfInBounds (o+j) x) (by rw[QdT];omega);dsimp only;rw[ih,Qcv];have hl:o+j<a.toList.length:=by rw[QaB];omega
  have e1:(a.toList.set (o+j) x).take (o+(j+1))=a.toList.take (o+j)++ [x]:=by
   rw[show o+(j+1)=o+j+1 by omega,Qc1,List.take_set_of_le (Qaf _),Qbr hl];rfl
  have e2:(a.toList.set (o+j) x).drop (o+(j+1)+l.length)=a.toList.drop (o+j+(l.length+1)):=by
   rw[List.drop_set_of_lt (by omega),show o+(j+1)+l.length=o+j+(l.length+1) by omega]
  rw[e1,e2,QaF];simp
def ZgM:Nat→List (List Keyed)→List (Nat×Nat)
 |_,[]=>[]
 |s,R::Rs=>(s,R.length)::ZgM (s+R.length) Rs
theorem Zdw:∀(s:Nat) (A B:List (List Keyed)),ZgM s (A++B)=ZgM s A++ZgM (s+A.flatten.length) B
 |s,[],B=>by simp[ZgM]
 |s,R::A,B=>by
  show(s,R.length)::ZgM (s+R.length) (A++B)=(s,R.length)::ZgM (s+R.length) A++_;rw[Zdw (s+R.length) A B,Qa4,Qae,Qd4];rfl
theorem ZeV:∀(s:Nat) (A:List (List Keyed)),(ZgM s A).length=A.length
 |s,[]=>rfl
 |s,R::A=>by show(ZgM (s+R.length) A).length+1=A.length+1;rw[ZeV]
def bare (P:Array (Nat×Nat×Nat)):List (Nat×Nat):=P.toList.map fun x=>(x.1,x.2.1)
theorem Zeu (a:Array Keyed)(i j:Nat):(a.extract i j).toList=(a.toList.drop i).take (j-i):=by
 rw[Qb4,QbO]
theorem Zl4 {V:List Keyed}(e:a.toList=U++V++W)(hi:i<V.length):a[U.length+i]?=V[i]?:=by
 rw[←QaH,e,Qaw,Qay (by omega),Qax (by omega)];congr 1;omega
theorem ZeW (h:Srt l)(hij:i≤j)(e1:l[i]?=some p)(e2:l[j]?=some q):Zaw p≤Zaw q:=by
 have:=srt_idx (a:=l.toArray) (by simpa using h) hij (by simpa using e1) (by simpa using e2);exact this
section
variable {st:SortSt} [KL prog w A s]
theorem ZmS {x:SortSt}{Q:PUnit→SortSt→Prop}(h:Q ⟨⟩ x):wpS (model prog w) A E s (set x:StateT SortSt Sem PUnit) Q st:=by
 unfold wpS;rw[StateT.run_set];exact Qao ⟨rfl,h⟩
theorem ZgN {Q:Bool→SortSt→Prop}{S1 S2:List Keyed}{pw pw2:Nat}(hk:kindOf st=KO.kd)(hf:failedOf st=none)(ea:(arrOf st).toList=U++S1++S2++W)(hI:∀p∈(arrOf st).toList,Ik p)(s1:Srt S1)(s2:Srt S2)(n1:1≤S1.length)(n2:1≤S2.length)
  (e1:(pendingOf st)[i]?=some (U.length,S1.length,pw)) (e2:(pendingOf st)[i+1]?=some (U.length+S1.length,S2.length,pw2))
  (h:∀(M:List Keyed) (st':SortSt),kindOf st'=KO.kd→failedOf st'=none→(arrOf st').toList=U++M++W→M.Perm (S1++S2)→Srt M→pendingOf st'=((pendingOf st).setIfInBounds i (U.length,S1.length+S2.length,pw)).eraseIdxIfInBounds (i+1)→Q true st'):
  wpS (model prog w) A E s (mergeAt' i) Q st:=by
 rw[ZgL];refine Qap (QcI ?_);rw[e1,e2];dsimp only;refine Qap (ZmS ?_);have hsz:(arrOf st).size=U.length+S1.length+S2.length+W.length:=by rw[←QaB,ea,Qae,Qae,Qae]
 have ea1:(arrOf st).toList=U++S1++(S2++W):=by rw[ea];simp
 have g1:∀i,i<S1.length→(arrOf st)[U.length+i]?=S1[i]?:=fun i hi=>Zl4 ea1 hi
 have g2:∀i,i<S2.length→(arrOf st)[U.length+S1.length+i]?=S2[i]?:=fun i hi=>by
  have:=Zl4 (U:=U++S1) ea hi;rw[Qae] at this;exact this
 have i1:∀p∈S1,Ik p:=fun p hp=>hI p (by rw[ea];simp[hp]);have i2:∀p∈S2,Ik p:=fun p hp=>hI p (by rw[ea];simp[hp]);have eb0:S2[0]?=some S2[0]:=Qab n2;have mb0:S2[0]∈S2:=Qbo n2;generalize S2[0]=b0 at eb0 mb0
 have sb0:∀y∈S2,Zaw b0≤Zaw y:=fun y hy=>by
  obtain⟨j,hj⟩:=Qat.mp hy;exact ZeW s2 (QaW j) eb0 hj
 refine Qap (ZaG (p:=b0) (by have:=g2 0 n2;rw[Qep] at this;rw[this];exact eb0) ?_);refine Qap (Zc6 hk (i2 b0 mb0) n1 (by omega) hI (fun i j p q hij hj x1 x2=>by rw[g1 i (by omega)] at x1;rw[g1 j hj] at x2;exact ZeW s1 hij x1 x2) fun k hk1 hlt hge=> ?_)
 have lt1:∀(i:Nat) (x:Keyed),i<k→S1[i]?=some x→Zaw x≤Zaw b0:=fun i x hi ei=>by
  have:=hlt i x hi (by rw[g1 i (by omega)];exact ei);unfold Zca at this;rw[if_neg (by decide)] at this
  cases z:decide (Zaw b0<Zaw x) with
  |true=>rw[z] at this;cases this
  |false=>have:=Qa6 z;omega
 have ge1:∀(i:Nat) (y:Keyed),k≤i→S1[i]?=some y→Zaw b0<Zaw y:=fun i y hi1 ei=>by
  have hi2:=(Qac.mp ei).1
  have:=hge i y hi1 hi2 (by rw[g1 i hi2];exact ei);unfold Zca at this;rw[if_neg (by decide)] at this
  cases z:decide (Zaw b0<Zaw y) with
  |true=>exact QaK z
  |false=>rw[z] at this;cases this
 dsimp only;by_cases c1:(S1.length-k==0)=true
 ·rw[if_pos c1];have c1:S1.length-k=0:=by simpa using c1
  refine Qav (h (S1++S2) _ hk hf (by show(arrOf st).toList=_;rw[ea];simp) (QcC _) (Zci s1 s2 fun x hx y hy=> ?_) rfl);obtain⟨j,hj⟩:=Qat.mp hx;have hj2:=(Qac.mp hj).1;exact Qcb (lt1 j x (by omega) hj) (sb0 y hy)
 rw[if_neg c1];have c1:S1.length-k≠0:=by simpa using c1
 have el:S1[S1.length-1]?=some S1[S1.length-1]:=Qab (by omega);have ml:S1[S1.length-1]∈S1:=Qbo (by omega);generalize S1[S1.length-1]=z0 at el ml
 have sz0:∀y∈S1,Zaw y≤Zaw z0:=fun y hy=>by
  obtain⟨j,hj⟩:=Qat.mp hy;have hj2:=(Qac.mp hj).1;exact ZeW s1 (by omega) hj el
 refine Qap (ZaG (p:=z0) (by rw[show U.length+k+(S1.length-k)-1=U.length+(S1.length-1) by omega,g1 _ (by omega)];exact el) ?_);refine Qap (Zc6 hk (i1 z0 ml) (by omega) (by omega) hI (fun i j p q hij hj x1 x2=>by rw[g2 i (by omega)] at x1;rw[g2 j hj] at x2;exact ZeW s2 hij x1 x2) fun nb hnb hlt2 hge2=> ?_)
 have lt2:∀(i:Nat) (x:Keyed),i<nb→S2[i]?=some x→Zaw x<Zaw z0:=fun i x hi ei=>by
  have:=hlt2 i x hi (by rw[g2 i (by omega)];exact ei);unfold Zca at this;rw[if_pos rfl] at this;exact QaK this
 have ge2:∀(i:Nat) (y:Keyed),nb≤i→S2[i]?=some y→Zaw z0≤Zaw y:=fun i y hi1 ei=>by
  have hi2:=(Qac.mp ei).1
  have:=hge2 i y hi1 hi2 (by rw[g2 i hi2];exact ei);unfold Zca at this;rw[if_pos rfl] at this
  have:=Qa6 this;omega
 dsimp only;by_cases c2:(nb==0)=true
 ·have c2:nb=0:=by simpa using c2
  exfalso;have h1:=ge2 0 b0 (by omega) eb0;have h2:=ge1 (S1.length-1) z0 (by omega) el;omega
 rw[if_neg c2];have c2:nb≠0:=by simpa using c2
 have ex:((arrOf st).extract (U.length+k) (U.length+S1.length)).toList=S1.drop k:=by
  rw[Zeu,ea1,Qaw,QcF,QbV (by omega),QcT,show U.length+k-U.length=k by omega,QcF,Qdi];rw[QaM (by rw[Qbd];omega),Qbd,show U.length+S1.length-(U.length+k)-(S1.length-k)=0 by omega,QbF,QaS]
 have ey:((arrOf st).extract (U.length+S1.length) (U.length+S1.length+nb)).toList=S2.take nb:=by
  rw[Zeu,ea,Qaw,QcF,QbV (by rw[Qae];exact Qaf _),QcT,Qae,Nat.sub_self,Qck,Qcg,Qdi,show nb-S2.length=0 by omega,QbF,QaS]
 have lx:((arrOf st).extract (U.length+k) (U.length+S1.length)).size=S1.length-k:=by rw[←QaB,ex,Qbd]
 have ly:((arrOf st).extract (U.length+S1.length) (U.length+S1.length+nb)).size=nb:=by rw[←QaB,ey,QaC];omega
 generalize(arrOf st).extract (U.length+k) (U.length+S1.length)=xa at ex lx⊢;generalize(arrOf st).extract (U.length+S1.length) (U.length+S1.length+nb)=ya at ey ly⊢;have T:Two xa ya:=⟨by rw[ex];exact fun p hp=>i1 p (Qcw hp),by rw[ey];exact fun p hp=>i2 p (QbS hp),by rw[ex];exact Zhz s1 k,by rw[ey];exact List.Pairwise.take s2⟩
 have H0:∀p,ya[0]?=some p→∀x∈xa.toList,Zaw p<Zaw x:=fun p ep x hx=>by
  rw[←QaH,ey,Qbv,if_pos (by omega),eb0] at ep;cases ep;rw[ex] at hx;obtain⟨j,hj⟩:=Qat.mp hx;rw[Qbw] at hj;exact ge1 (k+j) x (by omega) hj
 have HL:∀p,xa[xa.size-1]?=some p→∀y∈ya.toList,Zaw y<Zaw p:=fun p ep y hy=>by
  rw[←QaH,ex,Qbw,lx,show k+(S1.length-k-1)=S1.length-1 by omega,el] at ep;cases ep;rw[ey] at hy;obtain⟨j,hj⟩:=Qat.mp hy;rw[Qbv] at hj;split at hj
  ·exact lt2 j y (by assumption) hj
  ·cases hj
 have fin:∀(r:Array Keyed) (st3:SortSt),ZcG (setPending st (((pendingOf st).setIfInBounds i (U.length,S1.length+S2.length,pw)).eraseIdxIfInBounds (i+1))) st3→Fin' (xa.toList++ya.toList) r.toList→
   wpS (model prog w) A E s (do
    modify fun s=>setArr s (List.foldl (fun a (x:Keyed×Nat)=>a.setIfInBounds (U.length+k+x.snd) x.fst) (arrOf s) r.toList.zipIdx)
    let g←get
    pure (failedOf g).isNone) Q st3:=by
  intro r st3 ⟨q1,q2,q3,q4⟩ ⟨fp,fs⟩;rw[ex,ey] at fp;have lr:r.toList.length=(S1.length-k)+nb:=by rw[fp.length_eq,Qae,Qbd,QaC];omega
  refine Qap (QbZ (Qap (QcI (Qav ?_))));show Q (failedOf st3).isNone _;rw[q4];show Q (failedOf st).isNone _;rw[hf];refine h (S1.take k++r.toList++S2.drop nb) _ (q1.trans hk) (q4.trans hf) ?_ ?_ ?_ q3
  ·show(List.foldl (fun a (x:Keyed×Nat)=>a.setIfInBounds (U.length+k+x.snd) x.fst) (arrOf st3) (r.toList.zipIdx 0)).toList=_;rw[ZjB r.toList 0 (U.length+k) (arrOf st3) (by rw[q2];show _≤(arrOf st).size;omega),q2];show(arrOf st).toList.take _++_++(arrOf st).toList.drop _=_
   have t1:(arrOf st).toList.take (U.length+k+0)=U++S1.take k:=by
    rw[ea1,Qaw,Qdi,QaM (by omega),show U.length+k+0-U.length=k by omega,Qdi,show k-S1.length=0 by omega,QbF,QaS]
   have t2:(arrOf st).toList.drop (U.length+k+0+r.toList.length)=S2.drop nb++W:=by
    rw[ea,Qaw,QcF,QbV (by rw[Qae];omega),QcT,Qae,lr,show U.length+k+0+(S1.length-k+nb)-(U.length+S1.length)=nb by omega,QcF,show nb-S2.length=0 by omega,Qck]
   rw[t1,t2];simp
  ·have p1:(S1.take k++r.toList++S2.drop nb).Perm (S1.take k++(S1.drop k++S2.take nb)++S2.drop nb):=Qcl _ (Qbq _ fp);refine p1.trans ?_
   have:S1.take k++(S1.drop k++S2.take nb)++S2.drop nb=S1++S2:=by
    rw[←Qaw,QaT,Qaw,QaT]
   rw[this]
  ·have inr:∀y∈r.toList,y∈S1.drop k∨y∈S2.take nb:=fun y hy=>Qaq.mp (fp.mem_iff.mp hy);have s1':Srt (S1.take k++S1.drop k):=by rw[QaT];exact s1
   have s2':Srt (S2.take nb++S2.drop nb):=by rw[QaT];exact s2
   refine Zci (Zci (Zjx s1') fs fun x hx y hy=> ?_) (Zjy s2') fun x hx y hy=> ?_
   ·rcases inr y hy with hy|hy
    ·exact Zet s1' x hx y hy
    ·obtain⟨j,hj⟩:=Qat.mp hx;rw[Qbv] at hj;split at hj
     ·exact Qcb (lt1 j x (by assumption) hj) (sb0 y (QbS hy))
     ·cases hj
   ·have zy:Zaw z0≤Zaw y:=by
     obtain⟨j,hj⟩:=Qat.mp hy;rw[Qbw] at hj;exact ge2 (nb+j) y (by omega) hj
    rcases Qaq.mp hx with hx|hx
    ·exact Qcb (sz0 x (QbS hx)) zy
    ·rcases inr x hx with hx|hx
     ·exact Qcb (sz0 x (Qcw hx)) zy
     ·exact Zet s2' x hx y hy
 by_cases c3:S1.length-k≤nb
 ·rw[if_pos c3];exact Qap (ZgH T hk (by omega) (by omega) (fun p ep x hx=>QbP (H0 p ep x hx)) HL fun r st3 kp f=>fin r st3 kp f)
 ·rw[if_neg c3];exact Qap (ZgK T hk (by omega) (by omega) H0 HL fun r st3 kp f=>fin r st3 kp f)
end
variable [KO]
def Zo4 (lo a nrem:Nat):StateT SortSt Sem AscSt:=
 forIn [a:nrem] ((none,a):AscSt) fun _ c=>do
  let x←ltAt' (lo+c.2) (lo+c.2-1)
  match x with
  |some smaller=>if smaller=true then pure (.done (none,c.2)) else pure (.yield (none,c.2+1))
  |_=>pure (.done (some none,c.2))
def Zij (lo n nrem:Nat):StateT SortSt Sem (Option Nat):=do
 reverseSlice' lo (lo+n)
 let c←Zo4 lo n nrem
 match c.1 with
 |some r=>pure r
 |none=>pure (some c.2)
def Zoi (lo n nrem:Nat):StateT SortSt Sem DescSt:=
 forIn [n:nrem] ((none,n,0):DescSt) fun _ c=>do
  let x←ltAt' (lo+c.2.1) (lo+c.2.1-1)
  match x with
  |some smaller=>
   if smaller=true then
    if c.2.2>0 then do
     reverseSlice' (lo+c.2.1-(c.2.2+1)) (lo+c.2.1)
     pure (.yield (none,c.2.1+1,0))
    else pure (.yield (none,c.2.1+1,0))
   else do
    let x←ltAt' (lo+c.2.1-1) (lo+c.2.1)
    match x with
    |some larger=>if larger=true then pure (.done (none,c.2.1,c.2.2)) else pure (.yield (none,c.2.1+1,c.2.2+1))
    |_=>pure (.done (some none,c.2.1,c.2.2))
  |_=>pure (.done (some none,c.2.1,c.2.2))
def Zik (lo n nrem:Nat):StateT SortSt Sem (Option Nat):=do
 liftM (rule "list.sort.descending-run")
 let c←Zoi lo (n+1) nrem
 match c.1 with
 |some r=>pure r
 |none=>
  if c.2.2>0 then do
   reverseSlice' (lo+c.2.1-(c.2.2+1)) (lo+c.2.1)
   Zij lo c.2.1 nrem
  else Zij lo c.2.1 nrem
theorem ZfS (lo nrem:Nat):countRun' lo nrem=(do
  let c←Zo4 lo 1 nrem
  match c.1 with
  |some r=>pure r
  |none=>
   if(c.2==nrem)=true then pure (some c.2)
   else if c.2>1 then do
    let x←ltAt' lo (lo+c.2-1)
    match x with
    |some rose=>if rose=true then pure (some c.2) else do
      reverseSlice' lo (lo+c.2)
      Zik lo c.2 nrem
    |_=>pure none
   else Zik lo c.2 nrem):=by
 have tl:∀n,(do
   reverseSlice' lo (lo+n)
   let mut n:=n
   for _ in [n:nrem] do
    let some smaller←ltAt' (lo+n) (lo+n-1)|return none
    if smaller then break
    n:=n+1
   return some n)=Zij lo n nrem:=fun n=>by
  unfold Zij;dsimp only;refine congrArg _ (funext fun _=>congrArg _ (funext fun c=> ?_));obtain⟨r,c⟩:=c;cases r<;>rfl
 have dz:∀n,(do
   rule "list.sort.descending-run"
   let mut n:=n+1
   let mut neq:=0
   for _ in [n:nrem] do
    let some smaller←ltAt' (lo+n) (lo+n-1)|return none
    if smaller then
     if neq>0 then reverseSlice' (lo+n-(neq+1)) (lo+n)
     neq:=0
    else
     let some larger←ltAt' (lo+n-1) (lo+n)|return none
     if larger then break
     neq:=neq+1
    n:=n+1
   if neq>0 then reverseSlice' (lo+n-(neq+1)) (lo+n)
   reverseSlice' lo (lo+n)
   for _ in [n:nrem] do
    let some smaller←ltAt' (lo+n) (lo+n-1)|return none
    if smaller then break
    n:=n+1
   return some n)=(Zik lo n nrem:StateT SortSt Sem (Option Nat)):=fun n=>by
  unfold Zik;dsimp only;refine congrArg _ (funext fun _=>congrArg _ (funext fun c=> ?_));obtain⟨r,n2,q2⟩:=c
  cases r with
  |some r=>rfl
  |none=>
   dsimp only;refine ifd (congrArg _ (funext fun _=> ?_)) ?_
   ·exact tl n2
   ·exact tl n2
 rw[countRun'_eq];dsimp only;refine congrArg _ (funext fun c=> ?_);obtain⟨r,n⟩:=c
 cases r with
 |some r=>rfl
 |none=>
  dsimp only;refine ifc (ifd (congrArg _ (funext fun x=> ?_)) ?_)
  ·cases x with
   |none=>rfl
   |some rose=>
    dsimp only;refine ifc (congrArg _ (funext fun _=> ?_));exact dz n
  ·exact dz n
variable [KO]
structure CB (a₀:Array Keyed)(lo:Nat)(P:Array (Nat×Nat×Nat))(st:SortSt):Prop where
 kind:kindOf st=KO.kd
 failed:failedOf st=none
 pend:pendingOf st=P
 perm:(arrOf st).Perm a₀
 low:∀i,i<lo→(arrOf st)[i]?=a₀[i]?
theorem CB.size {a₀:Array Keyed}{lo:Nat}{P:Array (Nat×Nat×Nat)}{st:SortSt}(h:CB a₀ lo P st):(arrOf st).size=a₀.size:=h.perm.size_eq
theorem CB.rev {st:SortSt}(h:CB a₀ lo P st)(hi:lo≤i)(hj:j≤a₀.size):CB a₀ lo P (setArr st (mirror (arrOf st) i j ((j-i)/2))):=
 ⟨h.kind,h.failed,h.pend,(Qd0 _ _ _ _).trans h.perm,fun k hk=>by
  show(mirror (arrOf st) i j ((j-i)/2))[k]?=_
  rw[getElem?_mirror_all (by rw[h.size];exact hj),if_neg (by omega)]
  exact h.low k hk⟩
theorem CB.at {st:SortSt}(h:CB a₀ lo P st)(h0:IkA a₀)(hi:i<a₀.size):∃p,(arrOf st)[i]?=some p∧Ik p∧K (arrOf st) i=Zaw p:=by
 have hi':i<(arrOf st).size:=by rw[h.size];exact hi
 have hm:(arrOf st)[i]∈a₀.toList:=(Qa2.mp h.perm).mem_iff.mp (by simp);have e:(arrOf st)[i]?=some (arrOf st)[i]:=getElem?_pos _ i hi';refine⟨_,e,h0 _ hm,?_⟩;unfold K L2.RK;rw[e];rfl
def ZiA (xs:Array Keyed)(lo n:Nat):Prop:=∀i j,i≤j→j<n→K xs (lo+i)≤K xs (lo+j)
def Zoj (xs:Array Keyed)(lo n:Nat):Prop:=∀i j,i≤j→j<n→K xs (lo+j)≤K xs (lo+i)
section
variable {st:SortSt} [KL prog w A s]
theorem ZdO {Q:Option Bool→SortSt→Prop}(hB:CB a₀ lo P st)(h0:IkA a₀)(hi:i<a₀.size)(hj:j<a₀.size)(h:Q (some (decide (K (arrOf st) i<K (arrOf st) j))) st):wpS (model prog w) A E s (ltAt' i j) Q st:=by
 obtain⟨p,e1,i1,k1⟩:=hB.at h0 hi;obtain⟨q,e2,i2,k2⟩:=hB.at h0 hj;rw[k1,k2] at h;rw[ltAt'_eq];refine Qap (QcI ?_);dsimp only;rw[QeP,QeP,e1,e2];exact Qap (Qav (Qap (Qav (ZdN hB.kind i1 i2 h))))
theorem ZeX {Q:Unit→SortSt→Prop}(h:Q () (setArr st (mirror (arrOf st) i j ((j-i)/2)))):wpS (model prog w) A E s (reverseSlice' i j) Q st:=by
 rw[reverseSlice'_eq];exact QbZ h
theorem ZhB {a:Nat}{Q:AscSt→SortSt→Prop}(h0:IkA a₀)(hn:lo+nrem≤a₀.size)(ha:1≤a)(han:a≤nrem)(hB:CB a₀ lo P st)(hs:ZiA (arrOf st) lo a)
  (h:∀n,a≤n→n≤nrem→ZiA (arrOf st) lo n→(n<nrem→K (arrOf st) (lo+n)<K (arrOf st) (lo+n-1))→Q (none,n) st):wpS (model prog w) A E s (Zo4 lo a nrem) Q st:=by
 unfold Zo4;refine Qbz (Qbc (I:=fun x c st'=>st'=st∧c=(none,x)∧ZiA (arrOf st) lo x) (Q:=fun c st'=>st'=st∧∃n,c=(none,n)∧a≤n∧n≤nrem∧ZiA (arrOf st) lo n∧(n<nrem→K (arrOf st) (lo+n)<K (arrOf st) (lo+n-1))) ?_ ?_ ⟨rfl,rfl,hs⟩) ?_
 ·rintro x c st' hx hx2 ⟨rfl,rfl,hS⟩;dsimp only;refine Qap (ZdO hB h0 (by omega) (by omega) ?_);by_cases hlt:K (arrOf st') (lo+x)<K (arrOf st') (lo+x-1)
  ·rw[Qan hlt];exact Qav ⟨rfl,x,rfl,hx,by omega,hS,fun _=>hlt⟩
  ·rw[Qal hlt];refine Qav ⟨rfl,rfl,fun i j hij hj=> ?_⟩;by_cases c:j<x
   ·exact hS i j hij c
   ·have:j=x:=by omega
    subst this;by_cases c2:i=j
    ·subst c2;exact Qba _
    ·have:=hS i (j-1) (by omega) (by omega);rw[show lo+(j-1)=lo+j-1 by omega] at this;omega
 ·rintro c st' ⟨rfl,rfl,hS⟩;rw[show max a nrem=nrem by omega] at hS⊢;exact⟨rfl,nrem,rfl,han,Qaf _,hS,fun h=>by omega⟩
 ·rintro c st' ⟨rfl,n,rfl,q1,q2,q3,q4⟩;exact h n q1 q2 q3 q4
theorem ZfT (h0:IkA a₀)(hn:lo+nrem≤a₀.size)(h1:1≤n)(hnn:n≤nrem)(hB:CB a₀ lo P st)(hs:Zoj (arrOf st) lo n)
  (h:∀m st',CB a₀ lo P st'→1≤m→m≤nrem→ZiA (arrOf st') lo m→Q (some m) st'):wpS (model prog w) A E s (Zij lo n nrem) Q st:=by
 unfold Zij;refine Qap (ZeX ?_);have hB2:=hB.rev (i:=lo) (j:=lo+n) (Qaf _) (by omega);refine Qap (ZhB h0 hn h1 hnn hB2 (fun i j hij hj=> ?_) fun m q1 q2 q3 _=>Qav (h m _ hB2 (by omega) q2 q3));show K (mirror (arrOf st) lo (lo+n) ((lo+n-lo)/2)) (lo+i)≤K (mirror (arrOf st) lo (lo+n) ((lo+n-lo)/2)) (lo+j);rw[Zhy (by rw[hB.size];omega),Zhy (by rw[hB.size];omega),if_pos (by omega),if_pos (by omega)]
 have:=hs (n-1-j) (n-1-i) (by omega) (by omega);rw[show lo+(n-1-j)=lo+(lo+n)-1-(lo+j) by omega,show lo+(n-1-i)=lo+(lo+n)-1-(lo+i) by omega] at this;exact this
theorem ZfU (h0:IkA a₀)(hn:lo+nrem≤a₀.size)(hnn:n+1≤nrem)(hB:CB a₀ lo P st)(hs:Zoj (arrOf st) lo (n+1))
  (h:∀m st',CB a₀ lo P st'→1≤m→m≤nrem→ZiA (arrOf st') lo m→Q (some m) st'):wpS (model prog w) A E s (Zik lo n nrem) Q st:=by
 unfold Zik Zoi;refine Qap (Qdl (Qcj ⟨rfl,?_⟩))
 refine Qap (Qbz (Qbc (I:=fun x c st'=>CB a₀ lo P st'∧∃q,c=(none,x,q)∧Zoj (arrOf st') lo x∧q<x∧∀i,lo+x-(q+1)≤i→i<lo+x→K (arrOf st') i=K (arrOf st') (lo+x-1))
  (Q:=fun c st'=>CB a₀ lo P st'∧∃m q,c=(none,m,q)∧1≤m∧m≤nrem∧Zoj (arrOf st') lo m∧q<m∧∀i,lo+m-(q+1)≤i→i<lo+m→K (arrOf st') i=K (arrOf st') (lo+m-1)) ?_ ?_ ⟨hB,0,rfl,hs,by omega,fun i h1 h2=>by rw[show i=lo+(n+1)-1 by omega]⟩) ?_)
 ·rintro x c st' hx hx2 ⟨hB',q,rfl,hD,hq,he⟩;dsimp only;refine Qap (ZdO hB' h0 (by omega) (by omega) ?_)
  have step:∀(ys:Array Keyed),(∀i,K ys i=K (arrOf st') i)→K (arrOf st') (lo+x)≤K (arrOf st') (lo+x-1)→Zoj ys lo (x+1):=fun ys hy hle i j hij hj=>by
   rw[hy,hy];by_cases c:j<x
   ·exact hD i j hij c
   ·have:j=x:=by omega
    subst this;by_cases c2:i=j
    ·subst c2;exact Qba _
    ·have:=hD i (j-1) (by omega) (by omega);rw[show lo+(j-1)=lo+j-1 by omega] at this;omega
  by_cases hlt:K (arrOf st') (lo+x)<K (arrOf st') (lo+x-1)
  ·rw[Qan hlt];dsimp only;rw[if_pos rfl];by_cases hq0:q>0
   ·rw[if_pos hq0];refine Qap (ZeX (Qav ⟨hB'.rev (by omega) (by omega),0,rfl,?_,by omega,fun i h1 h2=>by rw[show i=lo+(x+1)-1 by omega]⟩));refine step (mirror (arrOf st') (lo+x-(q+1)) (lo+x) ((lo+x-(lo+x-(q+1)))/2)) (fun i=> ?_) (by omega);exact Zbt (by rw[hB'.size];omega) he i
   ·rw[if_neg hq0];exact Qav ⟨hB',0,rfl,step _ (fun _=>rfl) (by omega),by omega,fun i h1 h2=>by rw[show i=lo+(x+1)-1 by omega]⟩
  ·rw[Qal hlt];dsimp only;rw[if_neg (by decide)];refine Qap (ZdO hB' h0 (by omega) (by omega) ?_);by_cases hgt:K (arrOf st') (lo+x-1)<K (arrOf st') (lo+x)
   ·rw[Qan hgt];exact Qav ⟨hB',x,q,rfl,by omega,by omega,hD,hq,he⟩
   ·rw[Qal hgt];refine Qav ⟨hB',q+1,rfl,step _ (fun _=>rfl) (by omega),by omega,fun i h1 h2=> ?_⟩;rw[show lo+(x+1)-1=lo+x by omega];by_cases c:i<lo+x
    ·rw[he i (by omega) c];omega
    ·rw[show i=lo+x by omega]
 ·rintro c st' ⟨hB',q,rfl,hD,hq,he⟩;rw[show max (n+1) nrem=nrem by omega] at hD hq he⊢;exact⟨hB',nrem,q,rfl,by omega,Qaf _,hD,hq,he⟩
 ·rintro c st' ⟨hB',m,q,rfl,m1,m2,hD,hq,he⟩;dsimp only;by_cases hq0:q>0
  ·rw[if_pos hq0];refine Qap (ZeX (ZfT h0 hn m1 m2 (hB'.rev (by omega) (by omega)) (fun i j hij hj=> ?_) h));show K (mirror (arrOf st') (lo+m-(q+1)) (lo+m) ((lo+m-(lo+m-(q+1)))/2)) (lo+j)≤K (mirror (arrOf st') (lo+m-(q+1)) (lo+m) ((lo+m-(lo+m-(q+1)))/2)) (lo+i);rw[Zbt (by rw[hB'.size];omega) he,Zbt (by rw[hB'.size];omega) he];exact hD i j hij hj
  ·rw[if_neg hq0];exact ZfT h0 hn m1 m2 hB' hD h
theorem ZjC (h0:IkA a₀)(hn:lo+nrem≤a₀.size)(h1:1≤nrem)(hB:CB a₀ lo P st)
  (h:∀m st',CB a₀ lo P st'→1≤m→m≤nrem→ZiA (arrOf st') lo m→Q (some m) st'):wpS (model prog w) A E s (countRun' lo nrem) Q st:=by
 rw[ZfS];refine Qap (ZhB h0 hn (Qaf 1) h1 hB (fun i j hij hj=>by rw[show i=j by omega];exact Qba _) fun n n1 n2 hS hlt=> ?_);dsimp only;by_cases c1:(n==nrem)=true
 ·rw[if_pos c1];exact Qav (h n st hB n1 n2 hS)
 rw[if_neg c1];have c1:n≠nrem:=by simpa using c1
 have hd:=hlt (by omega);by_cases c2:n>1
 ·rw[if_pos c2];refine Qap (ZdO hB h0 (by omega) (by omega) ?_);by_cases hr:K (arrOf st) lo<K (arrOf st) (lo+n-1)
  ·rw[Qan hr];exact Qav (h n st hB n1 n2 hS)
  ·rw[Qal hr]
   have eqs:∀i,lo≤i→i<lo+n→K (arrOf st) i=K (arrOf st) (lo+n-1):=fun i hi1 hi2=>by
    have q1:=hS 0 (i-lo) (by omega) (by omega);have q2:=hS (i-lo) (n-1) (by omega) (by omega);rw[show lo+(i-lo)=i by omega] at q1 q2;rw[show lo+(n-1)=lo+n-1 by omega] at q2;rw[Qep] at q1;omega
   refine Qap (ZeX (ZfU h0 hn (by omega) (hB.rev (Qaf _) (by omega)) (fun i j hij hj=> ?_) h));show K (mirror (arrOf st) lo (lo+n) ((lo+n-lo)/2)) (lo+j)≤K (mirror (arrOf st) lo (lo+n) ((lo+n-lo)/2)) (lo+i);rw[Zbt (by rw[hB.size];omega) eqs,Zbt (by rw[hB.size];omega) eqs];by_cases ci:i<n
   ·rw[eqs (lo+i) (by omega) (by omega)];by_cases cj:j<n
    ·rw[eqs (lo+j) (by omega) (by omega)];exact Qba _
    ·rw[show j=n by omega];omega
   ·rw[show i=j by omega];exact Qba _
 ·rw[if_neg c2]
  have:n=1:=by omega
  subst this;refine ZfU h0 hn (by omega) hB (fun i j hij hj=> ?_) h;rw[show lo+1-1=lo by omega] at hd;by_cases ci:i=j
  ·subst ci;exact Qba _
  ·have i0:i=0:=by omega
   have j1:j=1:=by omega
   subst i0 j1;show K (arrOf st) (lo+1)≤K (arrOf st) lo;exact QbP hd
end
variable [KO]
section
variable {st:SortSt} [KL prog w A s]
theorem CB.bub (h:CB a₀ lo P st)(hs:src<a₀.size)(hd:d≤src)(hl:lo≤src-d):CB a₀ lo P (setArr st (bubble (arrOf st) src d)):=
 ⟨h.kind,h.failed,h.pend,(bubble_perm _ _ _).trans h.perm,fun k hk=>by
  show(bubble (arrOf st) src d)[k]?=_
  rw[getElem?_bubble (by rw[h.size];exact hs) d hd,if_neg (by omega),if_neg (by omega)]
  exact h.low k hk⟩
theorem Zk4 {ok:Nat}{Q:Bool→SortSt→Prop}(h0:IkA a₀)(hn:lo+n≤a₀.size)(hok:ok≤n)(hB:CB a₀ lo P st)(hs:ZiA (arrOf st) lo ok)
  (h:∀st',CB a₀ lo P st'→ZiA (arrOf st') lo n→Q true st'):wpS (model prog w) A E s (binarySort' lo n ok) Q st:=by
 rw[binarySort'_eq];refine Qap (Qbz (Qbc (I:=fun k c st'=>c=(none,())∧CB a₀ lo P st'∧ZiA (arrOf st') lo (min k n)) (Q:=fun c st'=>c=(none,())∧CB a₀ lo P st'∧ZiA (arrOf st') lo n) ?step ?fin ?init) ?post)
 case post=>
  rintro c st' ⟨rfl,hB',hs'⟩;exact Qav (h st' hB' hs')
 case init=>
  refine⟨rfl,hB,fun i j hij hj=> ?_⟩;by_cases h1:ok=0
  ·rw[show i=j by omega];exact Qba _
  ·exact hs i j hij (by omega)
 case fin=>
  rintro c st' ⟨hc,hB',hs'⟩;refine⟨hc,hB',?_⟩
  rwa [show min (max (max ok 1) n) n=n by omega] at hs'
 case step=>
  rintro k c st' hak hkn ⟨rfl,hB',hs'⟩;rw[show min k n=k by omega] at hs';have hk:lo+k<a₀.size:=by omega
  refine Qap (Qbz (Qbc (I:=fun x c st''=>st''=st'∧∃l r,c=(none,l,r)∧l≤r∧r≤k∧r-l≤k-x∧
    (∀i,i<l→K (arrOf st') (lo+i)≤K (arrOf st') (lo+k))∧(∀i,r≤i→i<k→K (arrOf st') (lo+k)<K (arrOf st') (lo+i)))
   (Q:=fun c st''=>st''=st'∧∃l r,c=(none,l,r)∧l≤k∧
    (∀i,i<l→K (arrOf st') (lo+i)≤K (arrOf st') (lo+k))∧(∀i,l≤i→i<k→K (arrOf st') (lo+k)<K (arrOf st') (lo+i))) ?istep ?ifin ?iinit) ?ipost)
  case iinit=>exact⟨rfl,0,k,rfl,by omega,by omega,by omega,fun i hi=>by omega,fun i h1 h2=>by omega⟩
  case ifin=>
   rintro c st'' ⟨rfl,l,r,rfl,hlr,hrk,hm,hlo,hhi⟩
   have:l=r:=by omega
   subst this;exact⟨rfl,l,l,rfl,hrk,hlo,hhi⟩
  case istep=>
   rintro x c st'' _ hxk ⟨rfl,l,r,rfl,hlr,hrk,hm,hlo,hhi⟩;dsimp only;by_cases hge:l≥r
   ·rw[if_pos hge]
    have:l=r:=by omega
    subst this;exact Qav ⟨rfl,l,l,rfl,hrk,hlo,hhi⟩
   ·rw[if_neg hge];refine Qap (ZdO hB' h0 hk (by omega) ?_);by_cases hless:K (arrOf st'') (lo+k)<K (arrOf st'') (lo+(l+r)/2)
    ·rw[Qan hless];refine Qav ⟨rfl,l,(l+r)/2,rfl,by omega,by omega,by omega,hlo,fun i h1 h2=> ?_⟩;exact QdG hless (hs' _ _ h1 h2)
    ·rw[Qal hless];refine Qav ⟨rfl,(l+r)/2+1,r,rfl,by omega,by omega,by omega,fun i h1=> ?_,hhi⟩;exact Qcb (hs' i ((l+r)/2) (by omega) (by omega)) (Int.not_lt.mp hless)
  case ipost=>
   rintro c st'' ⟨rfl,l,r,rfl,hlk,hlo,hhi⟩;show wpS _ _ _ _ (do moveDown' (lo+k) (lo+l);pure (ForInStep.yield (none,()))) _ _;rw[moveDown'_eq];refine Qap (QbZ (Qav ⟨rfl,hB'.bub hk (by omega) (by omega),?_⟩));rw[show min (k+1) n=k+1 by omega];have hks:lo+k<(arrOf st'').size:=by rw[hB'.size];exact hk
   intro i j hij hj;show K (bubble (arrOf st'') (lo+k) (lo+k-(lo+l))) (lo+i)≤K (bubble (arrOf st'') (lo+k) (lo+k-(lo+l))) (lo+j)
   have key:∀m,m≤k→K (bubble (arrOf st'') (lo+k) (lo+k-(lo+l))) (lo+m)=if m=l then K (arrOf st'') (lo+k) else if l<m then K (arrOf st'') (lo+(m-1)) else K (arrOf st'') (lo+m):=fun m hm=>by
    rw[Zk2 hks (by omega)];by_cases c1:m=l
    ·rw[if_pos (by omega),if_pos c1]
    ·rw[if_neg (by omega),if_neg c1];by_cases c2:l<m
     ·rw[if_pos (by omega),if_pos c2,show lo+m-1=lo+(m-1) by omega]
     ·rw[if_neg (by omega),if_neg c2]
   rw[key i (by omega),key j (by omega)]
   repeat' split
   all_goals first
    | (exfalso;omega)
    |exact Qba _
    |exact hlo _ (by omega)
    |exact QbP (hhi _ (by omega) (by omega))
    |exact hs' _ _ (by omega) (by omega)
end
variable [KO]
theorem ZfV {α:Type}(c a b:α):∀(X Y:List α),((X++a::b::Y).set X.length c).eraseIdx (X.length+1)=X++c::Y
 | [],Y=>rfl
 |x::X,Y=>by
  show x::((X++a::b::Y).set X.length c).eraseIdx (X.length+1)=x::(X++c::Y);rw[ZfV c a b X Y]
structure RL (a₀:Array Keyed)(T:List Keyed)(Rs:List (List Keyed))(st:SortSt):Prop where
 kind:kindOf st=KO.kd
 failed:failedOf st=none
 perm:(arrOf st).toList.Perm a₀.toList
 flat:(arrOf st).toList=Rs.flatten++T
 srt:∀R∈Rs,Srt R∧1≤R.length
 pend:bare (pendingOf st)=ZgM 0 Rs
theorem ZjD {x:Nat×Nat}(h:(bare P)[i]?=some x):∃pw,P[i]?=some (x.1,x.2,pw):=by
 unfold bare at h;rw[Qah,QaH] at h
 cases z:P[i]? with
 |none=>rw[z] at h;cases h
 |some y=>rw[z] at h;cases h;exact⟨y.2.2,rfl⟩
theorem Zl5 {α β:Type}(f:α→β):∀(l:List α) (n:Nat),(l.eraseIdx n).map f=(l.map f).eraseIdx n
 | [],n=>by cases n<;>rfl
 |a::l,0=>rfl
 |a::l,n+1=>by
  show f a::(l.eraseIdx n).map f=f a::(l.map f).eraseIdx n;rw[Zl5 f l n]
theorem Zl6 {α:Type}:∀(l:List α) (n:Nat),l.length≤n→l.eraseIdx n=l
 | [],n,_=>by cases n<;>rfl
 |a::l,0,h=>by simp at h
 |a::l,n+1,h=>by
  show a::l.eraseIdx n=a::l;rw[Zl6 l n (by simpa using h)]
theorem Zil (P:Array (Nat×Nat×Nat))(i a b pw:Nat):bare ((P.setIfInBounds i (a,b,pw)).eraseIdxIfInBounds (i+1))=((bare P).set i (a,b)).eraseIdx (i+1):=by
 unfold bare
 have e:((P.setIfInBounds i (a,b,pw)).eraseIdxIfInBounds (i+1)).toList=(P.toList.set i (a,b,pw)).eraseIdx (i+1):=by
  unfold Array.eraseIdxIfInBounds;split
  ·rw[Array.toList_eraseIdx,Qcv]
  ·rw[Qcv,Zl6 _ _ (by rename_i hh;rw[Qbf,QaB];rw[QdT] at hh;omega)]
 rw[e,Zl5,List.map_set]
theorem Zok {α:Type}{Rs:List α}(h:i+1<Rs.length):∃R1 a b R2,Rs=R1++a::b::R2∧R1.length=i:=by
 refine⟨Rs.take i,Rs[i],Rs[i+1],Rs.drop (i+2),?_,by rw[QaC];omega⟩;rw[←Qbn h,←Qbn (by omega),QaT]
section
variable {st:SortSt} [KL prog w A s]
theorem ZfW {Q:Bool→SortSt→Prop}(h0:∀p∈a₀.toList,Ik p)(hR:RL a₀ T Rs st)(hi:i+1<Rs.length)(h:∀Rs' st',RL a₀ T Rs' st'→Rs'.length+1=Rs.length→Q true st'):wpS (model prog w) A E s (mergeAt' i) Q st:=by
 obtain⟨R1,S1,S2,R2,rfl,rfl⟩:=Zok hi
 have eo:ZgM 0 (R1++S1::S2::R2)=ZgM 0 R1++(R1.flatten.length,S1.length)::(R1.flatten.length+S1.length,S2.length)::ZgM (R1.flatten.length+S1.length+S2.length) R2:=by
  rw[Zdw,Qca];rfl
 have lo1:=ZeV 0 R1
 have p1:(bare (pendingOf st))[R1.length]?=some (R1.flatten.length,S1.length):=by
  rw[hR.pend,eo,Qay (by omega),lo1,Nat.sub_self];rfl
 have p2:(bare (pendingOf st))[R1.length+1]?=some (R1.flatten.length+S1.length,S2.length):=by
  rw[hR.pend,eo,Qay (by omega),lo1,Qcg];rfl
 obtain⟨pw,e1⟩:=ZjD p1;obtain⟨pw2,e2⟩:=ZjD p2;have q1:=hR.srt S1 (by simp);have q2:=hR.srt S2 (by simp);refine ZgN (U:=R1.flatten) (S1:=S1) (S2:=S2) (W:=R2.flatten++T) hR.kind hR.failed (by rw[hR.flat];simp) (fun p hp=>h0 p (hR.perm.mem_iff.mp hp)) q1.1 q2.1 q1.2 q2.2 e1 e2 fun M st' k' f' a' pm sm pd=> ?_;have lm:M.length=S1.length+S2.length:=by rw[pm.length_eq,Qae]
 refine h (R1++M::R2) st' ⟨k',f',?_,by rw[a'];simp,fun R hR'=> ?_,?_⟩ (by simp;omega)
 ·rw[a'];refine List.Perm.trans ?_ hR.perm;rw[hR.flat]
  have:(R1.flatten++M++(R2.flatten++T)).Perm (R1.flatten++(S1++S2)++(R2.flatten++T)):=Qcl _ (Qbq _ pm);refine this.trans ?_;simp
 ·rcases Qaq.mp hR' with z|z
  ·exact hR.srt R (by simp[z])
  ·rcases QaJ.mp z with rfl|z
   ·exact⟨sm,by omega⟩
   ·exact hR.srt R (by simp[z])
 ·rw[pd,Zil,hR.pend,eo,←lo1,ZfV,Zdw,Qca];show _=ZgM 0 R1++(R1.flatten.length,M.length)::ZgM (R1.flatten.length+M.length) R2;rw[lm,Qd4]
end
variable [KO]
section
variable {st:SortSt} [KL prog w A s]
theorem RL.len (h:RL a₀ T Rs st):(pendingOf st).size=Rs.length:=by
 have:=congrArg List.length h.pend;rw[ZeV] at this;unfold bare at this;rw[Qaa,QaB] at this;exact this
theorem Zk5 (P:Array (Nat×Nat×Nat))(i pw:Nat):bare (P.modify i fun x=>(x.1,x.2.1,pw))=bare P:=by
 unfold bare;refine QbN fun j=> ?_;rw[Qah,Qah,QaH,QaH,Array.getElem?_modify];split
 ·cases P[j]?<;>rfl
 ·rfl
theorem ZjE (P:Array (Nat×Nat×Nat))(x:Nat×Nat×Nat):bare (P.push x)=bare P++ [(x.1,x.2.1)]:=by
 unfold bare;rw[Qcu,Qam];rfl
def ZjF (sz lo n:Nat):StateT SortSt Sem (ForInStep (Option Unit×Nat)):=do
 let g←get
 match(pendingOf g).back? with
 |some (s1,n1,_)=>do
  let c←forIn [0:sz] ((none,()):Option Unit×Unit) fun _ c=>do
   let g←get
   match(if(pendingOf g).size>1 then(pendingOf g)[(pendingOf g).size-2]? else none) with
   |some (_,_,older)=>
    if older≤power' sz (2*s1+n1) (2*s1+n1+n1+n) sz then pure (.done (none,()))
    else do
     let b←mergeAt' ((pendingOf g).size-2)
     if(!b)=true then pure (.done (some (),())) else pure (.yield (none,()))
   |_=>pure (.done (none,()))
  match c.1 with
  |some r=>pure (.done (some r,lo))
  |none=>do
   modify fun s=>setPending s ((pendingOf s).modify ((pendingOf s).size-1) fun x=>(x.1,x.2.1,power' sz (2*s1+n1) (2*s1+n1+n1+n) sz))
   modify fun s=>setPending s ((pendingOf s).push (lo,n,0))
   pure (.yield (none,lo+n))
 |_=>do
  modify fun s=>setPending s ((pendingOf s).push (lo,n,0))
  pure (.yield (none,lo+n))
theorem RL.push {S W:List Keyed}(hR:RL a₀ (S++W) Rs st)(hS:Srt S)(h1:1≤S.length){P:Array (Nat×Nat×Nat)}(hP:bare P=bare (pendingOf st)):RL a₀ W (Rs++ [S]) (setPending st (P.push (Rs.flatten.length,S.length,0))):=by
 refine⟨hR.kind,hR.failed,hR.perm,by show(arrOf st).toList=_;rw[hR.flat];simp,fun R hr=> ?_,?_⟩
 ·rcases Qaq.mp hr with z|z
  ·exact hR.srt R z
  ·rw[QaE.mp z];exact⟨hS,h1⟩
 ·show bare (P.push _)=_;rw[ZjE,hP,hR.pend,Zdw,Qca];rfl
theorem ZjG {S:List Keyed}{sz:Nat}{Q:ForInStep (Option Unit×Nat)→SortSt→Prop}(h0:∀p∈a₀.toList,Ik p)(hR:RL a₀ (S++W) Rs st)(hS:Srt S)(h1:1≤S.length)
  (h:∀Rs' st',RL a₀ W Rs' st'→Rs'.flatten.length=Rs.flatten.length+S.length→Q (.yield (none,Rs.flatten.length+S.length)) st'):wpS (model prog w) A E s (ZjF sz Rs.flatten.length S.length) Q st:=by
 unfold ZjF;refine Qap (QcI ?_)
 have fl:∀{Rs':List (List Keyed)} {st':SortSt},RL a₀ (S++W) Rs' st'→Rs'.flatten.length=Rs.flatten.length:=fun{Rs' st'} h'=>by
  have e1:=congrArg List.length h'.flat;have e2:=congrArg List.length hR.flat;rw[h'.perm.length_eq,Qae] at e1;rw[hR.perm.length_eq,Qae] at e2;omega
 have fin:∀{Rs':List (List Keyed)} {st':SortSt} {P:Array (Nat×Nat×Nat)},RL a₀ (S++W) Rs' st'→bare P=bare (pendingOf st')→Q (.yield (none,Rs.flatten.length+S.length)) (setPending st' (P.push (Rs.flatten.length,S.length,0))):=fun{Rs' st' P} h' hP=>by
  have:=h'.push hS h1 hP;rw[fl h'] at this;refine h _ _ this ?_;rw[Qbh,Qae,fl h'];simp
 cases hb:(pendingOf st).back? with
 |none=>exact Qap (QbZ (Qav (fin hR rfl)))
 |some y=>
  obtain⟨s1,n1,pw⟩:=y;dsimp only;refine Qap (Qbz (Qbc (I:=fun x c st'=>c=(none,())∧∃Rs',RL a₀ (S++W) Rs' st') (Q:=fun c st'=>c=(none,())∧∃Rs',RL a₀ (S++W) Rs' st') ?_ (fun c st' hh=>hh) ⟨rfl,Rs,hR⟩) ?_)
  ·rintro x c st' _ _ ⟨rfl,Rs',hR'⟩;refine Qap (QcI ?_);by_cases c1:(pendingOf st').size>1
   ·rw[if_pos c1]
    cases z:(pendingOf st')[(pendingOf st').size-2]? with
    |none=>exact Qav ⟨rfl,Rs',hR'⟩
    |some v=>
     obtain⟨v1,v2,older⟩:=v;dsimp only;split
     ·exact Qav ⟨rfl,Rs',hR'⟩
     ·have hl:=hR'.len;exact Qap (ZfW h0 hR' (by omega) fun Rs2 st2 hR2 _=>Qav ⟨rfl,Rs2,hR2⟩)
   ·rw[if_neg c1];exact Qav ⟨rfl,Rs',hR'⟩
  ·rintro c st' ⟨rfl,Rs',hR'⟩;refine Qap (QbZ (Qap (QbZ (Qav ?_))));exact fin (st':=st') (P:=(pendingOf st').modify ((pendingOf st').size-1) fun x=>(x.1,x.2.1,power' sz (2*s1+n1) (2*s1+n1+n1+S.length) sz)) hR' (Zk5 _ _ _)
theorem Zl7 {α:Type}{m1 m2:StateT SortSt Sem α}{Q:α→SortSt→Prop}(e:m1=m2)(h:wpS (model prog w) A E s m1 Q st):wpS (model prog w) A E s m2 Q st:=e ▸ h
theorem Zpn (c:Prop) [Decidable c](a:Nat):(if c then a-1 else a)≤a:=by split<;>omega
theorem Zl8 (e:a[i]?=some p):K a i=Zaw p:=by
 unfold K L2.RK;rw[e];rfl
theorem wpS_sortAll {Q:Unit→SortSt→Prop}(h0:IkA a₀)(hk:kindOf st=KO.kd)(hf:failedOf st=none)(hp:pendingOf st= #[])(ha:arrOf st=a₀)
  (h:∀st',(arrOf st').toList.Perm a₀.toList→failedOf st'=none→Srt (arrOf st').toList→Q () st'):wpS (model prog w) A E s sortRuns' Q st:=by
 have hI:∀p∈a₀.toList,Ik p:=h0;rw[sortRuns'_eq];refine Qap (QcI ?_);dsimp only;rw[ha];have R0:RL a₀ a₀.toList [] st:=⟨hk,hf,by rw[ha],by rw[ha];rfl,fun R hR=>(by cases hR),by rw[hp];rfl⟩
 have tl:∀{st':SortSt} {x lo n:Nat} {Rs:List (List Keyed)} {T:List Keyed} {st1:SortSt},RL a₀ T Rs st1→Rs.flatten.length=lo→x≤lo→lo<a₀.size→CB (arrOf st1) lo (pendingOf st1) st'→1≤n→lo+n≤a₀.size→ZiA (arrOf st') lo n→
   wpS (model prog w) A E s (ZjF a₀.size lo n) (fun r st'=>match r with| .done c=>c=(none,a₀.size)∧∃Rs,RL a₀ [] Rs st'| .yield c=>∃lo Rs T,c=(none,lo)∧RL a₀ T Rs st'∧Rs.flatten.length=lo∧x+1≤lo∧lo≤a₀.size) st':=by
  intro st' x lo n Rs T st1 hR el hx hlo hB n1 hn hs;subst el;have szz:(arrOf st1).size=a₀.size:=by rw[←QaB,hR.perm.length_eq,QaB]
  have sz2:(arrOf st').size=a₀.size:=by rw[hB.size,szz]
  have pm:(arrOf st').toList.Perm (arrOf st1).toList:=Qa2.mp hB.perm
  have lowe:(arrOf st').toList.take Rs.flatten.length=Rs.flatten:=by
   have:(arrOf st').toList.take Rs.flatten.length=(arrOf st1).toList.take Rs.flatten.length:=by
    refine QbN fun j=> ?_;rw[Qbv,Qbv];split
    ·rw[QaH,QaH];exact hB.low j (by assumption)
    ·rfl
   rw[this,hR.flat,List.take_left'];rfl
  have eS:((arrOf st').toList.drop Rs.flatten.length).take n=((arrOf st').extract Rs.flatten.length (Rs.flatten.length+n)).toList:=(ZmR _ _ _).symm;generalize hSd:((arrOf st').toList.drop Rs.flatten.length).take n=S at eS;have lS:S.length=n:=by rw[←hSd,QaC,Qbd,QaB];omega
  have sS:Srt S:=by
   refine QcD.mpr fun i j hi hj hij=> ?_
   have gi:∀i (hi:i<S.length),(arrOf st')[Rs.flatten.length+i]?=some S[i]:=fun i hi=>by
    have:S[i]?=some S[i]:=Qab hi;rw[←this,←hSd,Qbv,if_pos (by omega),Qbw,QaH]
   have:=hs i j (by omega) (by omega);rw[Zl8 (gi i hi),Zl8 (gi j hj)] at this;exact this
  have hR':RL a₀ (S++(arrOf st').toList.drop (Rs.flatten.length+n)) Rs st':=by
   refine⟨hB.kind,hB.failed,pm.trans hR.perm,?_,hR.srt,by rw[hB.pend];exact hR.pend⟩;rw[←hSd,←Qez,QaT]
   conv=>lhs;rw[←QaT Rs.flatten.length (arrOf st').toList]
   rw[lowe]
  have:=ZjG (prog:=prog) (w:=w) (A:=A) (E:=E) (s:=s) (sz:=a₀.size) (Q:=fun r st'=>match r with| .done c=>c=(none,a₀.size)∧∃Rs,RL a₀ [] Rs st'| .yield c=>∃lo Rs T,c=(none,lo)∧RL a₀ T Rs st'∧Rs.flatten.length=lo∧x+1≤lo∧lo≤a₀.size) hI hR' sS (by omega) fun Rs2 st2 hR2 e2=>⟨_,Rs2,_,rfl,hR2,e2,by omega,by omega⟩;rw[lS] at this;exact this
 have tnil:∀{T:List Keyed} {Rs:List (List Keyed)} {st':SortSt},RL a₀ T Rs st'→Rs.flatten.length=a₀.size→RL a₀ [] Rs st':=fun{T Rs st'} hR el=>by
  have e:=congrArg List.length hR.flat;rw[hR.perm.length_eq,Qae,el,QaB] at e
  have:T=[]:=Qdh (by omega);subst this;exact hR
 have many:∀Rs:List (List Keyed),(∀R∈Rs,Srt R∧1≤R.length)→Rs.length≤Rs.flatten.length:=fun Rs=>by
  induction Rs with
  |nil=>intro _;exact Qaf _
  |cons R Rs ih=>
   intro hh;rw[Qa4,Qae,QaF]
   have:=ih fun R' hR'=>hh R' (QaD _ hR')
   have:=(hh R QaA).2;omega
 refine Qap (Qbz (Qbc (I:=fun x c st'=>∃lo Rs T,c=(none,lo)∧RL a₀ T Rs st'∧Rs.flatten.length=lo∧x≤lo∧lo≤a₀.size) (Q:=fun c st'=>c=(none,a₀.size)∧∃Rs,RL a₀ [] Rs st') ?step ?fin ⟨0,[],_,rfl,R0,rfl,Qaf _,QaW _⟩) ?post)
 case fin=>
  rintro c st' ⟨lo,Rs,T,rfl,hR,el,hx,hl⟩
  have:lo=a₀.size:=by omega
  subst this;exact⟨rfl,Rs,tnil hR el⟩
 case step=>
  rintro x c st1 _ hx ⟨lo,Rs,T,rfl,hR,el,hxl,hl⟩;dsimp only;by_cases c1:lo≥a₀.size
  ·rw[if_pos c1]
   have:lo=a₀.size:=by omega
   subst this;exact Qav ⟨rfl,Rs,tnil hR el⟩
  rw[if_neg c1];have szz:(arrOf st1).size=a₀.size:=by rw[←QaB,hR.perm.length_eq,QaB]
  have i1:IkA (arrOf st1):=fun p hp=>h0 p (hR.perm.mem_iff.mp hp);refine Qap (ZjC (a₀:=arrOf st1) (P:=pendingOf st1) i1 (by omega) (by omega) ⟨hR.kind,hR.failed,rfl,QcS _,fun _ _=>rfl⟩ fun m st2 hB2 m1 m2 hs2=> ?_);dsimp only;by_cases c2:m<minRun' a₀.size a₀.size 0
  ·rw[if_pos c2];refine Qap (Qdl (Qcj ⟨rfl,?_⟩));refine Qap (Zk4 i1 (by omega) (by omega) hB2 hs2 fun st3 hB3 hs3=> ?_);rw[if_neg (by decide)];refine Zl7 ?_ (Qbz (tl hR el hxl (by omega) hB3 (by omega) (by omega) hs3) fun r st4 hr=>(by cases r with|done c=>exact hr|yield c=>exact hr))
   ·unfold ZjF;refine congrArg _ (funext fun g=> ?_)
    cases(pendingOf g).back? with
    |none=>rfl
    |some y=>
     obtain⟨s1,n1,pw⟩:=y;dsimp only;refine congrArg _ (funext fun c=> ?_);obtain⟨r,c⟩:=c
     cases r with
     |some r=>rfl
     |none=>rfl
  ·rw[if_neg c2];refine Zl7 ?_ (Qbz (tl hR el hxl (by omega) hB2 m1 (by omega) hs2) fun r st4 hr=>(by cases r with|done c=>exact hr|yield c=>exact hr))
   ·unfold ZjF;refine congrArg _ (funext fun g=> ?_)
    cases(pendingOf g).back? with
    |none=>rfl
    |some y=>
     obtain⟨s1,n1,pw⟩:=y;dsimp only;refine congrArg _ (funext fun c=> ?_);obtain⟨r,c⟩:=c
     cases r with
     |some r=>rfl
     |none=>rfl
 case post=>
  rintro c st' ⟨rfl,Rs,hR⟩;dsimp only
  have lR:Rs.length≤a₀.size:=by
   have:=many Rs hR.srt;have e:=congrArg List.length hR.flat;rw[hR.perm.length_eq,QaS,QaB] at e;omega
  refine Qap (Qbz (Qbc (I:=fun x c st'=>c=(none,())∧∃Rs,RL a₀ [] Rs st'∧(Rs.length≤1∨Rs.length+x≤a₀.size)) (Q:=fun c st'=>c=(none,())∧∃Rs,RL a₀ [] Rs st'∧Rs.length≤1) ?_ ?_ ⟨rfl,Rs,hR,.inr (by omega)⟩) ?_)
  ·rintro x c st1 _ hx ⟨rfl,Rs,hR,hc⟩;refine Qap (QcI ?_);have hl:=hR.len;by_cases c1:(pendingOf st1).size≤1
   ·rw[if_pos c1];exact Qav ⟨rfl,Rs,hR,by omega⟩
   ·rw[if_neg c1];refine Qap (ZfW hI hR (QaN (Qd7 (Zpn _ _)) (by omega)) fun Rs2 st2 hR2 e2=> ?_);exact Qav ⟨rfl,Rs2,hR2,by omega⟩
  ·rintro c st1 ⟨rfl,Rs,hR,hc⟩;exact⟨rfl,Rs,hR,by omega⟩
  ·rintro c st1 ⟨rfl,Rs,hR,hc⟩;refine Qav (h st1 hR.perm hR.failed ?_);rw[hR.flat,QaS];rcases Rs with _|⟨R,_|⟨R2,Rs⟩⟩
   ·exact Qcs
   ·rw[Qa4,QcG,QaS];exact(hR.srt R QaA).1
   ·simp at hc
end
end TimG
namespace L2
open PySem PySem.Spec PyProof.Rows
variable {H H' H0:Hp}{us vs ts S:List (List Int)}{tp:Bool}{u:List Int}{n k j:Nat}{s:Shared}{a l p c:Addr}{L:List (List Int×List Int)}{hs uss:List (List (List Int))}{prog:Program}{w:World}{A:Around}{E Q:Value→Shared→Prop}{ds:List PyData}{X:Cx}{i:Int}{h:Heap}{v x y:Value}{qc:List (Addr×Obj)}{W:List (Int×List Int)}{rk:Value→Int}{ks:List (List Int×Int)}{σ:L2.St}{o:HO}
section
variable {k0:SortKind}{a0:Array Keyed}
theorem Zk6 (hL:Zjp prog w A s k0 a0 rk){st:SortSt}(b:SB k0 a0 st)(ha:arrOf st=a0){Q:Unit→SortSt→Prop}
  (h:∀t,(arrOf t).Perm a0→failedOf t=none→(∀i j,i≤j→j<a0.size→RK rk (arrOf t) i≤RK rk (arrOf t) j)→Q () t):wpS (model prog w) A E s sortRuns' Q st:=by
 letI:TimG.KO:=⟨rk,fun p=>p∈a0.toList,k0⟩
 haveI:TimG.KL prog w A s:=⟨fun{E x y st Q} hk hx hy q=>by
  rw[lt'_eq]
  refine Qap (QcI (Qap (Qdl (QdZ ?_))))
  rw[show kindOf st=k0 from hk]
  exact hL _ x y _ hx hy ⟨rfl,Qav q⟩⟩
 refine TimG.wpS_sortAll (a₀:=a0) (fun p hp=>hp) b.kd b.fl b.pn ha fun t pm ft sr=>h t (Qa2.mpr pm) ft fun i j hij hj=> ?_;have sz:(arrOf t).size=a0.size:=(Qa2.mpr pm).size_eq;have e1:(arrOf t)[i]?=some (arrOf t)[i]:=QaP (by omega);have e2:(arrOf t)[j]?=some (arrOf t)[j]:=QaP (by omega)
 have:=TimG.srt_idx sr hij e1 e2;unfold RK;rw[e1,e2];exact this
end
theorem ZjH {vs:List Value}{k0:SortKind}{P:Fin→Shared→Prop}(hb:s.heap.get? a=some (seqObj "list" vs.toArray n))(h64:vs.length≤3000)
  (hk:2≤vs.length→∀h':Heap,(∀b o,b≠a→s.heap.get? b=some o→h'.get? b=some o)→∀(E:Value→Shared→Prop) (Q:SortKind→Shared→Prop),Q k0 {s with heap:=h' }→wpAny (model prog w) A (keyKind' vs.toArray) Q E {s with heap:=h' })
  (hL:∀h':Heap,(∀b o,b≠a→s.heap.get? b=some o→h'.get? b=some o)→Zjp prog w A {s with heap:=h' } k0 (pairsOf vs) rk)
  (h:∀xs:Array Keyed,xs.Perm (pairsOf vs)→(∀i j,i≤j→j<(pairsOf vs).size→RK rk xs i≤RK rk xs j)→P (.done (.ret .none)) {s with heap:=sortedHeap s.heap a vs (xs.map (·.2)) }):
  wpAny (model prog w) A (Builtin.«list.sort» ⟨[.ref a],[]⟩) P E s:=by
 have la:a<s.heap.objs.size:=Qau hb;have sv:vs.toArray.size=vs.length:=Qar ..;rw[list_sort_plain];refine Qad (QdE hb rfl (Qad (Qd2 hb rfl ?_)));have g1:=get?_update_seq hb (fun _=>(#[]:Array Value))
 have k1:∀b o,b≠a→s.heap.get? b=some o→(s.heap.update a (Obj.mapSeq fun _=> #[])).get? b=some o:=fun b o nb z=>by
  rw[QcJ _ _ _ _ nb];exact z
 refine Qad (QeB g1 rfl (Qad (wpAny_newTuple (Qad (Qd3 (Qbs ?_))))));show wpAny (model prog w) A _ P E {s with heap:=((s.heap.update a (Obj.mapSeq fun _=> #[])).push (seqObj "tuple" vs.toArray 0)).push (seqObj "list" #[] 0) };have g6:=Qak (seqObj "list" #[] 0) (Qak (seqObj "tuple" vs.toArray 0) g1);have k6:∀b o,b≠a→s.heap.get? b=some o→(((s.heap.update a (Obj.mapSeq fun _=> #[])).push (seqObj "tuple" vs.toArray 0)).push (seqObj "list" #[] 0)).get? b=some o:=fun b o nb z=>Qak _ (Qak _ (k1 b o nb z))
 have done:∀(xs:Array Keyed) (t:SortSt),arrOf t=xs→failedOf t=none→xs.Perm (pairsOf vs)→(∀i j,i≤j→j<(pairsOf vs).size→RK rk xs i≤RK rk xs j)→
   wpAny (model prog w) A (do
    let touched:=(←seqEpoch a) !=(if(#[]:Array Value).size==vs.toArray.size then n else n+1)
    Builtin.List.listUpdate (.ref a) fun _=>(arrOf t).map (·.2)
    if let some e:=failedOf t then rule "list.sort.comparison-raised";throw e
    if touched then rule "list.sort.modified";raiseError "ValueError" "list modified during sort"
    ret .none) P E {s with heap:=((s.heap.update a (Obj.mapSeq fun _=> #[])).push (seqObj "tuple" vs.toArray 0)).push (seqObj "list" #[] 0) }:=by
  rintro xs t rfl ft pm up;refine Qad (QeB g6 rfl (Qad (Qd2 g6 rfl ?_ (hsz2:=?_))))
  ·rw[ft];dsimp only;rw[if_neg (by simp)];exact Qao (h _ pm up)
  ·show((arrOf t).map (·.2)).size≤sizeLine+1;rw[QdM,pm.size_eq,Qdb];exact QaI (show vs.length≤3000 by omega) (by decide)
 by_cases h2:vs.toArray.size<2
 ·rw[if_pos h2,if_pos h2];refine Qad (Qao ?_);dsimp only;rw[StateT.run_pure];refine Qad (Qao (done _ (SortSt.mk' general' (vs.toArray.zip vs.toArray) #[] 7 none) rfl rfl (QcS _) fun i j ij jl=> ?_));rw[Qdb] at jl;rw[show i=j by omega];exact Qba _
 ·rw[if_neg h2,if_neg h2];refine Qad (hk (by omega) _ k6 _ _ ?_);refine Qad (QbK (Zk6 (hL _ k6) (st:=SortSt.mk' k0 (vs.toArray.zip vs.toArray) #[] 7 none) (a0:=pairsOf vs) ⟨QcS _,rfl,rfl,rfl⟩ rfl (Q:=fun _ t=>(arrOf t).Perm (pairsOf vs)∧failedOf t=none∧∀i j,i≤j→j<(pairsOf vs).size→RK rk (arrOf t) i≤RK rk (arrOf t) j) fun t p1 p2 p3=>⟨p1,p2,p3⟩) ?_ fun _ _ z=>z);rintro⟨⟨⟩,t⟩ s' ⟨rfl,p1,p2,p3⟩;exact done _ t rfl p2 p1 p3
def TuL (H:Hp)(xs:List V)(us:List (List Int)):Prop:=xs.length=us.length∧∀(i:Nat) (x:V) (u:List Int),xs[i]?=some x→us[i]?=some u→∃a:Addr,x= .ref a∧H a=some (.tup (u.map V.int))
theorem TuL.nil (H:Hp):TuL H [] []:=⟨rfl,fun i x u h=>by cases h⟩
theorem TuL.up {xs:List V}(h:TuL H xs us)(t:ZbP H H'):TuL H' xs us:=⟨h.1,fun i x u h1 h2=>by
 obtain⟨a,b,c⟩:=h.2 i x u h1 h2
 exact⟨a,b,t _ _ c⟩⟩
theorem TuL.snoc {xs:List V}(h:TuL H xs us)(ha:H a=some (.tup (u.map V.int))):TuL H (xs++ [.ref a]) (us++ [u]):=by
 refine⟨by rw[Qae,Qae,h.1];rfl,fun i y r h1 h2=> ?_⟩;by_cases z:i<xs.length
 ·rw[Qax z] at h1;rw[Qax (h.1 ▸ z)] at h2;exact h.2 i y r h1 h2
 ·rw[Qay (by omega)] at h1;rw[Qay (by have:=h.1;omega),←h.1] at h2
  cases w:i-xs.length with
  |zero=>rw[w] at h1 h2;cases h1;cases h2;exact⟨a,rfl,ha⟩
  |succ m=>rw[w] at h1;cases h1
def dTs (us:List (List Int)):PyData:=.list (us.map dT)
theorem ZdP:∀us:List (List Int),(dTs us).canLay0=true:=by
 have:∀us:List (List Int),PyData.canLayAll0 (us.map dT)=true:=by
  intro us
  induction us with
  |nil=>rfl
  |cons u us ih=>show((dT u).canLay0 && PyData.canLayAll0 (us.map dT))=true;rw[ZnX,ih];rfl
 exact this
theorem ZjI (us vs:List (List Int)):PyData.eqv (dTs us) (dTs vs)=decide (us=vs):=by
 have:∀us vs:List (List Int),PyData.eqvAll (us.map dT) (vs.map dT)=decide (us=vs):=by
  intro us
  induction us with
  |nil=>intro vs;cases vs<;>rfl
  |cons u us ih=>
   intro vs
   cases vs with
   |nil=>rfl
   |cons v vs=>
    show(PyData.eqv (dT u) (dT v) && PyData.eqvAll (us.map dT) (vs.map dT))=_;rw[ih,ZlS];by_cases h:u=v
    ·subst h;by_cases h2:us=vs<;>simp[h2]
    ·simp[h]
 exact this us vs
def vOf:Value→V
 | .ref a=> .ref a
 |_=> .non
section
variable {σ:St}
theorem Zl9 (I:Inv X qc σ H s)(h:H a=some (.tup (u.map V.int))):Zif s.heap (.ref a) u:=by
 obtain⟨its,r,⟨o,e,c,n,hd⟩,_⟩:=I.tuple (SqT.of (K:=X.K) h);exact⟨a,o,_,n,rfl,e,c,hd,by simpa using ZcA r⟩
theorem ZdQ {K:PySem.W.Frag}(hK:X.K=K:=by rfl):ZbW X (.type "tuple") (fun xs H Q=>∃p ys,xs=[.ref p]∧((SqL K H p ys∧∀l,H l=none→Q (.ref l) (upd H l (.tup ys)))∨(SqT K H p ys∧Q (.ref p) H))):=by subst hK;exact Zcg
end
def Zol (h:Heap)(d:Addr)(es:Array DictEntry)(ep:Nat):Prop:=∃o,h.get? d=some o∧o.ExactDict∧o.data= .dict es ep
def kfP (h:Heap)(v:Value):List Int:=match v with
 | .ref a=>match h.get? a with
  |some o=>match o.data with
   | .seq its _=>kfI h (its.getD 0 .none)
   |_=>[]
  |none=>[]
 |_=>[]
def kfM (h:Heap)(v:Value):Int:=match v with
 | .ref a=>match h.get? a with
  |some o=>match o.data with
   | .seq its _=>ZoX (its.getD 1 .none)
   |_=>0
  |none=>0
 |_=>0
theorem Zc8 {P:Program}{w:World}:∀{vs:List Value} {u:List Int},IntsAre vs u→ItemsAre (intKind P w) u vs
 |_,_,.nil=> .nil
 |_,_,.cons n t h=> .cons (Qex _ _ _ _) (Zc8 h)
theorem ZjJ:∀(u v:List Int),HT.lexLt u v=Zcs u v
 | [],[]=>rfl
 | [],_::_=>rfl
 |_::_,[]=>rfl
 |a::u,b::v=>by rw[HT.lexLt_cons,ZjJ u v];rfl
theorem ZjK {α β:Type}{F:α→β→Prop}{l1:List α}{l2:List β}(p:Paired F l1 l2):l1.length=l2.length∧∀(j:Nat) (a:α) (b:β),l1[j]?=some a→l2[j]?=some b→F a b:=by
 induction p with
 |nil=>exact⟨rfl,fun j a b e=>by cases e⟩
 |cons h t ih=>
  refine⟨by simp[ih.1],fun j a b e1 e2=> ?_⟩
  cases j with
  |zero=>cases e1;cases e2;exact h
  |succ j=>exact ih.2 j a b (by simpa using e1) (by simpa using e2)
def cont (h:Heap)(b:Addr):Option HO:=match h.get? b with
 |some o=>match o.data with
  | .seq its _=>match its.toList with
   | [.ref ka,.int m _]=>some (.tup [.ref ka,.int m])
   |_=>none
  |_=>none
 |none=>none
def ZkH (ks:List (List Int×Int))(u:List Int)(z:Int):List (List Int×Int):=if(ks.any fun k=>decide (k.1=u))=true then ks.map fun k=>if k.1=u then(k.1,z) else k else ks++ [(u,z)]
def Zgn (ks:List (List Int×Int))(u:List Int):Int:=((ks.find? fun k=>decide (k.1=u)).map (·.2)).getD 0
def emb (k:List Int×Int):List Key×V:=(k.1.map Sum.inl,V.int k.2)
theorem ZpH:∀{u v:List Int},u.map (Sum.inl:Int→Key)=v.map Sum.inl→u=v
 | [],[],_=>rfl
 | [],_::_,h=>by cases h
 |_::_,[],h=>by cases h
 |a::u,b::v,h=>by
  rw[Qa5,Qa5] at h;obtain⟨h1,h2⟩:=QcU h;rw[ZpH h2,Sum.inl.inj h1]
theorem ZeY (k:List Int×Int)(u:List Int):decide ((emb k).1=u.map Sum.inl)=decide (k.1=u):=by
 by_cases h:k.1=u
 ·rw[Qan h];exact Qan (by unfold emb;rw[h])
 ·rw[Qal h];exact Qal fun q=>h (ZpH q)
theorem ZmT (ks:List (List Int×Int))(u:List Int):((ks.map emb).any fun k=>decide (k.1=u.map Sum.inl))=ks.any fun k=>decide (k.1=u):=by
 induction ks with
 |nil=>rfl
 |cons k ks ih=>rw[Qa5,Qcr,Qcr,ih,ZeY]
theorem ZmU (ks:List (List Int×Int))(u:List Int)(z:Int):Zie (ks.map emb) (u.map Sum.inl) (V.int z)=(ZkH ks u z).map emb:=by
 unfold Zie ZkH;rw[ZmT];by_cases h:(ks.any fun k=>decide (k.1=u))=true
 ·rw[if_pos h,if_pos h,Qb1,Qb1];refine Qds fun k _=> ?_;show(if(emb k).1=u.map Sum.inl then((emb k).1,V.int z) else emb k)=emb (if k.1=u then(k.1,z) else k);have e:=ZeY k u;by_cases q:k.1=u
  ·rw[if_pos q,if_pos (QaK (by rw[e];exact Qan q))];rfl
  ·rw[if_neg q,if_neg (Qa6 (by rw[e];exact Qal q))]
 ·rw[if_neg h,if_neg h,Qam];rfl
theorem ZmV (ks:List (List Int×Int))(u:List Int):(Zid (ks.map emb) (u.map Sum.inl)).getD (.int 0)=V.int (Zgn ks u):=by
 induction ks with
 |nil=>rfl
 |cons k ks ih=>
  rw[Qa5];have e:=ZeY k u;unfold Zgn;rw[Qb8];by_cases q:k.1=u
  ·rw[Qan q];rw[ZcV (QaK (by rw[e];exact Qan q))];rfl
  ·rw[Qal q];rw[ZcW (Qa6 (by rw[e];exact Qal q))];exact ih
theorem Zk7 (ks:List (List Int×Int))(u:List Int)(z:Int):(ZkH ks u z).length≤ks.length+1:=by
 unfold ZkH;split
 ·rw[Qaa];omega
 ·rw[Qae];exact Qaf _
def Zma (W:List (Int×List Int))(u:List Int):Int:=((W.filter fun e=>decide (e.2=u)).map (·.1)).sum
theorem ZjL (W:List (Int×List Int))(e:Int×List Int)(u:List Int):Zma (W++ [e]) u=Zma W u+if e.2=u then e.1 else 0:=by
 unfold Zma;rw[QcV,Qam,Qeq];by_cases h:e.2=u
 ·rw[if_pos h];simp[h]
 ·rw[if_neg h];simp[h]
theorem ZjM (h:u∉W.map (·.2)):Zma W u=0:=by
 unfold Zma
 have:W.filter (fun e=>decide (e.2=u))=[]:=List.filter_eq_nil_iff.mpr fun e he=>by
  intro q;exact h (Qaz.mpr ⟨e,he,QaK q⟩)
 rw[this];rfl
structure DIs (W:List (Int×List Int))(ks:List (List Int×Int)):Prop where
 nd:(ks.map (·.1)).Nodup
 mem:∀u,u∈ks.map (·.1)↔u∈W.map (·.2)
 val:∀k∈ks,k.2=Zma W k.1
 len:ks.length≤W.length
theorem DIs.nil:DIs [] []:=⟨Qcs,fun u=>Iff.rfl,fun k h=>(by cases h),Qaf _⟩
theorem DIs.get (d:DIs W ks)(u:List Int):Zgn ks u=Zma W u:=by
 unfold Zgn
 cases h:ks.find? fun k=>decide (k.1=u) with
 |none=>
  rw[ZjM]
  ·rfl
  ·intro q;obtain⟨k,hk,e⟩:=Qaz.mp ((d.mem u).mpr q)
   have:=List.find?_eq_none.mp h k hk;exact this (Qan e)
 |some k=>
  have e:=List.find?_some h;have m:=List.mem_of_find?_eq_some h;have e:k.1=u:=QaK e;show k.2=_;rw[d.val k m,e]
theorem DIs.put (d:DIs W ks)(e:Int×List Int):DIs (W++ [e]) (ZkH ks e.2 (Zgn ks e.2+e.1)):=by
 have gt:=d.get e.2
 have mk:(ks.any fun k=>decide (k.1=e.2))=true↔e.2∈ks.map (·.1):=by
  rw[List.any_eq_true,Qaz];constructor
  ·rintro⟨k,hk,q⟩;exact⟨k,hk,QaK q⟩
  ·rintro⟨k,hk,q⟩;exact⟨k,hk,Qan q⟩
 refine⟨?_,fun u=> ?_,fun k hk=> ?_,?_⟩
 ·unfold ZkH;by_cases h:(ks.any fun k=>decide (k.1=e.2))=true
  ·rw[if_pos h,Qb1]
   have:(fun k:List Int×Int=>k.1) ∘ (fun k=>if k.1=e.2 then(k.1,Zgn ks e.2+e.1) else k)=fun k=>k.1:=by
    funext k
    show(if k.1=e.2 then(k.1,Zgn ks e.2+e.1) else k).1=k.1;split<;>rfl
   rw[this];exact d.nd
  ·rw[if_neg h,Qam];refine QbD.mpr ⟨d.nd,by simp,fun a ha b hb=> ?_⟩;have hb:b=e.2:=by simpa using hb
   rintro rfl;exact h (mk.mpr (hb ▸ ha))
 ·rw[Qam,Qaq]
  have:u∈(ZkH ks e.2 (Zgn ks e.2+e.1)).map (·.1)↔u∈ks.map (·.1)∨u=e.2:=by
   unfold ZkH;by_cases h:(ks.any fun k=>decide (k.1=e.2))=true
   ·rw[if_pos h,Qb1]
    have q:(fun k:List Int×Int=>k.1) ∘ (fun k=>if k.1=e.2 then(k.1,Zgn ks e.2+e.1) else k)=fun k=>k.1:=by
     funext k
     show(if k.1=e.2 then(k.1,Zgn ks e.2+e.1) else k).1=k.1;split<;>rfl
    rw[q];constructor
    ·exact .inl
    ·rintro(z|z)
     ·exact z
     ·rw[z];exact mk.mp h
   ·rw[if_neg h,Qam,Qaq];simp
  rw[this,d.mem u];simp
 ·rw[ZjL];unfold ZkH at hk;by_cases h:(ks.any fun k=>decide (k.1=e.2))=true
  ·rw[if_pos h] at hk;obtain⟨k',hk',rfl⟩:=Qaz.mp hk;by_cases q:k'.1=e.2
   ·rw[if_pos q];show Zgn ks e.2+e.1=Zma W k'.1+if e.2=k'.1 then e.1 else 0;rw[if_pos q.symm,gt,q]
   ·rw[if_neg q,if_neg (fun z=>q z.symm),Int.add_zero];exact d.val k' hk'
  ·rw[if_neg h] at hk;rcases Qaq.mp hk with hk|hk
   ·rw[if_neg,Int.add_zero]
    ·exact d.val k hk
    ·intro z;exact h (mk.mpr (Qaz.mpr ⟨k,hk,z.symm⟩))
   ·rw[QaE.mp hk];show Zgn ks e.2+e.1=_;rw[if_pos rfl,gt]
 ·have:=Zk7 ks e.2 (Zgn ks e.2+e.1)
  have:=d.len;rw[Qae];simp only[QaF,Qbp];omega
theorem ZgO:ZbW X (.type "range") (fun xs H Q=>∃i j:Int,xs=[.int i,.int j]∧∀p,H p=none→Q (.ref p) (upd H p (.rng i j))):=by
 intro qc s σ H xs us Q I r h;obtain⟨i,j,rfl,q⟩:=h;obtain⟨u1,u2,rfl,⟨t1,rfl⟩,⟨t2,rfl⟩⟩:=ZiT r;refine call_range_2 ?_;exact⟨.ref _,upd H s.heap.objs.size (.rng i j),I.laid (fun b u e=>Qak _ e) (Qaf _) ⟨_,_,_,QaQ _ rfl⟩,rfl,q _ (I.hok.fresh (Qaf _))⟩
def Zb8 (lo:Int)(n:Nat):List Int:=(List.range n).map fun(i:Nat)=>lo+(i:Int)
theorem Zec (hc:X.calm=true):ZbW X (.type "list") (fun xs H Q=>∃(p:Addr) (i j:Int),xs=[.ref p]∧H p=some (.rng i j)∧-1000≤i∧i≤j∧j≤1000∧∀l,H l=none→Q (.ref l) (upd H l (.lst ((Zb8 i (j-i).toNat).map V.int)))):=by
 intro qc s σ H xs us Q I r h;obtain⟨p,lo,j,rfl,hp,h0,h1,h2,q⟩:=h;obtain⟨u,rfl,rx⟩:=Zcf r;cases rx;obtain⟨t,u,v,e⟩:=I.hok p _ hp;refine call_list_range (n:=(j-lo).toNat) (I.ok.hd hc) e (small_one (by omega) (by omega) (by omega) (by omega)) (by rw[rangeSize_one];split<;>omega) (by omega) fun h' tk acc' c' hk hS hacc=> ?_;have hln:((Zb8 lo (j-lo).toNat).map V.int).length=acc'.toList.length:=by unfold Zb8;simp[hacc.1]
 refine⟨.ref _,_,I.laid (o:=.lst ((Zb8 lo (j-lo).toNat).map V.int)) hk (Qaf _) ⟨?_,acc'.toList,c',ZaZ.of_get hln fun i x w' e1 e2=> ?_,by simpa using hS⟩,rfl,q _ (I.hok.fresh (Qaf _))⟩
 ·unfold Zb8;rw[Qaa,Qaa,Qbk];exact QaI (show(j-lo).toNat≤2000 by omega) (by decide)
 ·have hi:i<(j-lo).toNat:=by
   have:=(Qac.mp e1).1;unfold Zb8 at this;rw[Qaa,Qaa,Qbk] at this;exact this
  unfold Zb8 at e1;rw[Qah,Qah,QbB hi] at e1;cases e1;obtain⟨tk',z⟩:=hacc.2 i w' (by simpa using e2);rw[z];exact⟨tk',by simp⟩
def ZmW:PyData→Str:=fun d=>d.shown
theorem Zev (hr:Zc2 k X.A):ZbW X (.builtin "repr") (fun xs H Q=>∃x d,xs=[x]∧DI X.K H x d∧d.showable=true∧d.hasDict=false∧d.depth≤60∧d.shown.length≤sizeLine∧Q (.str (ZmW d)) H):=by
 intro qc s σ H xs us Q I r h;obtain⟨x,d,rfl,hd,hs,hn,hdp,hl,q⟩:=h;obtain⟨u,rfl,rx⟩:=Zcf r
 have big:∀(a:Addr),x= .ref a→EP X qc σ Q (.str (ZmW d) 0) s→wpAny (model X.prog X.w) X.A (call (.builtin "repr") [u]) (EP X qc σ Q) X.xe s:=by
  intro a e _;subst e;cases rx;obtain⟨as,ra⟩:=hd.reads I (u:=.ref a) rfl;have hu:=hr.un;refine repr_of_reads' ra hs (PyData.noDict_hsm hn) hr.gd (by omega) (fun b o e=>e) (fun h' t tk hk=> ?_) hl;exact⟨.str (ZmW d),H,I.kept (t':=tk) fun b o e=>hk b o e,⟨t,rfl⟩,q⟩
 cases hd with
 |non=>cases rx;exact PySem.P.repr_of_none ⟨.str _,H,I.tok _,⟨_,rfl⟩,q⟩
 |bl b=>cases rx;exact PySem.P.repr_of_bool ⟨.str _,H,I.tok _,⟨_,rfl⟩,q⟩
 |int i=>obtain⟨t,rfl⟩:=rx;exact PySem.P.repr_of_int (QaK hs) ⟨.str _,H,I.tok _,⟨_,rfl⟩,q⟩
 |str y=>obtain⟨t,rfl⟩:=rx;exact PySem.P.repr_of_str ⟨.str _,H,I.tok _,⟨_,rfl⟩,q⟩ hl
 |tup a b c=>exact big _ rfl ⟨.str _,H,I,⟨_,rfl⟩,q⟩
 |lst a b c=>exact big _ rfl ⟨.str _,H,I,⟨_,rfl⟩,q⟩
def Zpo:R2:=fun x y H Q=>∃l k xs,y= .ref l∧x= .int k∧H l=some (.lst xs)∧-(2^63)≤k∧k<2^63∧xs.length*k.toNat≤sizeLine∧
 ∀p,H p=none→Q (.ref p) (upd H p (.lst (List.replicate k.toNat xs).flatten))
theorem ZmX:OpR X (binaryOp .Mult) Zpo:=by
 intro qc s σ H x y v u Q I rx ry h;obtain⟨l,k,xs,rfl,rfl,hH,h1,h2,hz,q⟩:=h;cases ry;obtain⟨t,rfl⟩:=rx;obtain⟨z,its,n,r,hl,e⟩:=I.lstM hH;have hlen:its.toArray.size*k.toNat≤sizeLine:=by rw[Qar,←hl];exact hz
 have hcap:¬its.toArray.size*k.toNat>(2^63-1)/8:=by
  have:(sizeLine:Nat)≤(2^63-1)/8:=by decide
  omega
 have hfit:¬(!Builtin.List.listFitsIndex k)=true:=by
  rw[fitsIndex_both h1 h2];exact QaG
 have hlong:¬Builtin.List.listTooLong (its.toArray.size*k.toNat)=true:=by
  rw[ZkR hlen];exact QaG
 have hnew:List.foldl (fun x1 x2=>x1++x2) #[] (List.replicate (if its.toArray.isEmpty=true then 0 else k.toNat) its.toArray)=(List.replicate k.toNat its).flatten.toArray:=by
  have f0:∀m:Nat,List.foldl (fun x1 x2=>x1++x2) #[] (List.replicate m its.toArray)=(List.replicate m its).flatten.toArray:=fun m=>by
   have:=ZfJ its m [];rw[QcT] at this;exact this
  rw[f0]
  cases its with
  |nil=>simp
  |cons a r'=>rw[if_neg (by simp)]
 refine lm_binaryOp_repeat_right (T:= "list") (U:= "int") (by decide) (fun s'=>typeIs_int s' k t) ⟨_,e,rfl⟩ F.fills_int_mul noFill_list_mul F.slot_int_mul lm_noRepeat_int repeat_list F.slot_int_index.lookup
  (QcZ F.slot_int_mul (typeIs_int s k t) F.entry_int_mul (F.args_int_mul_2 _ _) (int___mul___int_list k t l its.toArray n)
   ⟨e,rfl,⟨_,e,rfl⟩,QcZ F.slot_list_mul ⟨_,e,rfl⟩ F.entry_list_mul (F.args_list_mul_2 _ _) (AutoListH.list___mul___list_int_3 l its.toArray n k t hfit hcap hlong) ⟨e,?_⟩⟩)
 rw[hnew];exact⟨.ref _,_,I.lnew (t':=s.toks) (r.rep k.toNat) (by rw[ZmC,Nat.mul_comm];exact hz),rfl,q _ I.fresh⟩
def Zmb:V→List V→Hp→VK→Prop:=fun x vs H Q=>∃(l:Addr) (ns:List Int) (i:Int),x= .ref l∧vs=[.int i]∧H l=some (.lst (ns.map V.int))∧Q (.int ((ns.countP fun z=>decide (z=i)):Nat)) H
theorem Zk8:MtM X "list.count" Zmb:=by
 intro qc s σ H x vs v us Q I rx rv h;obtain⟨l,ns,i,rfl,rfl,hH,q⟩:=h;cases rx;obtain⟨u,rfl,t,rfl⟩:=Zcf rv;obtain⟨z,its,n,r,hl,e⟩:=I.lstM hH;have hI:=ZcA r;refine QcZ F.slot_list_count ⟨_,e,rfl⟩ F.entry_list_count (F.args_list_count_2 _ _) (MeetsSeq.list_count l its.toArray n (.int i t) (PyProof.Rows.isInt i) (fun y hy=> ?_)) ⟨e,?_⟩
 ·exact Qer i t hI y (by simpa using hy)
 ·refine⟨.int _,H,I.tok _,⟨s.toks,?_⟩,q⟩
  have cnt:∀{vs:List Value} {ns:List Int},IntsAre vs ns→vs.countP (PyProof.Rows.isInt i)=ns.countP fun z=>decide (z=i):=by
   intro vs ns h
   induction h with
   |nil=>rfl
   |cons m t' h ih=>
    rw[Qd8,Qd8,ih]
    have e1:PyProof.Rows.isInt i (.int m t')=decide (m=i):=by
     show(m==i)=decide (m=i);by_cases q:m=i<;>simp[q]
    rw[e1]
  rw[List.toList_toArray,cnt hI]
theorem ZmY {K:PySem.W.Frag}{tg l:Expr}{tl:TE}(hl:PE X l tl)(hK:X.K=K:=by rfl):PI X tg l (ZlL K tl):=by subst hK;exact ZcT hl
theorem Zmc {K:PySem.W.Frag}{o e:Expr}{es:List Expr}{to:TE}{t:TA}{name:Str}{qY qA:PySem.Pos}{T id:String}{r:V→List V→Hp→VK→Prop}(pa:PlainAttrs T)(slot:Slot T name id)(hty:typeOf (.builtin id)=pure (.type "method_descriptor"))(hm:MtR X id r)(ho:PE X o to)(ha:PA X (e::es) t)(hK:X.K=K:=by rfl)
  (hbase:attributeBase o name X.env (eval o X.env)=eval o X.env:=by rfl)
  (hfew:((backTo qA (starEach (e::es) X.env)).all (fun x=> !x.1) && (backToKw qA (keywordEach [] X.env)).all (fun x=>x.1.isSome)
   && decide ((e::es).length+([]:List Keyword).length+(if([]:List Keyword).isEmpty then 0 else 1)<30))=true:=by rfl)
  (hline:(qY.endLine==qA.line)=true:=by rfl) (hs:starEach (e::es) X.env=(false,eval e X.env)::starEach es X.env:=by rfl) (hplain:(backTo qA (starEach es X.env)).any (·.1)=false:=by rfl):
  PE X (.Call (.Attribute o name qY) (e::es) [] qA) (tBM K T r to t):=by subst hK;exact Zdk pa slot hty hm ho ha hbase hfew hline hs hplain
def Zau (i:Int):Int:=if i<0 then -i else i
def ZeZ (n:Nat):List Int:=Zb8 1 n++Zb8 1 n
structure Zb4 (S:List (List Int)):Prop where
 even:∃m:Nat,S.length=2*m∧1≤m∧m≤6
 three:∀t∈S,t.length=3
 ties:(S.flatten.map Zau).Perm (ZeZ (S.length/2*3))
theorem Ze0 {lo:Int}:i∈Zb8 lo n↔lo≤i∧i<lo+(n:Int):=by
 unfold Zb8;rw[Qaz];constructor
 ·rintro⟨k,hk,rfl⟩
  have:=Qbb.mp hk;omega
 ·rintro⟨h1,h2⟩;exact⟨(i-lo).toNat,Qbb.mpr (by omega),by omega⟩
theorem Ze1 (lo:Int)(n:Nat):(Zb8 lo n).length=n:=by unfold Zb8;rw[Qaa,Qbk]
theorem Zmd (os:List Int):∀n:Nat,((List.range n).map fun k=>(os.drop (3*k)).take 3).flatten=os.take (3*n)
 |0=>by simp
 |n+1=>by
  rw[Qby,Qam,Qbh,Zmd os n];simp only[Qa5,QcP,Qa4,QcG,QaS];rw[show 3*(n+1)=3*n+3 by omega,List.take_add]
theorem ZpI (xs:List V):(List.replicate (2:Int).toNat xs).flatten=xs++xs:=by
 show xs++(xs++ [])=xs++xs;rw[QaS]
def dI (ns:List Int):PyData:=.list (ns.map .int)
theorem ZhC {K:PySem.W.Frag}{ns:List Int}(h:SqL K H a (ns.map V.int)):DI K H (.ref a) (dI ns):=by
 refine .lst h (by rw[Qaa,Qaa]) fun i x d h1 h2=> ?_;rw[Qah] at h1 h2
 cases z:ns[i]? with
 |none=>rw[z] at h1;cases h1
 |some m=>rw[z] at h1 h2;cases h1;cases h2;exact .int m
theorem ZjN (ns ms:List Int):PyData.eqv (dI ns) (dI ms)=decide (ns=ms):=ZcS ns ms
theorem Zew (ns:List Int):(dI ns).canLay0=true:=ZeO ns
theorem ZjO (ns:List Int):(dI ns).depth≤60:=by show PyData.depthAll _+1≤60;rw[Zdr];decide
theorem Za4 {α:Type}:∀{l:List α} {k:Nat} {y:α},l[k]?=some y→l.Perm (y::l.eraseIdx k)
 | [],k,y,h=>by cases h
 |a::l,0,y,h=>by cases h;exact QcC _
 |a::l,k+1,y,h=>by
  have ih:=Za4 (l:=l) (k:=k) (y:=y) (by simpa using h);exact(List.Perm.cons a ih).trans (QdN y a _)
theorem ZdR {α β:Type}(f:α→β):∀(l:List α) (k:Nat),(l.map f).eraseIdx k=(l.eraseIdx k).map f
 | [],_=>rfl
 |_::_,0=>rfl
 |a::l,k+1=>by
  show f a::(l.map f).eraseIdx k=f a::(l.eraseIdx k).map f;rw[ZdR f l k]
theorem ZhD (xs:List V){u m:Int}(u0:0≤u)(m1:0≤m)(h:u+m≤(xs.length:Int)):Zgu xs (some u) (some (u+m))=(xs.drop u.toNat).take m.toNat:=by
 unfold Zgu
 have a1:HT.sIx xs.length 0 (some u)=u.toNat:=by
  show(if u<0 then _ else min u.toNat xs.length)=_;rw[if_neg (by omega)];omega
 have a2:HT.sIx xs.length xs.length (some (u+m))=u.toNat+m.toNat:=by
  show(if u+m<0 then _ else min (u+m).toNat xs.length)=_;rw[if_neg (by omega)];omega
 rw[a1,a2,Qcg]
theorem ZhE {y r:Int}(hy:0≤y)(h0:0≤r)(h1:r<2):Zau (y*(1-2*r))=y:=by
 have:r=0∨r=1:=by omega
 unfold Zau;rcases this with rfl|rfl
 ·rw[show y*(1-2*0)=y by omega,if_neg (by omega)]
 ·rw[show y*(1-2*1)= -y by omega];split<;>omega
theorem Ze2 (n:Nat):(ZeZ n).length=2*n:=by unfold ZeZ;rw[Qae,Ze1];omega
theorem Ze3 (h:i∈ZeZ n):1≤i∧i≤(n:Int):=by
 unfold ZeZ at h;rcases Qaq.mp h with h|h<;>(have:=Ze0.mp h;omega)
theorem ZhF {m:Nat}{os:List Int}(m1:1≤m)(m6:m≤6)(h:(os.map Zau).Perm (ZeZ (3*m))):Zb4 ((List.range (2*m)).map fun k=>(os.drop (3*k)).take 3):=by
 have hl:os.length=6*m:=by
  have:=h.length_eq;rw[Qaa,Ze2] at this;omega
 have lS:((List.range (2*m)).map fun k=>(os.drop (3*k)).take 3).length=2*m:=by rw[Qaa,Qbk]
 refine⟨⟨m,lS,m1,m6⟩,fun t ht=> ?_,?_⟩
 ·obtain⟨k,hk,rfl⟩:=Qaz.mp ht;have hk:=Qbb.mp hk;rw[QaC,Qbd];omega
 ·rw[Zmd,QaM (by omega),lS];rw[show 2*m/2*3=3*m by omega];exact h
def Zme:PyData→Bool
 | .int _=>true
 |_=>false
theorem Zk9 (d:PyData):Zme d=(isInt d && !Zjb d):=by cases d<;>rfl
theorem ZcM {α:Type}{xs:List α}(h:xs.length=3):∃a b c,xs=[a,b,c]:=by
 match xs,h with
 | [a,b,c],_=>exact⟨a,b,c,rfl⟩
theorem ZfX (lo:Int)(n:Nat):Zb8 lo (n+1)=Zb8 lo n++ [lo+(n:Int)]:=by unfold Zb8;rw[Qby,Qam];rfl
theorem Zex (t:Int):∀n:Nat,(Zb8 1 n).countP (fun z=>decide (z=t))=if 1≤t∧t≤(n:Int) then 1 else 0
 |0=>by rw[if_neg (by omega)];rfl
 |n+1=>by
  rw[ZfX,QdH,Zex t n];by_cases h:(1:Int)+(n:Int)=t
  ·rw[if_neg (by omega),if_pos (by omega)];simp[h]
  ·have e:List.countP (fun z=>decide (z=t)) [(1:Int)+(n:Int)]=0:=by simp[h]
   rw[e];by_cases q:1≤t∧t≤(n:Int)
   ·rw[if_pos q,if_pos (by omega)]
   ·rw[if_neg q,if_neg (by omega)]
theorem Zim (t:Int)(n:Nat):(ZeZ n).countP (fun z=>decide (z=t))=if 1≤t∧t≤(n:Int) then 2 else 0:=by
 unfold ZeZ;rw[QdH,Zex];split<;>rfl
theorem TuL.th {xs:List V}(h:TuL H xs us):ThL H xs (us.map dT):=by
 refine⟨by rw[Qaa];exact h.1,fun i x d h1 h2=> ?_⟩;rw[Qah] at h2
 cases z:us[i]? with
 |none=>rw[z] at h2;cases h2
 |some u=>
  rw[z] at h2;cases h2;obtain⟨a,rfl,ha⟩:=h.2 i x u h1 z;exact(ThL.ints u).tup ha
theorem ThL.set {H:Hp}{xs:List V}{ds:List PyData}(k:ThL H xs ds){v:V}{dv:PyData}(t:Th H v dv)(n:Nat):ThL H (xs.set n v) (ds.set n dv):=by
 refine⟨by rw[Qbf,Qbf,k.1],fun i x d h1 h2=> ?_⟩;rw[Qc4] at h1 h2;by_cases e:n=i
 ·rw[if_pos e] at h1 h2;rw[←k.1] at h2;by_cases q:n<xs.length
  ·rw[if_pos q] at h1 h2;cases h1;cases h2;exact t
  ·rw[if_neg q] at h1;cases h1
 ·rw[if_neg e] at h1 h2;exact k.2 i x d h1 h2
theorem ThL.erase {xs:List V}(k:ThL H xs ds)(n:Nat):ThL H (xs.eraseIdx n) (ds.eraseIdx n):=by
 have a:=(k.take n).append (k.drop (n+1));rw[Qc5,Qc5];exact a
theorem ThL.rev {xs:List V}(k:ThL H xs ds):ThL H xs.reverse ds.reverse:=by
 refine⟨by rw[QcH,QcH,k.1],fun i x d h1 h2=> ?_⟩;have hi:i<xs.length:=by have:=(Qac.mp h1).1;simpa using this
 rw[Qes hi] at h1;rw[Qes (by rw[←k.1];exact hi),←k.1] at h2;exact k.2 _ x d h1 h2
theorem FD.str {n:Nat}(x:Str)(h1:(PyData.str x).canLay0=true)(h2:(PyData.str x).weight≤400)(h3:(PyData.str x).intsShort 80=true):FD n 400 (.str x):=⟨h1,rfl,QaW _,h2,h3⟩
theorem FD.few (h:∀d∈ds,FD n 3000 d)(l:ds.length≤20):FD (n+1) 200000 (.list ds):=by
 refine(FA.lst (FA.all h)).mono (Qaf _) ?_
 have:ds.length*3001≤20*3001:=Qcy _ l;omega
theorem FD.fewT (h:∀d∈ds,FD n 3000 d)(l:ds.length≤20):FD (n+1) 200000 (.tuple ds):=by
 refine(FA.tup (FA.all h)).mono (Qaf _) ?_
 have:ds.length*3001≤20*3001:=Qcy _ l;omega
theorem FD.smallT (h:∀d∈ds,FD n 400 d)(l:ds.length≤6):FD (n+1) 3000 (.tuple ds):=by
 refine(FA.tup (FA.all h)).mono (Qaf _) ?_
 have:ds.length*401≤6*401:=Qcy _ l;omega
theorem FD.smallL (h:∀d∈ds,FD n 400 d)(l:ds.length≤6):FD (n+1) 3000 (.list ds):=by
 refine(FA.lst (FA.all h)).mono (Qaf _) ?_
 have:ds.length*401≤6*401:=Qcy _ l;omega
theorem Zb4.side (h:Zb4 S){t:List Int}(ht:t∈S)(hi:i∈t):1≤Zau i∧Zau i≤((S.length/2*3:Nat):Int):=by
 have:Zau i∈ZeZ (S.length/2*3):=h.ties.subset (List.mem_map_of_mem (Qa7.mpr ⟨t,ht,hi⟩));exact Ze3 this
theorem Zb4.len (h:Zb4 S):2≤S.length∧S.length≤12∧S.length%2=0:=by
 obtain⟨m,a,b,c⟩:=h.even;omega
theorem FD.sm (h: -100≤i∧i≤100):FD n 400 (.int i):=FD.int (QdG (by decide) h.1) (QdI h.2 (by decide))
theorem Ze4 {α:Type}{l:List α}{a b:α}(h:a∈l.set n b):a∈l∨a=b:=by
 rcases QdO h with h|h
 ·exact .inl h
 ·exact .inr h
inductive Ze5 {α:Type} (R:α→α→Prop):α→α→Prop where
 |refl (a:α):Ze5 R a a
 |step {a b c:α}:Ze5 R a b→R b c→Ze5 R a c
section
variable {α β:Type}{R:α→α→Prop}
theorem Ze5.trans {a b c:α}(h:Ze5 R a b)(k:Ze5 R b c):Ze5 R a c:=by
 induction k with
 |refl=>exact h
 |step _ r ih=>exact .step ih r
theorem Ze5.one {a b:α}(h:R a b):Ze5 R a b:=.step (.refl a) h
theorem Ze5.symm (hs:∀a b,R a b→R b a){a b:α}(h:Ze5 R a b):Ze5 R b a:=by
 induction h with
 |refl=>exact .refl _
 |step _ r ih=>exact(Ze5.one (hs _ _ r)).trans ih
structure ZcY (R:α→α→Prop)(ts:List α)(hs:List (List α)):Prop where
 perm:hs.flatten.Perm ts
 ne:∀h∈hs,h≠ []
 conn:∀h∈hs,∀x∈h,∀y∈h,Ze5 R x y
 closed:∀h∈hs,∀x∈h,∀y,R x y→y∈h
theorem ZcY.mem {ts:List α}{hs:List (List α)}(p:ZcY R ts hs){x:α}(hx:x∈ts):∃h∈hs,x∈h:=by
 have:=p.perm.symm.subset hx;obtain⟨h,h1,h2⟩:=Qa7.mp this;exact⟨h,h1,h2⟩
theorem ZcY.perm_in {ts:List α}{hs gs:List (List α)}(p:ZcY R ts hs)(hl:hs.length=gs.length)(h:∀(i:Nat) (a b:List α),hs[i]?=some a→gs[i]?=some b→b.Perm a):ZcY R ts gs:=by
 have back:∀b∈gs,∃a∈hs,b.Perm a:=by
  intro b hb;obtain⟨i,hi⟩:=List.getElem?_of_mem hb;have il:i<hs.length:=by rw[hl];exact(Qac.mp hi).1
  exact⟨hs[i],Qbo il,h i _ b (Qab il) hi⟩
 refine⟨?_,?_,?_,?_⟩
 ·refine List.Perm.trans ?_ p.perm;clear p back
  induction hs generalizing gs with
  |nil=>cases gs with
   |nil=>exact .refl _
   |cons b gs=>simp at hl
  |cons a hs ih=>cases gs with
   |nil=>simp at hl
   |cons b gs=>
    rw[Qa4,Qa4];exact(h 0 a b rfl rfl).append (ih (by simpa using hl) fun i x y h1 h2=>h (i+1) x y (by simpa using h1) (by simpa using h2))
 ·intro b hb e;obtain⟨a,ha,q⟩:=back b hb;subst e;exact p.ne a ha q.nil_eq.symm
 ·intro b hb x hx y hy;obtain⟨a,ha,q⟩:=back b hb;exact p.conn a ha x (q.subset hx) y (q.subset hy)
 ·intro b hb x hx y r;obtain⟨a,ha,q⟩:=back b hb;exact q.symm.subset (p.closed a ha x (q.subset hx) y r)
theorem ZcY.perm_out {ts:List α}{hs gs:List (List α)}(p:ZcY R ts hs)(q:gs.Perm hs):ZcY R ts gs:=
 ⟨(List.Perm.flatten q).trans p.perm,fun h hh=>p.ne h (q.subset hh),fun h hh=>p.conn h (q.subset hh),fun h hh=>p.closed h (q.subset hh)⟩
theorem ZgP {a b:List α} [DecidableEq α](ha:a.Nodup)(hb:b.Nodup)(h:∀x,x∈a↔x∈b):a.Perm b:=by
 rw[List.perm_iff_count];intro x;by_cases hx:x∈a
 ·rw[ha.count,if_pos hx,hb.count,if_pos ((h x).mp hx)]
 ·rw[List.count_eq_zero.mpr hx,List.count_eq_zero.mpr fun z=>hx ((h x).mpr z)]
theorem Zey:∀{hs:List (List α)},hs.flatten.Nodup→∀{h:List α},h∈hs→h.Nodup
 | [],_,_,hh=>by cases hh
 |a::hs,n,h,hh=>by
  rw[Qa4,QbD] at n;rcases QaJ.mp hh with e|e
  ·rw[e];exact n.1
  ·exact Zey n.2.1 e
end
inductive Itm (H:Hp):Bool→V→List Int→Prop where
 |int (i:Int):Itm H false (.int i) [i]
 |tup {a:Addr} {u:List Int}:H a=some (.tup (u.map V.int))→Itm H true (.ref a) u
def ItL (H:Hp)(tp:Bool)(xs:List V)(us:List (List Int)):Prop:=xs.length=us.length∧∀(i:Nat) (x:V) (u:List Int),xs[i]?=some x→us[i]?=some u→Itm H tp x u
theorem Itm.up {x:V}(h:Itm H tp x u)(t:ZbP H H'):Itm H' tp x u:=by
 cases h with
 |int i=>exact .int i
 |tup e=>exact .tup (t _ _ e)
theorem ItL.up {H H':Hp}{tp:Bool}{xs:List V}{us:List (List Int)}(h:ItL H tp xs us)(t:ZbP H H'):ItL H' tp xs us:=⟨h.1,fun i x u h1 h2=>(h.2 i x u h1 h2).up t⟩
theorem ItL.nil (H:Hp)(tp:Bool):ItL H tp [] []:=⟨rfl,fun i x u h=>by cases h⟩
theorem ItL.cons {x:V}{xs:List V}(a:Itm H tp x u)(h:ItL H tp xs us):ItL H tp (x::xs) (u::us):=by
 refine⟨by simp[h.1],fun i y v h1 h2=> ?_⟩
 cases i with
 |zero=>cases h1;cases h2;exact a
 |succ i=>exact h.2 i y v (by simpa using h1) (by simpa using h2)
theorem ItL.head {x:V}{xs:List V}(h:ItL H tp (x::xs) (u::us)):Itm H tp x u:=h.2 0 x u rfl rfl
theorem ItL.tail {x:V}{xs:List V}(h:ItL H tp (x::xs) (u::us)):ItL H tp xs us:=
 ⟨by simpa using h.1,fun i y v h1 h2=>h.2 (i+1) y v (by simpa using h1) (by simpa using h2)⟩
theorem ItL.append {xs ys:List V}(h:ItL H tp xs us)(k:ItL H tp ys vs):ItL H tp (xs++ys) (us++vs):=by
 refine⟨by simp[h.1,k.1],fun i x u h1 h2=> ?_⟩;by_cases c:i<xs.length
 ·rw[Qax c] at h1;rw[Qax (h.1 ▸ c)] at h2;exact h.2 i x u h1 h2
 ·rw[Qay (by omega)] at h1;rw[Qay (by rw[←h.1];omega),←h.1] at h2;exact k.2 _ x u h1 h2
theorem ItL.erase {xs:List V}(h:ItL H tp xs us)(n:Nat):ItL H tp (xs.eraseIdx n) (us.eraseIdx n):=by
 refine⟨by rw[List.length_eraseIdx,List.length_eraseIdx,h.1],fun i x u h1 h2=> ?_⟩;rw[List.getElem?_eraseIdx] at h1 h2;split at h1
 ·rename_i c;rw[if_pos c] at h2;exact h.2 i x u h1 h2
 ·rename_i c;rw[if_neg c] at h2;exact h.2 _ x u h1 h2
theorem ItL.at {xs:List V}(h:ItL H tp xs us){i:Nat}(e:us[i]?=some u):∃x,xs[i]?=some x∧Itm H tp x u:=by
 have il:i<xs.length:=by rw[h.1];exact(Qac.mp e).1
 exact⟨xs[i],Qab il,h.2 i _ u (Qab il) e⟩
theorem TuL.it {xs:List V}(h:TuL H xs us):ItL H true xs us:=⟨h.1,fun i x u h1 h2=>by
 obtain⟨a,rfl,e⟩:=h.2 i x u h1 h2
 exact .tup e⟩
theorem ItL.tu {xs:List V}(h:ItL H true xs us):TuL H xs us:=⟨h.1,fun i x u h1 h2=>by
 cases h.2 i x u h1 h2 with
 |tup e=>exact⟨_,rfl,e⟩⟩
inductive ItV (h:Heap):Bool→Value→List Int→Prop where
 |int (i:Int) (t:Tok):ItV h false (.int i t) [i]
 |tup {v:Value} {u:List Int}:Zif h v u→ItV h true v u
def cdV (tp:Bool)(h:Heap)(v:Value):List Int:=if tp then kfI h v else [ZoX v]
theorem ItV.cd (x:ItV h tp v u):cdV tp h v=u:=by
 cases x with
 |int i t=>rfl
 |tup t=>exact t.kf
theorem ItV.keep {h':Heap}(x:ItV h tp v u)(k:∀(b:Addr) (o:Obj),o.cls= .type "tuple" →h.get? b=some o→h'.get? b=some o):ItV h' tp v u:=by
 cases x with
 |int i t=>exact .int i t
 |tup t=>exact .tup (t.keep' k)
theorem ZmZ (I:Inv X qc σ H s){x:V}(h:Itm H tp x u)(r:Zbd x v):ItV s.heap tp v u:=by
 cases h with
 |int i=>obtain⟨t,rfl⟩:=r;exact .int i t
 |tup e=>cases r;exact .tup (Zl9 I e)
theorem ZhG {X:Cx}{qc:List (Addr×Obj)}{σ:L2.St}{H:Hp}{s:Shared}(I:Inv X qc σ H s){tp:Bool}:∀{xs:List V} {vs:List Value} {us:List (List Int)},ZaZ xs vs→ItL H tp xs us→vs.length=us.length∧∀(i:Nat) (v:Value) (u:List Int),vs[i]?=some v→us[i]?=some u→ItV s.heap tp v u
 |_,_,us,.nil,h=>by
  have:=h.1;refine⟨by simpa using this,fun i v u e=>by cases e⟩
 |_,_,[],.cons r t,h=>by have:=h.1;simp at this
 |_,_,u::us,.cons r t,h=>by
  obtain⟨l,k⟩:=ZhG I t h.tail;refine⟨by simp[l],fun i v w e1 e2=> ?_⟩
  cases i with
  |zero=>cases e1;cases e2;exact ZmZ I h.head r
  |succ i=>exact k i v w (by simpa using e1) (by simpa using e2)
theorem Zla (i j:Int):Zcs [i] [j]=decide (i<j):=by
 by_cases h:i=j
 ·subst h;rw[ZcE];exact(Qal (by omega)).symm
 ·show(if i=j then Zcs [] [] else decide (i<j))=_;rw[if_neg h]
theorem ItV.eq {v:List Int}(hu:A.units<cLine)(hx:ItV s.heap tp x u)(hy:ItV s.heap tp y v):SeqAt.EqAt A s x y (decide (u=v)):=by
 cases hx with
 |int i t=>
  cases hy with
  |int j t'=>
   have:=QdA (A:=A) (s:=s) i t j t'
   have e:(i==j)=decide ([i]=[j]):=by
    by_cases z:i=j<;>simp[z]
   rw[e] at this;exact this
 |tup tx=>
  cases hy with
  |tup ty=>
   obtain⟨p,op,ip,np,rfl,g1,g2,g3,g4⟩:=tx;obtain⟨q,oq,iq,nq,rfl,k1,k2,k3,k4⟩:=ty;intro prog w E Q hQ;exact wpAny_eqBool_tuple (knd:=intKind prog w) hu ⟨op,ip,np,g1,g2,g3,Zc8 g4⟩ ⟨oq,iq,nq,k1,k2,k3,Zc8 k4⟩ hQ
theorem ItV.lt {v:List Int}(hu:A.units<cLine)(hx:ItV s.heap tp x u)(hy:ItV s.heap tp y v)(h:Q (.bool (Zcs u v)) s):wpAny (model prog w) A (richCompare .Lt x y) Q E s:=by
 cases hx with
 |int i t=>
  cases hy with
  |int j t'=>
   rw[Zla] at h;exact HT.rcLt_int A s i t j t' prog w E Q h
 |tup tx=>
  cases hy with
  |tup ty=>
   obtain⟨p,op,ip,np,rfl,g1,g2,g3,g4⟩:=tx;obtain⟨q,oq,iq,nq,rfl,k1,k2,k3,k4⟩:=ty;refine HT.lt_tupInts (items:=ip) (items2:=iq) ⟨op,g1,g2,np,g3⟩ ⟨oq,k1,k2,nq,k3⟩ g4 k4 hu ?_;rw[ZjJ];exact h
def Zck:List (List Int)→List (List Int)→Bool
 | [],[]=>false
 | [],_::_=>true
 |_::_,[]=>false
 |a::u,b::v=>if a=b then Zck u v else Zcs a b
theorem ZfY:∀u:List (List Int),Zck u u=false
 | []=>rfl
 |a::u=>by show(if a=a then Zck u u else _)=false;rw[if_pos rfl];exact ZfY u
theorem Zc9 (a b:List Int)(u v:List (List Int)):Zck (a::u) (b::v)=if a=b then Zck u v else Zcs a b:=rfl
theorem ZdS:∀{x y z:List (List Int)},Zck x y=true→Zck y z=true→Zck x z=true
 | [],[],_,h,_=>by cases h
 | [],_::_,[],_,h=>by cases h
 | [],_::_,_::_,_,_=>rfl
 |_::_,[],_,h,_=>by cases h
 |_::_,_::_,[],_,h=>by cases h
 |a::x,b::y,c::z,h1,h2=>by
  rw[Zc9] at h1 h2⊢;by_cases e1:a=b
  ·subst e1;rw[if_pos rfl] at h1;by_cases e2:a=c
   ·rw[if_pos e2] at h2⊢;exact ZdS h1 h2
   ·rw[if_neg e2] at h2⊢;exact h2
  ·rw[if_neg e1] at h1;by_cases e2:b=c
   ·subst e2;rw[if_neg e1];exact h1
   ·rw[if_neg e2] at h2;have h3:=ZcF h1 h2;have e3:a≠c:=fun z=>by rw[z,ZcE] at h3;cases h3
    rw[if_neg e3];exact h3
theorem ZfZ:∀{x y:List (List Int)},Zck x y=false→Zck y x=false→x=y
 | [],[],_,_=>rfl
 | [],_::_,h,_=>by cases h
 |_::_,[],_,h=>by cases h
 |a::x,b::y,h1,h2=>by
  rw[Zc9] at h1 h2;by_cases e:a=b
  ·subst e;rw[if_pos rfl] at h1 h2;rw[ZfZ h1 h2]
  ·rw[if_neg e] at h1;rw[if_neg (Ne.symm e)] at h2;exact absurd (Zds h1 h2) e
def ZnA {α:Type}(lt:α→α→Bool)(ks:List α)(u:α):Int:=((ks.filter fun z=>lt z u).length:Nat)
theorem Ze6 {α:Type}{lt:α→α→Bool}(irr:∀x,lt x x=false)(tr:∀{x y z},lt x y=true→lt y z=true→lt x z=true)(tot:∀{x y},lt x y=false→lt y x=false→x=y){ks:List α}{x y:α}(hx:x∈ks)(hy:y∈ks):decide (ZnA lt ks x<ZnA lt ks y)=lt x y:=by
 have less:∀{a b:α},a∈ks→lt a b=true→ZnA lt ks a<ZnA lt ks b:=fun{a b} ha h=>by
  have:=ZdL (p:=fun z=>lt z a) (q:=fun z=>lt z b) (l:=ks) (x:=a) (fun z _ q=>tr q h) ha h (irr a);show(((ks.filter fun z=>lt z a).length:Nat):Int)<((ks.filter fun z=>lt z b).length:Nat);omega
 cases h:lt x y with
 |true=>exact Qan (less hx h)
 |false=>
  refine Qal fun q=> ?_
  cases h2:lt y x with
  |true=>have:=less hy h2;omega
  |false=>rw[tot h h2] at q;omega
def LsV (h:Heap)(tp:Bool)(v:Value)(us:List (List Int)):Prop:=∃(a:Addr) (its:Array Value),v= .ref a∧h.IsList a its∧its.size=us.length∧∀(i:Nat) (x:Value) (u:List Int),its[i]?=some x→us[i]?=some u→ItV h tp x u
theorem LsV.at {its:Array Value}(l:its.size=us.length)(k:∀(i:Nat) (x:Value) (u:List Int),its[i]?=some x→us[i]?=some u→ItV h tp x u){i:Nat}(hi:i<us.length):∃x,its[i]?=some x∧ItV h tp x us[i]:=
 ⟨its[i]'(by omega),QaP (by omega),k i _ _ (QaP (by omega)) (Qab hi)⟩
section
open PySem.SeqAt
open PySem.AutoSeq1 (wpAny_loadPart')
open PySem.MeetsSeq PySem.MeetsSeq2 PySem.MeetsSeq3
theorem Zlb (tp:Bool)(l b:Addr)(items items2:Array Value)(n n2:Nat)(dd dd2:Option Addr)(sl sl2:Array (Option Value))(us vs:List (List Int))(z1:items.size=us.length)(z2:items2.size=vs.length)(k:Nat):
  ∀i:Nat,us.length-i=k→i≤us.length→i≤vs.length→Meets (Builtin.«list.__eq__.loop» ⟨[.ref l,.ref b,rawInt i,rawInt 0],[]⟩)
   (fun A R s=>A.units+4<cLine∧s.heap.get? l=some {cls:=.type "list",dict:=dd,data:=.seq items n,slots:=sl }∧s.heap.get? b=some {cls:=.type "list",dict:=dd2,data:=.seq items2 n2,slots:=sl2 }∧
    (∀(i:Nat) (x:Value) (u:List Int),items[i]?=some x→us[i]?=some u→ItV s.heap tp x u)∧(∀(i:Nat) (x:Value) (u:List Int),items2[i]?=some x→vs[i]?=some u→ItV s.heap tp x u)∧
    R (.ok (.ret (.bool (Zck (us.drop i) (vs.drop i))))) s):=by
 induction k with
 |zero=>
  intro i hk iu iv prog w A R st hh;obtain⟨hp,g,d,tk,os⟩:=st;obtain⟨hun,hl,hb,ka,kb,hR⟩:=hh
  wp_walk using Qa3 hl,Qa3 hb
  have a1:items[((i:Nat):Int).toNat]?=none:=by simp;omega
  have e1:us.drop i=[]:=Qcz.mpr (by omega);rw[e1] at hR;rw[a1]
  wp_walk using Qa3 hl,Qa3 hb
  show R (.ok (.ret (.bool (decide (items.size<items2.size))))) _
  have e2:Zck [] (vs.drop i)=decide (items.size<items2.size):=by
   cases q:vs.drop i with
   |nil=>
    have:=Qcz.mp q;exact(Qal (by omega)).symm
   |cons c r=>
    have:¬vs.length≤i:=fun z=>by rw[Qcz.mpr z] at q;cases q
    exact(Qan (by omega)).symm
  rw[e2] at hR;exact hR
 |succ k ih=>
  intro i hk iu iv prog w A R st hh;obtain⟨hp,g,d,tk,os⟩:=st;obtain⟨hun,hl,hb,ka,kb,hR⟩:=hh
  wp_walk using Qa3 hl,Qa3 hb
  have il:i<us.length:=by omega
  have a1:items[((i:Nat):Int).toNat]?=some (items[i]'(by omega)):=by simp[show i<items.size by omega]
  have eu:us.drop i=us[i]::us.drop (i+1):=Qbn il;by_cases jl:i<vs.length
  ·have a2:items2[((i:Nat):Int).toNat]?=some (items2[i]'(by omega)):=by simp[show i<items2.size by omega]
   have ev:vs.drop i=vs[i]::vs.drop (i+1):=Qbn jl;rw[eu,ev,Zc9] at hR;rw[a1,a2];have p1:=ka i _ _ (QaP (by omega)) (Qab il);have p2:=kb i _ _ (QaP (by omega)) (Qab jl);have hu1:A.in1.units<cLine:=by show A.units+1<cLine;omega
   refine Qad (ItV.eq (s:=⟨hp,g,d,tk,os⟩) hu1 p1 p2 prog w _ _ ?_);by_cases q:us[i]=vs[i]
   ·rw[Qan q];rw[if_pos q] at hR
    wp_walk
    rw[show((i:Int)+1)=((i+1:Nat):Int) by push_cast;rfl];refine⟨Qd5 plain_eq_loop _,Qdt entry_eq_loop ?_⟩;rw[QcA plain_eq_loop _];exact ih (i+1) (by omega) (by omega) (by omega) prog w A R _ ⟨hun,hl,hb,ka,kb,hR⟩
   ·rw[Qal q];rw[if_neg q] at hR
    wp_walk using Qa3 hl,Qa3 hb
    rw[a1,a2];have fin:=fun(E':Value→Shared→Prop) (Q':Value→Shared→Prop) (z:Q' (.bool (Zcs us[i] vs[i])) ⟨hp,g,d,tk,os⟩)=>ItV.lt (prog:=prog) (w:=w) (E:=E') (s:=⟨hp,g,d,tk,os⟩) (A:=A.in1) hu1 p1 p2 z
    wp_walk using fin
    exact hR
  ·have a2:items2[((i:Nat):Int).toNat]?=none:=by simp;omega
   have ev:vs.drop i=[]:=Qcz.mpr (by omega);rw[eu,ev] at hR;rw[a1,a2]
   wp_walk using Qa3 hl,Qa3 hb
   show R (.ok (.ret (.bool (decide (items.size<items2.size))))) _;rw[Qal (by omega)];exact hR
end
section
open PySem.SeqAt
open PySem.AutoSeq1 (wpAny_loadPart')
open PySem.MeetsSeq PySem.MeetsSeq2 PySem.MeetsSeq3
theorem Zlc (tp:Bool)(l b:Addr)(items items2:Array Value)(n n2:Nat)(dd dd2:Option Addr)(sl sl2:Array (Option Value))(us vs:List (List Int))(z1:items.size=us.length)(z2:items2.size=vs.length):
  Meets (Builtin.«list.__lt__» ⟨[.ref l,.ref b],[]⟩)
   (fun A R s=>A.units+4<cLine∧s.heap.get? l=some {cls:=.type "list",dict:=dd,data:=.seq items n,slots:=sl }∧s.heap.get? b=some {cls:=.type "list",dict:=dd2,data:=.seq items2 n2,slots:=sl2 }∧
    (∀(i:Nat) (x:Value) (u:List Int),items[i]?=some x→us[i]?=some u→ItV s.heap tp x u)∧(∀(i:Nat) (x:Value) (u:List Int),items2[i]?=some x→vs[i]?=some u→ItV s.heap tp x u)∧
    R (.ok (.ret (.bool (Zck us vs)))) s):=by
 intro prog w A R st hh;obtain⟨hp,g,d,tk,os⟩:=st;obtain⟨hun,hl,hb,ka,kb,hR⟩:=hh;have f3:=AutoSeq1.sub_list_list
 wp_walk using Qa3 hl,Qa3 hb
 refine⟨Qd5 plain_eq_loop _,Qdt entry_eq_loop ?_⟩;rw[QcA plain_eq_loop _];exact Zlb tp l b items items2 n n2 dd dd2 sl sl2 us vs z1 z2 _ 0 rfl (QaW _) (QaW _) prog w A R _ ⟨hun,hl,hb,ka,kb,by simpa using hR⟩
theorem ZjP (l:Addr)(items:Array Value)(n:Nat)(dd:Option Addr)(sl:Array (Option Value))(x:Value)(e:Value→Bool)(j:Nat)(hj:j<items.size)(hit:e items[j]=true)(k:Nat)(hs1:items.size≤sizeLine):
  ∀i:Nat,j-i=k→i≤j→(∀m (hm:m<items.size),i≤m→m<j→e items[m]=false)→Meets (Builtin.«list.remove.loop» ⟨[.ref l,x,rawInt i],[]⟩)
   (fun A R s=>s.heap.get? l=some {cls:=.type "list",dict:=dd,data:=.seq items n,slots:=sl }∧(∀y,y∈items→EqAt A.in1 s y x (e y))∧R (.ok (.ret .none)) {s with heap:=s.heap.update l (Obj.mapSeq fun xs=>xs.eraseIdxIfInBounds j) }):=by
 induction k with
 |zero=>
  intro i hk hij hno prog w A R st hh;obtain⟨hp,g,d,tk,os⟩:=st;obtain⟨hl,he,hR⟩:=hh;obtain rfl:i=j:=by omega
  wp_walk using Qa3 hl
  rw[show items[((i:Nat):Int).toNat]?=some items[i] by simp[hj]];refine Qad (he _ (Array.getElem_mem hj) prog w _ _ ?_);rw[hit];have hz:(items.eraseIdxIfInBounds i).size≤sizeLine+1:=QaI (size_erased items _) (Nat.le_succ_of_le hs1)
  wp_walk using(wpAny_updateSeq hl rfl (hz:=hs1) (_hz':=hz)),Qa3 hl
  simpa using hR
 |succ k ih=>
  intro i hk hij hno prog w A R st hh;obtain⟨hp,g,d,tk,os⟩:=st;obtain⟨hl,he,hR⟩:=hh;have il:i<items.size:=by omega
  wp_walk using Qa3 hl
  rw[show items[((i:Nat):Int).toNat]?=some items[i] by simp[il]];refine Qad (he _ (Array.getElem_mem il) prog w _ _ ?_);rw[hno i il (Qaf _) (by omega)]
  wp_walk
  rw[show((i:Int)+1)=((i+1:Nat):Int) by push_cast;rfl];refine⟨Qd5 plain_remove_loop _,Qdt entry_remove_loop ?_⟩;rw[QcA plain_remove_loop _];exact ih (i+1) (by omega) (by omega) (fun m hm h1 h2=>hno m hm (by omega) h2) prog w A R _ ⟨hl,he,hR⟩
theorem Ze7 (l:Addr)(items:Array Value)(n:Nat)(dd:Option Addr)(sl:Array (Option Value))(x:Value)(e:Value→Bool)(j:Nat)(hj:j<items.size)(hit:e items[j]=true)(hno:∀m (hm:m<items.size),m<j→e items[m]=false)(hs1:items.size≤sizeLine):
  Meets (Builtin.«list.remove» ⟨[.ref l,x],[]⟩)
   (fun A R s=>s.heap.get? l=some {cls:=.type "list",dict:=dd,data:=.seq items n,slots:=sl }∧(∀y,y∈items→EqAt A.in1 s y x (e y))∧R (.ok (.ret .none)) {s with heap:=s.heap.update l (Obj.mapSeq fun xs=>xs.eraseIdxIfInBounds j) }):=by
 intro prog w A R st hh;obtain⟨hp,g,d,tk,os⟩:=st;obtain⟨hl,he,hR⟩:=hh
 wp_walk using Qa3 hl
 refine⟨Qd5 plain_remove_loop _,Qdt entry_remove_loop ?_⟩;rw[QcA plain_remove_loop _];exact ZjP l items n dd sl x e j hj hit _ hs1 0 rfl (QaW _) (fun m hm _ h2=>hno m hm h2) prog w A R _ ⟨hl,he,hR⟩
end
theorem ZhH {Q:Bool→Shared→Prop}(hu:A.units+8<cLine)(hx:LsV s.heap tp x us)(hy:LsV s.heap tp y vs)(h:Q (Zck us vs) s):wpAny (model prog w) A (keyLt' oneType' x y) Q E s:=by
 obtain⟨a,its,rfl,⟨⟨c1,d1,t1,l1⟩,o1,k1,n1,e1⟩,z1,p1⟩:=hx;obtain⟨b,jts,rfl,⟨⟨c2,d2,t2,l2⟩,o2,k2,n2,e2⟩,z2,p2⟩:=hy;simp only at k1 e1 k2 e2;subst k1 e1 k2 e2;rw[keyLt'_oneType,oneLt'_eq];simp only[QeI];refine Qad (wpAny_cRoomFor (by omega) ?_);refine Qad (wpAny_callSpecialIfBound?_slot (T:= "list") ⟨_,o1,rfl⟩ PySem.F.slot_list_lt (QcZ PySem.F.slot_list_lt ⟨_,o1,rfl⟩ PySem.F.entry_list_lt (PySem.F.args_list_lt_2 _ _) (Zlc tp a b its jts n1 n2 d1 d2 l1 l2 us vs z1 z2) ⟨?_,o1,o2,p1,p2,?_⟩))
 ·omega
 ·exact QbL h
def Ext (h h':Heap):Prop:=∀b o,h.get? b=some o→h'.get? b=some o
theorem Zez {α:Type}{vs:List Value}{k0:SortKind}{cv:Value→α}{lt:α→α→Bool}(irr:∀x,lt x x=false)(tr:∀{x y z},lt x y=true→lt y z=true→lt x z=true)(tot:∀{x y},lt x y=false→lt y x=false→x=y)
  (hl:s.heap.IsList l vs.toArray) (h64:vs.length<64)
  (hk:2≤vs.length→∀h',Ext s.heap h'→∀(E:Value→Shared→Prop) (Q:SortKind→Shared→Prop),Q k0 {s with heap:=h' }→wpAny (model prog w) A.in1.in1 (keyKind' vs.toArray) Q E {s with heap:=h' })
  (hL:∀h',Ext s.heap h'→∀(E:Value→Shared→Prop) (x y:Value) (Q:Bool→Shared→Prop),x∈vs→y∈vs→Q (lt (cv x) (cv y)) {s with heap:=h' }→wpAny (model prog w) A.in1.in1 (keyLt' k0 x y) Q E {s with heap:=h' })
  (h:∀out:Array Value,out.toList.Perm vs→(out.toList.map cv).Pairwise (fun x y=>lt y x=false)→Q (.ref (s.heap.objs.size+1)) {s with heap:=sortedAll s.heap vs out }):wpAny (model prog w) A (call (.builtin "sorted") [.ref l]) Q E s:=by
 refine QdP kind_sorted plain_sorted entry_sorted (args_sorted1 _) ?_;unfold Builtin.«sorted»;refine Qad (m:=checkCount "sorted" 1 1 _) (Qao (Qad (collect_list hl (Qad (Qd3 ?_)) (Qb0 (Zbs (by omega))))));have hsz:((s.heap.push (seqObj "list" #[] 0)).update s.heap.objs.size (Obj.mapSeq (· ++vs.toArray))).objs.size=s.heap.objs.size+1:=by rw[Heap.size_update,size_push']
 have hoL:(((s.heap.push (seqObj "list" #[] 0)).update s.heap.objs.size (Obj.mapSeq (· ++vs.toArray))).push (seqObj "list" vs.toArray 0)).get? (s.heap.objs.size+1)=some (seqObj "list" vs.toArray 0):=by
  rw[←hsz];exact QaQ _ rfl
 have k1:Ext s.heap (((s.heap.push (seqObj "list" #[] 0)).update s.heap.objs.size (Obj.mapSeq (· ++vs.toArray))).push (seqObj "list" vs.toArray 0)):=fun b o e=>by
  have:=Qau e;refine Qak _ ?_;rw[QcJ _ _ _ _ (QaX this)];exact Qak _ e
 show wpAny _ _ _ _ _ {s with heap:=((s.heap.push (seqObj "list" #[] 0)).update s.heap.objs.size (Obj.mapSeq (· ++vs.toArray))).push (seqObj "list" vs.toArray 0) };rw[hsz]
 have ext:∀h',(∀b o,b≠s.heap.objs.size+1→(((s.heap.push (seqObj "list" #[] 0)).update s.heap.objs.size (Obj.mapSeq (· ++vs.toArray))).push (seqObj "list" vs.toArray 0)).get? b=some o→h'.get? b=some o)→Ext s.heap h':=fun h' k b o e=>by
  have:=Qau e;exact k b o (QaX (Qct this)) (k1 b o e)
 have mz:∀p,p∈(pairsOf vs).toList→p.1=p.2∧p.1∈vs:=fun p q=>by rw[QdQ] at q;exact mem_zip_self q
 refine Qad (Qbs (QbW slot_list_sort ⟨_,hoL,rfl⟩ entry_list_sort (Zk1 (k0:=k0) (rk:=fun v=>ZnA lt (vs.map cv) (cv v)) hoL h64 (fun h2 h' k E' Q' q=>hk h2 h' (ext h' k) E' Q' q) (fun h' k E' x y Q' hx hy q=>hL h' (ext h' k) E' x.1 y.1 Q' (mz x hx).2 (mz y hy).2 ?_) fun xs pm up=>⟨_,rfl,?_⟩) (args_list_sort _)))
 ·rw[Ze6 irr tr tot (Qaz.mpr ⟨_,(mz x hx).2,rfl⟩) (Qaz.mpr ⟨_,(mz y hy).2,rfl⟩)] at q;exact q
 ·have pl:xs.toList.Perm (vs.zip vs):=by rw[←QdQ];exact Qa2.mp pm
  have ps:(xs.map (·.2)).toList.Perm vs:=by
   rw[Array.toList_map]
   have:=pl.map (·.2);rw[List.map_snd_zip (Qaf _)] at this;exact this
  suffices sr:((xs.map (·.2)).toList.map cv).Pairwise (fun x y=>lt y x=false) by
   have fin:=h (xs.map (·.2)) ps sr;unfold sortedAll at fin;exact Qao ⟨_,rfl,fin⟩
  rw[QcD];intro i j hi hj ij;have lx:(xs.map (·.2)).toList.length=xs.size:=by rw[QaB,QdM]
  rw[Qaa,lx] at hi hj;have hz:xs.size=(pairsOf vs).size:=pm.size_eq;have q:=up i j (Qb0 ij) (by omega);have mi:xs[i]∈(pairsOf vs).toList:=(Qa2.mp pm).subset (QbQ hi);have mj:xs[j]∈(pairsOf vs).toList:=(Qa2.mp pm).subset (QbQ hj);unfold RK at q;rw[QaP hi,QaP hj] at q;dsimp only at q;have e:=Ze6 irr tr tot (ks:=vs.map cv) (x:=cv xs[j].1) (y:=cv xs[i].1) (Qaz.mpr ⟨_,(mz _ mj).2,rfl⟩) (Qaz.mpr ⟨_,(mz _ mi).2,rfl⟩);rw[Qal (by omega)] at e;simp only[List.getElem_map,Array.getElem_toList,Array.getElem_map];rw[←(mz _ mi).1,←(mz _ mj).1];exact e.symm
theorem LsV.keep {h h':Heap}{tp:Bool}{v:Value}{us:List (List Int)}(x:LsV h tp v us)(k:Ext h h'):LsV h' tp v us:=by
 obtain⟨a,its,rfl,⟨o,e,c,n,d⟩,z,p⟩:=x;exact⟨a,its,rfl,⟨o,k _ _ e,c,n,d⟩,z,fun i y u h1 h2=>(p i y u h1 h2).keep fun b o _ q=>k b o q⟩
def cvL (tp:Bool)(h:Heap)(v:Value):List (List Int):=match v with
 | .ref a=>match h.get? a with
  |some o=>match o.data with
   | .seq its _=>its.toList.map (cdV tp h)
   |_=>[]
  |none=>[]
 |_=>[]
theorem LsV.cv (x:LsV h tp v us):cvL tp h v=us:=by
 obtain⟨a,its,rfl,⟨o,e,c,n,d⟩,z,p⟩:=x;unfold cvL;dsimp only;rw[e];dsimp only;rw[d];dsimp only;apply QbN;intro i;rw[Qah,QaH];by_cases il:i<us.length
 ·obtain⟨y,e1,e2⟩:=LsV.at z p il;rw[e1,Qab il];show some (cdV tp h y)=some us[i];rw[e2.cd]
 ·rw[Qeg (by omega),Qbm (by omega)];rfl
theorem ZeA {s:Shared}:∀{vs:List Value} {Q:List Value→Shared→Prop},(∀v∈vs,∃a o,v= .ref a∧s.heap.get? a=some o∧o.cls= .type "list")→Q (vs.map fun _=> .type "list") s→wpAny (model prog w) A (vs.mapM typeOf) Q E s
 | [],Q,_,h=>by rw[Qd1];exact Qao h
 |v::vs,Q,hv,h=>by
  rw[QdL];obtain⟨a,o,rfl,e,c⟩:=hv v QaA;exact Qad (QcO (T:= "list") ⟨o,e,c⟩ (Qad (ZeA (fun z hz=>hv z (QaD _ hz)) (Qao h))))
theorem ZeB {s:Shared}:∀{vs:List Value} {Q:List (Option Value)→Shared→Prop},(∀v∈vs,∃a o,v= .ref a∧s.heap.get? a=some o∧o.cls= .type "list")→Q (vs.map fun _=>none) s→wpAny (model prog w) A (vs.mapM firstOfTuple') Q E s
 | [],Q,_,h=>by rw[Qd1];exact Qao h
 |v::vs,Q,hv,h=>by
  rw[QdL];obtain⟨a,o,rfl,e,c⟩:=hv v QaA;rw[ZfN];refine Qad (Qad (QcO (T:= "list") ⟨o,e,c⟩ ?_));rw[if_pos (by decide)];exact Qao (Qad (ZeB (fun z hz=>hv z (QaD _ hz)) (Qao h)))
theorem Zin {vs:List Value}(hv:∀v∈vs,∃a o,v= .ref a∧s.heap.get? a=some o∧o.cls= .type "list")(h1:2≤vs.length){Q:SortKind→Shared→Prop}(h:Q oneType' s):wpAny (model prog w) A (keyKind' vs.toArray) Q E s:=by
 obtain⟨v0,vr,rfl⟩:∃v0 vr,vs=v0::vr:=by
  cases vs with
  |nil=>simp at h1
  |cons a r=>exact⟨a,r,rfl⟩
 rw[keyKind'_eq,Qc3,oneTypeOnly'_eq,Qc3];refine Qad ?_;simp only[map_eq_pure_bind];refine Qad (ZeB hv (Qao ?_));rw[if_neg (by simp),if_neg (by simp)];refine Qad (Qad (Qad (ZeA hv (Qao ?_))));have e0:(List.map (fun _=>Value.type "list") (v0::vr)).toArray[0]?=some (Value.type "list"):=by simp
 rw[e0];dsimp only
 have ea:((List.map (fun _=>Value.type "list") (v0::vr)).toArray.all fun x=>x==Value.type "list")=true:=by
  simp only[List.all_toArray,QdC,Qch];intro _ _;rfl
 rw[if_pos ea];exact Qao (Qao h)
def LsL (H:Hp)(tp:Bool)(ys:List V)(uss:List (List (List Int))):Prop:=ys.length=uss.length∧∀(i:Nat) (y:V) (us:List (List Int)),ys[i]?=some y→uss[i]?=some us→∃(a:Addr) (xs:List V),y= .ref a∧H a=some (.lst xs)∧ItL H tp xs us
theorem LsL.up {H H':Hp}{tp:Bool}{ys:List V}{uss:List (List (List Int))}(h:LsL H tp ys uss)(s:Zai H H'):LsL H' tp ys uss:=⟨h.1,fun i y us h1 h2=>by
 obtain⟨a,xs,rfl,e,k⟩:=h.2 i y us h1 h2
 exact⟨a,xs,rfl,s _ _ e,k.up s.tups⟩⟩
theorem LsL.nil (H:Hp)(tp:Bool):LsL H tp [] []:=⟨rfl,fun i x u h=>by cases h⟩
theorem LsL.snoc {ys xs:List V}(h:LsL H tp ys uss)(ha:H a=some (.lst xs))(k:ItL H tp xs us):LsL H tp (ys++ [.ref a]) (uss++ [us]):=by
 refine⟨by simp[h.1],fun i y vs h1 h2=> ?_⟩;by_cases il:i<ys.length
 ·rw[Qax il] at h1;rw[Qax (h.1 ▸ il)] at h2;exact h.2 i y vs h1 h2
 ·rw[Qay (by omega)] at h1;rw[Qay (by rw[←h.1];omega),←h.1] at h2
  cases e:i-ys.length with
  |zero=>
   rw[e] at h1 h2;cases h1;cases h2;exact⟨a,xs,rfl,ha,k⟩
  |succ j=>rw[e] at h1;cases h1
theorem Zom (I:Inv X qc σ H s){xs:List V}(e:H a=some (.lst xs))(k:ItL H tp xs us):LsV s.heap tp (.ref a) us:=by
 obtain⟨its,rv,pl,hz⟩:=I.list (SqL.of (K:=X.K) e);obtain⟨l,p⟩:=ZhG I rv k;exact⟨a,its.toArray,rfl,pl.isList,by rw[Qar];exact l,fun i x u h1 h2=>p i x u (by simpa using h1) h2⟩
theorem ZcZ:∀{l:List Value},(∀v∈l,∃a,v=Value.ref a)→ZaZ (l.map vOf) l
 | [],_=> .nil
 |v::l,h=>by
  obtain⟨a,rfl⟩:=h v QaA;exact .cons rfl (ZcZ fun z hz=>h z (QaD _ hz))
theorem ZjQ {α:Type}{l m:List α}(p:l.Perm m){i:Nat}{x:α}(e:l[i]?=some x):∃j:Nat,m[j]?=some x:=Qat.mp (p.subset (Qaj e))
theorem Ze8 (tp:Bool)(hr:Zc2 k X.A):ZbW X (.builtin "sorted") (fun xs H Q=>∃(p:Addr) (ys:List V) (uss:List (List (List Int))),xs=[.ref p]∧SqL X.K H p ys∧LsL H tp ys uss∧uss.length<64∧
  ∀(l:Addr) (zs:List V) (ws:List (List (List Int))),H l=none→LsL H tp zs ws→ws.Perm uss→ws.Pairwise (fun x y=>Zck y x=false)→Q (.ref l) (upd H l (.lst zs))):=by
 intro qc s σ H xs us Q I r h;obtain⟨p,ys,uss,rfl,hp,hL,h64,q⟩:=h;obtain⟨u,rfl,rx⟩:=Zcf r;cases rx;obtain⟨its,rv,pl,hz⟩:=I.list hp;have hlen:its.length=uss.length:=by rw[←rv.length];exact hL.1
 have row:∀(i:Nat) (v:Value),its[i]?=some v→∃(a:Addr) (xs:List V) (us:List (List Int)),v= .ref a∧ys[i]?=some (.ref a)∧uss[i]?=some us∧H a=some (.lst xs)∧ItL H tp xs us∧LsV s.heap tp v us:=fun i v e=>by
  have il:i<its.length:=(Qac.mp e).1;have e1:ys[i]?=some (ys[i]'(by rw[hL.1];omega)):=Qab _;have e2:uss[i]?=some (uss[i]'(by omega)):=Qab _;obtain⟨a,xs,ea,ha,k⟩:=hL.2 i _ _ e1 e2;obtain⟨v',ev',rr⟩:=rv.get e1;rw[e] at ev';cases ev';rw[ea] at rr e1;cases rr;exact⟨a,xs,_,rfl,e1,e2,ha,k,Zom I ha k⟩
 have mem:∀v∈its,∃us,LsV s.heap tp v us∧∃a o,v= .ref a∧s.heap.get? a=some o∧o.cls= .type "list" :=fun v hv=>by
  obtain⟨i,hi⟩:=Qat.mp hv;obtain⟨a,xs,us,rfl,_,_,_,_,L⟩:=row i v hi;have L':=L;obtain⟨a',jts,ea,⟨o,eo,c,_⟩,_⟩:=L';cases ea;exact⟨us,L,a,o,rfl,eo,c⟩
 have hu:=hr.un;refine Zez (k0:=oneType') (cv:=cvL tp s.heap) (lt:=Zck) ZfY ZdS ZfZ pl.isList (by omega) (fun h2 h' k E' Q' q'=> ?_) (fun h' k E' x y Q' hx hy q'=> ?_) fun out pm sr=> ?_
 ·refine Zin (s:={s with heap:=h' }) (fun v hv=> ?_) h2 q';obtain⟨_,_,a,o,ev,eo,c⟩:=mem v hv;exact⟨a,o,ev,k _ _ eo,c⟩
 ·obtain⟨us,L,_⟩:=mem x hx;obtain⟨vs,L',_⟩:=mem y hy;rw[L.cv,L'.cv] at q';exact ZhH (s:={s with heap:=h' }) (by show X.A.units+1+1+8<cLine;omega) (L.keep k) (L'.keep k) q'
 ·obtain⟨e,he⟩:=Qeo s.heap its out;have ol:out.toList.length=its.length:=pm.length_eq
  have refs:∀v∈out.toList,∃a,v=Value.ref a:=fun v hv=>by
   obtain⟨_,_,a,_,ev,_⟩:=mem v (pm.subset hv);exact⟨a,ev⟩
  have cvs:its.map (cvL tp s.heap)=uss:=by
   apply QbN;intro i;rw[Qah]
   cases z:its[i]? with
   |none=>rw[Qbm (by have:=QaY.mp z;omega)];rfl
   |some v=>
    obtain⟨a,xs,us,_,_,e2,_,_,L⟩:=row i v z;rw[e2];show some (cvL tp s.heap v)=some us;rw[L.cv]
  refine⟨.ref _,upd H (s.heap.objs.size+1) (.lst (out.toList.map vOf)),I.laid (t':=s.toks) (fun b ob z=>QdX z) (Qcf _) ⟨?_,out.toList,e,ZcZ refs,?_⟩,rfl,q _ (out.toList.map vOf) (out.toList.map (cvL tp s.heap)) (I.hok.fresh (Qcf _)) ⟨by rw[Qaa,Qaa],fun i y us h1 h2=> ?_⟩ ?_ sr⟩
  ·rw[Qaa,ol];exact Qb0 (Zbs (by omega))
  ·rw[he]
  ·rw[Qah] at h1 h2
   cases z:out.toList[i]? with
   |none=>rw[z] at h1;cases h1
   |some v=>
    rw[z] at h1 h2;obtain⟨j,hj⟩:=ZjQ pm z;obtain⟨a,xs,us',rfl,_,_,ha,k,L⟩:=row j v hj;cases h1;cases h2;refine⟨a,xs,rfl,ha,?_⟩;rw[L.cv];exact k
  ·rw[←cvs];exact pm.map _
theorem Ze9 (hr:Zc2 k X.A):ZbW X (.builtin "sorted") (fun xs H Q=>∃(p:Addr) (ys:List V) (us:List (List Int)),xs=[.ref p]∧SqL X.K H p ys∧TuL H ys us∧us.length<64∧(∀u∈us,u≠ [])∧
  ∀(l:Addr) (zs:List V) (ws:List (List Int)),H l=none→TuL H zs ws→ws.Perm us→ws.Pairwise (fun x y=>Zcs y x=false)→Q (.ref l) (upd H l (.lst zs))):=by
 intro qc s σ H xs us Q I r h;obtain⟨p,ys,us,rfl,hp,hL,h64,hne,q⟩:=h;obtain⟨u,rfl,rx⟩:=Zcf r;cases rx;obtain⟨its,rv,pl,hz⟩:=I.list hp;have hlen:its.length=us.length:=by rw[←rv.length];exact hL.1
 have row:∀(i:Nat) (v:Value),its[i]?=some v→∃(a:Addr) (u:List Int),v= .ref a∧ys[i]?=some (.ref a)∧us[i]?=some u∧H a=some (.tup (u.map V.int))∧Zif s.heap v u:=fun i v e=>by
  have il:i<its.length:=(Qac.mp e).1;have e1:ys[i]?=some (ys[i]'(by rw[hL.1];omega)):=Qab _;have e2:us[i]?=some (us[i]'(by omega)):=Qab _;obtain⟨a,ea,ha⟩:=hL.2 i _ _ e1 e2;obtain⟨v',ev',rr⟩:=rv.get e1;rw[e] at ev';cases ev';rw[ea] at rr e1;cases rr;exact⟨a,_,rfl,e1,e2,ha,Zl9 I ha⟩
 have mem:∀v∈its,∃u,Zif s.heap v u∧u≠ []∧∃a,v= .ref a:=fun v hv=>by
  obtain⟨i,hi⟩:=Qat.mp hv;obtain⟨a,u,rfl,_,e2,_,L⟩:=row i v hi;exact⟨u,L,hne u (Qaj e2),a,rfl⟩
 refine Zez (k0:=tuples' true) (cv:=kfI s.heap) (lt:=Zcs) ZcE ZcF Zds pl.isList (by omega) (fun h2 h' k E' Q' q'=> ?_) (fun h' k E' x y Q' hx hy q'=> ?_) fun out pm sr=> ?_
 ·refine Zjv (s:={s with heap:=h' }) (fun v hv=> ?_) (fun z=>by rw[z] at h2;simp at h2) q';obtain⟨u,t,nu,_⟩:=mem v hv;exact⟨u,t.keep' fun b o _ e=>k b o e,nu⟩
 ·obtain⟨u,t,_⟩:=mem x hx;obtain⟨v,t',_⟩:=mem y hy;rw[t.kf,t'.kf] at q';exact ZmQ (s:={s with heap:=h' }) true (t.keep' fun b o _ e=>k b o e) (t'.keep' fun b o _ e=>k b o e) q'
 ·obtain⟨e,he⟩:=Qeo s.heap its out;have ol:out.toList.length=its.length:=pm.length_eq
  have refs:∀v∈out.toList,∃a,v=Value.ref a:=fun v hv=>by
   obtain⟨_,_,_,a,ev⟩:=mem v (pm.subset hv);exact⟨a,ev⟩
  have cvs:its.map (kfI s.heap)=us:=by
   apply QbN;intro i;rw[Qah]
   cases z:its[i]? with
   |none=>rw[Qbm (by have:=QaY.mp z;omega)];rfl
   |some v=>
    obtain⟨a,u,_,_,e2,_,L⟩:=row i v z;rw[e2];show some (kfI s.heap v)=some u;rw[L.kf]
  refine⟨.ref _,upd H (s.heap.objs.size+1) (.lst (out.toList.map vOf)),I.laid (t':=s.toks) (fun b ob z=>QdX z) (Qcf _) ⟨?_,out.toList,e,ZcZ refs,?_⟩,rfl,q _ (out.toList.map vOf) (out.toList.map (kfI s.heap)) (I.hok.fresh (Qcf _)) ⟨by rw[Qaa,Qaa],fun i y us h1 h2=> ?_⟩ ?_ sr⟩
  ·rw[Qaa,ol];exact Qb0 (Zbs (by omega))
  ·rw[he]
  ·rw[Qah] at h1 h2
   cases z:out.toList[i]? with
   |none=>rw[z] at h1;cases h1
   |some v=>
    rw[z] at h1 h2;obtain⟨j,hj⟩:=ZjQ pm z;obtain⟨a,u',rfl,_,_,ha,L⟩:=row j v hj;cases h1;cases h2;refine⟨a,rfl,?_⟩;rw[L.kf];exact ha
  ·rw[←cvs];exact pm.map _
def Zpp (K:PySem.W.Frag)(tp:Bool):R2:=fun x y H Q=>∃p xs u us,y= .ref p∧SqL K H p xs∧Itm H tp x u∧ItL H tp xs us∧Q (.bl (decide (u∈us))) H
theorem Zon (tp:Bool)(hr:Zc2 k X.A):OpR X (compareOp .In) (Zpp X.K tp):=by
 intro qc s σ H x y v v' Q I rx ry h;obtain⟨p,xs,u,us,rfl,hp,hx,hL,q⟩:=h;cases ry;obtain⟨its,rv,pl,hz⟩:=I.list hp;have hv:=ZmZ I hx rx;obtain⟨l,at'⟩:=ZhG I rv hL;have hu:=hr.un;refine SeqAt.in_listAt (fun z=>decide (cdV tp s.heap z=u)) pl.isList (fun z hz=> ?_) ⟨.bl _,H,I,rfl,?_⟩
 ·obtain⟨i,hi⟩:=Qat.mp (by simpa using hz);have il:=(Qac.mp hi).1;have hz':=at' i z _ hi (Qab (by omega));rw[hz'.cd];exact ItV.eq (by show X.A.units+1<cLine;omega) hz' hv
 ·have cvs:its.map (cdV tp s.heap)=us:=by
   apply QbN;intro i;rw[Qah]
   cases z:its[i]? with
   |none=>rw[Qbm (by have:=QaY.mp z;omega)];rfl
   |some w'=>
    have il:=(Qac.mp z).1;have e2:=Qab (show i<us.length by omega);rw[e2];show some (cdV tp s.heap w')=some _;rw[(at' i w' _ z e2).cd]
  have e:(its.toArray.any fun z=>decide (cdV tp s.heap z=u))=decide (u∈us):=by
   rw[←cvs,List.any_toArray];rw[QbU,List.any_eq_true,QdJ,Qaz];exact⟨fun⟨a,b,c⟩=>⟨a,b,QaK c⟩,fun⟨a,b,c⟩=>⟨a,b,Qan c⟩⟩
  rw[e];exact q
def Zm0 (tp:Bool):V→List V→Hp→VK→Prop:=fun x vs H Q=>∃(l:Addr) (y:V) (xs:List V) (u:List Int) (us:List (List Int)) (j:Nat),x= .ref l∧vs=[y]∧H l=some (.lst xs)∧Itm H tp y u∧ItL H tp xs us∧us[j]?=some u∧(∀m,m<j→us[m]?≠some u)∧Q .non (upd H l (.lst (xs.eraseIdx j)))
theorem Zm1 (tp:Bool)(hr:Zc2 k X.A):MtM X "list.remove" (Zm0 tp):=by
 intro qc s σ H x vs v ws Q I rx rv0 h;obtain⟨l,y,xs,u,us,j,rfl,rfl,hH,hy,hL,ej,hno,q⟩:=h;cases rx;obtain⟨w',rfl,ry⟩:=Zcf rv0;obtain⟨z,its,n,r,hl,e⟩:=I.lstM hH;have hv:=ZmZ I hy ry;obtain⟨ll,at'⟩:=ZhG I r hL;have hu:=hr.un;have jl:j<us.length:=(Qac.mp ej).1;have cd:∀m (hm:m<its.length),cdV tp s.heap its[m]=us[m]'(by omega):=fun m hm=>(at' m _ _ (Qab hm) (Qab (by omega))).cd;refine QcZ F.slot_list_remove ⟨_,e,rfl⟩ F.entry_list_remove (F.args_list_remove_2 _ _) (Ze7 l its.toArray n none #[] w' (fun z=>decide (cdV tp s.heap z=u)) j (by simp;omega) ?_ (fun m hm mj=> ?_) (by rw[Qar,←hl];exact z)) ⟨e,fun z hz=> ?_,?_⟩
 ·refine Qan ?_
  have:=cd j (by omega);rw[QcB,this];rw[Qab jl] at ej;exact QaR ej
 ·refine Qal fun q'=> ?_;have hm':m<its.length:=by simpa using hm
  rw[QcB,cd m hm'] at q';exact hno m mj (by rw[Qab (by omega),q'])
 ·obtain⟨i,hi⟩:=Qat.mp (show z∈its by simpa using hz);have il:=(Qac.mp hi).1;have hz':=at' i z _ hi (Qab (by omega));rw[hz'.cd];exact ItV.eq (by show X.A.units+1<cLine;omega) hz' hv
 ·refine⟨.non,_,I.lset (its':=its.eraseIdx j) hH e ?_ (r.eraseIdx j) ?_,rfl,q⟩
  ·show its.toArray.eraseIdxIfInBounds j=(its.eraseIdx j).toArray;rw[Qc0]
  ·have:=ZdD xs j;omega
theorem Zed {K:PySem.W.Frag}(hr:Zc2 k X.A)(hK:X.K=K:=by rfl):ZbW X (.builtin "sorted") (fun xs H Q=>∃(p:Addr) (ys:List V) (us:List (List Int)),xs=[.ref p]∧SqL K H p ys∧TuL H ys us∧us.length<64∧(∀u∈us,u≠ [])∧
  ∀(l:Addr) (zs:List V) (ws:List (List Int)),H l=none→TuL H zs ws→ws.Perm us→ws.Pairwise (fun x y=>Zcs y x=false)→Q (.ref l) (upd H l (.lst zs))):=by subst hK;exact Ze9 hr
def Zgo (tp:Bool)(u:List Int):PyData:=if tp then dT u else .int (u.headD 0)
theorem Itm.di {K:PySem.W.Frag}{H:Hp}{tp:Bool}{x:V}{u:List Int}(h:Itm H tp x u):DI K H x (Zgo tp u):=by
 cases h with
 |int i=>exact .int i
 |tup e=>exact((ThL.ints u).tup e).di
theorem ItL.di {K:PySem.W.Frag}{H:Hp}{tp:Bool}{a:Addr}{xs:List V}{us:List (List Int)}(h:ItL H tp xs us)(ha:SqL K H a xs):DI K H (.ref a) (.list (us.map (Zgo tp))):=by
 refine .lst ha (by rw[Qaa];exact h.1) fun i x d h1 h2=> ?_;rw[Qah] at h2
 cases z:us[i]? with
 |none=>rw[z] at h2;cases h2
 |some u=>rw[z] at h2;cases h2;exact(h.2 i x u h1 z).di
theorem Zm2 (tp:Bool)(u:List Int):(Zgo tp u).canLay0=true:=by
 cases tp with
 |false=>rfl
 |true=>have:=ZdP [u];simpa[dTs,PyData.canLay0,PyData.canLayAll0,Zgo] using this
theorem Zoo (tp:Bool)(u:List Int):(Zgo tp u).depth≤1:=by
 cases tp with
 |false=>exact QaW _
 |true=>show PyData.depthAll _+1≤1;rw[Zdr];decide
theorem ZjR (tp:Bool):∀us:List (List Int),PyData.canLayAll0 (us.map (Zgo tp))=true
 | []=>rfl
 |u::us=>by show((Zgo tp u).canLay0 && PyData.canLayAll0 (us.map (Zgo tp)))=true;rw[Zm2,ZjR tp us];rfl
theorem Zmf (tp:Bool):∀us:List (List Int),PyData.depthAll (us.map (Zgo tp))≤1
 | []=>QaW _
 |u::us=>by show max (Zgo tp u).depth (PyData.depthAll (us.map (Zgo tp)))≤1;have:=Zoo tp u;have:=Zmf tp us;omega
theorem Zld (tp:Bool)(us:List (List Int)):PyData.eqv (.list (us.map (Zgo tp))) (.list [])=decide (us=[]):=by
 cases us with
 |nil=>rfl
 |cons u us=>rfl
theorem Zpq {v:List Int}(hu:tp=false→u.length=1)(hv:tp=false→v.length=1):PyData.eqv (Zgo tp u) (Zgo tp v)=decide (u=v):=by
 cases tp with
 |true=>exact ZlS u v
 |false=>
  match u,v,hu rfl,hv rfl with
  | [i],[j],_,_=>
   show decide (i=j)=decide ([i]=[j]);by_cases z:i=j<;>simp[z]
theorem Itm.one {x:V}(h:Itm H tp x u):tp=false→u.length=1:=fun e=>by
 subst e;cases h;rfl
theorem Zai.nw (a:Zai H H')(h:H' p=none):Zai H (upd H' p o):=fun c u e=>by
 have:=a c u e;rw[Zan (Zak this h)];exact this
theorem Zai.ow (a:Zai H H')(h:H p=none):Zai H (upd H' p o):=fun c u e=>by
 rw[Zan (Zak e h)];exact a c u e
def RL (L:List (List Int×List Int))(u v:List Int):Prop:=(u,v)∈L∨(v,u)∈L
theorem RL.symm (u v:List Int)(h:RL L u v):RL L v u:=h.elim .inr .inl
structure ZnB (L:List (List Int×List Int))(ts:List (List Int))(hs:List (List (List Int)))(us:List (List Int)):Prop where
 perm:(hs.flatten++us).Perm ts
 ne:∀h∈hs,h≠ []
 conn:∀h∈hs,∀x∈h,∀y∈h,Ze5 (RL L) x y
 closed:∀h∈hs,∀x∈h,∀y,RL L x y→y∈h
structure ZjS (L:List (List Int×List Int))(ts:List (List Int))(hs:List (List (List Int)))(vs us:List (List Int)):Prop where
 perm:(hs.flatten++(vs++us)).Perm ts
 ne:∀h∈hs,h≠ []
 conn:∀h∈hs,∀x∈h,∀y∈h,Ze5 (RL L) x y
 closed:∀h∈hs,∀x∈h,∀y,RL L x y→y∈h
 vne:vs≠ []
 vcon:∀x∈vs,∀y∈vs,Ze5 (RL L) x y
theorem ZnB.start {x:List Int}(h:ZnB L ts hs (x::us)):ZjS L ts hs [x] us:=
 ⟨h.perm,h.ne,h.conn,h.closed,by simp,fun a ha b hb=>by rw[QaE.mp ha,QaE.mp hb];exact .refl _⟩
theorem ZjS.take {x w:List Int}(h:ZjS L ts hs vs us)(hx:x∈vs)(r:RL L x w)(e:us[j]?=some w):ZjS L ts hs (vs++ [w]) (us.eraseIdx j):=by
 refine⟨List.Perm.trans (Qbq _ ?_) h.perm,h.ne,h.conn,h.closed,by simp,fun a ha b hb=> ?_⟩
 ·rw[Qaw];exact Qbq _ (Za4 e).symm
 ·have cw:∀a∈vs++ [w],Ze5 (RL L) x a:=fun a ha=>by
   rcases Qaq.mp ha with q|q
   ·exact h.vcon x hx a q
   ·rw[QaE.mp q];exact Ze5.one r
  exact((cw a ha).symm RL.symm).trans (cw b hb)
theorem ZjS.fin (h:ZjS L ts hs vs us)(nd:ts.Nodup)(inT:∀p∈L,p.1∈ts∧p.2∈ts)(pr:∀x∈vs,∀w,RL L x w→w∉us):ZnB L ts (hs++ [vs]) us:=by
 refine⟨?_,?_,?_,?_⟩
 ·rw[Qbh,Qaw];simpa using h.perm
 ·intro g hg;rcases Qaq.mp hg with q|q
  ·exact h.ne g q
  ·rw[QaE.mp q];exact h.vne
 ·intro g hg;rcases Qaq.mp hg with q|q
  ·exact h.conn g q
  ·rw[QaE.mp q];exact h.vcon
 ·intro g hg;rcases Qaq.mp hg with q|q
  ·exact h.closed g q
  ·rw[QaE.mp q];intro x hx w r
   have wt:w∈ts:=by
    rcases r with r|r
    ·exact(inT _ r).2
    ·exact(inT _ r).1
   have n2:=h.perm.nodup_iff.mpr nd;rw[QbD] at n2;rcases Qaq.mp (h.perm.symm.subset wt) with m|m
   ·obtain⟨g',hg',wg⟩:=Qa7.mp m;have xg:=h.closed g' hg' w wg x (RL.symm _ _ r);exact absurd rfl (n2.2.2 x (Qa7.mpr ⟨g',hg',xg⟩) x (QaL _ hx))
   ·rcases Qaq.mp m with m|m
    ·exact m
    ·exact absurd m (pr x hx w r)
theorem ZnB.parts (h:ZnB L ts hs []):ZcY (RL L) ts hs:=
 ⟨by simpa using h.perm,h.ne,h.conn,h.closed⟩
def PaL (H:Hp)(tp:Bool)(ps:List V)(L:List (List Int×List Int)):Prop:=ps.length=L.length∧∀(i:Nat) (y:V) (p:List Int×List Int),ps[i]?=some y→L[i]?=some p→∃(q:Addr) (x z:V),y= .ref q∧H q=some (.tup [x,z])∧Itm H tp x p.1∧Itm H tp z p.2
theorem PaL.up {H H':Hp}{tp:Bool}{ps:List V}{L:List (List Int×List Int)}(h:PaL H tp ps L)(t:ZbP H H'):PaL H' tp ps L:=⟨h.1,fun i y p h1 h2=>by
 obtain⟨q,x,z,rfl,e,a,b⟩:=h.2 i y p h1 h2
 exact⟨q,x,z,rfl,t _ _ e,a.up t,b.up t⟩⟩
theorem PaL.nil (H:Hp)(tp:Bool):PaL H tp [] []:=⟨rfl,fun i x u h=>by cases h⟩
theorem PaL.snoc {ps:List V}{q:Addr}{x z:V}{v:List Int}(h:PaL H tp ps L)(e:H q=some (.tup [x,z]))(a:Itm H tp x u)(b:Itm H tp z v):PaL H tp (ps++ [.ref q]) (L++ [(u,v)]):=by
 refine⟨by simp[h.1],fun i y p h1 h2=> ?_⟩;by_cases il:i<ps.length
 ·rw[Qax il] at h1;rw[Qax (h.1 ▸ il)] at h2;exact h.2 i y p h1 h2
 ·rw[Qay (by omega)] at h1;rw[Qay (by rw[←h.1];omega),←h.1] at h2
  cases z':i-ps.length with
  |zero=>
   rw[z'] at h1 h2;cases h1;cases h2;exact⟨q,x,z,rfl,e,a,b⟩
  |succ j=>rw[z'] at h1;cases h1
structure Hst (H0 H:Hp)(tp:Bool)(c l:Addr)(zs xs:List V)(hs:List (List (List Int)))(us:List (List Int)):Prop where
 same:Zai H0 H
 fc:H0 c=none
 fl:H0 l=none
 hc:H c=some (.lst zs)
 lz:LsL H tp zs hs
 hl:H l=some (.lst xs)
 il:ItL H tp xs us
 av:∀y∈zs,y≠ .ref l
 ac:∀y∈zs,y≠ .ref c
 cl:c≠l
structure Wst (H0 H:Hp)(tp:Bool)(c l p:Addr)(zs xs ys:List V)(hs:List (List (List Int)))(us vs:List (List Int)):Prop extends Hst H0 H tp c l zs xs hs us where
 fp:H0 p=none
 hp:H p=some (.lst ys)
 ip:ItL H tp ys vs
 ap:∀y∈zs,y≠ .ref p
 pc:p≠c
 pl:p≠l
theorem LsL.set {ys xs zs:List V}(h:LsL H tp ys uss)(hl:H l=some (.lst xs))(av:∀y∈ys,y≠ .ref l):LsL (upd H l (.lst zs)) tp ys uss:=⟨h.1,fun i y us h1 h2=>by
 obtain⟨a,xs',rfl,e,k⟩:=h.2 i y us h1 h2
 have na:a≠l:=fun z=>av _ (Qaj h1) (by rw[z])
 exact⟨a,xs',rfl,by rw[Zan na];exact e,k.up (ZbP.lst (ZbP.refl H) hl)⟩⟩
section
variable {zs xs ys:List V}
theorem Hst.nw {q:Addr}{o:HO}(h:Hst H0 H tp c l zs xs hs us)(hq:H q=none):Hst H0 (upd H q o) tp c l zs xs hs us:=
 have s:=Zai.nw (o:=o) (Zai.refl H) hq
 ⟨h.same.trans s,h.fc,h.fl,s _ _ h.hc,h.lz.up s,s _ _ h.hl,h.il.up s.tups,h.av,h.ac,h.cl⟩
theorem Wst.nw {q:Addr}{o:HO}(h:Wst H0 H tp c l p zs xs ys hs us vs)(hq:H q=none):Wst H0 (upd H q o) tp c l p zs xs ys hs us vs:=
 have s:=Zai.nw (o:=o) (Zai.refl H) hq
 ⟨h.toHst.nw hq,h.fp,s _ _ h.hp,h.ip.up s.tups,h.ap,h.pc,h.pl⟩
theorem Wst.rem (h:Wst H0 H tp c l p zs xs ys hs us vs)(j:Nat):Wst H0 (upd H l (.lst (xs.eraseIdx j))) tp c l p zs (xs.eraseIdx j) ys hs (us.eraseIdx j) vs:=by
 have t:ZbP H (upd H l (.lst (xs.eraseIdx j))):=ZbP.lst (ZbP.refl H) h.hl;exact⟨⟨h.same.ow h.fl,h.fc,h.fl,by rw[Zan h.cl];exact h.hc,h.lz.set h.hl h.av,Zaa,(h.il.erase j).up t,h.av,h.ac,h.cl⟩,h.fp,by rw[Zan h.pl];exact h.hp,h.ip.up t,h.ap,h.pc,h.pl⟩
theorem Wst.app (h:Wst H0 H tp c l p zs xs ys hs us vs){x:V}{w:List Int}(a:Itm H tp x w):Wst H0 (upd H p (.lst (ys++ [x]))) tp c l p zs xs (ys++ [x]) hs us (vs++ [w]):=by
 have t:ZbP H (upd H p (.lst (ys++ [x]))):=ZbP.lst (ZbP.refl H) h.hp;exact⟨⟨h.same.ow h.fp,h.fc,h.fl,by rw[Zan (Ne.symm h.pc)];exact h.hc,h.lz.set h.hp h.ap,by rw[Zan (Ne.symm h.pl)];exact h.hl,h.il.up t,h.av,h.ac,h.cl⟩,h.fp,Zaa,((h.ip.append (ItL.cons a (ItL.nil H tp)))).up t,h.ap,h.pc,h.pl⟩
theorem Wst.fin (h:Wst H0 H tp c l p zs xs ys hs us vs):Hst H0 (upd H c (.lst (zs++ [.ref p]))) tp c l (zs++ [.ref p]) xs (hs++ [vs]) us:=by
 have t:ZbP H (upd H c (.lst (zs++ [.ref p]))):=ZbP.lst (ZbP.refl H) h.hc;have lz:LsL (upd H c (.lst (zs++ [.ref p]))) tp zs hs:=h.lz.set h.hc h.ac;refine⟨h.same.ow h.fc,h.fc,h.fl,Zaa,LsL.snoc lz (by rw[Zan h.pc];exact h.hp) (h.ip.up t),by rw[Zan (Ne.symm h.cl)];exact h.hl,h.il.up t,fun y hy=> ?_,fun y hy=> ?_,h.cl⟩
 ·rcases Qaq.mp hy with q|q
  ·exact h.av y q
  ·rw[QaE.mp q];intro e;exact h.pl (V.ref.inj e)
 ·rcases Qaq.mp hy with q|q
  ·exact h.ac y q
  ·rw[QaE.mp q];intro e;exact h.pc (V.ref.inj e)
end
def Zop (K:PySem.W.Frag)(tp:Bool):TS:=
 Zbq (ZbU (ZfA ZaA) (Zas 2))
 (Zbq (ZbU (tCB (fun xs H Q=>∃p ys,xs=[V.ref p]∧(SqL K H p ys∨SqT K H p ys)∧∀(l:Addr),H l=none→Q (V.ref l) (upd H l (HO.lst ys))) (Zae (Zam 0) ZaA)) (Zas 3))
 (Zbq (Zhl (Zbl (tOp (ZmG K fun b=> !b) (Zam 3) (ZfA ZaA)))
  (Zbq (ZbU (ZfA (Zae (tBM K "list" Zi4 (Zam 3) (Zae (tC (V.int 0)) ZaA)) ZaA)) (Zas 4))
  (Zbq (ZbU (tC (V.int 0)) (Zas 5))
  (Zbq (Zhl (Zbl (tOp (rI0 fun i j=>V.bl (decide (i<j))) (Zam 5) (tCB (fun xs H Q=>∃p ys,xs=[V.ref p]∧(SqL K H p ys∨SqT K H p ys)∧Q (V.int ((ys.length:Nat):Int)) H) (Zae (Zam 4) ZaA))))
   (Zbq (Ziz (Zc4 K (Zam 1)) (Zhk K 2 (Zbb (Zas 6) (Zbb (Zas 7) Zgs)))
    (Ziz (ZlL K (Zeq (Zae (Zeq (Zae (Zam 6) (Zae (Zam 7) ZaA))) (Zae (Zeq (Zae (Zam 7) (Zae (Zam 6) ZaA))) ZaA)))) (Zhk K 2 (Zbb (Zas 8) (Zbb (Zas 9) Zgs)))
     (Zdg (ZoR (Zbl (tOp (ZmG K fun b=>b) (Zam 8) (tOp (ZdC K) (Zam 4) (Zam 5)))) (Zbl (tOp (Zpp K tp) (Zam 9) (Zam 3))))
      (Zbq (Zfw (tBM K "list" (Zm0 tp) (Zam 3) (Zae (Zam 9) ZaA))) (Zfw (tBM K "list" ZdE (Zam 4) (Zae (Zam 9) ZaA)))) Zcd)))
    (ZbU (tOp (rI0 fun i j=>V.int (i+j)) (Zam 5) (tC (V.int 1))) (Zas 5))))
   (Zfw (tBM K "list" ZdE (Zam 2) (Zae (Zam 4) ZaA)))))))
  (Zct (Zam 2))))
theorem Hst.pop {zs xs:List V}{x:V}(h:Hst H0 H tp c l zs (x::xs) hs (u::us)):Hst H0 (upd H l (.lst xs)) tp c l zs xs hs us∧Itm (upd H l (.lst xs)) tp x u:=by
 have t:ZbP H (upd H l (.lst xs)):=ZbP.lst (ZbP.refl H) h.hl;exact⟨⟨h.same.ow h.fl,h.fc,h.fl,by rw[Zan h.cl];exact h.hc,h.lz.set h.hl h.av,Zaa,h.il.tail.up t,h.av,h.ac,h.cl⟩,h.il.head.up t⟩
theorem Hst.open {zs xs:List V}{x:V}(h:Hst H0 H tp c l zs xs hs us)(i:Itm H tp x u)(hp:H p=none):Wst H0 (upd H p (.lst [x])) tp c l p zs xs [x] hs us [u]:=by
 have s:=Zai.nw (o:=.lst [x]) (Zai.refl H) hp;refine⟨h.nw hp,h.same.free hp,Zaa,(ItL.cons i (ItL.nil _ _)).up s.tups,fun y hy e=> ?_,fun z=> ?_,fun z=> ?_⟩
 ·obtain⟨i,hi⟩:=Qat.mp hy;have il:=(Qac.mp hi).1;obtain⟨a,ys,ea,ha,_⟩:=h.lz.2 i y _ hi (Qab (by rw[←h.lz.1];exact il));rw[ea] at e;cases e;rw[hp] at ha;cases ha
 ·rw[z,h.hc] at hp;cases hp
 ·rw[z,h.hl] at hp;cases hp
theorem Zfa {α:Type}:∀{hs:List (List α)},(∀h∈hs,h≠ [])→hs.length≤hs.flatten.length
 | [],_=>Qaf _
 |h::hs,ne=>by
  have ih:=Zfa fun g hg=>ne g (QaD _ hg)
  have:0<h.length:=Qdu.mpr (ne h QaA);rw[Qa4,Qae,QaF];omega
theorem Zle {w:List Int}(nd:us.Nodup)(e:us[j]?=some w):w∉us.eraseIdx j:=fun m=>by
 have p:=(Za4 e).nodup_iff.mp nd;exact(Qb7.mp p).1 m
theorem ZjT {w:List Int}(h:w∈us):∃j:Nat,us[j]?=some w∧∀m,m<j→us[m]?≠some w:=by
 induction us with
 |nil=>cases h
 |cons a us ih=>
  by_cases e:a=w
  ·exact⟨0,by rw[e];rfl,fun m hm=>absurd hm (Qdr _)⟩
  ·obtain⟨j,h1,h2⟩:=ih (by rcases QaJ.mp h with q|q;exact absurd q.symm e;exact q);refine⟨j+1,by simpa using h1,fun m hm=> ?_⟩
   cases m with
   |zero=>intro q;exact e (QaR q)
   |succ m=>simpa using h2 m (by omega)
theorem ZgQ {K:PySem.W.Frag}{Q:VK}{Z:L2.St→Hp→Prop}{b:Addr}{xs ps:List V}(ha:H a=some (.lst xs))(iT:ItL H tp xs ts)(hb:H b=some (.lst ps))(iP:PaL H tp ps L)(nd:ts.Nodup)(sz:ts.length≤1000)(inT:∀p∈L,p.1∈ts∧p.2∈ts)
  (k:∀(c:Addr) (zs:List V) (hs:List (List (List Int))) (H':Hp),Zai H H'→H c=none→H' c=some (.lst zs)→LsL H' tp zs hs→ZcY (RL L) ts hs→Q (.ref c) H'):Zop K tp {nx:=Z,rt:=Q } [some (.ref a),some (.ref b),none,none,none,none,none,none,none,none] H:=by
 refine⟨(by show 0≤sizeLine;decide),fun c hc=> ?_⟩;have s1:=Zai.nw (o:=.lst []) (Zai.refl H) hc;have fc:(upd H c (.lst [])) c=some (.lst []):=Zaa;have acne:a≠c:=Zak ha hc;generalize upd H c (.lst [])=H1 at s1 fc⊢;refine⟨_,rfl,a,xs,rfl,.inl (SqL.of (s1 _ _ ha)),fun l hl=> ?_⟩;have s2:=Zai.nw (o:=.lst xs) s1 hl;have st0:Hst H (upd H1 l (.lst xs)) tp c l [] xs [] ts:=⟨s2,hc,s1.free hl,Zai.nw (o:=.lst xs) (Zai.refl H1) hl _ _ fc,LsL.nil _ _,Zaa,iT.up s2.tups,fun y hy=>(by cases hy),fun y hy=>(by cases hy),Zak fc hl⟩;generalize upd H1 l (.lst xs)=H2 at st0⊢;refine Zdq (fun σ H'=>∃(x4 x5 x6 x7 x8 x9:Option V) (zs xs:List V) (hs:List (List (List Int))) (us:List (List Int)),σ=[some (.ref a),some (.ref b),some (.ref c),some (.ref l),x4,x5,x6,x7,x8,x9]∧Hst H H' tp c l zs xs hs us∧ZnB L ts hs us) (fun σ H'=>match H' l with|some (.lst xs)=>xs.length|_=>0) ⟨_,_,_,_,_,_,[],xs,[],ts,rfl,st0,⟨QcC _,fun _ h=>(by cases h),fun _ h=>(by cases h),fun _ h=>(by cases h)⟩⟩ ?_ (fun σ H Q Q' h hc=>by obtain⟨v,e,z,k⟩:=hc;exact⟨v,e,z,fun p hp=>by obtain⟨d1,d2,a1,a2,a3,a4,a5,b,eb,q⟩:=k p hp;exact⟨d1,d2,a1,a2,a3,a4,a5,b,eb,h _ _ q⟩⟩);rintro σ H3 ⟨x4,x5,x6,x7,x8,x9,zs,xs,hs,us,rfl,st,inv⟩;refine⟨_,rfl,(by show 0≤sizeLine;decide),fun z hz=> ?_⟩;have st4:=st.nw (o:=.lst []) hz;have hz4:(upd H3 z (.lst [])) z=some (.lst []):=Zaa;have s34:=Zai.nw (o:=.lst []) (Zai.refl H3) hz;generalize upd H3 z (.lst [])=H4 at st4 hz4 s34⊢;refine⟨_,_,st4.il.di (SqL.of st4.hl),(ItL.nil H4 tp).di (SqL.of hz4),ZjR tp us,ZjR tp [],QaI (Qd7 (Zmf tp us)) (by decide),_,rfl,?_⟩;have ev:PyData.eqv (.list (us.map (Zgo tp))) (.list (([]:List (List Int)).map (Zgo tp)))=decide (us=[]):=Zld tp us;rw[ev];have ul:xs.length=us.length:=st.il.1;have tl:us.length≤ts.length:=by rw[←inv.perm.length_eq,Qae];omega
 have hm3:=st.hl
 cases us with
 |nil=>
  refine ZcQ ⟨_,rfl,?_⟩;exact k c zs hs H4 st4.same hc st4.hc st4.lz inv.parts
 |cons u us=>
  refine ZdH ?_
  cases xs with
  |nil=>simp at ul
  |cons x xs=>
   refine⟨_,rfl,.inl ⟨rfl,_,SqL.of st4.hl⟩,l,_,0,0,x,rfl,rfl,st4.hl,by decide,by decide,(by show seqIndex? 0 (xs.length+1)=some 0;exact Qdq (by decide) (by omega)),rfl,?_⟩;obtain⟨st5,i5⟩:=st4.pop;rw[show(x::xs).eraseIdx 0=xs from rfl];generalize upd H4 l (.lst xs)=H5 at st5 i5⊢;refine⟨(by show 1≤sizeLine;decide),fun p hp=> ?_⟩;have st6:=st5.open i5 hp;generalize upd H5 p (.lst [x])=H6 at st6⊢;have ul':us.length<ts.length:=by simp only[QaF] at tl;omega
   have lxs:xs.length=us.length:=by simpa using ul
   refine Zdq (fun σ H'=>∃(x6 x7 x8 x9:Option V) (i:Nat) (xs ys:List V) (us' vs:List (List Int)),σ=[some (.ref a),some (.ref b),some (.ref c),some (.ref l),some (.ref p),some (.int (i:Int)),x6,x7,x8,x9]∧Wst H H' tp c l p zs xs ys hs us' vs∧ZjS L ts hs vs us'∧i≤vs.length∧us'.length≤us.length∧(∀m,m<i→∀x,vs[m]?=some x→∀w,RL L x w→w∉us')) (fun(σ:L2.St) (H':Hp)=>match σ[5]? with|some (some (V.int i))=>ts.length-i.toNat|_=>0) ⟨_,_,_,_,0,xs,[x],us,[u],rfl,st6,inv.start,QaW _,Qaf _,fun m hm=>absurd hm (Qdr _)⟩ ?_ (fun σ H Q Q' h hc=>by obtain⟨v,e,v2,e2,q1,q2,a1,a2,q3,q4,a3,a4,b,eb,q⟩:=hc;exact⟨v,e,v2,e2,q1,q2,a1,a2,q3,q4,a3,a4,b,eb,h _ _ q⟩);rintro σ H7 ⟨x6,x7,x8,x9,i,xs',ys,us',vs,rfl,w7,wi,iv,uu,pr⟩;have yl:ys.length=vs.length:=w7.ip.1;have vl:vs.length+us'.length≤ts.length:=by rw[←wi.perm.length_eq,Qae,Qae];omega
   refine⟨_,rfl,_,rfl,p,ys,rfl,.inl (SqL.of w7.hp),_,_,rfl,rfl,_,rfl,?_⟩;by_cases il:i<vs.length
   ·have ev2:decide ((i:Int)<((ys.length:Nat):Int))=true:=Qan (by omega);rw[ev2];refine ZdH ?_;have eu0:vs[i]?=some vs[i]:=Qab il;generalize vs[i]=u0 at eu0;refine⟨_,rfl,b,rfl,⟨_,SqL.of (w7.same _ _ hb)⟩,ZbI (K:=K) (a:=b) (xs:=ps) (fun n σ H'=>∃(x6 x7 x8 x9:Option V) (xs ys:List V) (us' vs:List (List Int)),σ=[some (.ref a),some (.ref b),some (.ref c),some (.ref l),some (.ref p),some (.int (i:Int)),x6,x7,x8,x9]∧Wst H H' tp c l p zs xs ys hs us' vs∧ZjS L ts hs vs us'∧vs[i]?=some u0∧us'.length≤us.length∧(∀m,m<i→∀x,vs[m]?=some x→∀w,RL L x w→w∉us')∧(∀q∈L.take n,(q.1=u0→q.2∉us')∧(q.2=u0→q.1∉us'))) ⟨_,_,_,_,xs',ys,us',vs,rfl,w7,wi,eu0,uu,pr,fun q hq=>(by rw[QbF] at hq;cases hq)⟩ (fun n σ H' _ h=>by obtain⟨_,_,_,_,_,_,_,_,_,w',_⟩:=h;exact SqL.of (w'.same _ _ hb)) ?_ ?_⟩
    ·rintro n y σ H8 hy ⟨x6,x7,x8,x9,xs8,ys8,us8,vs8,rfl,w8,wi8,eu8,uu8,pr8,pp8⟩;have nl:n<L.length:=by rw[←iP.1];exact(Qac.mp hy).1
     have eL:L[n]?=some L[n]:=Qab nl;obtain⟨q,x1,z1,rfl,hq,ix,iz⟩:=(iP.up w8.same.tups).2 n y _ hy eL;generalize L[n]=pq at eL ix iz;refine⟨q,_,rfl,SqT.of hq,rfl,_,_,rfl,_,_,rfl,rfl,?_⟩;refine⟨_,rfl,_,rfl,(by show 2≤sizeLine;decide),fun t1 ht1=> ?_⟩;have w9:=w8.nw (o:=.tup [x1,z1]) ht1;have f1:(upd H8 t1 (.tup [x1,z1])) t1=some (.tup [x1,z1]):=Zaa;have s9:=Zai.nw (o:=.tup [x1,z1]) (Zai.refl H8) ht1;generalize upd H8 t1 (.tup [x1,z1])=H9 at w9 f1 s9⊢;refine⟨_,rfl,_,rfl,(by show 2≤sizeLine;decide),fun t2 ht2=> ?_⟩;have wA:=w9.nw (o:=.tup [z1,x1]) ht2;have f2:(upd H9 t2 (.tup [z1,x1])) t2=some (.tup [z1,x1]):=Zaa;have sA:=Zai.nw (o:=.tup [z1,x1]) (Zai.refl H9) ht2;generalize upd H9 t2 (.tup [z1,x1])=HA at wA f2 sA⊢;refine⟨(by show 2≤sizeLine;decide),fun t3 ht3=> ?_⟩;have wB:=wA.nw (o:=.tup [.ref t1,.ref t2]) ht3;have f3:(upd HA t3 (.tup [.ref t1,.ref t2])) t3=some (.tup [.ref t1,.ref t2]):=Zaa;have sB:=Zai.nw (o:=.tup [.ref t1,.ref t2]) (Zai.refl HA) ht3;generalize upd HA t3 (.tup [.ref t1,.ref t2])=HB at wB f3 sB⊢;have g1:=sB _ _ (sA _ _ f1);have g2:=sB _ _ f2;have ixB:=ix.up ((s9.trans sA).trans sB).tups;have izB:=iz.up ((s9.trans sA).trans sB).tups;have mL:pq∈L:=Qaj eL;refine⟨t3,rfl,⟨_,SqT.of f3⟩,ZiO (K:=K) (a:=t3) (xs:=[.ref t1,.ref t2]) (fun m σ H'=>∃(x8 x9:Option V) (xs ys:List V) (us' vs:List (List Int)),σ=[some (.ref a),some (.ref b),some (.ref c),some (.ref l),some (.ref p),some (.int (i:Int)),some x1,some z1,x8,x9]∧Wst H H' tp c l p zs xs ys hs us' vs∧ZbP HB H'∧ZjS L ts hs vs us'∧vs[i]?=some u0∧us'.length≤us.length∧(∀m,m<i→∀x,vs[m]?=some x→∀w,RL L x w→w∉us')∧(∀q∈L.take n,(q.1=u0→q.2∉us')∧(q.2=u0→q.1∉us'))∧(1≤m→pq.1=u0→pq.2∉us')∧(2≤m→pq.2=u0→pq.1∉us')) ⟨_,_,xs8,ys8,us8,vs8,rfl,wB,ZbP.refl _,wi8,eu8,uu8,pr8,pp8,fun h=>absurd h (by decide),fun h=>absurd h (by decide)⟩ (fun m σ H' _ h=>by obtain⟨_,_,_,_,_,_,_,_,t',_⟩:=h;exact SqT.of (t' _ _ f3)) ?_ ?_⟩
     ·have body:∀(D:ZiG) (H':Hp) (xs ys:List V) (us' vs:List (List Int)) (hh th:V) (ch ct:List Int),Wst H H' tp c l p zs xs ys hs us' vs→ZbP HB H'→ZjS L ts hs vs us'→vs[i]?=some u0→us'.length≤us.length→(∀m,m<i→∀x,vs[m]?=some x→∀w,RL L x w→w∉us')→Itm HB tp hh ch→Itm HB tp th ct→RL L ch ct→
        (∀H'' xs ys us'' vs',Wst H H'' tp c l p zs xs ys hs us'' vs'→ZbP HB H''→ZjS L ts hs vs' us''→vs'[i]?=some u0→us''.length≤us.length→(∀m,m<i→∀x,vs'[m]?=some x→∀w,RL L x w→w∉us'')→(∀w,w∈us''→w∈us')→(ch=u0→ct∉us'')→D.nx [some (.ref a),some (.ref b),some (.ref c),some (.ref l),some (.ref p),some (.int (i:Int)),some x1,some z1,some hh,some th] H'')→
        Zdg (ZoR (Zbl (tOp (ZmG K fun b=>b) (Zam 8) (tOp (ZdC K) (Zam 4) (Zam 5)))) (Zbl (tOp (Zpp K tp) (Zam 9) (Zam 3)))) (Zbq (Zfw (tBM K "list" (Zm0 tp) (Zam 3) (Zae (Zam 9) ZaA))) (Zfw (tBM K "list" ZdE (Zam 4) (Zae (Zam 9) ZaA)))) Zcd D [some (.ref a),some (.ref b),some (.ref c),some (.ref l),some (.ref p),some (.int (i:Int)),some x1,some z1,some hh,some th] H':=by
       intro D H' xs ys us' vs hh th ch ct w' t' wi' eu' uu' pr' ih it r kN;obtain⟨yv,ey,iy⟩:=w'.ip.at eu';have ih':=ih.up t';have it':=it.up t'
       have ndu:us'.Nodup:=by
        have:=wi'.perm.nodup_iff.mpr nd;rw[QbD,QbD] at this;exact this.2.1.2.1
       have vl':vs.length≤ts.length:=by rw[←wi'.perm.length_eq,Qae,Qae];omega
       refine⟨_,rfl,_,rfl,_,rfl,p,ys,_,yv,rfl,rfl,SqL.of w'.hp,ZbL ey,_,_,ih'.di,iy.di,Zm2 tp ch,Zm2 tp u0,QaI (Zoo tp ch) (by decide),_,rfl,?_⟩;rw[Zpq ih'.one iy.one];by_cases e:ch=u0
       ·rw[Qan e];refine ZdH ⟨_,rfl,_,rfl,l,xs,ct,us',rfl,SqL.of w'.hl,it',w'.il,_,rfl,?_⟩;by_cases m:ct∈us'
        ·rw[Qan m];refine ZdH ?_;obtain⟨j,ej,hno⟩:=ZjT m;refine⟨_,rfl,.inl ⟨rfl,_,SqL.of w'.hl⟩,_,rfl,l,th,xs,ct,us',j,rfl,rfl,w'.hl,it',w'.il,ej,hno,?_⟩;have w2:=w'.rem j;have t2:ZbP H' (upd H' l (.lst (xs.eraseIdx j))):=ZbP.lst (ZbP.refl H') w'.hl;generalize upd H' l (.lst (xs.eraseIdx j))=H2 at w2 t2⊢;have ylen:ys.length≤1000:=by rw[w'.ip.1];omega
         refine⟨_,rfl,.inl ⟨rfl,_,SqL.of w2.hp⟩,_,rfl,p,_,_,rfl,rfl,w2.hp,QaN ylen (by decide),?_⟩;have sub:∀w,w∈us'.eraseIdx j→w∈us':=fun w hw=>QdU hw;have iv':=(Qac.mp eu').1;refine kN _ _ _ _ _ (w2.app (it'.up t2)) ((t'.trans t2).trans (ZbP.lst (ZbP.refl H2) w2.hp)) (wi'.take (Qaj eu') (e ▸ r) ej) (by rw[Qax iv'];exact eu') (QaI (Qd6 _ _) uu') (fun m hm x hx w r' hw=> ?_) sub (fun _=>Zle ndu ej);rw[Qax (by omega)] at hx;exact pr' m hm x hx w r' (sub w hw)
        ·rw[Qal m];exact ZcQ (kN _ _ _ _ _ w' t' wi' eu' uu' pr' (fun w h=>h) (fun _=>m))
       ·rw[Qal e];exact ZcQ (ZcQ (kN _ _ _ _ _ w' t' wi' eu' uu' pr' (fun w h=>h) (fun z=>absurd z e)))
      rintro m y' σ H' hy' ⟨x8,x9,xs',ys',us'',vs'',rfl,w',t',wi',eu',uu',pr',pp',c1,c2⟩;rcases m with _|_|m
      ·cases hy';refine⟨t1,_,rfl,SqT.of (t' _ _ g1),rfl,_,_,rfl,_,_,rfl,rfl,?_⟩;refine body _ H' xs' ys' us'' vs'' x1 z1 pq.1 pq.2 w' t' wi' eu' uu' pr' ixB izB (.inl mL) fun H'' xs ys us3 vs3 w3 t3' wi3 eu3 uu3 pr3 sub c3=> ?_;exact⟨_,_,xs,ys,us3,vs3,rfl,w3,t3',wi3,eu3,uu3,pr3,fun q hq=>⟨fun e h=>(pp' q hq).1 e (sub _ h),fun e h=>(pp' q hq).2 e (sub _ h)⟩,fun _=>c3,fun h=>absurd h (by decide)⟩
      ·cases hy';refine⟨t2,_,rfl,SqT.of (t' _ _ g2),rfl,_,_,rfl,_,_,rfl,rfl,?_⟩;refine body _ H' xs' ys' us'' vs'' z1 x1 pq.2 pq.1 w' t' wi' eu' uu' pr' izB ixB (.inr mL) fun H'' xs ys us3 vs3 w3 t3' wi3 eu3 uu3 pr3 sub c3=> ?_;exact⟨_,_,xs,ys,us3,vs3,rfl,w3,t3',wi3,eu3,uu3,pr3,fun q hq=>⟨fun e h=>(pp' q hq).1 e (sub _ h),fun e h=>(pp' q hq).2 e (sub _ h)⟩,fun _ e h=>c1 (Qaf _) e (sub _ h),fun _=>c3⟩
      ·cases hy'
     ·rintro σ H' ⟨x8,x9,xs',ys',us'',vs'',rfl,w',t',wi',eu',uu',pr',pp',c1,c2⟩;refine⟨_,_,_,_,xs',ys',us'',vs'',rfl,w',wi',eu',uu',pr',fun q hq=> ?_⟩;rw[Qc9,eL] at hq;rcases Qaq.mp hq with hq|hq
      ·exact pp' q hq
      ·have:q=pq:=by simpa using hq
       subst this;exact⟨c1 (Qet rfl),c2 (Qet rfl)⟩
    ·rintro σ H' ⟨x6,x7,x8,x9,xs8,ys8,us8,vs8,rfl,w8,wi8,eu8,uu8,pr8,pp8⟩;rw[iP.1,QaZ] at pp8;have i8:=(Qac.mp eu8).1;refine⟨_,rfl,_,_,rfl,rfl,⟨_,_,_,_,i+1,xs8,ys8,us8,vs8,rfl,w8,wi8,i8,uu8,fun m hm x hx w r=> ?_⟩,?_⟩
     ·by_cases e:m=i
      ·subst e;rw[eu8] at hx;cases hx;rcases r with r|r
       ·exact(pp8 _ r).1 rfl
       ·exact(pp8 _ r).2 rfl
      ·exact pr8 m (by omega) x hx w r
     ·show ts.length-((i:Int)+1).toNat<ts.length-(i:Int).toNat;omega
   ·have ev2:decide ((i:Int)<((ys.length:Nat):Int))=false:=Qal (by omega);rw[ev2];refine ZcQ ?_
    have zl:zs.length≤1000:=by
     rw[w7.lz.1];have h1:=wi.perm.length_eq;have h2:=Zfa wi.ne;rw[Qae] at h1;omega
    refine⟨_,rfl,.inl ⟨rfl,_,SqL.of w7.hc⟩,_,rfl,c,_,_,rfl,rfl,w7.hc,QaN zl (by decide),⟨_,_,_,_,_,_,_,xs',_,us',rfl,w7.fin,wi.fin nd inT fun x hx w r=> ?_⟩,?_⟩
    ·obtain⟨m,hm⟩:=Qat.mp hx;have ml:=(Qac.mp hm).1;exact pr m (by omega) x hm w r
    ·rw[Zan (Ne.symm w7.cl),w7.hl,hm3];show xs'.length<(x::xs).length
     have:=w7.il.1;simp only[QaF];omega
def eC (s:Int)(last:Bool):List Int:=[Zau s,if decide (0<s)=last then 1 else 0]
def Zdl:List Int→List (List Int×List Int)
 | [a,b,c]=>[(eC a true,eC b false),(eC b true,eC c false),(eC c true,eC a false)]
 |_=>[]
def Zb5 (S:List (List Int)):List (List Int×List Int):=(S.map Zdl).flatten
def ZcK (n:Nat):List (List Int):=((Zb8 1 n).map fun t=>[[t,0],[t,1]]).flatten
theorem ZgR (S:List (List Int))(t:List Int):Zb5 (S++ [t])=Zb5 S++Zdl t:=by
 unfold Zb5;rw[Qam,Qbh];simp
theorem Zda (n:Nat):ZcK (n+1)=ZcK n++ [[1+(n:Int),0],[1+(n:Int),1]]:=by
 unfold ZcK;rw[ZfX,Qam,Qbh];simp
theorem Zdx :u∈ZcK n↔∃t b:Int,u=[t,b]∧1≤t∧t≤(n:Int)∧(b=0∨b=1):=by
 unfold ZcK;rw[Qa7];constructor
 ·rintro⟨l,hl,hu⟩;obtain⟨t,ht,rfl⟩:=Qaz.mp hl
  have:=Ze0.mp ht;simp at hu;rcases hu with rfl|rfl
  ·exact⟨t,0,rfl,by omega,by omega,.inl rfl⟩
  ·exact⟨t,1,rfl,by omega,by omega,.inr rfl⟩
 ·rintro⟨t,b,rfl,h1,h2,hb⟩;refine⟨[[t,0],[t,1]],Qaz.mpr ⟨t,Ze0.mpr (by omega),rfl⟩,?_⟩;rcases hb with rfl|rfl<;>simp
theorem Zfb:∀n:Nat,(ZcK n).length=2*n
 |0=>rfl
 |n+1=>by rw[Zda,Qae,Zfb n];simp only[QaF,Qbp];omega
theorem ZgS:∀n:Nat,(ZcK n).Nodup
 |0=>List.nodup_nil
 |n+1=>by
  rw[Zda,QbD];refine⟨ZgS n,by simp,fun a ha b hb=> ?_⟩;obtain⟨t,c,rfl,h1,h2,_⟩:=Zdx.mp ha;simp at hb;intro e;rcases hb with rfl|rfl<;>(injection e with e1 e2;omega)
theorem ZjU (h:Zb4 S){t:List Int}(ht:t∈S){s:Int}(hs:s∈t)(b:Bool):eC s b∈ZcK (S.length/2*3):=by
 have:=h.side ht hs;refine Zdx.mpr ⟨_,_,rfl,this.1,this.2,?_⟩;split
 ·exact .inr rfl
 ·exact .inl rfl
theorem ZhI (h:Zb4 S):∀p∈Zb5 S,p.1∈ZcK (S.length/2*3)∧p.2∈ZcK (S.length/2*3):=by
 intro p hp;unfold Zb5 at hp;obtain⟨l,hl,hp⟩:=Qa7.mp hp;obtain⟨t,ht,rfl⟩:=Qaz.mp hl;obtain⟨a,b,c,rfl⟩:=ZcM (h.three t ht);have ma:=fun q=>ZjU h ht (s:=a) (by simp) q;have mb:=fun q=>ZjU h ht (s:=b) (by simp) q;have mc:=fun q=>ZjU h ht (s:=c) (by simp) q;simp[Zdl] at hp;rcases hp with rfl|rfl|rfl
 ·exact⟨ma _,mb _⟩
 ·exact⟨mb _,mc _⟩
 ·exact⟨mc _,ma _⟩
structure Zoq (S:List (List Int))(ws:List (List (List Int))):Prop where
 parts:ZcY (RL (Zb5 S)) (ZcK (S.length/2*3)) ws
 up:∀w∈ws,w.Pairwise (fun x y=>Zcs y x=false)
 ups:ws.Pairwise (fun x y=>Zck y x=false)
theorem TuL.take {xs:List V}(h:TuL H xs us){i:Nat}{x:V}(e:xs[i]?=some x):∃u a,us[i]?=some u∧x= .ref a∧H a=some (.tup (u.map V.int)):=by
 have il:i<us.length:=by rw[←h.1];exact(Qac.mp e).1
 obtain⟨a,ea,ha⟩:=h.2 i x _ e (Qab il);exact⟨us[i],a,Qab il,ea,ha⟩
end L2
namespace Toy
open PySem L2 PyProof.Rows
variable {H H':Hp}{d p f:Addr}{o:HO}{m:Int}{P:Program}{w:World}{mg:Str→Option Value}{base:Heap}
def top (i:Nat):Stmt:=PySem.Challenge.pw_farcords_k50_what_is_a_row.main.body.getD i (.Pass ⟨0,0,0,0⟩)
structure Kn (P:Program)(w:World)(K:PySem.W.Frag)(mg:Str→Option Value)(base:Heap)(x:Str)(k:Nat)(ps:List Str)(sp:Sp):Prop where
 ex:∃(f:Addr) (fd:FuncData),Zcc P w K mg base CX0 k f fd ps sp∧mg x=some (.ref f)∧PySem.W.keepIn K (.ref f)=true∧Zh6 K fd ps []
theorem Zal {X:Cx}{x:Str}{k j:Nat}{ps:List Str}{sp:Sp}{e:Expr}{es:List Expr}{t:TA}{p pos:PySem.Pos}(G:Kn X.prog X.w X.K X.mg X.base x k ps sp)(hr:Zc2 j X.A)(hg:Gl X x)(ha:PA X (e::es) t)(hle:k≤j:=by decide)
  (hdb:(x==("__debug__" :Str))=false:=by decide)
  (he:starEach (e::es) X.env=(false,eval e X.env)::starEach es X.env:=by rfl) (hpl:(backTo pos (starEach es X.env)).any (·.1)=false:=by rfl):PE X (.Call (.Name x p) (e::es) [] pos) (ZaY sp [] E0 t):=by
 obtain⟨f,fd,F,hm,hk,hb⟩:=G.ex;exact Zmy F (hr.mono hle) hg hm hk hb .nil Zpd ha hdb he hpl
structure Txt (mg:Str→Option Value):Prop where
 len:mg "len" =none
 range:mg "range" =none
 min:mg "min" =none
 max:mg "max" =none
 isinstance:mg "isinstance" =none
 bool:mg "bool" =none
 int:mg "int" =none
 tuple:mg "tuple" =none
 list:mg "list" =none
 str:mg "str" =none
 all:mg "all" =none
 sum:mg "sum" =none
 sorted:mg "sorted" =none
def But (d:Addr)(H H':Hp):Prop:=∀c o,H c=some o→c≠d→H' c=some o
theorem But.refl (d:Addr)(H:Hp):But d H H:=fun _ _ e _=>e
theorem But.trans {H1 H2:Hp}(a:But d H H1)(b:But d H1 H2):But d H H2:=fun c o e n=>b c o (a c o e n) n
theorem But.upd {d:Addr}{H H':Hp}{o:HO}(a:But d H H'):But d H (upd H' d o):=fun c u e n=>by rw[Zan n];exact a c u e n
theorem But.new (a:But d H H')(h:H' p=none):But d H (L2.upd H' p o):=fun c u e n=>by
 have:=a c u e n;rw[Zan (Zak this h)];exact this
theorem Zai.but {H0:Hp}(s:Zai H0 H)(f:H0 d=none)(e:But d H H'):Zai H0 H':=fun b o q=>e b o (s b o q) (fun z=>by rw[z,f] at q;cases q)
theorem Zai.new (a:Zai H H')(h:H' p=none):Zai H (L2.upd H' p o):=fun c u e=>by
 have:=a c u e;rw[Zan (Zak this h)];exact this
theorem Zor (h0:0<m)(h:m<10^100):m.natAbs.log2<9000:=by
 have h2:m.natAbs<2^400:=by
  have:(10:Int) ^100≤2^400:=by decide +kernel
  omega
 have:=(Nat.log2_lt (n:=m.natAbs) (k:=400) (by omega)).mpr h2;omega
section
variable {K:PySem.W.Frag}
abbrev Zba:Stmt:=top 10
theorem ZdT:ZaC ["_law_script", "_law_k"] ["_law_script", "_law_k"] (Zag Zba):=⟨rfl,rfl,rfl,by decide +kernel,rfl,by decide +kernel,by decide +kernel⟩
def Zmg (K:PySem.W.Frag):Sp:=fun vs H Q _=>∃(a:Addr) (ns:List Int) (k:Int),vs=[.ref a,.int k]∧SqL K H a (ns.map V.int)∧0≤k∧∀n:Int,Q (.int n) H
theorem Zm3 {fd:FuncData}(F:Fun K "_law_cell_at" "_law_cell_at" Zba f fd)(M:Txt mg):Zcc P w K mg base CX0 1 f fd ["_law_script", "_law_k"] (Zmg K):=by
 have sc:=ZdT;refine F.ok sc (fun vs H Q E h=> ?_) (fun cdv A outer s H vs Q E hr h=> ?_)
 ·obtain⟨a,ns,k,rfl,_⟩:=h;rfl
 ·obtain⟨a,ns,i,rfl,hS,h0,k⟩:=h
  refine⟨_,(Zaf (ZbH (Zax ZkN (pv 1) (Zao (ZaI (K:=K)) (by rfl) M.len Qbj (Zac (pv 0) Zab)) (ZaF _)) (Zah (ZaB (Zbv (ZaD (K:=K)) (pv 0) (pv 1) (fun _ _=>rfl)))) ZaU)
   (Zah (ZaB Zad))),?_⟩
  refine⟨_,rfl,_,rfl,a,_,rfl,.inl hS,_,_,rfl,rfl,_,rfl,?_⟩;refine ZeL (fun e=> ?_) (fun e=> ?_)
  ·have e:=QaK e;rw[Qaa] at e;have hlt:i.toNat<ns.length:=by omega
   refine⟨_,rfl,_,rfl,a,_,_,V.int (ns[i.toNat]),rfl,rfl,hS,?_,k _⟩
   have:=ZbL (xs:=ns.map V.int) (j:=i.toNat) (v:=V.int (ns[i.toNat])) (by rw[Qah,Qab hlt];rfl);rw[Int.toNat_of_nonneg h0] at this;exact this
  ·exact k 0
end
def Dgt (m:Int):Prop:=m≤10^60
theorem dg (h:m≤1000):Dgt m:=Qcb h (by decide +kernel)
theorem Dgt.log (h:Dgt m)(h0:0<m):m.natAbs.log2<9000:=Zor h0 (QdI h (by decide +kernel))
def ZbN (H:Hp)(d:Addr):Prop:=∃n:Int,H d=some (.lst [.int n])
theorem ZbN.new (a:ZbN H d)(h:H p=none):ZbN (L2.upd H p o) d:=by
 obtain⟨n,e⟩:=a;exact⟨n,by rw[Zan (Zak e h)];exact e⟩
theorem ZbN.ne (a:ZbN H d)(h:H p=none):p≠d:=by
 obtain⟨n,e⟩:=a;exact fun z=>by rw[z,e] at h;cases h
theorem ZbN.same (a:ZbN H d)(s:Zai H H'):ZbN H' d:=let⟨n,e⟩:=a;⟨n,s _ _ e⟩
theorem But.tupsR (b:But d H H')(r:ZbN H d):ZbP H H':=fun c xs e=>b c _ e fun z=>by
 obtain⟨n,q⟩:=r;rw[z,q] at e;cases e
theorem But.same (s:Zai H H'):But d H H':=fun c o e _=>s c o e
theorem But.fr (b:But d H H')(h:H' p=none)(n:p≠d):H p=none:=by
 cases e:H p with
 |none=>rfl
 |some o=>rw[b p o e n] at h;cases h
theorem at8 {a0 a1 a2 a3 a4 a5 a6 a7 r:Int}(r0:0≤r)(r1:r<8)(h:∀z∈[a0,a1,a2,a3,a4,a5,a6,a7],0<z∧z<100000):∃z:Int,atI [V.int a0,V.int a1,V.int a2,V.int a3,V.int a4,V.int a5,V.int a6,V.int a7] r=some (V.int z)∧0<z∧z<100000:=by
 have hc:r=0∨r=1∨r=2∨r=3∨r=4∨r=5∨r=6∨r=7:=by omega
 rcases hc with rfl|rfl|rfl|rfl|rfl|rfl|rfl|rfl
 ·exact⟨a0,rfl,h a0 (by simp)⟩
 ·exact⟨a1,rfl,h a1 (by simp)⟩
 ·exact⟨a2,rfl,h a2 (by simp)⟩
 ·exact⟨a3,rfl,h a3 (by simp)⟩
 ·exact⟨a4,rfl,h a4 (by simp)⟩
 ·exact⟨a5,rfl,h a5 (by simp)⟩
 ·exact⟨a6,rfl,h a6 (by simp)⟩
 ·exact⟨a7,rfl,h a7 (by simp)⟩
section
variable {K:PySem.W.Frag}
abbrev ZbY:Stmt:=top 11
theorem ZgT:ZaC ["_law_script", "_law_at", "_law_by", "_law_prime", "_law_cell", "_law_big_here", "_law_k", "_law_one"] ["_law_script", "_law_at"] (Zag ZbY):=⟨rfl,rfl,rfl,by decide +kernel,rfl,by decide +kernel,by decide +kernel⟩
def Zlf (K:PySem.W.Frag):Sp:=fun vs H Q _=>∃(a:Addr) (ns:List Int) (k:Int),vs=[.ref a,.int k]∧SqL K H a (ns.map V.int)∧0≤k∧∀(n:Int) H',Zai H H'→Q (.int n) H'
theorem Zos {fd:FuncData}(F:Fun K "_law_big" "_law_big" ZbY f fd)(M:Txt mg)(qt:Kn P w K mg base "_law_cell_at" 1 ["_law_script", "_law_k"] (Zmg K)):Zcc P w K mg base CX0 2 f fd ["_law_script", "_law_at"] (Zlf K):=by
 have sc:=ZgT;refine F.ok sc (fun vs H Q E h=> ?_) (fun cdv A outer s H vs Q E hr h=> ?_)
 ·obtain⟨a,ns,k,rfl,_⟩:=h;rfl
 ·obtain⟨a,ns,i,rfl,hS,h0,k⟩:=h
  refine⟨_,(Zaf (Zav (i:=2) sc.nd rfl (Or.inl rfl) (ZaX (ZeQ Zad Zad Zad Zad (ZeQ Zad Zad Zad Zad Zab))))
   (Zaf (Zav (i:=3) sc.nd rfl (Or.inl rfl) (ZaX (ZeQ Zad Zad Zad Zad (ZeQ Zad Zad Zad Zad Zab))))
   (Zaf (Zav (i:=4) sc.nd rfl (Or.inl rfl) (Zal qt hr rfl (Zac (pv 0) (Zac (pv 1) Zab))))
   (Zaf (ZbH (Zax ZnQ (pv 4) (Zar Zhn Zad Zad) (ZaF _)) (Zah (ZaB (pv 4))) ZaU)
   (Zaf (Zav (i:=5) sc.nd rfl (Or.inl rfl) Zad)
   (Zaf (Zby QaV rfl (Zbf rfl M.range (Zap Zad Zab)) (Zaj (i:=6) sc.nd rfl (Or.inl rfl))
   (Zaf (Zav (i:=7) sc.nd rfl (Or.inl rfl) (Zar ZaS (Zar ZaS (Zar Zcu (Zal qt hr rfl (Zac (pv 0) (Zbm (Zar ZaS (pv 1) (Zar Zcu (pv 6) Zad)) Zab))) (Zar Zhn Zad Zad)) Zad) (Zar ZbK (pv 6) (pv 6))))
   (Zah (Zav (i:=5) sc.nd rfl (Or.inl rfl) (Zar ZaS (Zar ZbK (pv 5) Zad) (Zar Zcu (Zar Zcu (Zar ZbK (pv 7) (Zbv (ZdI (K:=K)) (pv 2) (Zar Zcu (pv 6) Zad) (fun _ _=>rfl))) (Zbv (ZdI (K:=K)) (pv 3) (Zar Zcu (pv 6) Zad) (fun _ _=>rfl))) Zad))))))
   (Zah (ZaB (pv 5))))))))),?_⟩
  refine⟨(by show 8≤sizeLine;decide),fun t1 ht1=> ?_⟩;have s1:=Zai.new (o:=.tup [.int 48271,.int 69621,.int 16807,.int 39373,.int 21401,.int 60493,.int 87721,.int 31337]) (Zai.refl H) ht1;have h1:(upd H t1 (.tup [.int 48271,.int 69621,.int 16807,.int 39373,.int 21401,.int 60493,.int 87721,.int 31337])) t1=some (.tup [.int 48271,.int 69621,.int 16807,.int 39373,.int 21401,.int 60493,.int 87721,.int 31337]):=Zaa;generalize upd H t1 (.tup [.int 48271,.int 69621,.int 16807,.int 39373,.int 21401,.int 60493,.int 87721,.int 31337])=H1 at s1 h1⊢;refine⟨(by show 8≤sizeLine;decide),fun t2 ht2=> ?_⟩;have s2:=Zai.new (o:=.tup [.int 99991,.int 99989,.int 99971,.int 99961,.int 99929,.int 99923,.int 99907,.int 99901]) (Zai.refl H1) ht2;have h2:(upd H1 t2 (.tup [.int 99991,.int 99989,.int 99971,.int 99961,.int 99929,.int 99923,.int 99907,.int 99901])) t2=some (.tup [.int 99991,.int 99989,.int 99971,.int 99961,.int 99929,.int 99923,.int 99907,.int 99901]):=Zaa;generalize upd H1 t2 (.tup [.int 99991,.int 99989,.int 99971,.int 99961,.int 99929,.int 99923,.int 99907,.int 99901])=H2 at s2 h2⊢;have h1':=s2 _ _ h1;have s02:=s1.trans s2;refine⟨_,rfl,_,rfl,a,ns,i,rfl,s02.seq hS,h0,fun cell=> ?_⟩;refine⟨_,rfl,_,_,rfl,rfl,⟨by decide,by decide,by decide⟩,_,_,rfl,rfl,_,rfl,ZeL (fun _=> ?_) (fun _=> ?_)⟩
  ·exact⟨_,rfl,k cell H2 s02⟩
  refine⟨60,rfl,by decide,by decide,Zb9 (n:=60) (fun j σ H'=>∃(x6 x7:Option V) (b:Int),σ=[some (.ref a),some (.int i),some (.ref t1),some (.ref t2),some (.int cell),some (.int b),x6,x7]∧H2=H') ⟨_,_,0,rfl,rfl⟩ ?_ ?_⟩
  ·rintro j σ H' hj ⟨x6,x7,b,rfl,rfl⟩;have j9:0≤(0+(j:Int)) %9:=Qdv _ (by decide);refine⟨_,rfl,_,rfl,_,rfl,_,_,rfl,rfl,(by show(0:Int)<9;decide),_,_,rfl,rfl,a,ns,_,rfl,s02.seq hS,by omega,fun c2=> ?_⟩;refine⟨_,_,rfl,rfl,⟨by decide,by decide,by decide⟩,_,_,rfl,rfl,(by show(0:Int)<10^18;decide),_,_,rfl,rfl,_,rfl,_,rfl,_,_,rfl,rfl,.inl ⟨by omega,by omega⟩,_,_,rfl,rfl,?_⟩;obtain⟨z1,e1,p1,q1⟩:=at8 (a0:=48271) (a1:=69621) (a2:=16807) (a3:=39373) (a4:=21401) (a5:=60493) (a6:=87721) (a7:=31337) (r:=(0+(j:Int)) %8) (Qdv _ (by decide)) (QdK _ (by decide)) (by decide);obtain⟨z2,e2,p2,q2⟩:=at8 (a0:=99991) (a1:=99989) (a2:=99971) (a3:=99961) (a4:=99929) (a5:=99923) (a6:=99907) (a7:=99901) (r:=(0+(j:Int)) %8) (Qdv _ (by decide)) (QdK _ (by decide)) (by decide);refine⟨_,rfl,_,_,rfl,rfl,.inr ⟨by decide,by decide⟩,_,rfl,_,rfl,_,rfl,_,_,rfl,rfl,(by show(0:Int)<8;decide),t1,_,_,_,rfl,rfl,SqT.of h1',e1,_,z1,rfl,rfl,.inr ⟨by omega,by omega⟩,_,rfl,_,rfl,_,_,rfl,rfl,(by show(0:Int)<8;decide),t2,_,_,_,rfl,rfl,SqT.of h2,e2,_,z2,rfl,rfl,p2,_,_,rfl,rfl,(by show(0:Int)<7919;decide),_,_,rfl,rfl,?_⟩;exact⟨_,_,_,rfl,rfl⟩
  ·rintro σ H' ⟨x6,x7,b,rfl,rfl⟩;exact⟨_,rfl,k b _ s02⟩
abbrev ZbC:Stmt:=top 12
theorem Zfc:ZaC ["_law_rest", "_law_many", "_law_found"] ["_law_rest", "_law_many"] (Zag ZbC):=⟨rfl,rfl,rfl,by decide +kernel,rfl,by decide +kernel,by decide +kernel⟩
def Zbr:Sp:=fun vs H Q _=>∃(d:Addr) (m:Int),vs=[.ref d,.int m]∧ZbN H d∧0<m∧Dgt m∧∀(r:Int) (H':Hp),0≤r→r<m→ZbN H' d→But d H H'→Q (.int r) H'
theorem Zlg {fd:FuncData}(F:Fun K "_law_digit" "_law_digit" ZbC f fd)(M:Txt mg):Zcc P w K mg base CX0 1 f fd ["_law_rest", "_law_many"] Zbr:=by
 have sc:=Zfc;refine F.ok sc (fun vs H Q E h=> ?_) (fun cdv A outer s H vs Q E hr h=> ?_)
 ·obtain⟨d,m,rfl,_⟩:=h;rfl
 ·obtain⟨d,m,rfl,⟨n,hd⟩,m0,m1,k⟩:=h
  refine⟨_,(Zaf (Zav (i:=2) sc.nd rfl (Or.inl rfl) (Zar Zcu (Zbv (ZaD (K:=K)) (pv 0) Zad (fun _ _=>rfl)) (pv 1)))
   (Zaf (Zb3 (Zar ZbM (Zbv (ZaD (K:=K)) (pv 0) Zad (fun _ _=>rfl)) (pv 1)) (Zeo (pv 0) Zad ZcC))
   (Zah (ZaB (pv 2))))),?_⟩
  refine⟨_,rfl,d,_,_,_,rfl,rfl,SqL.of hd,rfl,_,rfl,_,_,rfl,rfl,m0,?_⟩;refine⟨_,rfl,d,_,_,_,rfl,rfl,SqL.of hd,rfl,_,rfl,_,_,rfl,rfl,⟨m0,m1.log m0⟩,_,rfl,d,_,_,_,rfl,rfl,hd,rfl,?_⟩;exact⟨_,rfl,k _ _ (Qdv _ (by omega)) (QdK _ m0) ⟨_,Zaa⟩ (But.upd (But.refl _ _))⟩
abbrev Zbi:Stmt:=top 13
theorem Zfd:ZaC ["_law_rest", "_law_many", "_law_pool", "_law_order"] ["_law_rest"] (Zag Zbi):=⟨rfl,rfl,rfl,by decide +kernel,rfl,by decide +kernel,by decide +kernel⟩
def ZgU:Sp:=fun vs H Q _=>∃(d:Addr),vs=[.ref d]∧ZbN H d∧∀(b:Addr) (xs:List V) (S:List (List Int)) (H':Hp),H b=none→H' b=some (.lst xs)→TuL H' xs S→Zb4 S→ZbN H' d→But d H H'→Q (.ref b) H'
theorem Zlh {fd:FuncData}(F:Fun K "_law_sheet" "_law_sheet" Zbi f fd)(M:Txt mg)(qd:Kn P w K mg base "_law_digit" 1 ["_law_rest", "_law_many"] Zbr):Zcc P w K mg base CX0 2 f fd ["_law_rest"] ZgU:=by
 have sc:=Zfd;refine F.ok sc (fun vs H Q E h=> ?_) (fun cdv A outer s H vs Q E hr h=> ?_)
 ·obtain⟨d,rfl,_⟩:=h;rfl
 ·obtain⟨d,rfl,R0,k⟩:=h
  refine⟨_,(Zaf (Zav (i:=1) sc.nd rfl (Or.inl rfl) (Zar ZaS Zad (Zar ZbK Zad (Zal qd hr rfl (Zac (pv 0) (Zap Zad Zab))))))
   (Zaf (ZbH (Zax ZcJ (Zal qd hr rfl (Zac (pv 0) (Zap Zad Zab))) Zad (ZaF _)) (Zah (Zav (i:=1) sc.nd rfl (Or.inl rfl) (Zar ZaS Zad (Zar ZbK Zad (Zal qd hr rfl (Zac (pv 0) (Zap Zad Zab))))))) ZaU)
   (Zaf (Zav (i:=2) sc.nd rfl (Or.inl rfl) (Zar ZmX Zad (Za9 (Zec rfl) (by rfl) M.list Qdd (ZaV (Za9 ZgO (by rfl) M.range boot_range (Zap Zad (Zbm (Zar ZaS (Zar ZbM (Zar ZbK (pv 1) Zad) Zad) Zad) Zab))) Zab))))
   (Zaf (Zav (i:=3) sc.nd rfl (Or.inr rfl) (Zbg Zab))
   (Zaf (ZeE QaV (Zax (Zhq hr) (pv 2) (Zbg Zab) (ZaF _)) (Zah (Zce (Zdk Qa0 Qbt Qbu Zb1 (pv 3) (Zbm (Zar ZbK (Zdk Qa0 Qde Qdf ZeK (pv 2) (ZaV (Zal qd hr rfl (Zac (pv 0) (ZaV (Zao (ZaI (K:=K)) (by rfl) M.len Qbj (Zac (pv 2) Zab)) Zab))) Zab)) (Zar ZbJ Zad (Zar ZbK Zad (Zal qd hr rfl (Zac (pv 0) (Zap Zad Zab)))))) Zab)))))
   (Zah (ZaB (ZaM (xs:=["_law_k"]) (Nb:=["_law_rest", "_law_many", "_law_pool", "_law_order"]) rfl (Zbf rfl M.range (Zac (pv 1) Zab)) rfl (by show∀p∈(List.zip ["_law_rest", "_law_many", "_law_pool", "_law_order"] ["_law_rest", "_law_many", "_law_pool", "_law_order"]:List (Str×Str)),_;decide +kernel) (by decide +kernel) (fun cl C s₂ H₂ fp=>(Zaj (i:=0) (by show List.Nodup (["_law_k", "_law_rest", "_law_many", "_law_pool", "_law_order"]:List Str);decide +kernel) rfl (Or.inl (Qag rfl)) (Or.inr (Qag rfl)))) (fun cl C s₂ H₂ fp=>ZaQ) (fun cl C s₂ H₂ fp=>(Za9 (ZdQ (K:=K)) (by rfl) M.tuple boot_tuple (ZbB (ZcB (ZkT (K:=K)) (pv 4) (Zcv (Zar ZbK Zad (pv 0))) (Zcv (Zar ZaS (Zar ZbK Zad (pv 0)) Zad))) Zab))) (by decide +kernel) rfl (by decide +kernel) (by show∀y∈(_:List (Str×NameKind)),y.2=NameKind.free→(Zag Zbi).names.lookup y.1=some .cell;decide +kernel))))))))),?_⟩
  refine⟨_,rfl,d,4,rfl,R0,by decide,dg (by decide),fun r1 H1 r10 r11 R1 B1=>⟨2,r1,rfl,rfl,.inl ⟨by decide,by decide⟩,2,2*r1,rfl,rfl,?_⟩⟩;refine⟨_,rfl,d,8,rfl,R1,by decide,dg (by decide),fun r2 H2 _ _ R2 B2=>⟨rfl,_,rfl,ZeL (fun e=> ?_) (fun e=> ?_)⟩⟩
  ·refine⟨_,rfl,d,2,rfl,R2,by decide,dg (by decide),fun r3 H3 r30 r31 R3 B3=>⟨2,r3,rfl,rfl,.inl ⟨by decide,by decide⟩,10,2*r3,rfl,rfl,?_⟩⟩;have B03:=(B1.trans B2).trans B3;obtain⟨m,hm,m1,m6⟩:∃m:Nat,(10+2*r3)=2*(m:Int)∧1≤m∧m≤6:=⟨(10+2*r3).toNat/2,by omega,by omega,by omega⟩;refine⟨_,rfl,(10+2*r3),3,rfl,rfl,.inr ⟨by decide,by decide⟩,(10+2*r3)*3,2,rfl,rfl,⟨by decide,by decide⟩,_,_,rfl,rfl,1,(10+2*r3)*3/2+1,rfl,fun p1 hp1=>⟨p1,1,(10+2*r3)*3/2+1,rfl,Zaa,by decide,by omega,by omega,fun l1 hl1=>⟨l1,2,_,rfl,rfl,Zaa,by decide,by decide,?_,fun pl hpl=> ?_⟩⟩⟩
   ·rw[Qaa,Ze1];exact QaI (show((10+2*r3)*3/2+1-1).toNat*(2:Int).toNat≤1000 by show _*2≤1000;omega) (by decide)
   have e3:((10+2*r3)*3/2+1-1).toNat=3*m:=by omega
   rw[ZpI,e3,←Qam];have npd:pl≠d:=((R3.new hp1).new hl1).ne hpl;have plfree:H pl=none:=((B03.new hp1).new hl1).fr hpl npd
   have B4:But d H (upd (upd (upd H3 p1 (.rng 1 ((10+2*r3)*3/2+1))) l1 (.lst ((Zb8 1 (3*m)).map V.int))) pl (.lst ((Zb8 1 (3*m)++Zb8 1 (3*m)).map V.int))):=by
    rw[e3] at hpl;exact((B03.new hp1).new hl1).new hpl
   have R4:ZbN (upd (upd (upd H3 p1 (.rng 1 ((10+2*r3)*3/2+1))) l1 (.lst ((Zb8 1 (3*m)).map V.int))) pl (.lst ((Zb8 1 (3*m)++Zb8 1 (3*m)).map V.int))) d:=by
    rw[e3] at hpl;exact((R3.new hp1).new hl1).new hpl
   have hpl4:(upd (upd (upd H3 p1 (.rng 1 ((10+2*r3)*3/2+1))) l1 (.lst ((Zb8 1 (3*m)).map V.int))) pl (.lst ((Zb8 1 (3*m)++Zb8 1 (3*m)).map V.int))) pl=some (.lst ((ZeZ (3*m)).map V.int)):=Zaa;generalize upd (upd (upd H3 p1 (.rng 1 ((10+2*r3)*3/2+1))) l1 (.lst ((Zb8 1 (3*m)).map V.int))) pl (.lst ((Zb8 1 (3*m)++Zb8 1 (3*m)).map V.int))=H4 at B4 R4 hpl4⊢;refine⟨(by show 0≤sizeLine;decide),fun od hod=> ?_⟩;have B5:=B4.new (o:=.lst []) hod;have R5:=R4.new (o:=.lst []) hod;have hod5:(upd H4 od (.lst [])) od=some (.lst (([]:List Int).map V.int)):=Zaa;have hpl5:(upd H4 od (.lst [])) pl=some (.lst ((ZeZ (3*m)).map V.int)):=by rw[Zan (Zak hpl4 hod)];exact hpl4
   have nod:od≠d:=R4.ne hod;have odfree:H od=none:=B4.fr hod nod;have npo:pl≠od:=Zak hpl4 hod;generalize upd H4 od (.lst [])=H5 at B5 R5 hod5 hpl5⊢;refine Zdq (fun σ H'=>∃(ps os:List Int),σ=[some (.ref d),some (.int (10+2*r3)),some (.ref pl),some (.ref od)]∧H' pl=some (.lst (ps.map V.int))∧H' od=some (.lst (os.map V.int))∧(os.map Zau++ps).Perm (ZeZ (3*m))∧ZbN H' d∧But d H H') (fun σ H'=>match H' pl with|some (.lst xs)=>xs.length|_=>0) ⟨ZeZ (3*m),[],rfl,hpl5,hod5,QcC _,R5,B5⟩ ?_ (fun σ H Q Q' h hc=>by obtain⟨v,e,z,k⟩:=hc;exact⟨v,e,z,fun p hp=>by obtain⟨d1,d2,a1,a2,a3,a4,a5,b,eb,q⟩:=k p hp;exact⟨d1,d2,a1,a2,a3,a4,a5,b,eb,h _ _ q⟩⟩);rintro σ H6 ⟨ps,os,rfl,hpl6,hod6,pm,R6,B6⟩
   have len6:os.length+ps.length=6*m:=by
    have:=pm.length_eq;rw[Qae,Qaa,Ze2] at this;omega
   refine⟨_,rfl,(by show 0≤sizeLine;decide),fun z hz=> ?_⟩;have s7:=Zai.new (o:=.lst []) (Zai.refl H6) hz;have hz7:(upd H6 z (.lst [])) z=some (.lst (([]:List Int).map V.int)):=Zaa;generalize upd H6 z (.lst [])=H7 at s7 hz7⊢;have hpl7:=s7 _ _ hpl6;have hod7:=s7 _ _ hod6;have R7:=R6.same s7;have B7:But d H H7:=B6.trans (But.same s7);refine⟨_,_,ZhC (SqL.of hpl7),ZhC (SqL.of hz7),Zew _,Zew _,ZjO _,_,rfl,?_⟩;rw[ZjN];by_cases pe:ps=[]
   ·rw[Qan pe];refine ZcQ ?_;subst pe;rw[QaS] at pm;have ol:os.length=6*m:=by simpa using len6
    refine⟨_,rfl,(10+2*r3),rfl,by omega,by omega,ZgA (lo:=0) (n:=(10+2*r3).toNat) (fun i ys H'=>TuL H' ys ((List.range i).map fun k=>(os.drop (3*k)).take 3)∧Zai H7 H') ⟨TuL.nil _,Zai.refl H7⟩ (by omega) (fun i ys H' h=>by rw[h.1.1,Qaa,Qbk];exact Qaf _) ?_ ?_⟩
    ·rintro i ys H8 pre qm hi ⟨tz,s8⟩;rcases pre with _|⟨q0,_|⟨q1,pre⟩⟩
     ·cases qm
     ·refine⟨⟨[some _],rfl,rfl⟩,?_⟩;unfold Zcp;dsimp only;rw[if_pos (rfl:true=true)];refine⟨_,rfl,_,rfl,3,(0+(i:Int)),rfl,rfl,.inl ⟨by decide,by decide⟩,3*(0+(i:Int)),rfl,_,rfl,3,(0+(i:Int)),rfl,rfl,.inl ⟨by decide,by decide⟩,_,_,rfl,rfl,3*(0+(i:Int))+3,rfl,od,_,rfl,SqL.of (s8 _ _ hod7),fun q hq=> ?_⟩;rw[ZhD _ (by omega) (by decide) (by rw[Qaa];omega)];have e4:(3*(0+(i:Int))).toNat=3*i:=by omega
      rw[e4];have e5:(((os.map V.int).drop (3*i)).take (3:Int).toNat)=((os.drop (3*i)).take 3).map V.int:=by rw[←QeF,←QeG];rfl
      rw[e5];have s9:=Zai.new (o:=.lst (((os.drop (3*i)).take 3).map V.int)) (Zai.refl H8) hq;refine⟨q,_,rfl,.inl ⟨SqL.of Zaa,fun t ht=> ?_⟩⟩;have s10:=Zai.new (o:=.tup (((os.drop (3*i)).take 3).map V.int)) s9 ht;rw[Qby,Qam];exact⟨TuL.snoc (TuL.up tz s10.tups) Zaa,s8.trans s10⟩
     ·cases qm
    ·rintro ys H8 ⟨tz,s8⟩ D hD;have s9:=Zai.new (o:=.lst ys) s8 hD;have B9:But d H (upd H8 D (.lst ys)):=B7.trans (But.same s9);have nD:D≠d:=(R7.same s8).ne hD;have e6:(10+2*r3).toNat=2*m:=by omega
     rw[e6] at tz;exact k D ys _ _ (B7.fr (s8.free hD) nD) Zaa (TuL.up tz (Zai.new (o:=.lst ys) (Zai.refl H8) hD).tups) (ZhF m1 m6 pm) (R7.same s9) B9
   ·rw[Qal pe];refine ZdH ?_;have psl:0<ps.length:=Qdu.mpr pe;refine⟨_,rfl,.inl ⟨rfl,_,SqL.of hod7⟩,_,rfl,.inl ⟨rfl,_,SqL.of hpl7⟩,_,rfl,_,rfl,pl,_,rfl,.inl (SqL.of hpl7),d,((ps.map V.int).length:Nat),rfl,R7,by rw[Qaa];omega,dg (by rw[Qaa];omega),fun r1 H8 r10 r11 R8 B8=> ?_⟩;rw[Qaa] at r11;have hpl8:=B8 _ _ hpl7 npd;have hod8:=B8 _ _ hod7 nod;obtain⟨y,hy⟩:∃y,ps[r1.toNat]?=some y:=⟨_,Qab (by omega)⟩;have si:seqIndex? r1 (ps.map V.int).length=some r1.toNat:=Qdq r10 (by rw[Qaa];exact r11);refine⟨pl,_,r1,r1.toNat,V.int y,rfl,rfl,hpl8,by omega,by omega,si,by rw[Qah,hy];rfl,?_⟩;rw[ZdR]
    have R9:ZbN (upd H8 pl (.lst ((ps.eraseIdx r1.toNat).map V.int))) d:=by
     obtain⟨n,e⟩:=R8;exact⟨n,by rw[Zan (Ne.symm npd)];exact e⟩
    have hod9:(upd H8 pl (.lst ((ps.eraseIdx r1.toNat).map V.int))) od=some (.lst (os.map V.int)):=by rw[Zan (Ne.symm npo)];exact hod8
    have hpl9:(upd H8 pl (.lst ((ps.eraseIdx r1.toNat).map V.int))) pl=some (.lst ((ps.eraseIdx r1.toNat).map V.int)):=Zaa
    have B9:But d H (upd H8 pl (.lst ((ps.eraseIdx r1.toNat).map V.int))):=fun c o e n=>by
     by_cases z:c=pl
     ·subst z;rw[plfree] at e;cases e
     ·rw[Zan z];exact B8 c o (B7 c o e n) n
    generalize upd H8 pl (.lst ((ps.eraseIdx r1.toNat).map V.int))=H9 at R9 hod9 hpl9 B9⊢;refine⟨_,rfl,d,2,rfl,R9,by decide,dg (by decide),fun r2 HA r20 r21 RA BA=>⟨2,r2,rfl,rfl,.inl ⟨by decide,by decide⟩,1,2*r2,rfl,rfl,y,1-2*r2,rfl,rfl,.inr ⟨by omega,by omega⟩,?_⟩⟩;have hodA:=BA _ _ hod9 nod;have hplA:=BA _ _ hpl9 npd;refine⟨od,_,_,rfl,rfl,hodA,QaN (show(os.map V.int).length≤1000 by rw[Qaa];omega) (by decide),?_⟩;have my:y∈ZeZ (3*m):=pm.subset (Qas _ (Qaj hy));have yb:=Ze3 my
    have RB:ZbN (upd HA od (.lst (os.map V.int++ [(fun i j=>V.int (i*j)) y (1-2*r2)]))) d:=by
     obtain⟨n,e⟩:=RA;exact⟨n,by rw[Zan (Ne.symm nod)];exact e⟩
    have BB':But d H (upd HA od (.lst (os.map V.int++ [(fun i j=>V.int (i*j)) y (1-2*r2)]))):=fun c o e n=>by
     by_cases z:c=od
     ·subst z;rw[odfree] at e;cases e
     ·rw[Zan z];exact BA c o (B9 c o e n) n
    have hplB:(upd HA od (.lst (os.map V.int++ [(fun i j=>V.int (i*j)) y (1-2*r2)]))) pl=some (.lst ((ps.eraseIdx r1.toNat).map V.int)):=by rw[Zan npo];exact hplA
    refine⟨⟨ps.eraseIdx r1.toNat,os++ [y*(1-2*r2)],rfl,hplB,?_,?_,RB,BB'⟩,?_⟩
    ·rw[Zaa,Qam];rfl
    ·rw[Qam,Qaw];refine List.Perm.trans (Qbq _ ?_) pm;show(Zau (y*(1-2*r2))::ps.eraseIdx r1.toNat).Perm ps;rw[ZhE (by omega) r20 r21];exact(Za4 hy).symm
    ·dsimp only;rw[hplB,hpl6];dsimp only;rw[Qaa,Qaa]
     have:=(Za4 hy).length_eq;simp only[QaF] at this;omega
  ·have B02:=B1.trans B2;obtain⟨m,hm,m1,m6⟩:∃m:Nat,(2+2*r1)=2*(m:Int)∧1≤m∧m≤6:=⟨(2+2*r1).toNat/2,by omega,by omega,by omega⟩;refine⟨_,rfl,(2+2*r1),3,rfl,rfl,.inr ⟨by decide,by decide⟩,(2+2*r1)*3,2,rfl,rfl,⟨by decide,by decide⟩,_,_,rfl,rfl,1,(2+2*r1)*3/2+1,rfl,fun p1 hp1=>⟨p1,1,(2+2*r1)*3/2+1,rfl,Zaa,by decide,by omega,by omega,fun l1 hl1=>⟨l1,2,_,rfl,rfl,Zaa,by decide,by decide,?_,fun pl hpl=> ?_⟩⟩⟩
   ·rw[Qaa,Ze1];exact QaI (show((2+2*r1)*3/2+1-1).toNat*(2:Int).toNat≤1000 by show _*2≤1000;omega) (by decide)
   have e3:((2+2*r1)*3/2+1-1).toNat=3*m:=by omega
   rw[ZpI,e3,←Qam];have npd:pl≠d:=((R2.new hp1).new hl1).ne hpl;have plfree:H pl=none:=((B02.new hp1).new hl1).fr hpl npd
   have B4:But d H (upd (upd (upd H2 p1 (.rng 1 ((2+2*r1)*3/2+1))) l1 (.lst ((Zb8 1 (3*m)).map V.int))) pl (.lst ((Zb8 1 (3*m)++Zb8 1 (3*m)).map V.int))):=by
    rw[e3] at hpl;exact((B02.new hp1).new hl1).new hpl
   have R4:ZbN (upd (upd (upd H2 p1 (.rng 1 ((2+2*r1)*3/2+1))) l1 (.lst ((Zb8 1 (3*m)).map V.int))) pl (.lst ((Zb8 1 (3*m)++Zb8 1 (3*m)).map V.int))) d:=by
    rw[e3] at hpl;exact((R2.new hp1).new hl1).new hpl
   have hpl4:(upd (upd (upd H2 p1 (.rng 1 ((2+2*r1)*3/2+1))) l1 (.lst ((Zb8 1 (3*m)).map V.int))) pl (.lst ((Zb8 1 (3*m)++Zb8 1 (3*m)).map V.int))) pl=some (.lst ((ZeZ (3*m)).map V.int)):=Zaa;generalize upd (upd (upd H2 p1 (.rng 1 ((2+2*r1)*3/2+1))) l1 (.lst ((Zb8 1 (3*m)).map V.int))) pl (.lst ((Zb8 1 (3*m)++Zb8 1 (3*m)).map V.int))=H4 at B4 R4 hpl4⊢;refine⟨(by show 0≤sizeLine;decide),fun od hod=> ?_⟩;have B5:=B4.new (o:=.lst []) hod;have R5:=R4.new (o:=.lst []) hod;have hod5:(upd H4 od (.lst [])) od=some (.lst (([]:List Int).map V.int)):=Zaa;have hpl5:(upd H4 od (.lst [])) pl=some (.lst ((ZeZ (3*m)).map V.int)):=by rw[Zan (Zak hpl4 hod)];exact hpl4
   have nod:od≠d:=R4.ne hod;have odfree:H od=none:=B4.fr hod nod;have npo:pl≠od:=Zak hpl4 hod;generalize upd H4 od (.lst [])=H5 at B5 R5 hod5 hpl5⊢;refine Zdq (fun σ H'=>∃(ps os:List Int),σ=[some (.ref d),some (.int (2+2*r1)),some (.ref pl),some (.ref od)]∧H' pl=some (.lst (ps.map V.int))∧H' od=some (.lst (os.map V.int))∧(os.map Zau++ps).Perm (ZeZ (3*m))∧ZbN H' d∧But d H H') (fun σ H'=>match H' pl with|some (.lst xs)=>xs.length|_=>0) ⟨ZeZ (3*m),[],rfl,hpl5,hod5,QcC _,R5,B5⟩ ?_ (fun σ H Q Q' h hc=>by obtain⟨v,e,z,k⟩:=hc;exact⟨v,e,z,fun p hp=>by obtain⟨d1,d2,a1,a2,a3,a4,a5,b,eb,q⟩:=k p hp;exact⟨d1,d2,a1,a2,a3,a4,a5,b,eb,h _ _ q⟩⟩);rintro σ H6 ⟨ps,os,rfl,hpl6,hod6,pm,R6,B6⟩
   have len6:os.length+ps.length=6*m:=by
    have:=pm.length_eq;rw[Qae,Qaa,Ze2] at this;omega
   refine⟨_,rfl,(by show 0≤sizeLine;decide),fun z hz=> ?_⟩;have s7:=Zai.new (o:=.lst []) (Zai.refl H6) hz;have hz7:(upd H6 z (.lst [])) z=some (.lst (([]:List Int).map V.int)):=Zaa;generalize upd H6 z (.lst [])=H7 at s7 hz7⊢;have hpl7:=s7 _ _ hpl6;have hod7:=s7 _ _ hod6;have R7:=R6.same s7;have B7:But d H H7:=B6.trans (But.same s7);refine⟨_,_,ZhC (SqL.of hpl7),ZhC (SqL.of hz7),Zew _,Zew _,ZjO _,_,rfl,?_⟩;rw[ZjN];by_cases pe:ps=[]
   ·rw[Qan pe];refine ZcQ ?_;subst pe;rw[QaS] at pm;have ol:os.length=6*m:=by simpa using len6
    refine⟨_,rfl,(2+2*r1),rfl,by omega,by omega,ZgA (lo:=0) (n:=(2+2*r1).toNat) (fun i ys H'=>TuL H' ys ((List.range i).map fun k=>(os.drop (3*k)).take 3)∧Zai H7 H') ⟨TuL.nil _,Zai.refl H7⟩ (by omega) (fun i ys H' h=>by rw[h.1.1,Qaa,Qbk];exact Qaf _) ?_ ?_⟩
    ·rintro i ys H8 pre qm hi ⟨tz,s8⟩;rcases pre with _|⟨q0,_|⟨q1,pre⟩⟩
     ·cases qm
     ·refine⟨⟨[some _],rfl,rfl⟩,?_⟩;unfold Zcp;dsimp only;rw[if_pos (rfl:true=true)];refine⟨_,rfl,_,rfl,3,(0+(i:Int)),rfl,rfl,.inl ⟨by decide,by decide⟩,3*(0+(i:Int)),rfl,_,rfl,3,(0+(i:Int)),rfl,rfl,.inl ⟨by decide,by decide⟩,_,_,rfl,rfl,3*(0+(i:Int))+3,rfl,od,_,rfl,SqL.of (s8 _ _ hod7),fun q hq=> ?_⟩;rw[ZhD _ (by omega) (by decide) (by rw[Qaa];omega)];have e4:(3*(0+(i:Int))).toNat=3*i:=by omega
      rw[e4];have e5:(((os.map V.int).drop (3*i)).take (3:Int).toNat)=((os.drop (3*i)).take 3).map V.int:=by rw[←QeF,←QeG];rfl
      rw[e5];have s9:=Zai.new (o:=.lst (((os.drop (3*i)).take 3).map V.int)) (Zai.refl H8) hq;refine⟨q,_,rfl,.inl ⟨SqL.of Zaa,fun t ht=> ?_⟩⟩;have s10:=Zai.new (o:=.tup (((os.drop (3*i)).take 3).map V.int)) s9 ht;rw[Qby,Qam];exact⟨TuL.snoc (TuL.up tz s10.tups) Zaa,s8.trans s10⟩
     ·cases qm
    ·rintro ys H8 ⟨tz,s8⟩ D hD;have s9:=Zai.new (o:=.lst ys) s8 hD;have B9:But d H (upd H8 D (.lst ys)):=B7.trans (But.same s9);have nD:D≠d:=(R7.same s8).ne hD;have e6:(2+2*r1).toNat=2*m:=by omega
     rw[e6] at tz;exact k D ys _ _ (B7.fr (s8.free hD) nD) Zaa (TuL.up tz (Zai.new (o:=.lst ys) (Zai.refl H8) hD).tups) (ZhF m1 m6 pm) (R7.same s9) B9
   ·rw[Qal pe];refine ZdH ?_;have psl:0<ps.length:=Qdu.mpr pe;refine⟨_,rfl,.inl ⟨rfl,_,SqL.of hod7⟩,_,rfl,.inl ⟨rfl,_,SqL.of hpl7⟩,_,rfl,_,rfl,pl,_,rfl,.inl (SqL.of hpl7),d,((ps.map V.int).length:Nat),rfl,R7,by rw[Qaa];omega,dg (by rw[Qaa];omega),fun r1 H8 r10 r11 R8 B8=> ?_⟩;rw[Qaa] at r11;have hpl8:=B8 _ _ hpl7 npd;have hod8:=B8 _ _ hod7 nod;obtain⟨y,hy⟩:∃y,ps[r1.toNat]?=some y:=⟨_,Qab (by omega)⟩;have si:seqIndex? r1 (ps.map V.int).length=some r1.toNat:=Qdq r10 (by rw[Qaa];exact r11);refine⟨pl,_,r1,r1.toNat,V.int y,rfl,rfl,hpl8,by omega,by omega,si,by rw[Qah,hy];rfl,?_⟩;rw[ZdR]
    have R9:ZbN (upd H8 pl (.lst ((ps.eraseIdx r1.toNat).map V.int))) d:=by
     obtain⟨n,e⟩:=R8;exact⟨n,by rw[Zan (Ne.symm npd)];exact e⟩
    have hod9:(upd H8 pl (.lst ((ps.eraseIdx r1.toNat).map V.int))) od=some (.lst (os.map V.int)):=by rw[Zan (Ne.symm npo)];exact hod8
    have hpl9:(upd H8 pl (.lst ((ps.eraseIdx r1.toNat).map V.int))) pl=some (.lst ((ps.eraseIdx r1.toNat).map V.int)):=Zaa
    have B9:But d H (upd H8 pl (.lst ((ps.eraseIdx r1.toNat).map V.int))):=fun c o e n=>by
     by_cases z:c=pl
     ·subst z;rw[plfree] at e;cases e
     ·rw[Zan z];exact B8 c o (B7 c o e n) n
    generalize upd H8 pl (.lst ((ps.eraseIdx r1.toNat).map V.int))=H9 at R9 hod9 hpl9 B9⊢;refine⟨_,rfl,d,2,rfl,R9,by decide,dg (by decide),fun r2 HA r20 r21 RA BA=>⟨2,r2,rfl,rfl,.inl ⟨by decide,by decide⟩,1,2*r2,rfl,rfl,y,1-2*r2,rfl,rfl,.inr ⟨by omega,by omega⟩,?_⟩⟩;have hodA:=BA _ _ hod9 nod;have hplA:=BA _ _ hpl9 npd;refine⟨od,_,_,rfl,rfl,hodA,QaN (show(os.map V.int).length≤1000 by rw[Qaa];omega) (by decide),?_⟩;have my:y∈ZeZ (3*m):=pm.subset (Qas _ (Qaj hy));have yb:=Ze3 my
    have RB:ZbN (upd HA od (.lst (os.map V.int++ [(fun i j=>V.int (i*j)) y (1-2*r2)]))) d:=by
     obtain⟨n,e⟩:=RA;exact⟨n,by rw[Zan (Ne.symm nod)];exact e⟩
    have BB':But d H (upd HA od (.lst (os.map V.int++ [(fun i j=>V.int (i*j)) y (1-2*r2)]))):=fun c o e n=>by
     by_cases z:c=od
     ·subst z;rw[odfree] at e;cases e
     ·rw[Zan z];exact BA c o (B9 c o e n) n
    have hplB:(upd HA od (.lst (os.map V.int++ [(fun i j=>V.int (i*j)) y (1-2*r2)]))) pl=some (.lst ((ps.eraseIdx r1.toNat).map V.int)):=by rw[Zan npo];exact hplA
    refine⟨⟨ps.eraseIdx r1.toNat,os++ [y*(1-2*r2)],rfl,hplB,?_,?_,RB,BB'⟩,?_⟩
    ·rw[Zaa,Qam];rfl
    ·rw[Qam,Qaw];refine List.Perm.trans (Qbq _ ?_) pm;show(Zau (y*(1-2*r2))::ps.eraseIdx r1.toNat).Perm ps;rw[ZhE (by omega) r20 r21];exact(Za4 hy).symm
    ·dsimp only;rw[hplB,hpl6];dsimp only;rw[Qaa,Qaa]
     have:=(Za4 hy).length_eq;simp only[QaF] at this;omega
end
end Toy
namespace L2
open PySem PySem.Spec PyProof.Rows
variable {S:List (List Int)}{x y s b m:Int}{r:List Int}{ws:List (List (List Int))}{f:List Int→Int}{k:Nat}
theorem ZjV:∀(n x y:Nat),x+y<n→x+y=(x^^^y)+2*(x &&& y)
 |0,_,_,h=>absurd h (Qdr _)
 |n+1,x,y,h=>by
  by_cases z:x+y=0
  ·have hx:x=0:=by omega
   have hy:y=0:=by omega
   subst hx hy;rfl
  ·have ih:=ZjV n (x/2) (y/2) (by omega);have a1:(x^^^y)/2=x/2^^^y/2:=by have:=Nat.xor_div_two_pow (a:=x) (b:=y) (n:=1);simpa using this
   have a2:(x &&& y)/2=x/2 &&& y/2:=by have:=Nat.and_div_two_pow (a:=x) (b:=y) (n:=1);simpa using this
   have a3:(x^^^y) %2=(x%2) ^^^(y%2):=by have:=Nat.xor_mod_two_pow (a:=x) (b:=y) (n:=1);simpa using this
   have a4:(x &&& y) %2=(x%2) &&& (y%2):=by have:=Nat.and_mod_two_pow (a:=x) (b:=y) (n:=1);simpa using this
   have h1:x%2=0∨x%2=1:=by omega
   have h2:y%2=0∨y%2=1:=by omega
   rcases h1 with h1|h1<;>rcases h2 with h2|h2<;>rw[h1,h2] at a3 a4
   ·replace a3:(x^^^y) %2=0:=a3
    replace a4:(x &&& y) %2=0:=a4
    omega
   ·replace a3:(x^^^y) %2=1:=a3
    replace a4:(x &&& y) %2=0:=a4
    omega
   ·replace a3:(x^^^y) %2=1:=a3
    replace a4:(x &&& y) %2=0:=a4
    omega
   ·replace a3:(x^^^y) %2=0:=a3
    replace a4:(x &&& y) %2=1:=a4
    omega
theorem ZjW (hx:0≤x)(hy:0≤y):Builtin.bitXor x y=((x.toNat^^^y.toNat:Nat):Int):=by
 have e:Builtin.bitXor x y=Builtin.bitOr x y-Builtin.bitAnd x y:=rfl;rw[e,bitOr_and,bitAnd_pp hx hy]
 have:=ZjV _ x.toNat y.toNat (Nat.lt_succ_self _);omega
def Zd7 (x:Int)(k:Nat):Int:=x/2^k%2
theorem ZjX (hx:0≤x)(k:Nat):Builtin.bitAnd (x/2^k) 1=Zd7 x k:=by
 have h0:0≤x/2^k:=Int.ediv_nonneg hx (QbP (Int.pow_pos (by decide)));rw[bitAnd_pp h0 (by decide)];have e1:(1:Int).toNat=1:=rfl;rw[e1,Nat.and_one_is_mod];unfold Zd7;omega
theorem ZgV (x:Int)(hx:0≤x)(k:Nat):Zd7 x k=((x.toNat/2^k%2:Nat):Int):=by
 unfold Zd7;obtain⟨n,rfl⟩:∃n:Nat,x=n:=⟨x.toNat,by omega⟩;simp
theorem Zm4 (hx:0≤x)(hy:0≤y)(k:Nat):(Zd7 (Builtin.bitXor x y) k-(Zd7 x k+Zd7 y k)) %2=0:=by
 have h0:0≤Builtin.bitXor x y:=by rw[ZjW hx hy];omega
 rw[ZgV _ h0,ZgV x hx,ZgV y hy,ZjW hx hy];simp only[QcY];have a1:=Nat.xor_div_two_pow (a:=x.toNat) (b:=y.toNat) (n:=k);have a3:=Nat.xor_mod_two_pow (a:=x.toNat/2^k) (b:=y.toNat/2^k) (n:=1);rw[a1];have h1:x.toNat/2^k%2=0∨x.toNat/2^k%2=1:=by omega
 have h2:y.toNat/2^k%2=0∨y.toNat/2^k%2=1:=by omega
 simp only[Nat.pow_one] at a3;rw[a3];rcases h1 with h1|h1<;>rcases h2 with h2|h2<;>rw[h1,h2]<;>rfl
theorem ZhJ (x:Int)(k:Nat):0≤Zd7 x k∧Zd7 x k≤1:=by unfold Zd7;omega
def Zf0 (x:Int)(t:List Int):Int:=(t.map fun s=>Zd7 x (Zau s-1).toNat).sum
def Zf1 (x:Int)(t:List Int):Prop:=Zf0 x t%2=0
theorem ZgW {x y:Int}(hx:0≤x)(hy:0≤y):∀t:List Int,(Zf0 (Builtin.bitXor x y) t-(Zf0 x t+Zf0 y t)) %2=0
 | []=>rfl
 |s::t=>by
  have a:=Zm4 hx hy (Zau s-1).toNat;have b:=ZgW hx hy t;unfold Zf0 at b⊢;simp only[Qa5,Qb2];omega
theorem Zmh (hx:0≤x)(hy:0≤y):0≤Builtin.bitXor x y:=by rw[ZjW hx hy];omega
def crs (r:List Int)(s:Int):Int:=r.getD (Zau s-1).toNat 0
structure ZbX (S:List (List Int))(r:List Int):Prop where
 len:r.length=S.length/2*3
 nn:∀x∈r,0≤x
 tri:∀a b c:Int,[a,b,c]∈S→(crs r a+crs r b+crs r c) %2=0∧crs r a≤crs r b+crs r c∧crs r b≤crs r a+crs r c∧crs r c≤crs r a+crs r b
theorem ZdU (oS:Zb4 S)(l:r.length=S.length/2*3){t:List Int}(ht:t∈S)(hs:s∈t):r[(Zau s-1).toNat]?=some (crs r s):=by
 have:=oS.side ht hs;have il:(Zau s-1).toNat<r.length:=by omega
 unfold crs;rw[Qai,Qab il];rfl
theorem Zm5 (oS:Zb4 S)(l:r.length=S.length/2*3)(hb:1≤b)(hm:0≤m)(hr:∀(k:Nat) (x:Int),r[k]?=some x→∃d,0≤d∧d<b∧x=2*(b+d)+Zd7 m k)(ev:∀t∈S,Zf1 m t):ZbX S r:=by
 refine⟨l,fun x hx=> ?_,fun a b' c ht=> ?_⟩
 ·obtain⟨k,hk⟩:=Qat.mp hx;obtain⟨d,d0,d1,rfl⟩:=hr k x hk
  have:=ZhJ m k;omega
 ·obtain⟨d1,p1,q1,e1⟩:=hr _ _ (ZdU oS l ht (s:=a) (by simp));obtain⟨d2,p2,q2,e2⟩:=hr _ _ (ZdU oS l ht (s:=b') (by simp));obtain⟨d3,p3,q3,e3⟩:=hr _ _ (ZdU oS l ht (s:=c) (by simp));have ev:=ev _ ht;unfold Zf1 Zf0 at ev;simp only[Qa5,QcP,Qb2,QeO] at ev;have b1:=ZhJ m (Zau a-1).toNat;have b2:=ZhJ m (Zau b'-1).toNat;have b3:=ZhJ m (Zau c-1).toNat;rw[e1,e2,e3];refine⟨?_,?_,?_,?_⟩<;>omega
structure ZnC (n:Nat)(ws:List (List (List Int)))(seen:List (List Int))(r:List Int)(f:List Int→Int):Prop where
 len:r.length=n
 nn:∀e,0≤f e
 off:∀e,e∉seen→f e=0
 same:∀g∈ws,∀x∈g,∀y∈g,f x=f y
 val:∀t:Nat,t<n→r[t]?=some (f [1+(t:Int),0]+f [1+(t:Int),1])
theorem Zot (s:Int)(f:List Int→Int):f (eC s true)+f (eC s false)=f [Zau s,0]+f [Zau s,1]:=by
 unfold eC;by_cases h:0<s
 ·simp[h];omega
 ·simp[h]
theorem Zou (oS:Zb4 S)(pt:Zoq S ws)(h:ZnC (S.length/2*3) ws (ZcK (S.length/2*3)) r f):ZbX S r:=by
 have cr:∀t∈S,∀s∈t,crs r s=f (eC s true)+f (eC s false):=fun t ht s hs=>by
  have b:=oS.side ht hs;have e:=ZdU oS h.len ht hs;have v:=h.val (Zau s-1).toNat (by omega);rw[e] at v;have e2:1+(((Zau s-1).toNat:Nat):Int)=Zau s:=by omega
  rw[e2] at v;rw[Zot];exact QaR v
 have lk:∀u v,(u,v)∈Zb5 S→f u=f v:=fun u v m=>by
  obtain⟨g,hg,ug⟩:=pt.parts.mem (ZhI oS _ m).1;exact h.same g hg u ug v (pt.parts.closed g hg u ug v (.inl m))
 refine⟨h.len,fun x hx=> ?_,fun a b c ht=> ?_⟩
 ·obtain⟨k,hk⟩:=Qat.mp hx;have kl:=(Qac.mp hk).1;have v:=h.val k (by rw[←h.len];exact kl);rw[hk] at v
  have:=QaR v
  have:=h.nn [1+(k:Int),0]
  have:=h.nn [1+(k:Int),1];omega
 ·have mm:∀p∈Zdl [a,b,c],p∈Zb5 S:=fun p hp=>Qa7.mpr ⟨_,Qaz.mpr ⟨_,ht,rfl⟩,hp⟩;have x1:=lk _ _ (mm (eC a true,eC b false) (by simp[Zdl]));have x2:=lk _ _ (mm (eC b true,eC c false) (by simp[Zdl]));have x3:=lk _ _ (mm (eC c true,eC a false) (by simp[Zdl]));rw[cr _ ht a (by simp),cr _ ht b (by simp),cr _ ht c (by simp)]
  have:=h.nn (eC a true)
  have:=h.nn (eC b true)
  have:=h.nn (eC c true)
  have:=h.nn (eC a false);refine⟨?_,?_,?_,?_⟩<;>omega
theorem ZnC.put {n:Nat}{seen:List (List Int)}(h:ZnC n ws seen r f){t:Nat}(ht:t<n)(hb:b=0∨b=1)(hm:0≤m)(ns:[1+(t:Int),b] ∉seen)(nw:∀g∈ws,[1+(t:Int),b] ∉g)(ex:r[t]?=some x):
  ZnC n ws (seen++ [[1+(t:Int),b]]) (r.set t (x+m)) (fun e=>if e=[1+(t:Int),b] then m else f e):=by
 have f0:=h.off _ ns;refine⟨by rw[Qbf];exact h.len,fun e=> ?_,fun e he=> ?_,fun g hg y hy z hz=> ?_,fun t' ht'=> ?_⟩
 ·split
  ·exact hm
  ·exact h.nn e
 ·rw[Qaq,not_or] at he;rw[if_neg (by simpa using he.2)];exact h.off e he.1
 ·rw[if_neg (fun q=>nw g hg (by rw[←q];exact hy)),if_neg (fun q=>nw g hg (by rw[←q];exact hz))];exact h.same g hg y hy z hz
 ·rw[Qc4];have v:=h.val t' ht';by_cases e:t=t'
  ·subst e;rw[if_pos rfl,if_pos (by rw[h.len];exact ht)];rw[ex] at v;have v:=QaR v;rcases hb with rfl|rfl
   ·rw[if_pos rfl,if_neg (by simp)];rw[v];congr 1;omega
   ·rw[if_neg (by simp),if_pos rfl];rw[v];congr 1;omega
  ·rw[if_neg e,v];have n1:¬ [1+(t':Int),0]=[1+(t:Int),b]:=fun q=>by injection q with q1 _;omega
   have n2:¬ [1+(t':Int),1]=[1+(t:Int),b]:=fun q=>by injection q with q1 _;omega
   rw[if_neg n1,if_neg n2]
def Zee (i:Nat)(t:List Int):List (List Int×Int):=(List.range t.length).map fun(p:Nat)=>([(i:Int),(p:Int)],Zau (t.getD p 0))
def ZbO (S:List (List Int)):List (List Int×Int):=((List.range S.length).map fun i=>Zee i (S.getD i [])).flatten
def ZcN (P:List (List Int×Int))(k:Nat):List (List Int):=(P.filter fun q=>decide (q.2=(k:Int)+1)).map (·.1)
theorem ZdV (S:List (List Int))(t:List Int):ZbO (S++ [t])=ZbO S++Zee S.length t:=by
 unfold ZbO;rw[Qae,QaF,Qbp,Qby,Qam,Qbh];congr 1
 ·congr 1;refine Qds fun i hi=> ?_
  have:=Qbb.mp hi;rw[Qai,Qai,Qax this]
 ·simp[Qai]
theorem Zli {i p:Nat}{t:List Int}(h:t[p]?=some s):(Zee i t)[p]?=some ([(i:Int),(p:Int)],Zau s):=by
 unfold Zee;have pl:=(Qac.mp h).1;rw[Qah,QbB pl];show some ([(i:Int),(p:Int)],Zau (t.getD p 0))=_;rw[Qai,h];rfl
theorem ZdW:∀(n:Nat) (S:List (List Int)),S.length=n→(ZbO S).map (·.2)=S.flatten.map Zau
 |0,S,h=>by
  cases S with
  |nil=>rfl
  |cons _ _=>cases h
 |n+1,S,h=>by
  have ne:S≠ []:=fun z=>by rw[z] at h;cases h
  obtain⟨S',t,rfl⟩:∃S' t,S=S'++ [t]:=⟨S.dropLast,S.getLast ne,(Qdm ne).symm⟩;have h':S'.length=n:=by simpa using h
  rw[ZdV,Qam,ZdW n S' h',Qbh,Qam];congr 1;simp only[Qa4,QcG,QaS];unfold Zee;rw[Qb1];apply QbN;intro p;rw[Qah,Qah];by_cases pl:p<t.length
  ·rw[QbB pl,Qab pl];show some (Zau (t.getD p 0))=some (Zau t[p]);rw[Qai,Qab pl];rfl
  ·rw[Qbm (by simpa using pl),Qbm (by omega)];rfl
theorem Zf2 {q:List Int×Int}(h:q∈ZbO S):∃(i p:Nat) (t:List Int) (s:Int),S[i]?=some t∧t[p]?=some s∧q=([(i:Int),(p:Int)],Zau s):=by
 unfold ZbO at h;obtain⟨l,hl,hq⟩:=Qa7.mp h;obtain⟨i,hi,rfl⟩:=Qaz.mp hl;have il:=Qbb.mp hi;unfold Zee at hq;obtain⟨p,hp,rfl⟩:=Qaz.mp hq;have pl:=Qbb.mp hp;have ei:S[i]?=some (S.getD i []):=by rw[Qai,Qab il];rfl
 refine⟨i,p,S.getD i [],(S.getD i []).getD p 0,ei,?_,rfl⟩;rw[Qai (l:=S.getD i []),Qab pl];rfl
theorem Zlj (oS:Zb4 S)(hk:k<S.length/2*3):(ZcN (ZbO S) k).length=2:=by
 unfold ZcN;rw[Qaa,←Qcp]
 have e:(ZbO S).countP (fun q=>decide (q.2=(k:Int)+1))=((ZbO S).map (·.2)).countP fun z=>decide (z=(k:Int)+1):=by
  rw[List.countP_map];rfl
 rw[e,ZdW _ S rfl,oS.ties.countP_eq,Zim,if_pos (by omega)]
theorem ZhK {u:List Int}(h:u∈ZcN (ZbO S) k):∃(i p:Nat) (t:List Int) (s:Int),S[i]?=some t∧t[p]?=some s∧u=[(i:Int),(p:Int)]∧Zau s=(k:Int)+1:=by
 unfold ZcN at h;obtain⟨q,hq,rfl⟩:=Qaz.mp h;obtain⟨h1,h2⟩:=Qb5.mp hq;obtain⟨i,p,t,s,e1,e2,rfl⟩:=Zf2 h1;exact⟨i,p,t,s,e1,e2,rfl,QaK h2⟩
theorem ZpU {α:Type}{l:List α}(h:l.length=2):∃a b,l=[a,b]:=by
 match l,h with
 | [a,b],_=>exact⟨a,b,rfl⟩
end L2
namespace HT
open PySem PyProof.Rows
section
variable {prog:Program}{w:World}{A:Around}{E:Value→Shared→Prop}{s:Shared}
theorem getItem_tuple_all {t sl:Addr}{items:Array Value}{vl vu:Value}{lo hi:Option Int}{Q:Value→Shared→Prop}(ht:IsTup s.heap t items)(hs:s.heap.IsSliceOf sl vl vu .none)(pl:IsPart vl lo)(pu:IsPart vu hi)
  (hw:sIx items.size 0 lo=0∧sIx items.size items.size hi=items.size)
  (h:Q (.ref t) s):wpAny (model prog w) A (getItem (.ref t) (.ref sl)) Q E s:=by
 obtain⟨os,hos,hcs,hds⟩:=id hs;have hTs:s.TypeIs (.ref sl) "slice" :=⟨os,hos,hcs⟩;unfold getItem
 try with_reducible refine Qbs ?_
 first|refine Qad (Qao ?_)|skip
 refine Qad (wpAny_sequenceKey ht.typeIs (by decide) ?_)
 refine Qad (Qcd (name:=Str.ofString "__getitem__") ht.typeIs QbM
  (QbW QbM ht.typeIs entry_tuple_getitem ?_ (args_tuple_getitem _ _)))
 show wpAny _ _ (Builtin.Tuple.tupleItemsOf (.ref t)>>=_) _ _ s;refine Qad (tupleItemsOf_ ht ?_);refine Qad (QcO hTs ?_);rw[if_pos (by decide)];refine Qad (Zco hs pl pu ?_)
 have hyes:((((sIx items.size 0 lo:Nat):Int)==0 && (1:Int)==1 && (sIx items.size items.size hi-sIx items.size 0 lo)==items.size)=true):=by
  rw[hw.1,hw.2];simp
 show wpAny _ _ (if(((sIx items.size 0 lo:Nat):Int)==0 && (1:Int)==1 && (sIx items.size items.size hi-sIx items.size 0 lo)==items.size)=true then _ else _) _ _ s;rw[if_pos hyes];obtain⟨o,ho,hc,n,hd⟩:=id ht;refine Qad (m:=Builtin.Tuple.tupleIsExact (.ref t)) ?_;unfold Builtin.Tuple.tupleIsExact;refine Qad (QcO ht.typeIs (Qao ?_));rw[if_pos (by decide)];exact Qad (Qcj (Qao ⟨_,rfl,Qao h⟩))
end
end HT
namespace L2
open PySem PySem.Spec PyProof.Rows
variable {S h:List (List Int)}{r u r0 ms:List Int}{k i p j n ep:Nat}{H H0:Hp}{Q R:VK}{s P U W x a y z Q' m A:Int}{b c q d l:Addr}{Z N B C:L2.St→Hp→Prop}{X:Cx}{o:Obj}{σ:St}{L:List (List Int×List Int)}{w:World}{es:Array DictEntry}{ks us:List (List Int×Int)}{g:TG}{tt:TT}{te:TE}{prog:Program}{E:Value→Shared→Prop}{vs:List Value}{v:Value}{tg:Expr}{e:List Int×Int}
def Zov (K:PySem.W.Frag):V→Option Int→Option Int→Hp→VK→Prop:=fun x lo hi H Q=>∃a xs,x= .ref a∧SqT K H a xs∧
 ((HT.sIx xs.length 0 lo=0∧HT.sIx xs.length xs.length hi=xs.length)→Q (.ref a) H)∧(¬(HT.sIx xs.length 0 lo=0∧HT.sIx xs.length xs.length hi=xs.length)→∀p,H p=none→Q (.ref p) (upd H p (.tup (Zgu xs lo hi))))
theorem ZjY {K:PySem.W.Frag}(hK:X.K=K:=by rfl):SlR X (Zov K):=by
 subst hK;intro qc s σ H x v vl vu lo hi sl Q I rx hs pl pu h;obtain⟨a,xs,rfl,hx,q1,q2⟩:=h;by_cases hw:HT.sIx xs.length 0 lo=0∧HT.sIx xs.length xs.length hi=xs.length
 ·cases rx;obtain⟨its,r,ht,hz⟩:=I.tuple hx;have hlen:its.toArray.size=xs.length:=by rw[Qar];exact r.length.symm
  refine⟨"tuple",_,PyProof.Rows.slot_tuple_getitem.lookup,ht.typeIs,?_⟩;exact HT.getItem_tuple_all ht hs pl pu (by rw[hlen];exact hw) ⟨.ref a,H,I,rfl,q1 hw⟩
 ·exact ZnT qc s σ H (.ref a) v vl vu lo hi sl Q I rx hs pl pu ⟨a,xs,rfl,hx,hw,q2 hw⟩
theorem Zfe:∀{us:List Value} {ns:List Int} {j:Nat} {i:Int},IntsAre us ns→ns[j]?=some i→∃t,us[j]?=some (.int i t)
 |_,_,j,i,.nil,h=>by simp at h
 |_,_,0,i,.cons m t h,e=>by simp at e;subst e;exact⟨t,rfl⟩
 |_,_,j+1,i,.cons m t h,e=>by
  obtain⟨t',e'⟩:=Zfe h (j:=j) (by simpa using e);exact⟨t',by simpa using e'⟩
theorem Zow {K:PySem.W.Frag}(hK:X.K=K:=by rfl):OpR X (compareOp .In) (rIn K false):=by subst hK;exact Zi3
def Zmi:V→List V→Hp→VK→Prop:=fun x vs H Q=>∃(l:Addr) (ns:List Int) (i:Int) (j:Nat),x= .ref l∧vs=[.int i]∧H l=some (.lst (ns.map V.int))∧ns[j]?=some i∧(∀m,m<j→ns[m]?≠some i)∧ns.length≤1000∧Q (.int j) H
theorem Zlk:MtM X "list.index" Zmi:=by
 intro qc s σ H x vs v us Q I rx rv h;obtain⟨l,ns,i,j,rfl,rfl,hH,hj,hno,hle,q⟩:=h;cases rx;obtain⟨u,rfl,t,rfl⟩:=Zcf rv;obtain⟨z,its,n,r,hl,e⟩:=I.lstM hH;have hI:=ZcA r;have hlen:its.length=ns.length:=hI.length;have jl:j<ns.length:=(Qac.mp hj).1;refine QcZ F.slot_list_index ⟨_,e,rfl⟩ F.entry_list_index (F.args_list_index_2 _ _) (MeetsSeq.list_index l its.toArray n (.int i t) (PyProof.Rows.isInt i) (fun y hy=> ?_) j ?_ ?_ ?_ ?_) ⟨e,?_⟩
 ·exact Qer i t hI y (by simpa using hy)
 ·rw[Qar,hlen];exact jl
 ·have:j<1000:=by omega
  omega
 ·obtain⟨tk,ek⟩:=Zfe hI hj
  have:its.toArray[j]'(by rw[Qar,hlen];exact jl)= .int i tk:=by
   rw[QcB];exact(Qac.mp ek).2
  rw[this];show(i==i)=true;simp
 ·intro m hm hmj;have ml:m<ns.length:=by omega
  obtain⟨tk,ek⟩:=Zfe hI (Qab ml)
  have:its.toArray[m]'hm= .int ns[m] tk:=by
   rw[QcB];exact(Qac.mp ek).2
  rw[this];show(ns[m]==i)=false
  have:=hno m hmj;rw[Qab ml] at this;simpa using this
 ·exact⟨.int _,H,I.tok _,⟨s.toks,rfl⟩,q⟩
def rot (t:List Int)(p:Nat):List Int:=t.drop p++t.take p
theorem ZhL (t:List Int)(p:Nat):(rot t p).Perm t:=by
 unfold rot
 have:(t.drop p++t.take p).Perm (t.take p++t.drop p):=Qdc
 rwa [QaT] at this
def Lx (a b:List Int×Int):Prop:=∃i p j r:Nat,a.1=[(i:Int),(p:Int)]∧b.1=[(j:Int),(r:Int)]∧(i<j∨(i=j∧p<r))
theorem Zll (i:Nat)(t:List Int):(Zee i t).Pairwise Lx:=by
 unfold Zee;rw[Qc6];refine List.Pairwise.imp ?_ (List.pairwise_lt_range (n:=t.length));intro a b h;exact⟨i,a,i,b,rfl,rfl,.inr ⟨rfl,h⟩⟩
theorem Zf3:∀(n:Nat) (S:List (List Int)),S.length=n→(ZbO S).Pairwise Lx
 |0,S,h=>by
  cases S with
  |nil=>exact .nil
  |cons _ _=>cases h
 |n+1,S,h=>by
  have ne:S≠ []:=fun z=>by rw[z] at h;cases h
  obtain⟨S',t,rfl⟩:∃S' t,S=S'++ [t]:=⟨S.dropLast,S.getLast ne,(Qdm ne).symm⟩;have h':S'.length=n:=by simpa using h
  rw[ZdV,Qb3];refine⟨Zf3 n S' h',Zll _ _,fun a ha b hb=> ?_⟩;obtain⟨i,p,t',s,e1,e2,rfl⟩:=Zf2 ha;unfold Zee at hb;obtain⟨r,hr,rfl⟩:=Qaz.mp hb;exact⟨i,p,S'.length,r,rfl,rfl,.inl (Qac.mp e1).1⟩
theorem ZjZ {t:List Int}(h1:S[i]?=some t)(h2:t[p]?=some s):([(i:Int),(p:Int)],Zau s)∈ZbO S:=by
 unfold ZbO;refine Qa7.mpr ⟨Zee i t,Qaz.mpr ⟨i,Qbb.mpr (Qac.mp h1).1,?_⟩,Qaj (Zli h2)⟩;rw[Qai,h1];rfl
theorem Zlm {t:List Int}(h1:S[i]?=some t)(h2:t[p]?=some s)(h3:Zau s=(k:Int)+1):[(i:Int),(p:Int)]∈ZcN (ZbO S) k:=by
 unfold ZcN;exact Qaz.mpr ⟨([(i:Int),(p:Int)],Zau s),Qb5.mpr ⟨ZjZ h1 h2,Qan h3⟩,rfl⟩
structure Zf4 (S:List (List Int))(k i p j r:Nat)(t u:List Int):Prop where
 gl:ZcN (ZbO S) k=[[(i:Int),(p:Int)],[(j:Int),(r:Int)]]
 ei:S[i]?=some t
 ej:S[j]?=some u
 tp:∃s,t[p]?=some s∧Zau s=(k:Int)+1
 ur:∃s,u[r]?=some s∧Zau s=(k:Int)+1
 le:i<j∨(i=j∧p<r)
 all:∀(i' p':Nat) (t':List Int) (s':Int),S[i']?=some t'→t'[p']?=some s'→Zau s'=(k:Int)+1→(i'=i∧p'=p)∨(i'=j∧p'=r)
theorem Zox (oS:Zb4 S)(hk:k<S.length/2*3):∃i p j r t u,Zf4 S k i p j r t u:=by
 obtain⟨a,b,e⟩:=ZpU (Zlj oS hk);have ha:a∈ZcN (ZbO S) k:=by rw[e];simp
 have hb:b∈ZcN (ZbO S) k:=by rw[e];simp
 obtain⟨i,p,t,s,e1,e2,rfl,e3⟩:=ZhK ha;obtain⟨j,r,u,s',f1,f2,rfl,f3⟩:=ZhK hb
 have px:(((ZbO S).filter fun q=>decide (q.2=(k:Int)+1)).map (·.1)).Pairwise fun x y=>∃i p j r:Nat,x=[(i:Int),(p:Int)]∧y=[(j:Int),(r:Int)]∧(i<j∨(i=j∧p<r)):=by
  rw[Qc6];exact((Zf3 _ S rfl).filter _)
 have px:(ZcN (ZbO S) k).Pairwise _:=px;rw[e] at px;obtain⟨i',p',j',r',z1,z2,z3⟩:=(QdF.mp px).1 _ QaA;have z1:=z1;simp only[QcW,QeQ] at z1 z2;refine⟨i,p,j,r,t,u,e,e1,f1,⟨s,e2,e3⟩,⟨s',f2,f3⟩,by omega,fun i'' p'' t'' s'' h1 h2 h3=> ?_⟩;have hm:=Zlm h1 h2 h3;rw[e] at hm;simp only[QaJ,Qbe,Qco,QcW,QeQ] at hm;omega
structure Zgp (S:List (List Int))(k i p j r:Nat)(t u:List Int)(P Q U V:Int):Prop extends Zf4 S k i p j r t u where
 lt:i<j
 sq:∃f g A B:Int,rot t p=[f,P,Q]∧rot u r=[g,A,B]∧Zau f=(k:Int)+1∧Zau g=(k:Int)+1∧(if f=g then U= -B∧V= -A else U=A∧V=B)
def Zpr (S:List (List Int))(tie:Int):Prop:=¬(1≤tie∧tie≤((S.length/2*3:Nat):Int))∨∃k i p r t u,tie=(k:Nat)+1∧k<S.length/2*3∧Zf4 S k i p i r t u
theorem Zf5 {t:List Int}(h3:t.length=3)(h:t[p]?=some s):∃a b,rot t p=[s,a,b]:=by
 obtain⟨x,y,z,rfl⟩:=ZcM h3;rcases p with _|_|_|p
 ·cases h;exact⟨_,_,rfl⟩
 ·cases h;exact⟨_,_,rfl⟩
 ·cases h;exact⟨_,_,rfl⟩
 ·cases h
def Zb7 (S:List (List Int))(k i j:Nat)(P Q U V:Int):List (List Int):=(S.set i [Q,U,-((k:Int)+1)]).set j [V,P,(k:Int)+1]
theorem ZhM {α:Type}{l:List α}{a x:α}(h:l[i]?=some a):(a::l.set i x).Perm (x::l):=by
 have il:=(Qac.mp h).1;have h1:l.Perm (a::l.eraseIdx i):=Za4 h;have h2:(l.set i x).Perm (x::(l.set i x).eraseIdx i):=Za4 (by rw[Qc4,if_pos rfl,if_pos il]);rw[List.eraseIdx_set_eq] at h2;exact((h2.cons a).trans (QdN x a _)).trans (h1.symm.cons x)
theorem ZgX (oS:Zb4 S){r:Nat}{t:List Int}{Q V:Int}(T:Zgp S k i p j r t u P Q U V):Zb4 (Zb7 S k i j P Q U V):=by
 have ll:(Zb7 S k i j P Q U V).length=S.length:=by unfold Zb7;rw[Qbf,Qbf]
 refine⟨by rw[ll];exact oS.even,fun w hw=> ?_,?_⟩
 ·unfold Zb7 at hw;rcases Ze4 hw with hw|rfl
  ·rcases Ze4 hw with hw|rfl
   ·exact oS.three w hw
   ·rfl
  ·rfl
 ·rw[ll];refine List.Perm.trans ?_ oS.ties;obtain⟨f,g,A,B,ra,rb,af,ag,hs⟩:=T.sq;have e1:(t::S.set i [Q,U,-((k:Int)+1)]).Perm ([Q,U,-((k:Int)+1)]::S):=ZhM T.ei;have e2:(u::Zb7 S k i j P Q U V).Perm ([V,P,(k:Int)+1]::S.set i [Q,U,-((k:Int)+1)]):=ZhM (by rw[QbJ (QaX T.lt)];exact T.ej);have e3:(t::u::Zb7 S k i j P Q U V).Perm ([V,P,(k:Int)+1]:: [Q,U,-((k:Int)+1)]::S):=((e2.cons t).trans (QdN _ _ _)).trans (e1.cons _);have e4:=(e3.flatten).map Zau;simp only[Qa4,Qam] at e4
  have pt:(t.map Zau).Perm [(k:Int)+1,Zau P,Zau Q]:=by
   have:=(ZhL t p).symm.map Zau;rw[ra] at this;simpa[af] using this
  have pu:(u.map Zau).Perm [(k:Int)+1,Zau A,Zau B]:=by
   have:=(ZhL u r).symm.map Zau;rw[rb] at this;simpa[ag] using this
  have aneg:∀z:Int,Zau (-z)=Zau z:=fun z=>by unfold Zau;split<;>split<;>omega
  have ak:Zau ((k:Int)+1)=(k:Int)+1:=by unfold Zau;rw[if_neg (by omega)]
  have uv:([Zau U,Zau V]:List Int).Perm [Zau A,Zau B]:=by
   split at hs
   ·rw[hs.1,hs.2,aneg,aneg];exact QdN _ _ _
   ·rw[hs.1,hs.2]
  have six:(t.map Zau++(u.map Zau)).Perm (([V,P,(k:Int)+1].map Zau)++([Q,U,-((k:Int)+1)].map Zau)):=by
   refine(pt.append pu).trans ?_;refine List.Perm.trans (l₂:=[(k:Int)+1,Zau P,Zau Q,(k:Int)+1]++ [Zau U,Zau V]) (Qbq [(k:Int)+1,Zau P,Zau Q,(k:Int)+1] uv.symm) ?_;simp only[Qa5,QcP,aneg,ak,List.cons_append,QcT];rw[List.perm_iff_count];intro z;simp only[List.count_cons,List.count_nil];omega
  have e5:(t.map Zau++(u.map Zau)++(Zb7 S k i j P Q U V).flatten.map Zau).Perm (([V,P,(k:Int)+1].map Zau)++([Q,U,-((k:Int)+1)].map Zau)++S.flatten.map Zau):=by
   simpa[Qaw] using e4
  have e6:=(e5.trans ((six.symm).append_right _));exact(List.perm_append_left_iff _).mp e6
theorem TuL.set {H:Hp}{xs:List V}{S:List (List Int)}(h:TuL H xs S){q:Addr}{w:List Int}(hq:H q=some (.tup (w.map V.int)))(n:Nat):TuL H (xs.set n (.ref q)) (S.set n w):=by
 refine⟨by rw[Qbf,Qbf];exact h.1,fun m y v h1 h2=> ?_⟩;rw[Qc4] at h1 h2;by_cases e:n=m
 ·subst e;rw[if_pos rfl] at h1 h2;split at h1
  ·cases h1;split at h2
   ·cases h2;exact⟨q,rfl,hq⟩
   ·cases h2
  ·cases h1
 ·rw[if_neg e] at h1 h2;exact h.2 m y v h1 h2
theorem Zj0 {K:PySem.W.Frag}(hK:X.K=K:=by rfl):OpR X (binaryOp .Add) (ZkQ K):=by subst hK;exact Zmz
def nc (m:Nat):List Int:=[(m:Int)]
def pc (p:Nat×Nat):List Int:=[(p.1:Int),(p.2:Int)]
def Bt (d:Addr)(H H':Hp):Prop:=∀c o,c≠d→H c=some o→H' c=some o
theorem Zj1 (h:j<n):ixN n (j:Int)=some j:=by
 unfold ixN;rw[if_pos (by omega)]
 first
  | (rw[if_pos (by omega)];simp)
  | (simp;omega)
def ZgY (K:PySem.W.Frag):Sp:=fun vs H Q _=>∃(a:Addr) (xs:List V),vs=[.ref a]∧SqL K H a xs∧Q (.int ((xs.length/2*3:Nat):Int)) H
theorem Zf6:∀{ns:List Int} {its:List Value},ZaZ (ns.map V.int) its→∃ps:List (Int×Tok),its=ps.map (fun p=>Value.int p.1 p.2)∧ps.map (·.1)=ns
 | [],its,r=>by cases r;exact⟨[],rfl,rfl⟩
 |n::ns,its,r=>by
  cases r with
  |cons a b=>
   obtain⟨t,rfl⟩:=a;obtain⟨ps,rfl,e⟩:=Zf6 b;exact⟨(n,t)::ps,rfl,by rw[Qa5,e]⟩
theorem Zj2 (hc:X.calm=true):ZbW X (.builtin "max") (fun xs H Q=>∃(p:Addr) (ns:List Int),xs=[.ref p]∧SqL X.K H p (ns.map V.int)∧ns≠ []∧∀m∈ns,(∀n∈ns,n≤m)→Q (.int m) H):=by
 intro qc s σ H xs us Q I r h;obtain⟨p,ns,rfl,hq,ne,q⟩:=h;obtain⟨u,rfl,rx⟩:=Zcf r;cases rx;obtain⟨its,rv,pl,hz⟩:=I.list hq;obtain⟨ps,rfl,e⟩:=Zf6 rv;have hl:=pl.isList;have ei:(ps.map (fun p=>Value.int p.1 p.2)).toArray=intItems ps.toArray:=by simp[intItems]
 rw[ei] at hl
 have pn:0<ps.length:=by
  cases ps with
  |nil=>exact absurd e.symm ne
  |cons a b=>simp
 have at1:∀j,j<ps.length→ns[j]?=some (numAt ps.toArray j):=fun j hj=>by
  rw[←e,Qah,Qab hj];simp[numAt,hj]
 refine max_intList (I.ok.hd hc) hl (by simpa using pn) fun v h' tk hv hk=> ?_;obtain⟨t,rfl⟩:=intItems_at hv;obtain⟨b1,b2⟩:=argBest_gt (numAt ps.toArray) (ps.toArray.size-1);generalize argBest (fun i' j'=>decide (numAt ps.toArray i'>numAt ps.toArray j')) (ps.toArray.size-1)=k at b1 b2⊢;rw[Qar] at b1 b2;refine⟨.int _,H,I.kept hk,⟨t,rfl⟩,q _ (Qaj (at1 k (by omega))) fun n hn=> ?_⟩;obtain⟨j,hj⟩:=Qat.mp hn
 have jl:j<ps.length:=by
  have:=(Qac.mp hj).1;rw[←e,Qaa] at this;exact this
 rw[at1 j jl] at hj;cases hj;exact b2 j (by omega)
def Zln (r q:List Int):List Int:=(List.range r.length).map fun k=>r.getD k 0+q.getD k 0
theorem ZgZ {q:List Int}(hk:k<r.length):(Zln r q)[k]?=some (r.getD k 0+q.getD k 0):=by
 unfold Zln;rw[Qah,QbB hk];rfl
theorem Zdy (r q:List Int):(Zln r q).length=r.length:=by unfold Zln;rw[Qaa,Qbk]
theorem Zg0 {q:List Int}(h:r.length=q.length)(s:Int):crs (Zln r q) s=crs r s+crs q s:=by
 unfold crs;by_cases hk:(Zau s-1).toNat<r.length
 ·rw[Qai,ZgZ hk];rfl
 ·have n1:(Zln r q)[(Zau s-1).toNat]?=none:=by rw[QaY,Zdy];omega
  have n2:r[(Zau s-1).toNat]?=none:=by rw[QaY];omega
  have n3:q[(Zau s-1).toNat]?=none:=by rw[QaY];omega
  rw[Qai,Qai,Qai,n1,n2,n3];rfl
theorem ZbX.add {q:List Int}(h:ZbX S r)(k:ZbX S q):ZbX S (Zln r q):=by
 have e:r.length=q.length:=by rw[h.len,k.len]
 refine⟨by rw[Zdy,h.len],fun x hx=> ?_,fun a b c hm=> ?_⟩
 ·obtain⟨j,hj⟩:=Qat.mp hx;have jl:j<r.length:=by have:=(Qac.mp hj).1;rwa [Zdy] at this
  rw[ZgZ jl] at hj;cases hj;have g1:r.getD j 0∈r:=by rw[Qai,Qab jl];exact Qbo jl
  have g2:q.getD j 0∈q:=by rw[Qai,Qab (e ▸ jl)];exact Qbo _
  have:=h.nn _ g1
  have:=k.nn _ g2;omega
 ·rw[Zg0 e,Zg0 e,Zg0 e];obtain⟨p1,p2,p3,p4⟩:=h.tri a b c hm;obtain⟨q1,q2,q3,q4⟩:=k.tri a b c hm;omega
def Zff:Sp:=fun vs H Q _=>∃(q c:Addr) (t r:List Int),vs=[.ref q,.ref c]∧H q=some (.tup (t.map V.int))∧H c=some (.lst (r.map V.int))∧t.length≤10∧(∀s∈t,1≤Zau s∧r[(Zau s-1).toNat]?=some (crs r s))∧∀l,H l=none→Q (.ref l) (upd H l (.lst ((t.map (crs r)).map V.int)))
theorem Zoy {K:PySem.W.Frag}{a:Addr}{xs:List V}(Pv:Nat→List V→Hp→Prop)(h0:Pv 0 [] H)(hb:xs.length≤1000)(hz:∀i ys H,Pv i ys H→ys.length≤i)(hl:∀i ys H,i≤xs.length→Pv i ys H→SqL K H a xs)
  (hs:∀i x ys H (pre:St) (p:Addr),pre.length=k→xs[i]?=some x→Pv i ys H→H p=none→g (.ref p) (pre++σ) (upd H p (.tup [.int (i:Int),x])) fun σ' H2=>(∃pre':St,σ'=pre'++σ∧pre'.length=k)∧tt σ' H2 fun ok H3=>if ok=true then te σ' H3 fun y H4=>Pv (i+1) (ys++ [y]) H4 else Pv (i+1) ys H3) (hd:∀ys H,Pv xs.length ys H→∀D,H D=none→Q (.ref D) (upd H D (.lst ys))):CGo k (Ite K a) g tt te Q σ H:=by
 refine⟨fun i m ys H=>m=xs.length-i∧i≤xs.length∧Pv i ys H,⟨xs.length,by simp,QaW _,h0⟩,?_⟩;rintro i m ys H ⟨rfl,hi,p⟩;have q:=hl i ys H hi p;by_cases hlt:i<xs.length
 ·refine .inr ⟨⟨xs,xs[i],q,by simp[hlt]⟩,QaN (hz i ys H p) (Zbs (by omega)),Pv (i+1),fun zs H' p'=>⟨xs.length-(i+1),by omega,rfl,hlt,p'⟩,fun v H' pre hp y=> ?_⟩;obtain⟨pp,x,rfl,hq,rfl,e⟩:=y;exact hs i x ys _ pre pp hp (e xs q) p hq
 ·have e:i=xs.length:=by omega
  subst e;exact .inl ⟨⟨xs,q,by simp⟩,hd ys H p⟩
theorem TuL.get {xs:List V}{us:List (List Int)}(h:TuL H xs us)(e:us[i]?=some u):∃a:Addr,H a=some (.tup (u.map V.int))∧xs[i]?=some (.ref a):=by
 have il:i<xs.length:=by rw[h.1];exact(Qac.mp e).1
 obtain⟨a,ea,ha⟩:=h.2 i _ u (Qab il) e;exact⟨a,ha,by rw[Qab il,ea]⟩
theorem Zj3 {K:PySem.W.Frag}{t:List Int}{σ:L2.St}(hq:H q=some (.tup (t.map V.int)))(h3:t.length=3)(hp:p<3)(e1:σ[i]?=some (some (.ref q)))(e2:σ[j]?=some (some (.int (p:Int))))
  (k:∀(c:Addr) (H':Hp),Zai H H'→H' c=some (.tup ((rot t p).map V.int))→Q (.ref c) H'):tOp (ZkQ K) (tSl (Zov K) (Zam i) (ZfF (Zam j)) ZcP) (tSl (Zov K) (Zam i) ZcP (ZfF (Zam j))) σ H Q:=by
 obtain⟨x,y,z,rfl⟩:=ZcM h3;rcases p with _|_|_|p
 ·refine⟨_,e1,_,e2,0,rfl,q,_,rfl,SqT.of hq,fun _=> ?_,fun n=>absurd (by show HT.sIx 3 0 (some 0)=0∧HT.sIx 3 3 none=3;decide) n⟩;refine⟨_,e1,_,e2,0,rfl,q,_,rfl,SqT.of hq,fun n=>absurd n (by show ¬(HT.sIx 3 0 none=0∧HT.sIx 3 3 (some 0)=3);decide),fun _ c hc=> ?_⟩;have s1:=Zai.nw (o:=.tup []) (Zai.refl H) hc;have f1:(upd H c (.tup [])) c=some (.tup []):=Zaa;have e3:(Zgu ([x,y,z].map V.int) none (some 0))=[]:=rfl;rw[e3];generalize upd H c (.tup [])=H1 at s1 f1⊢;exact⟨q,c,_,[],rfl,rfl,SqT.of (s1 _ _ hq),SqT.of f1,(by simp),(by show 3≤sizeLine;decide),fun _=>k q H1 s1 (s1 _ _ hq),fun n=>absurd rfl n⟩
 all_goals first
  | (exfalso;omega)
  | (refine⟨_,e1,_,e2,_,rfl,q,_,rfl,SqT.of hq,fun n=>absurd n (by first|(show ¬(HT.sIx 3 0 (some 1)=0∧HT.sIx 3 3 none=3);decide)|(show ¬(HT.sIx 3 0 (some 2)=0∧HT.sIx 3 3 none=3);decide)),fun _ c hc=> ?_⟩
     have s1:=fun o=>Zai.nw (o:=o) (Zai.refl H) hc
     refine⟨_,e1,_,e2,_,rfl,q,_,rfl,SqT.of (s1 _ _ _ hq),fun n=>absurd n (by first|(show ¬(HT.sIx 3 0 none=0∧HT.sIx 3 3 (some 1)=3);decide)|(show ¬(HT.sIx 3 0 none=0∧HT.sIx 3 3 (some 2)=3);decide)),fun _ d hd=> ?_⟩
     have ncd:=Zak (Zaa (H:=H) (a:=c)) hd
     refine⟨c,d,_,_,rfl,rfl,SqT.of ((Zan ncd).trans Zaa),SqT.of Zaa,(by first|(show [V.int y,V.int z]≠ [];simp)|(show [V.int z]≠ [];simp)),(by show 3≤sizeLine;decide),fun n=>absurd n (by first|(show [V.int x]≠ [];simp)|(show [V.int x,V.int y]≠ [];simp)),fun _ e he=> ?_⟩
     exact k e _ (Zai.nw (Zai.nw (s1 _) hd) he) Zaa)
theorem ZpV {xs:List V}{t1 t2:List Int}{c1 c2:Addr}(tS:TuL H xs S)(hl:H l=none)
  (h1:(upd H l (.lst xs)) c1=none) (h2:(upd (upd (upd H l (.lst xs)) c1 (.tup (t1.map V.int))) l (.lst (xs.set i (.ref c1)))) c2=none)
  (k:∀(ys:List V) (H':Hp),Zai H H'→H' l=some (.lst ys)→TuL H' ys ((S.set i t1).set j t2)→Q (.ref l) H'):Q (.ref l) (upd (upd (upd (upd (upd H l (.lst xs)) c1 (.tup (t1.map V.int))) l (.lst (xs.set i (.ref c1)))) c2 (.tup (t2.map V.int))) l (.lst ((xs.set i (.ref c1)).set j (.ref c2)))):=by
 have n1:l≠c1:=Zak Zaa h1;have n2:l≠c2:=Zak Zaa h2;have hc1:H c1=none:=by rwa [Zan (Ne.symm n1)] at h1
 have s1:=Zai.nw (o:=.tup (t1.map V.int)) (Zai.nw (o:=.lst xs) (Zai.refl H) hl) h1;have s2:=s1.ow (o:=.lst (xs.set i (.ref c1))) hl;have s3:=Zai.nw (o:=.tup (t2.map V.int)) s2 h2;have s4:=s3.ow (o:=.lst ((xs.set i (.ref c1)).set j (.ref c2))) hl;have n12:c1≠c2:=Zak ((Zan (Ne.symm n1)).trans Zaa) h2;refine k _ _ s4 Zaa ?_;refine TuL.set (TuL.set (tS.up s4.tups) ?_ i) ?_ j
 ·rw[Zan (Ne.symm n1),Zan n12,Zan (Ne.symm n1)];exact Zaa
 ·rw[Zan (Ne.symm n2)];exact Zaa
theorem ZhN {r i' p' j' r':Nat}{t t' u':List Int}{Q P' U' W':Int}(T:Zgp S k i p j r t u P Q U W)(T':Zgp S k i' p' j' r' t' u' P' Q' U' W'):i=i'∧j=j'∧P=P'∧Q=Q'∧U=U'∧W=W':=by
 have g:=T.gl.symm.trans T'.gl;simp only[QcW,QeQ] at g;have e1:i=i':=by omega
 have e2:p=p':=by omega
 have e3:j=j':=by omega
 have e4:r=r':=by omega
 subst e1 e2 e3 e4;have et:=T.ei.symm.trans T'.ei;have eu:=T.ej.symm.trans T'.ej;cases et;cases eu;obtain⟨f,g,A,B,ra,rb,_,_,h1⟩:=T.sq;obtain⟨f',g',A',B',ra',rb',_,_,h2⟩:=T'.sq;rw[ra] at ra';rw[rb] at rb';cases ra';cases rb';split at h1
 ·rename_i hf;rw[if_pos hf] at h2;exact⟨rfl,rfl,rfl,rfl,h1.1.trans h2.1.symm,h1.2.trans h2.2.symm⟩
 ·rename_i hf;rw[if_neg hf] at h2;exact⟨rfl,rfl,rfl,rfl,h1.1.trans h2.1.symm,h1.2.trans h2.2.symm⟩
theorem Zj4 {r:Nat}{t:List Int}{Q:Int}(hk:k<S.length/2*3)(h:Zpr S ((k:Int)+1))(T:Zgp S k i p j r t u P Q U W):False:=by
 rcases h with h|⟨k',i',p',r',t',u',ek,_,T'⟩
 ·omega
 ·have e:k=k':=by omega
  subst e;have g:=T.gl.symm.trans T'.gl;simp only[QcW,QeQ] at g
  have:=T.lt;omega
def Zfg:Sp:=fun vs H Q _=>∃(q:Addr) (t:List Int) (p k:Nat),vs=[.ref q,.int ((k:Int)+1)]∧H q=some (.tup (t.map V.int))∧t.length=3∧(t.map Zau)[p]?=some ((k:Int)+1)∧(∀m,m<p→(t.map Zau)[m]?≠some ((k:Int)+1))∧∀(c:Addr) (H':Hp),Zai H H'→H' c=some (.tup ((rot t p).map V.int))→Q (.ref c) H'
def Zm6 (K:PySem.W.Frag)(i:Nat):TE:=ZbA 1 (ZlL K (Zam i)) (Zas 0) Zcp (tCB (fun xs H Q=>∃i,xs=[V.int i]∧Q (V.int (if i<0 then -i else i)) H) (Zae (Zam 0) ZaA))
theorem ZeC {K:PySem.W.Frag}{t:List Int}{σ:L2.St}(e:σ[i]?=some (some (.ref q)))(hq:H q=some (.tup (t.map V.int)))(tl:t.length≤10)(k:∀D,H D=none→Q (.ref D) (upd H D (.lst ((t.map Zau).map V.int)))):Zm6 K i σ H Q:=by
 refine⟨_,e,q,rfl,⟨_,SqT.of hq⟩,Zi9 (K:=K) (a:=q) (xs:=t.map V.int) (fun i ys H'=>ys=((t.take i).map Zau).map V.int∧H=H') ⟨rfl,rfl⟩ (by rw[Qaa];omega) (fun m ys H' h=>by rw[h.1,Qaa,Qaa,QaC];exact Qbi _ _) (fun m ys H' _ h=>by rw[←h.2];exact SqT.of hq) ?_ ?_⟩
 ·rintro m z ys' H' pre hpl hz ⟨rfl,rfl⟩;rw[Qah] at hz
  cases ez:t[m]? with
  |none=>rw[ez] at hz;cases hz
  |some sd=>
   rw[ez] at hz;cases hz;rcases pre with _|⟨q0,_|⟨q1,pre⟩⟩
   ·cases hpl
   ·refine⟨⟨[some _],rfl,rfl⟩,?_⟩;unfold Zcp;dsimp only;rw[if_pos (rfl:true=true)];refine⟨_,rfl,sd,rfl,?_,rfl⟩;rw[Zat ez,Qam,Qam];rfl
   ·cases hpl
 ·rintro ys' H' ⟨rfl,rfl⟩ D hD;rw[Qaa,QaZ];exact k D hD
def Zoz (K:PySem.W.Frag):TS:=Zbq (ZbU (tBM K "list" Zmi (Zm6 K 0) (Zae (Zam 1) ZaA)) (Zas 2)) (Zct (tOp (ZkQ K) (tSl (Zov K) (Zam 0) (ZfF (Zam 2)) ZcP) (tSl (Zov K) (Zam 0) ZcP (ZfF (Zam 2)))))
theorem Zg1 {K:PySem.W.Frag}{t:List Int}(hq:H q=some (.tup (t.map V.int)))(t3:t.length=3)(hp:(t.map Zau)[p]?=some ((k:Int)+1))(hno:∀m,m<p→(t.map Zau)[m]?≠some ((k:Int)+1))
  (kk:∀(c:Addr) (H':Hp),Zai H H'→H' c=some (.tup ((rot t p).map V.int))→Q (.ref c) H'):Zoz K {nx:=Z,rt:=Q } [some (.ref q),some (.int ((k:Int)+1)),none] H:=by
 have p3:p<3:=by have:=(Qac.mp hp).1;rw[Qaa,t3] at this;exact this
 refine ZeC (i:=0) rfl hq (by omega) fun D hD=> ?_;have s1:=Zai.nw (o:=.lst ((t.map Zau).map V.int)) (Zai.refl H) hD;have f1:(upd H D (.lst ((t.map Zau).map V.int))) D=some (.lst ((t.map Zau).map V.int)):=Zaa;refine⟨.inl ⟨rfl,_,SqL.of f1⟩,_,rfl,D,t.map Zau,(k:Int)+1,p,rfl,rfl,f1,hp,hno,by rw[Qaa];omega,?_⟩;exact Zj3 (K:=K) (i:=0) (j:=2) (s1 _ _ hq) t3 p3 rfl rfl fun c H' s' h'=>kk c H' (s1.trans s') h'
def Zcl:Sp:=fun vs H Q _=>∃(b:Addr) (xs:List V) (S:List (List Int)) (k:Nat),vs=[.ref b,.int ((k:Int)+1)]∧H b=some (.lst xs)∧TuL H xs S∧Zb4 S∧k<S.length/2*3∧
 (Zpr S ((k:Int)+1)→∀H',Zai H H'→Q .non H')∧
 ∀(i p j r:Nat) (t u:List Int) (P Q' U W:Int),Zgp S k i p j r t u P Q' U W→∀(c d e:Addr) (H':Hp),Zai H H'→H' c=some (.tup [.ref e,.ref d])→H' e=some (.lst [.int (i:Int),.int (j:Int)])→H' d=some (.tup ([P,Q',U,W].map V.int))→Q (.ref c) H'
def Zc0 (S:List (List Int))(k n:Nat):List Nat:=(List.range n).filter fun i=>decide ((k:Int)+1∈(S.getD i []).map Zau)
theorem Zj5 (i:Int):∀ns:List Int,inV (.int i) (ns.map V.int)=decide (i∈ns)
 | []=>rfl
 |n::r=>by
  show((n==i)||inV (.int i) (r.map V.int))=decide (i∈n::r);rw[Zj5 i r,QbU,Bool.or_eq_true,beq_iff_eq,QdJ,QdJ,QaJ];constructor
  ·rintro(h|h)
   ·exact .inl h.symm
   ·exact .inr h
  ·rintro(h|h)
   ·exact .inl h.symm
   ·exact .inr h
theorem ZhO {r:Nat}{t:List Int}(T:Zf4 S k i p j r t u)(x:Nat)(hx:x<S.length):(k:Int)+1∈(S.getD x []).map Zau↔x=i∨x=j:=by
 have ex:S[x]?=some (S.getD x []):=by rw[Qai,Qab hx];rfl
 constructor
 ·intro h;obtain⟨s,hs,e⟩:=Qaz.mp h;obtain⟨p',hp'⟩:=Qat.mp hs;rcases T.all x p' _ s ex hp' e with h|h
  ·exact .inl h.1
  ·exact .inr h.1
 ·rintro(rfl|rfl)
  ·obtain⟨s,e1,e2⟩:=T.tp;rw[T.ei] at ex;rw[←QaR ex];exact Qaz.mpr ⟨s,Qaj e1,e2⟩
  ·obtain⟨s,e1,e2⟩:=T.ur;rw[T.ej] at ex;rw[←QaR ex];exact Qaz.mpr ⟨s,Qaj e1,e2⟩
theorem ZhP (i:Nat):∀n,(List.range n).filter (fun x=>decide (x=i))=if i<n then [i] else []
 |0=>rfl
 |n+1=>by
  rw[Qby,QcV,ZhP i n];by_cases h:i<n
  ·rw[if_pos h,if_pos (by omega),Qa9 (by simp;omega)];rfl
  ·by_cases h2:n=i
   ·subst h2;rw[if_neg h,if_pos (by omega),Qa8 (by simp)];rfl
   ·rw[if_neg h,if_neg (by omega),Qa9 (by simpa using h2)];rfl
theorem ZhQ {i j:Nat}(lt:i<j):∀n,(List.range n).filter (fun x=>decide (x=i∨x=j))=if j<n then [i,j] else if i<n then [i] else []
 |0=>rfl
 |n+1=>by
  rw[Qby,QcV,ZhQ lt n];by_cases h:j<n
  ·rw[if_pos h,if_pos (by omega),Qa9 (by simp;omega)];rfl
  ·rw[if_neg h];by_cases h2:n=j
   ·subst h2;rw[if_pos lt,if_pos (by omega),Qa8 (by simp)];rfl
   ·by_cases h3:i<n
    ·rw[if_pos h3,if_neg (by omega),if_pos (by omega),Qa9 (by simp;omega)];rfl
    ·by_cases h4:n=i
     ·subst h4;rw[if_neg h3,if_neg (by omega),if_pos (by omega),Qa8 (by simp)];rfl
     ·rw[if_neg h3,if_neg (by omega),if_neg (by omega),Qa9 (by simp;omega)];rfl
theorem Zj6 {r:Nat}{t:List Int}(T:Zf4 S k i p j r t u)(lt:i<j):Zc0 S k S.length=[i,j]:=by
 have jl:=(Qac.mp T.ej).1;unfold Zc0
 rw[List.filter_congr (q:=fun x=>decide (x=i∨x=j)) fun x hx=>by
  have:=ZhO T x (Qbb.mp hx)
  rw[QbU];simpa using this,ZhQ lt,if_pos jl]
theorem Zj7 {r:Nat}{t:List Int}(T:Zf4 S k i p i r t u):Zc0 S k S.length=[i]:=by
 have il:=(Qac.mp T.ei).1;unfold Zc0
 rw[List.filter_congr (q:=fun x=>decide (x=i)) fun x hx=>by
  have:=ZhO T x (Qbb.mp hx)
  rw[QbU];simpa using this,ZhP,if_pos il]
theorem ZdX (S:List (List Int))(k n:Nat):Zc0 S k (n+1)=Zc0 S k n++(if(k:Int)+1∈(S.getD n []).map Zau then [n] else []):=by
 unfold Zc0;rw[Qby,QcV];congr 1;by_cases h:(k:Int)+1∈(S.getD n []).map Zau
 ·rw[if_pos h,Qa8 (by simpa using h)];rfl
 ·rw[if_neg h,Qa9 (by simpa using h)];rfl
def Zm7 (K:PySem.W.Frag):TS:=Zbq (ZbU (ZbA 2 (ZmL K (Zae (Zam 0) ZaA)) (Zhk K 2 (Zbb (Zas 0) (Zbb (Zas 1) Zgs))) (Zbl (tOp (rIn K false) (Zam 3) (Zm6 K 1))) (Zam 0)) (Zas 2)) (Zbq (Zdg (Zbl (tOp rNe (tCB (fun xs H Q=>∃p ys,xs=[V.ref p]∧(SqL K H p ys∨SqT K H p ys)∧Q (V.int ys.length) H) (Zae (Zam 2) ZaA)) (tC (V.int 2)))) (Zct (tC V.non)) Zcd) (Zbq (ZbU (ZaY Zfg [] E0 (Zae (tOp (ZdC K) (Zam 0) (tOp (ZdC K) (Zam 2) (tC (V.int 0)))) (Zae (Zam 1) ZaA))) (Zhk K 3 (Zbb (Zas 3) (Zbb (Zas 4) (Zbb (Zas 5) Zgs))))) (Zbq (ZbU (ZaY Zfg [] E0 (Zae (tOp (ZdC K) (Zam 0) (tOp (ZdC K) (Zam 2) (tC (V.int 1)))) (Zae (Zam 1) ZaA))) (Zhk K 3 (Zbb (Zas 6) (Zbb (Zas 7) (Zbb (Zas 8) Zgs))))) (Zbq (Zdg (Zbl (tOp rEq (Zam 3) (Zam 6))) (Zct (Zeq (Zae (Zam 2) (Zae (Zeq (Zae (Zam 4) (Zae (Zam 5) (Zae (tUn (rU fun i=>V.int (-i)) (Zam 8)) (Zae (tUn (rU fun i=>V.int (-i)) (Zam 7)) ZaA))))) ZaA)))) Zcd) (Zct (Zeq (Zae (Zam 2) (Zae (Zeq (Zae (Zam 4) (Zae (Zam 5) (Zae (Zam 7) (Zae (Zam 8) ZaA))))) ZaA))))))))
theorem Zj8 {r:Nat}{t:List Int}(T:Zf4 S k i p j r t u)(ne:i≠j):(t.map Zau)[p]?=some ((k:Int)+1)∧∀m,m<p→(t.map Zau)[m]?≠some ((k:Int)+1):=by
 obtain⟨s,e1,e2⟩:=T.tp;refine⟨by rw[Qah,e1];exact congrArg some e2,fun m hm h=> ?_⟩;rw[Qah] at h
 cases em:t[m]? with
 |none=>rw[em] at h;cases h
 |some s'=>
  rw[em] at h;rcases T.all i m t s' T.ei em (QaR h) with z|z
  ·omega
  ·exact ne z.1
theorem Zio {r:Nat}{t:List Int}(T:Zf4 S k i p j r t u)(ne:i≠j):(u.map Zau)[r]?=some ((k:Int)+1)∧∀m,m<r→(u.map Zau)[m]?≠some ((k:Int)+1):=by
 obtain⟨s,e1,e2⟩:=T.ur;refine⟨by rw[Qah,e1];exact congrArg some e2,fun m hm h=> ?_⟩;rw[Qah] at h
 cases em:u[m]? with
 |none=>rw[em] at h;cases h
 |some s'=>
  rw[em] at h;rcases T.all j m u s' T.ej em (QaR h) with z|z
  ·exact ne z.1.symm
  ·omega
theorem Zf7 {K:PySem.W.Frag}{xs:List V}(hb:H b=some (.lst xs))(tS:TuL H xs S)(oS:Zb4 S)(hk:k<S.length/2*3)
  (k1:Zpr S ((k:Int)+1)→∀H',Zai H H'→Q .non H')
  (k2:∀(i p j r:Nat) (t u:List Int) (P Q' U W:Int),Zgp S k i p j r t u P Q' U W→∀(c d e:Addr) (H':Hp),Zai H H'→H' c=some (.tup [.ref e,.ref d])→H' e=some (.lst [.int (i:Int),.int (j:Int)])→H' d=some (.tup ([P,Q',U,W].map V.int))→Q (.ref c) H'):
  Zm7 K {nx:=Z,rt:=Q } [some (.ref b),some (.int ((k:Int)+1)),none,none,none,none,none,none,none] H:=by
 have lS:=oS.len;have lx:xs.length=S.length:=tS.1;refine⟨_,rfl,b,rfl,⟨_,SqL.of hb⟩,Zoy (K:=K) (a:=b) (xs:=xs) (fun n ys H'=>ys=(Zc0 S k n).map (fun(i:Nat)=>V.int (i:Int))∧Zai H H') ⟨rfl,Zai.refl _⟩ (by omega) (fun n ys H' h=> ?_) (fun n ys H' _ h=>SqL.of (h.2 _ _ hb)) ?_ ?_⟩
 ·rw[h.1,Qaa];unfold Zc0
  have:=List.length_filter_le (fun i=>decide ((k:Int)+1∈(S.getD i []).map Zau)) (List.range n)
  rwa [Qbk] at this
 ·rintro n x ys H1 pre pp qm hx ⟨rfl,s1⟩ hpp;obtain⟨t,q,et,rfl,hq⟩:=(tS.up s1.tups).take hx;have s2:=Zai.nw (o:=.tup [.int (n:Int),.ref q]) (Zai.refl H1) hpp;have f2:(upd H1 pp (.tup [.int (n:Int),.ref q])) pp=some (.tup [.int (n:Int),.ref q]):=Zaa;change Zhk K 2 _ _ _ (upd H1 pp (.tup [.int (n:Int),.ref q])) _;generalize upd H1 pp (.tup [.int (n:Int),.ref q])=H2 at s2 f2⊢;have s02:=s1.trans s2;have eg:S.getD n []=t:=by rw[Qai,et];rfl
  have t3:=oS.three t (Qaj et);rcases pre with _|⟨q0,_|⟨q1,_|⟨q2,pre⟩⟩⟩
  ·cases qm
  ·cases qm
  ·refine⟨pp,_,rfl,SqT.of f2,rfl,_,_,rfl,_,_,rfl,rfl,⟨[some _,some _],rfl,rfl⟩,?_⟩;refine⟨_,rfl,?_⟩;refine ZeC (i:=1) (q:=q) rfl (s2 _ _ hq) (by omega) fun D hD=> ?_;have s3:=Zai.nw (o:=.lst ((t.map Zau).map V.int)) s02 hD;refine⟨D,_,rfl,.inl (SqL.of Zaa),rfl,?_,_,rfl,?_⟩
   ·rw[Qch];intro v hv;obtain⟨i,_,rfl⟩:=Qaz.mp hv;rfl
   ·rw[if_neg (by decide),Zj5];refine ZeL (fun hc=> ?_) (fun hc=> ?_)
    ·have hc:=QaK hc;refine⟨_,rfl,?_,s3⟩;rw[ZdX,eg,if_pos hc,Qam];rfl
    ·have hc:=Qa6 (Qc7.mpr hc);refine⟨?_,s3⟩;rw[ZdX,eg,if_neg hc,QaS]
  ·cases qm
 rintro ys H1 ⟨rfl,s1⟩ D hD;rw[lx];obtain⟨i,p,j,r,t,u,T⟩:=Zox oS hk;rcases T.le with lt|⟨rfl,_⟩
 ·rw[Zj6 T lt];have s2:=Zai.nw (o:=.lst [.int (i:Int),.int (j:Int)]) s1 hD;have f2:(upd H1 D (.lst [.int (i:Int),.int (j:Int)])) D=some (.lst [.int (i:Int),.int (j:Int)]):=Zaa;change Zbq _ _ _ _ (upd H1 D (.lst [.int (i:Int),.int (j:Int)]));generalize upd H1 D (.lst [.int (i:Int),.int (j:Int)])=H2 at s2 f2⊢;refine⟨_,rfl,D,_,rfl,.inl (SqL.of f2),rfl,_,rfl,ZcQ ?_⟩;have ne:i≠j:=QaX lt;have t3:=oS.three t (Qaj T.ei);have u3:=oS.three u (Qaj T.ej);obtain⟨s,et,es⟩:=T.tp;obtain⟨s',eu,es'⟩:=T.ur;obtain⟨P,Q1,ra⟩:=Zf5 t3 et;obtain⟨A,B,rb⟩:=Zf5 u3 eu;have tS2:=tS.up s2.tups;obtain⟨qi,hqi,xi⟩:=tS2.get T.ei;obtain⟨qj,hqj,xj⟩:=tS2.get T.ej;obtain⟨a1,a2⟩:=Zj8 T ne;obtain⟨b1,b2⟩:=Zio T ne;refine⟨_,rfl,_,rfl,D,_,_,_,rfl,rfl,SqL.of f2,rfl,b,_,_,_,rfl,rfl,SqL.of (s2 _ _ hb),ZbL xi,_,rfl,qi,t,p,k,rfl,hqi,t3,a1,a2,fun c1 H3 s3 h3=> ?_⟩;rw[ra] at h3;refine⟨c1,_,rfl,SqT.of h3,rfl,_,_,rfl,_,_,rfl,_,_,rfl,rfl,?_⟩;have s03:=s2.trans s3;refine⟨_,rfl,_,rfl,D,_,_,_,rfl,rfl,SqL.of (s3 _ _ f2),rfl,b,_,_,_,rfl,rfl,SqL.of (s03 _ _ hb),ZbL xj,_,rfl,qj,u,r,k,rfl,s3 _ _ hqj,u3,b1,b2,fun c2 H4 s4 h4=> ?_⟩;rw[rb] at h4;refine⟨c2,_,rfl,SqT.of h4,rfl,_,_,rfl,_,_,rfl,_,_,rfl,rfl,?_⟩;have s04:=s03.trans s4;have fD:=s4 _ _ (s3 _ _ f2);refine⟨_,rfl,_,rfl,rfl,_,rfl,ZeL (fun hc=> ?_) (fun hc=> ?_)⟩
  ·have hc:=V.int.inj (QaK hc);refine⟨_,rfl,_,rfl,_,rfl,_,rfl,_,rfl,_,rfl,_,rfl,(by show 4≤sizeLine;decide),fun d hd=>⟨(by show 2≤sizeLine;decide),fun e he=> ?_⟩⟩;have s5:=Zai.nw (o:=.tup ([P,Q1,-B,-A].map V.int)) (Zai.refl H4) hd;have f5:(upd H4 d (.tup ([P,Q1,-B,-A].map V.int))) d=some (.tup ([P,Q1,-B,-A].map V.int)):=Zaa;exact k2 i p j r t u P Q1 (-B) (-A) ⟨T,lt,s,s',A,B,ra,rb,es,es',by rw[if_pos hc];exact⟨rfl,rfl⟩⟩ e d D _ (s04.trans (Zai.nw s5 he)) Zaa ((Zai.nw s5 he) _ _ fD) ((Zan (Zak f5 he)).trans f5)
  ·have hc:¬(s=s'):=fun z=>Qa6 (Qc7.mpr hc) (by rw[z]);refine⟨_,rfl,_,rfl,_,rfl,_,rfl,_,rfl,(by show 4≤sizeLine;decide),fun d hd=>⟨(by show 2≤sizeLine;decide),fun e he=> ?_⟩⟩;have s5:=Zai.nw (o:=.tup ([P,Q1,A,B].map V.int)) (Zai.refl H4) hd;have f5:(upd H4 d (.tup ([P,Q1,A,B].map V.int))) d=some (.tup ([P,Q1,A,B].map V.int)):=Zaa;exact k2 i p j r t u P Q1 A B ⟨T,lt,s,s',A,B,ra,rb,es,es',by rw[if_neg hc];exact⟨rfl,rfl⟩⟩ e d D _ (s04.trans (Zai.nw s5 he)) Zaa ((Zai.nw s5 he) _ _ fD) ((Zan (Zak f5 he)).trans f5)
 ·rw[Zj7 T];have s2:=Zai.nw (o:=.lst [.int (i:Int)]) s1 hD;have f2:(upd H1 D (.lst [.int (i:Int)])) D=some (.lst [.int (i:Int)]):=Zaa;change Zbq _ _ _ _ (upd H1 D (.lst [.int (i:Int)]));generalize upd H1 D (.lst [.int (i:Int)])=H2 at s2 f2⊢;exact⟨_,rfl,D,_,rfl,.inl (SqL.of f2),rfl,_,rfl,ZdH (k1 (.inr ⟨k,i,p,r,t,u,rfl,hk,T⟩) H2 s2)⟩
def ZdY:Sp:=fun vs H Q _=>∃(b:Addr) (xs:List V) (S:List (List Int)) (k i p j r:Nat) (t u:List Int) (P Q' U W:Int),vs=[.ref b,.int ((k:Int)+1)]∧H b=some (.lst xs)∧TuL H xs S∧Zb4 S∧k<S.length/2*3∧Zgp S k i p j r t u P Q' U W∧
 ∀(c:Addr) (ys:List V) (H':Hp),Zai H H'→H c=none→H' c=some (.lst ys)→TuL H' ys (Zb7 S k i j P Q' U W)→Q (.ref c) H'
def Zlo (K:PySem.W.Frag):TS:=Zbq (ZbU (ZaY Zcl [] E0 (Zae (Zam 0) (Zae (Zam 1) ZaA))) (Zhk K 2 (Zbb (Zas 2) (Zbb (Zas 3) Zgs)))) (Zbq (ZbU (Zam 3) (Zhk K 4 (Zbb (Zas 4) (Zbb (Zas 5) (Zbb (Zas 6) (Zbb (Zas 7) Zgs)))))) (Zbq (ZbU (tCB (fun xs H_1 Q=>∃p ys,xs=[V.ref p]∧(SqL K H_1 p ys∨SqT K H_1 p ys)∧∀(l:Addr),H_1 l=none→Q (V.ref l) (upd H_1 l (HO.lst ys))) (Zae (Zam 0) ZaA)) (Zas 8)) (Zbq (ZbU (Zeq (Zae (Zam 5) (Zae (Zam 6) (Zae (tUn (rU fun i=>V.int (-i)) (Zam 1)) ZaA)))) (ZnM (Zam 8) (tOp (ZdC K) (Zam 2) (tC (V.int 0))) Zi2)) (Zbq (ZbU (Zeq (Zae (Zam 7) (Zae (Zam 4) (Zae (Zam 1) ZaA)))) (ZnM (Zam 8) (tOp (ZdC K) (Zam 2) (tC (V.int 1))) Zi2)) (Zct (Zam 8))))))
theorem Zfh {K:PySem.W.Frag}{xs:List V}{r:Nat}{t:List Int}(hb:H b=some (.lst xs))(tS:TuL H xs S)(oS:Zb4 S)(hk:k<S.length/2*3)(T:Zgp S k i p j r t u P Q' U W)
  (kk:∀(c:Addr) (ys:List V) (H':Hp),Zai H H'→H c=none→H' c=some (.lst ys)→TuL H' ys (Zb7 S k i j P Q' U W)→Q (.ref c) H'):
  Zlo K {nx:=Z,rt:=Q } [some (.ref b),some (.int ((k:Int)+1)),none,none,none,none,none,none,none] H:=by
 refine⟨_,rfl,_,rfl,b,xs,S,k,rfl,hb,tS,oS,hk,fun h=>(Zj4 hk h T).elim,fun i' p' j' r' t' u' P' Q2 U' W' T' c d e H1 s1 hc he hd=> ?_⟩;obtain⟨rfl,rfl,rfl,rfl,rfl,rfl⟩:=ZhN T T';have il:i<xs.length:=by rw[tS.1];exact(Qac.mp T.ei).1
 have jl:j<xs.length:=by rw[tS.1];exact(Qac.mp T.ej).1
 refine⟨c,_,rfl,SqT.of hc,rfl,_,_,rfl,_,_,rfl,rfl,?_⟩;refine⟨_,rfl,d,_,rfl,SqT.of hd,rfl,_,_,rfl,_,_,rfl,_,_,rfl,_,_,rfl,rfl,?_⟩;refine⟨_,rfl,b,xs,rfl,.inl (SqL.of (s1 _ _ hb)),fun l hl=> ?_⟩;have hel:e≠l:=Zak he hl;refine⟨_,rfl,_,rfl,_,rfl,_,rfl,(by show 3≤sizeLine;decide),fun c1 h1=> ?_⟩;have n1:l≠c1:=Zak Zaa h1;have he1:(upd H1 l (.lst xs)) e=_:=(Zan hel).trans he;have nec:e≠c1:=Zak he1 h1;refine⟨_,rfl,_,rfl,e,_,_,_,rfl,rfl,SqL.of ((Zan nec).trans he1),rfl,l,xs,(i:Int),i,rfl,rfl,(Zan n1).trans Zaa,Zj1 il,?_⟩;refine⟨_,rfl,_,rfl,_,rfl,(by show 3≤sizeLine;decide),fun c2 h2=> ?_⟩;have n2:l≠c2:=Zak Zaa h2;have he2:(upd (upd (upd H1 l (.lst xs)) c1 (.tup [.int Q',.int U,.int (-((k:Int)+1))])) l (.lst (xs.set i (.ref c1)))) e=some (.lst [.int (i:Int),.int (j:Int)]):=(Zan hel).trans ((Zan nec).trans he1);have ne2:e≠c2:=Zak he2 h2;refine⟨_,rfl,_,rfl,e,_,_,_,rfl,rfl,SqL.of ((Zan ne2).trans he2),rfl,l,_,(j:Int),j,rfl,rfl,(Zan n2).trans Zaa,Zj1 (by rw[Qbf];exact jl),?_⟩;refine⟨_,rfl,?_⟩;exact ZpV (Q:=Q) (t1:=[Q',U,-((k:Int)+1)]) (t2:=[W,P,(k:Int)+1]) (tS.up s1.tups) hl h1 h2 fun ys H' s' hl' t'=>kk l ys H' (s1.trans s') (s1.free hl) hl' t'
def Zip (r:List Int)(k:Nat)(P Q U W:Int):List Int:=r.set k ((if crs r Q+crs r W>crs r P+crs r U then crs r Q+crs r W else crs r P+crs r U)-r.getD k 0)
theorem Zlp (r:List Int)(k:Nat)(P Q U W:Int):(Zip r k P Q U W).length=r.length:=by unfold Zip;rw[Qbf]
theorem aneg (z:Int):Zau (-z)=Zau z:=by unfold Zau;split<;>split<;>omega
theorem Zj9 (r:List Int)(s:Int):crs r (-s)=crs r s:=by unfold crs;rw[aneg]
theorem Zcx (r:List Int)(h:Zau s=(k:Int)+1):crs r s=r.getD k 0:=by
 unfold crs;rw[h,show((k:Int)+1-1).toNat=k by omega]
theorem ZdZ (hs:1≤Zau s)(h:Zau s≠(k:Int)+1):crs (r.set k x) s=crs r s:=by
 unfold crs;rw[Qai,Qai,QbJ (by omega)]
theorem Ziq (hk:k<r.length)(h:Zau s=(k:Int)+1):crs (r.set k x) s=x:=by
 rw[Zcx _ h,Qai,Qbr hk];rfl
theorem Zka (oS:Zb4 S)(ev:ZbX S r){t:List Int}(ht:t∈S){f B:Int}(h:rot t p=[f,A,B]):(crs r f+crs r A+crs r B) %2=0∧crs r f≤crs r A+crs r B∧crs r A≤crs r f+crs r B∧crs r B≤crs r f+crs r A:=by
 obtain⟨a,b,c,rfl⟩:=ZcM (oS.three t ht);obtain⟨e,l1,l2,l3⟩:=ev.tri a b c ht
 have key:rot [a,b,c] p=[a,b,c]∨rot [a,b,c] p=[b,c,a]∨rot [a,b,c] p=[c,a,b]:=by
  match p with
  |0=>exact .inl rfl
  |1=>exact .inr (.inl rfl)
  |2=>exact .inr (.inr rfl)
  |n+3=>
   left;unfold rot;rw[QbV (by simp),QaM (by simp)];rfl
 rcases key with z|z|z<;>rw[h] at z<;>simp only[QcW,QeQ] at z<;>obtain⟨rfl,rfl,rfl⟩:=z<;>omega
theorem ZoA (ev:ZbX S r)(s:Int):0≤crs r s:=by
 unfold crs;rw[Qai]
 cases h:r[(Zau s-1).toNat]? with
 |none=>exact Qba _
 |some v=>exact ev.nn v (Qaj h)
theorem ZoB (oS:Zb4 S){r:Nat}{t:List Int}{Q:Int}(T:Zgp S k i p j r t u P Q U W):(Zau P≠(k:Int)+1∧Zau Q≠(k:Int)+1)∧Zau U≠(k:Int)+1∧Zau W≠(k:Int)+1:=by
 obtain⟨f,g,A,B,ra,rb,af,ag,hs⟩:=T.sq
 have one:∀{i p:Nat} {t:List Int} {f A B:Int},S[i]?=some t→(∀p' s',t[p']?=some s'→Zau s'=(k:Int)+1→p'=p)→rot t p=[f,A,B]→p<3→Zau A≠(k:Int)+1∧Zau B≠(k:Int)+1:=fun{i p t f A B} ei uni h pl=>by
  obtain⟨a,b,c,rfl⟩:=ZcM (oS.three t (Qaj ei));have hp:p=0∨p=1∨p=2:=by omega
  rcases hp with rfl|rfl|rfl
  ·cases h;exact⟨fun z=>absurd (uni 1 _ rfl z) (by decide),fun z=>absurd (uni 2 _ rfl z) (by decide)⟩
  ·cases h;exact⟨fun z=>absurd (uni 2 _ rfl z) (by decide),fun z=>absurd (uni 0 _ rfl z) (by decide)⟩
  ·cases h;exact⟨fun z=>absurd (uni 0 _ rfl z) (by decide),fun z=>absurd (uni 1 _ rfl z) (by decide)⟩
 have lt:=T.lt
 have pl:p<3:=by
  obtain⟨s,e,_⟩:=T.tp
  have:=(Qac.mp e).1;rw[oS.three t (Qaj T.ei)] at this;exact this
 have rl:r<3:=by
  obtain⟨s,e,_⟩:=T.ur
  have:=(Qac.mp e).1;rw[oS.three u (Qaj T.ej)] at this;exact this
 have h1:=one T.ei (fun p' s' e z=>by
  rcases T.all i p' t s' T.ei e z with q|q
  ·exact q.2
  ·omega) ra pl
 have h2:=one T.ej (fun p' s' e z=>by
  rcases T.all j p' u s' T.ej e z with q|q
  ·omega
  ·exact q.2) rb rl
 refine⟨h1,?_⟩;split at hs
 ·rw[hs.1,hs.2,aneg,aneg];exact⟨h2.2,h2.1⟩
 ·rw[hs.1,hs.2];exact h2
theorem Zm8 (oS:Zb4 S)(ev:ZbX S r0){r:Nat}{t:List Int}{Q:Int}(T:Zgp S k i p j r t u P Q U W):((r0.getD k 0+crs r0 P+crs r0 Q) %2=0∧r0.getD k 0≤crs r0 P+crs r0 Q∧crs r0 P≤r0.getD k 0+crs r0 Q∧crs r0 Q≤r0.getD k 0+crs r0 P)∧((r0.getD k 0+crs r0 U+crs r0 W) %2=0∧r0.getD k 0≤crs r0 U+crs r0 W∧crs r0 U≤r0.getD k 0+crs r0 W∧crs r0 W≤r0.getD k 0+crs r0 U):=by
 obtain⟨f,g,A,B,ra,rb,af,ag,hs⟩:=T.sq;have h1:=Zka oS ev (Qaj T.ei) ra;have h2:=Zka oS ev (Qaj T.ej) rb;rw[Zcx r0 af] at h1;rw[Zcx r0 ag] at h2;refine⟨h1,?_⟩;split at hs
 ·rw[hs.1,hs.2,Zj9,Zj9];omega
 ·rw[hs.1,hs.2];exact h2
theorem Zm9 (oS:Zb4 S){r:Nat}{t:List Int}{Q:Int}(T:Zgp S k i p j r t u P Q U W):1≤Zau P∧1≤Zau Q∧1≤Zau U∧1≤Zau W:=by
 have o:=ZgX oS T
 have m1:[W,P,(k:Int)+1]∈Zb7 S k i j P Q U W:=by
  refine Qaj (i:=j) ?_;unfold Zb7;rw[Qbr (by rw[Qbf];exact(Qac.mp T.ej).1)]
 have m2:[Q,U,-((k:Int)+1)]∈Zb7 S k i j P Q U W:=by
  refine Qaj (i:=i) ?_;unfold Zb7;rw[QbJ (by have:=T.lt;omega),Qbr ((Qac.mp T.ei).1)]
 exact⟨(o.side m1 (by simp)).1,(o.side m2 (by simp)).1,(o.side m2 (by simp)).1,(o.side m1 (by simp)).1⟩
def rc (P:Nat→Bool)(n:Nat):Nat:=(List.range n).countP P
theorem Zdb (P:Nat→Bool)(n:Nat):rc P (n+1)=rc P n+(if P n then 1 else 0):=by
 unfold rc;rw[Qby,QdH,Qd8,List.countP_nil];omega
theorem ZhR (P:Nat→Bool)(m:Nat):∀n,rc P (m+n)=rc P m+rc (fun t=>P (m+t)) n
 |0=>by simp[rc]
 |n+1=>by
  rw[show m+(n+1)=(m+n)+1 by omega,Zdb,Zdb,ZhR P m n];omega
theorem Zdj {P R:Nat→Bool}:∀{n:Nat},(∀t,t<n→P t=R t)→rc P n=rc R n
 |0,_=>rfl
 |n+1,h=>by rw[Zdb,Zdb,Zdj (n:=n) (fun t ht=>h t (by omega)),h n (by omega)]
theorem Zlq (P:Nat→Bool)(n:Nat):rc P (n+1)=(if P 0 then 1 else 0)+rc (fun t=>P (t+1)) n:=by
 rw[show n+1=1+n by omega,ZhR P 1 n]
 have:rc P 1=if P 0 then 1 else 0:=by
  have:=Zdb P 0;rw[this];simp[rc]
 rw[this];congr 1;exact Zdj fun t _=>by rw[QeN]
theorem Zkb:∀(P:Nat→Bool) (n:Nat),rc P n=rc (fun t=>P (n-1-t)) n
 |_,0=>rfl
 |P,n+1=>by
  rw[Zdb,Zlq,Zkb P n]
  have e:rc (fun t=>P (n+1-1-(t+1))) n=rc (fun t=>P (n-1-t)) n:=Zdj fun t _=>by
   show P (n+1-1-(t+1))=P (n-1-t);rw[show n+1-1-(t+1)=n-1-t by omega]
  rw[e,show n+1-1-0=n by omega];omega
def Zbn (s c t:Int):List Int:=if 0<s then [s,c-1-t] else [-s,t]
def Zf8 (u:List Int):Int:=u.headD 0
def Zcq (k:Nat)(c:Int):List (List Int):=(List.range c.toNat).map fun j:Nat=>[(k:Int)+1,(j:Int)]
def Za1 (r:List Int):List (List Int):=((List.range r.length).map fun k=>Zcq k (r.getD k 0)).flatten
theorem ZcI {c:Int}:u∈Zcq k c↔∃j:Int,0≤j∧j<c∧u=[(k:Int)+1,j]:=by
 unfold Zcq;rw[Qaz];constructor
 ·rintro⟨j,hj,rfl⟩
  have:=Qbb.mp hj;exact⟨j,by omega,by omega,rfl⟩
 ·rintro⟨j,h0,h1,rfl⟩;exact⟨j.toNat,Qbb.mpr (by omega),by rw[show((j.toNat:Nat):Int)=j by omega]⟩
theorem Zc1 :u∈Za1 r↔∃(k:Nat) (j:Int),k<r.length∧0≤j∧j<r.getD k 0∧u=[(k:Int)+1,j]:=by
 unfold Za1;rw[Qa7];constructor
 ·rintro⟨l,hl,hu⟩;obtain⟨k,hk,rfl⟩:=Qaz.mp hl;obtain⟨j,h0,h1,rfl⟩:=ZcI.mp hu;exact⟨k,j,Qbb.mp hk,h0,h1,rfl⟩
 ·rintro⟨k,j,hk,h0,h1,rfl⟩;exact⟨_,Qaz.mpr ⟨k,Qbb.mpr hk,rfl⟩,ZcI.mpr ⟨j,h0,h1,rfl⟩⟩
theorem Zf9 {α β:Type}{f:α→β}(hf:∀a b,f a=f b→a=b){l:List α}(h:l.Nodup):(l.map f).Nodup:=by
 unfold List.Nodup at h⊢;rw[Qc6];exact h.imp fun hn e=>hn (hf _ _ e)
theorem Zd0 (r:List Int):(Za1 r).Nodup:=by
 unfold Za1 List.Nodup;rw[List.pairwise_flatten];refine⟨fun l hl=> ?_,?_⟩
 ·obtain⟨k,_,rfl⟩:=Qaz.mp hl;refine Zf9 (fun a b e=> ?_) List.nodup_range
  have:=(QcU (QcU e).2).1;omega
 ·rw[Qc6];refine List.nodup_range.imp ?_;intro a b hn x hx y hy e;obtain⟨j,_,_,rfl⟩:=ZcI.mp hx;obtain⟨i,_,_,rfl⟩:=ZcI.mp hy
  have:=(QcU e).1;omega
theorem Zd1 (nn:∀x∈r,0≤x):((Za1 r).length:Int)=r.sum:=by
 unfold Za1
 have g:∀(n:Nat),n≤r.length→((((List.range n).map fun k=>Zcq k (r.getD k 0)).flatten.length:Nat):Int)=(r.take n).sum:=by
  intro n
  induction n with
  |zero=>intro _;simp
  |succ n ih=>
   intro hn;have ih:=ih (by omega);have e:r[n]?=some (r.getD n 0):=by rw[Qai,Qab (by omega)];rfl
   have nz:=nn (r.getD n 0) (Qaj e);rw[Qby,Qam,Qbh,Qae,Qc9,e];simp only[Qa5,QcP,Qa4,QcG,QaS,Option.toList_some,Qeq,Qb2,QeO];have hc:(Zcq n (r.getD n 0)).length=(r.getD n 0).toNat:=by unfold Zcq;rw[Qaa,Qbk]
   rw[hc];omega
 have:=g r.length (Qaf _);rw[QaZ] at this;exact this
def Zd8 (x y z:Int):Nat:=((x+y-z)/2).toNat
def Zbc (r:List Int)(a b c:Int):List (List Int×List Int):=(List.range (Zd8 (crs r a) (crs r b) (crs r c))).map fun t:Nat=>(Zbn a (crs r a) (t:Int),Zbn (-b) (crs r b) (t:Int))
def Zir (r:List Int):List Int→List (List Int×List Int)
 | [a,b,c]=>Zbc r a b c++Zbc r b c a++Zbc r c a b
 |_=>[]
def Zcr (S:List (List Int))(r:List Int):List (List Int×List Int):=(S.map (Zir r)).flatten
def Zmj (h:List (List Int))(z:Int):Nat:=(h.map Zf8).count z
theorem Zlr (nd:h.Nodup)(sub:∀u∈h,u∈Za1 r)(hk:k<r.length):Zmj h ((k:Int)+1)=rc (fun j=>decide ([(k:Int)+1,(j:Int)]∈h)) (r.getD k 0).toNat:=by
 unfold Zmj rc;rw[List.count_eq_countP,List.countP_map,Qcp,Qcp];rw[←Qaa (f:=fun j:Nat=>[(k:Int)+1,(j:Int)]) (as:=List.filter (fun j:Nat=>decide ([(k:Int)+1,(j:Int)]∈h)) (List.range (r.getD k 0).toNat))];refine List.Perm.length_eq (ZgP (nd.filter _) (Zf9 (fun a b e=> ?_) (List.nodup_range.filter _)) fun u=> ?_)
 ·have:=(QcU (QcU e).2).1;omega
 ·rw[Qb5,Qaz];constructor
  ·rintro⟨hu,ht⟩;obtain⟨i,j,hi,h0,h1,rfl⟩:=Zc1.mp (sub u hu)
   have e:i=k:=by
    have:((i:Int)+1==(k:Int)+1)=true:=ht
    have:=eq_of_beq this;omega
   subst e;refine⟨j.toNat,Qb5.mpr ⟨Qbb.mpr (by omega),?_⟩,?_⟩
   ·rw[show((j.toNat:Nat):Int)=j by omega];exact Qan hu
   ·rw[show((j.toNat:Nat):Int)=j by omega]
  ·rintro⟨j,hj,rfl⟩;exact⟨QaK (Qb5.mp hj).2,beq_self_eq_true _⟩
theorem Zg2 (nd:h.Nodup)(sub:∀u∈h,u∈Za1 r){m:Nat}(hk:k<r.length)(ha:Zau a=(k:Int)+1)(e:((m+n:Nat):Int)=crs r a):Zmj h ((k:Int)+1)=rc (fun t=>decide (Zbn (-a) (crs r a) (t:Int)∈h)) m+rc (fun t=>decide (Zbn a (crs r a) (t:Int)∈h)) n:=by
 rw[Zlr nd sub hk];have ck:=Zcx r ha;rw[←ck,←e,show((m+n:Nat):Int).toNat=m+n by omega];unfold Zau at ha;by_cases p:0<a
 ·rw[if_neg (by omega)] at ha;rw[ZhR,Zkb (fun t=>decide ([(k:Int)+1,((m+t:Nat):Int)]∈h)) n];refine congr (congrArg _ (Zdj fun t ht=> ?_)) (Zdj fun t ht=> ?_)
  ·have:Zbn (-a) ((m+n:Nat):Int) (t:Int)=[(k:Int)+1,(t:Int)]:=by unfold Zbn;rw[if_neg (by omega),show - -a=(k:Int)+1 by omega]
   rw[this]
  ·have:Zbn a ((m+n:Nat):Int) (t:Int)=[(k:Int)+1,((m+(n-1-t):Nat):Int)]:=by unfold Zbn;rw[if_pos p,ha,show((m+n:Nat):Int)-1-(t:Int)=((m+(n-1-t):Nat):Int) by omega]
   rw[this]
 ·have nz:a<0:=by
   apply Classical.byContradiction;intro hn;rw[if_neg hn] at ha;omega
  rw[if_pos nz] at ha;rw[show m+n=n+m by omega,ZhR,Zkb (fun t=>decide ([(k:Int)+1,((n+t:Nat):Int)]∈h)) m];rw[QeN];refine congr (congrArg _ (Zdj fun t ht=> ?_)) (Zdj fun t ht=> ?_)
  ·have:Zbn (-a) ((n+m:Nat):Int) (t:Int)=[(k:Int)+1,((n+(m-1-t):Nat):Int)]:=by unfold Zbn;rw[if_pos (by omega),ha,show((n+m:Nat):Int)-1-(t:Int)=((n+(m-1-t):Nat):Int) by omega]
   rw[this]
  ·have:Zbn a ((n+m:Nat):Int) (t:Int)=[(k:Int)+1,(t:Int)]:=by unfold Zbn;rw[if_neg p,ha]
   rw[this]
theorem Zfi (cl:∀x∈h,∀y,RL L x y→y∈h){b c:Int}(sub:∀p∈Zbc r a b c,p∈L):rc (fun t=>decide (Zbn a (crs r a) (t:Int)∈h)) (Zd8 (crs r a) (crs r b) (crs r c))=rc (fun t=>decide (Zbn (-b) (crs r b) (t:Int)∈h)) (Zd8 (crs r a) (crs r b) (crs r c)):=by
 refine Zdj fun t ht=> ?_;have m:(Zbn a (crs r a) (t:Int),Zbn (-b) (crs r b) (t:Int))∈L:=sub _ (Qaz.mpr ⟨t,Qbb.mpr ht,rfl⟩);exact Qci.mpr ⟨fun q=>cl _ q _ (Or.inl m),fun q=>cl _ q _ (Or.inr m)⟩
def Zdm (n:Nat)(h:List (List Int)):List Int:=(List.range n).map fun k:Nat=>((Zmj h ((k:Int)+1):Nat):Int)
theorem Zg3 (hk:k<n)(hs:Zau s=(k:Int)+1):crs (Zdm n h) s=((Zmj h ((k:Int)+1):Nat):Int):=by
 rw[Zcx _ hs];unfold Zdm;rw[Qai,Qah,QbB hk];rfl
theorem Zls (oS:Zb4 S)(ev:ZbX S r){hs:List (List (List Int))}(p:ZcY (RL (Zcr S r)) (Za1 r) hs)(hh:h∈hs):ZbX S (Zdm r.length h):=by
 have nd:h.Nodup:=Zey (p.perm.symm.nodup (Zd0 r)) hh;have sub:∀u∈h,u∈Za1 r:=fun u hu=>p.perm.subset (Qa7.mpr ⟨h,hh,hu⟩);have cl:=p.closed h hh;refine⟨by unfold Zdm;rw[Qaa,Qbk];exact ev.len,fun x hx=> ?_,fun a b c ht=> ?_⟩
 ·obtain⟨k,_,rfl⟩:=Qaz.mp hx;omega
 ·have side:∀i:Int,i∈[a,b,c]→∃k:Nat,k<r.length∧Zau i=(k:Int)+1:=fun i hi=>by
   have:=oS.side ht hi;have l:=ev.len;exact⟨(Zau i-1).toNat,by omega,by omega⟩
  obtain⟨ka,la,ea⟩:=side a (by simp);obtain⟨kb,lb,eb⟩:=side b (by simp);obtain⟨kc,lc,ec⟩:=side c (by simp);have sL:∀q,q∈Zir r [a,b,c]→q∈Zcr S r:=fun q hq=>Qa7.mpr ⟨_,Qaz.mpr ⟨_,ht,rfl⟩,hq⟩;have t:=ev.tri a b c ht;have m1:=Zfi (r:=r) cl (a:=a) (b:=b) (c:=c) fun q hq=>sL q (Qaq.mpr (Or.inl (Qaq.mpr (Or.inl hq))));have m2:=Zfi (r:=r) cl (a:=b) (b:=c) (c:=a) fun q hq=>sL q (Qaq.mpr (Or.inl (Qaq.mpr (Or.inr hq))));have m3:=Zfi (r:=r) cl (a:=c) (b:=a) (c:=b) fun q hq=>sL q (Qaq.mpr (Or.inr hq));have c1:=Zg2 nd sub la ea (m:=Zd8 (crs r c) (crs r a) (crs r b)) (n:=Zd8 (crs r a) (crs r b) (crs r c)) (by unfold Zd8;omega);have c2:=Zg2 nd sub lb eb (m:=Zd8 (crs r a) (crs r b) (crs r c)) (n:=Zd8 (crs r b) (crs r c) (crs r a)) (by unfold Zd8;omega);have c3:=Zg2 nd sub lc ec (m:=Zd8 (crs r b) (crs r c) (crs r a)) (n:=Zd8 (crs r c) (crs r a) (crs r b)) (by unfold Zd8;omega);rw[Zg3 la ea,Zg3 lb eb,Zg3 lc ec];refine⟨?_,?_,?_,?_⟩<;>omega
theorem Zna (oS:Zb4 S)(ev:ZbX S r){q:List Int×List Int}(h:q∈Zcr S r):q.1∈Za1 r∧q.2∈Za1 r:=by
 obtain⟨l,hl,hq⟩:=Qa7.mp h;obtain⟨t,ht,rfl⟩:=Qaz.mp hl
 have g:∀a b c:Int,t=[a,b,c]∨t=[c,a,b]∨t=[b,c,a]→q∈Zbc r a b c→q.1∈Za1 r∧q.2∈Za1 r:=by
  intro a b c e hq;obtain⟨j,hj,rfl⟩:=Qaz.mp hq;have hj:=Qbb.mp hj
  have tr:(crs r a+crs r b+crs r c) %2=0∧crs r a≤crs r b+crs r c∧crs r b≤crs r a+crs r c∧crs r c≤crs r a+crs r b:=by
   rcases e with rfl|rfl|rfl
   ·exact ev.tri a b c ht
   ·have:=ev.tri c a b ht;omega
   ·have:=ev.tri b c a ht;omega
  have one:∀i:Int,i∈t→(j:Int)<crs r i→Zbn i (crs r i) (j:Int)∈Za1 r∧Zbn (-i) (crs r i) (j:Int)∈Za1 r:=by
   intro i hi lt;have sd:=oS.side ht hi;have e1:Zau i=((Zau i-1).toNat:Int)+1:=by omega
   have e2:=Zcx r e1;have lk:(Zau i-1).toNat<r.length:=by rw[ev.len];omega
   rw[Zc1,Zc1];unfold Zbn;by_cases p:0<i
   ·have ai:Zau i=i:=by unfold Zau;rw[if_neg (by omega)]
    rw[if_pos p,if_neg (by omega)];exact⟨⟨_,crs r i-1-(j:Int),lk,by omega,by omega,by rw[←e1,ai]⟩,⟨_,(j:Int),lk,by omega,by omega,by rw[←e1,ai,Int.neg_neg]⟩⟩
   ·have ai:Zau i= -i:=by
     unfold Zau;by_cases n:i<0
     ·rw[if_pos n]
     ·rw[if_neg n];omega
    have ni:0< -i:=by omega
    rw[if_neg p,if_pos ni];exact⟨⟨_,(j:Int),lk,by omega,by omega,by rw[←e1,ai]⟩,⟨_,crs r i-1-(j:Int),lk,by omega,by omega,by rw[←e1,ai]⟩⟩
  have la:(j:Int)<crs r a:=by unfold Zd8 at hj;omega
  have lb:(j:Int)<crs r b:=by unfold Zd8 at hj;omega
  exact⟨(one a (by rcases e with rfl|rfl|rfl<;>simp) la).1,(one b (by rcases e with rfl|rfl|rfl<;>simp) lb).2⟩
 have h3:=oS.three t ht
 match t,h3 with
 | [a,b,c],_=>
  rcases Qaq.mp hq with hq|hq
  ·rcases Qaq.mp hq with hq|hq
   ·exact g a b c (Or.inl rfl) hq
   ·exact g b c a (Or.inr (Or.inl rfl)) hq
  ·exact g c a b (Or.inr (Or.inr rfl)) hq
section
variable {A:Around}{s:Shared}
theorem Zg4 {α:Type}{k0:SortKind}{cv:Value→α}{lt:α→α→Bool}{Q:Value→Shared→Prop}(irr:∀x,lt x x=false)(tr:∀{x y z},lt x y=true→lt y z=true→lt x z=true)(tot:∀{x y},lt x y=false→lt y x=false→x=y)
  (hl:s.heap.IsList l vs.toArray) (h64:vs.length≤1000)
  (hk:2≤vs.length→∀h',Ext s.heap h'→∀(E:Value→Shared→Prop) (Q:SortKind→Shared→Prop),Q k0 {s with heap:=h' }→wpAny (model prog w) A.in1.in1 (keyKind' vs.toArray) Q E {s with heap:=h' })
  (hL:∀h',Ext s.heap h'→∀(E:Value→Shared→Prop) (x y:Value) (Q:Bool→Shared→Prop),x∈vs→y∈vs→Q (lt (cv x) (cv y)) {s with heap:=h' }→wpAny (model prog w) A.in1.in1 (keyLt' k0 x y) Q E {s with heap:=h' })
  (h:∀out:Array Value,out.toList.Perm vs→(out.toList.map cv).Pairwise (fun x y=>lt y x=false)→Q (.ref (s.heap.objs.size+1)) {s with heap:=sortedAll s.heap vs out }):wpAny (model prog w) A (call (.builtin "sorted") [.ref l]) Q E s:=by
 refine QdP kind_sorted plain_sorted entry_sorted (args_sorted1 _) ?_;unfold Builtin.«sorted»;refine Qad (m:=checkCount "sorted" 1 1 _) (Qao (Qad (collect_list hl (Qad (Qd3 ?_)) (QaI h64 (by decide)))));have hsz:((s.heap.push (seqObj "list" #[] 0)).update s.heap.objs.size (Obj.mapSeq (· ++vs.toArray))).objs.size=s.heap.objs.size+1:=by rw[Heap.size_update,size_push']
 have hoL:(((s.heap.push (seqObj "list" #[] 0)).update s.heap.objs.size (Obj.mapSeq (· ++vs.toArray))).push (seqObj "list" vs.toArray 0)).get? (s.heap.objs.size+1)=some (seqObj "list" vs.toArray 0):=by
  rw[←hsz];exact QaQ _ rfl
 have k1:Ext s.heap (((s.heap.push (seqObj "list" #[] 0)).update s.heap.objs.size (Obj.mapSeq (· ++vs.toArray))).push (seqObj "list" vs.toArray 0)):=fun b o e=>by
  have:=Qau e;refine Qak _ ?_;rw[QcJ _ _ _ _ (QaX this)];exact Qak _ e
 show wpAny _ _ _ _ _ {s with heap:=((s.heap.push (seqObj "list" #[] 0)).update s.heap.objs.size (Obj.mapSeq (· ++vs.toArray))).push (seqObj "list" vs.toArray 0) };rw[hsz]
 have ext:∀h',(∀b o,b≠s.heap.objs.size+1→(((s.heap.push (seqObj "list" #[] 0)).update s.heap.objs.size (Obj.mapSeq (· ++vs.toArray))).push (seqObj "list" vs.toArray 0)).get? b=some o→h'.get? b=some o)→Ext s.heap h':=fun h' k b o e=>by
  have:=Qau e;exact k b o (QaX (Qct this)) (k1 b o e)
 have mz:∀p,p∈(pairsOf vs).toList→p.1=p.2∧p.1∈vs:=fun p q=>by rw[QdQ] at q;exact mem_zip_self q
 refine Qad (Qbs (QbW slot_list_sort ⟨_,hoL,rfl⟩ entry_list_sort (ZjH (k0:=k0) (rk:=fun v=>ZnA lt (vs.map cv) (cv v)) hoL (QaI h64 (by decide)) (fun h2 h' k E' Q' q=>hk h2 h' (ext h' k) E' Q' q) (fun h' k E' x y Q' hx hy q=>hL h' (ext h' k) E' x.1 y.1 Q' (mz x hx).2 (mz y hy).2 ?_) fun xs pm up=>⟨_,rfl,?_⟩) (args_list_sort _)))
 ·rw[Ze6 irr tr tot (Qaz.mpr ⟨_,(mz x hx).2,rfl⟩) (Qaz.mpr ⟨_,(mz y hy).2,rfl⟩)] at q;exact q
 ·have pl:xs.toList.Perm (vs.zip vs):=by rw[←QdQ];exact Qa2.mp pm
  have ps:(xs.map (·.2)).toList.Perm vs:=by
   rw[Array.toList_map]
   have:=pl.map (·.2);rw[List.map_snd_zip (Qaf _)] at this;exact this
  suffices sr:((xs.map (·.2)).toList.map cv).Pairwise (fun x y=>lt y x=false) by
   have fin:=h (xs.map (·.2)) ps sr;unfold sortedAll at fin;exact Qao ⟨_,rfl,fin⟩
  rw[QcD];intro i j hi hj ij;have lx:(xs.map (·.2)).toList.length=xs.size:=by rw[QaB,QdM]
  rw[Qaa,lx] at hi hj;have hz:xs.size=(pairsOf vs).size:=pm.size_eq;have q:=up i j (Qb0 ij) (by omega);have mi:xs[i]∈(pairsOf vs).toList:=(Qa2.mp pm).subset (QbQ hi);have mj:xs[j]∈(pairsOf vs).toList:=(Qa2.mp pm).subset (QbQ hj);unfold RK at q;rw[QaP hi,QaP hj] at q;dsimp only at q;have e:=Ze6 irr tr tot (ks:=vs.map cv) (x:=cv xs[j].1) (y:=cv xs[i].1) (Qaz.mpr ⟨_,(mz _ mj).2,rfl⟩) (Qaz.mpr ⟨_,(mz _ mi).2,rfl⟩);rw[Qal (by omega)] at e;simp only[List.getElem_map,Array.getElem_toList,Array.getElem_map];rw[←(mz _ mi).1,←(mz _ mj).1];exact e.symm
def icQ (u:List Int):List (List Int):=u.map fun n=>[n]
theorem Zga:∀u v:List Int,Zck (icQ u) (icQ v)=Zcs u v
 | [],[]=>rfl
 | [],_::_=>rfl
 |_::_,[]=>rfl
 |a::u,b::v=>by
  show(if [a]=[b] then Zck (icQ u) (icQ v) else Zcs [a] [b])=Zcs (a::u) (b::v);rw[Zga u v];by_cases z:a=b
  ·subst z;rw[if_pos rfl];simp[Zcs]
  ·rw[if_neg (by simpa using z)];simp[Zcs,z]
def PrQ (h:Heap)(v:Value)(u:List Int)(m:Int):Prop:=∃(a:Addr) (o:Obj) (ka:Value) (t:Tok) (n:Nat),v= .ref a∧h.get? a=some o∧o.cls= .type "tuple" ∧o.data= .seq #[ka,.int m t] n∧LsV h false ka (icQ u)
def kfQ (h:Heap)(v:Value):List Int:=match v with
 | .ref a=>match h.get? a with
  |some o=>match o.data with
   | .seq its _=>(cvL false h (its.getD 0 .none)).map fun u=>u.headD 0
   |_=>[]
  |none=>[]
 |_=>[]
theorem Zlt (u:List Int):(icQ u).map (fun u=>u.headD 0)=u:=by
 unfold icQ;rw[Qb1];exact List.map_id _
theorem PrQ.kf {h:Heap}(p:PrQ h v u m):kfQ h v=u∧kfM h v=m:=by
 obtain⟨a,o,ka,t,n,rfl,e,c,d,x⟩:=p;unfold kfQ kfM;dsimp only;rw[e];dsimp only;rw[d];refine⟨?_,rfl⟩;show(cvL false h ka).map _=u;rw[x.cv,Zlt]
theorem PrQ.keep {h h':Heap}{v:Value}{u:List Int}{m:Int}(p:PrQ h v u m)(k:Ext h h'):PrQ h' v u m:=by
 obtain⟨a,o,ka,t,n,rfl,e,c,d,x⟩:=p;exact⟨a,o,ka,t,n,rfl,k _ _ e,c,d,x.keep k⟩
theorem ZhS {h:Heap}:∀{l:List Value} {u:List Int},l.length=u.length→(∀(i:Nat) (x:Value) (n:Int),l[i]?=some x→u[i]?=some n→ItV h false x [n])→ReadsAll h l (u.map PyData.int) []
 | [],[],_,_=> .nil
 | [],_::_,e,_=>by cases e
 |_::_,[],e,_=>by cases e
 |x::l,n::u,e,k=>by
  have h0:=k 0 x n rfl rfl;have ih:=ZhS (l:=l) (u:=u) (by simpa using e) fun i y m h1 h2=>k (i+1) y m (by simpa using h1) (by simpa using h2)
  cases h0 with
  |int _ t=>exact .cons (as:=[]) (.int n t) ih
theorem ZhT {h:Heap}(x:LsV h false v (icQ u)):∃as,Reads h v (dI u) as:=by
 obtain⟨a,its,rfl,⟨o,e,c,n,d⟩,z,p⟩:=x;refine⟨_,.list e c d (ZhS (u:=u) (by rw[QaB,z];unfold icQ;rw[Qaa]) fun i y m h1 h2=>p i y [m] (by rw[QaH] at h1;exact h1) (by unfold icQ;rw[Qah,h2];rfl))⟩
theorem Zkc {x y:Value}{v:List Int}{n:Int}{Q:Bool→Shared→Prop}(hu:A.units+80<cLine)(hx:PrQ s.heap x u m)(hy:PrQ s.heap y v n)(hm:u=v→m=n)(h:Q (Zcs u v) s):wpAny (model prog w) A (keyLt' (tuples' true) x y) Q E s:=by
 obtain⟨a,o,ka,t,z,rfl,e,c,d,tx⟩:=hx;obtain⟨a',o',ka',t',z',rfl,e',c',d',ty⟩:=hy;obtain⟨as,ra⟩:=ZhT tx;obtain⟨bs,rb⟩:=ZhT ty;refine PySem.W.kat_lt e d e' d' (PySem.W.kat_cons ?_);refine PySem.SeqAt.eqBoolOverData _ _ _ _ _ _ _ _ _ _ _ _ ra rb (Zew u) (Zew v) (QaN (Nat.add_le_add_left (QaI (Qbi _ _) (ZjO u)) _) (by omega)) ?_;rw[ZjN];by_cases z:u=v
 ·rw[Qan z];refine PySem.W.kat_yes (PySem.W.kat_cons ((intKind prog w).eqBool (a:=m) (b:=n) (Qex _ _ _ _) (Qex _ _ _ _) ?_));rw[Qan (hm z)];refine PySem.W.kat_yes (PySem.W.kat_nil ?_);rw[z,ZcE] at h;exact h
 ·rw[Qal z];refine PySem.W.kat_no ?_;show wpAny (model prog w) A (oneLt' true ka ka') Q (fun _ _=>False) s;rw[←keyLt'_oneType];exact ZhH (by omega) tx ty (by rw[Zga];exact h)
theorem Zg5 (hv:∀v∈vs,∃u m,PrQ s.heap v u m)(h1:vs≠ []){Q:SortKind→Shared→Prop}(h:Q (tuples' true) s):wpAny (model prog w) A (keyKind' vs.toArray) Q E s:=by
 have key:∀vs:List Value,(∀v∈vs,∃u m,PrQ s.heap v u m)→∃fs:List Value,PySem.W.KatTups s.heap vs fs∧fs.length=vs.length∧∀f∈fs,∃u,LsV s.heap false f u:=by
  intro vs
  induction vs with
  |nil=>exact fun _=>⟨[],trivial,rfl,fun f m=>by cases m⟩
  |cons v vs ih=>
   intro hv;obtain⟨fs,f1,f2,f3⟩:=ih fun z m=>hv z (QaD _ m);obtain⟨u,m,a,o,ka,t,n,rfl,e,c,d,x⟩:=hv v QaA;refine⟨ka::fs,⟨⟨a,o,_,n,rfl,e,c,d,rfl⟩,f1⟩,by simp[f2],fun f q=> ?_⟩;rcases QaJ.mp q with rfl|q
   ·exact⟨_,x⟩
   ·exact f3 f q
 obtain⟨fs,f1,f2,f3⟩:=key vs hv;refine PySem.W.kat_kind (T:=.type "list") f1 ?_ (fun v m=> ?_) (by decide) h
 ·cases vs with
  |nil=>exact absurd rfl h1
  |cons _ _=>rw[f2];simp
 ·obtain⟨u,a,its,rfl,⟨o,e,c,_⟩,_⟩:=f3 v m;exact fun A Q E s k q=>QcO (T:= "list") ⟨o,k _ _ e,c⟩ q
end
def PqL (H:Hp)(ys:List V)(us:List (List Int×Int)):Prop:=ys.length=us.length∧∀(i:Nat) (y:V) (u:List Int×Int),ys[i]?=some y→us[i]?=some u→∃a b:Addr,y= .ref a∧H a=some (.tup [.ref b,.int u.2])∧H b=some (.lst (u.1.map V.int))
theorem Zef {K:PySem.W.Frag}(hK:X.K=K:=by rfl):ZbW X (.type "list") (fun xs H Q=>∃p ys,xs=[.ref p]∧(SqL K H p ys∨SqT K H p ys)∧∀l,H l=none→Q (.ref l) (upd H l (.lst ys))):=by subst hK;exact Zbz
theorem Zlu (H:Hp)(u:List Int):ItL H false (u.map V.int) (icQ u):=by
 refine⟨by unfold icQ;rw[Qaa,Qaa],fun i x v h1 h2=> ?_⟩;unfold icQ at h2;rw[Qah] at h1 h2
 cases z:u[i]? with
 |none=>rw[z] at h1;cases h1
 |some n=>rw[z] at h1 h2;cases h1;cases h2;exact .int n
theorem Zfj (hr:Zc2 k X.A):ZbW X (.builtin "sorted") (fun xs H Q=>∃(p:Addr) (ys:List V) (us:List (List Int×Int)),xs=[.ref p]∧SqL X.K H p ys∧PqL H ys us∧us.length≤1000∧(us.map (·.1)).Nodup∧
  ∀(l:Addr) (zs:List V) (ws:List (List Int×Int)),H l=none→PqL H zs ws→ws.Perm us→Q (.ref l) (upd H l (.lst zs))):=by
 intro qc s σ H xs us0 Q I r h;obtain⟨p,ys,us,rfl,hq,pr,hb,nd,q⟩:=h;obtain⟨u,rfl,rx⟩:=Zcf r;cases rx;obtain⟨its,rv,pl,hz⟩:=I.list hq;have hlen:its.length=us.length:=by rw[←rv.length,pr.1]
 have prI:∀(a b:Addr) (k:List Int×Int),H a=some (.tup [.ref b,.int k.2])→H b=some (.lst (k.1.map V.int))→PrQ s.heap (.ref a) k.1 k.2:=fun a b k h1 h2=>by
  obtain⟨_,its2,rv2,o,e,c,n,dd⟩:=(show ZbG X.prog X.w H s.heap a (.tup [.ref b,.int k.2]) from I.hok a _ h1)
  cases rv2 with
  |cons r1 r2=>cases r2 with
   |cons r3 r4=>cases r4 with
    |nil=>
     cases r1;obtain⟨t,rfl⟩:=r3;exact⟨a,o,.ref b,t,n,rfl,e,c,dd,Zom I h2 (Zlu H k.1)⟩
 have row:∀(j:Nat) (v:Value),its[j]?=some v→∃(a b:Addr) (k:List Int×Int),v= .ref a∧us[j]?=some k∧H a=some (.tup [.ref b,.int k.2])∧H b=some (.lst (k.1.map V.int)):=fun j v ev=>by
  have jl:=(Qac.mp ev).1;have jy:j<ys.length:=by rw[rv.length];exact jl
  have eu:us[j]?=some us[j]:=Qab (by omega);obtain⟨a,b,e1,e2,e3⟩:=pr.2 j ys[j] us[j] (Qab jy) eu;obtain⟨v',e4,e5⟩:=rv.get (Qab jy);rw[ev] at e4;cases e4;rw[e1] at e5;cases e5;exact⟨a,b,us[j],rfl,eu,e2,e3⟩
 have inj:∀(j j':Nat) (k k':List Int×Int),us[j]?=some k→us[j']?=some k'→k.1=k'.1→k=k':=fun j j' k k' e1 e2 ek=>by
  have l1:(us.map (·.1))[j]?=some k.1:=by rw[Qah,e1];rfl
  have l2:(us.map (·.1))[j']?=some k.1:=by rw[Qah,e2,ek];rfl
  obtain⟨b1,c1⟩:=Qac.mp l1;obtain⟨b2,c2⟩:=Qac.mp l2;have jj:j=j':=(List.getElem_inj nd).mp (c1.trans c2.symm);subst jj;rw[e1] at e2;cases e2;rfl
 have rowm:∀v∈its,∃(a b:Addr) (k:List Int×Int) (j:Nat),v= .ref a∧us[j]?=some k∧H a=some (.tup [.ref b,.int k.2])∧H b=some (.lst (k.1.map V.int)):=fun v m=>by
  obtain⟨j,hj⟩:=Qat.mp m;obtain⟨a,b,k,e1,e2,e3,e4⟩:=row j v hj;exact⟨a,b,k,j,e1,e2,e3,e4⟩
 have hu:=hr.un;refine Zg4 (k0:=tuples' true) (cv:=kfQ s.heap) (lt:=Zcs) ZcE ZcF Zds pl.isList (by omega) (fun h2 h' k E' Q' q'=> ?_) (fun h' k E' x y Q' hx hy q'=> ?_) fun out po so=> ?_
 ·refine Zg5 (s:={s with heap:=h' }) (fun v hv=> ?_) (fun z=>by rw[z] at h2;simp at h2) q';obtain⟨a,b,k0,j,rfl,e2,e3,e4⟩:=rowm v hv;exact⟨_,_,(prI a b k0 e3 e4).keep k⟩
 ·obtain⟨a,b,k1,j,rfl,e2,e3,e4⟩:=rowm x hx;obtain⟨a',b',k2,j',rfl,e2',e3',e4'⟩:=rowm y hy;have p1:=prI a b k1 e3 e4;have p2:=prI a' b' k2 e3' e4';rw[p1.kf.1,p2.kf.1] at q';refine Zkc (s:={s with heap:=h' }) (by show X.A.units+1+1+80<cLine;omega) (p1.keep k) (p2.keep k) (fun z=> ?_) q';rw[inj j j' k1 k2 e2 e2' z]
 ·have ek:its.map (fun v=>(kfQ s.heap v,kfM s.heap v))=us:=by
   apply QbN;intro i;rw[Qah]
   cases z:its[i]? with
   |none=>rw[Qbm (by have:=QaY.mp z;omega)];rfl
   |some v=>
    obtain⟨a,b,k,rfl,e2,e3,e4⟩:=row i v z;have p1:=(prI a b k e3 e4).kf;rw[e2];show some (kfQ s.heap (.ref a),kfM s.heap (.ref a))=some k;rw[p1.1,p1.2]
  have pm:(out.toList.map (fun v=>(kfQ s.heap v,kfM s.heap v))).Perm us:=by
   have:=po.map (fun v=>(kfQ s.heap v,kfM s.heap v));rw[ek] at this;exact this
  obtain⟨e,he⟩:=Qeo s.heap its out;have ol:out.toList.length=its.length:=po.length_eq
  have refs:∀v∈out.toList,∃a,v=Value.ref a:=fun v hv=>by
   obtain⟨a,_,_,_,ev,_⟩:=rowm v (po.subset hv);exact⟨a,ev⟩
  refine⟨.ref _,upd H (s.heap.objs.size+1) (.lst (out.toList.map vOf)),I.laid (t':=s.toks) (fun b ob z=>QdX z) (Qcf _) ⟨?_,out.toList,e,ZcZ refs,?_⟩,rfl,q _ _ _ (I.hok.fresh (Qcf _)) ⟨by rw[Qaa,Qaa],fun i x u e1 e2=> ?_⟩ pm⟩
  ·rw[Qaa,ol];exact QaI (show its.length≤1000 by omega) (by decide)
  ·rw[he]
  ·rw[Qah] at e1 e2
   cases z:out.toList[i]? with
   |none=>rw[z] at e1;cases e1
   |some v=>
    rw[z] at e1 e2;obtain⟨a,b,k,j,rfl,f2,f3,f4⟩:=rowm v (po.mem_iff.mp (Qaj z));cases e1;have p1:=(prI a b k f3 f4).kf;have e2:some (kfQ s.heap (.ref a),kfM s.heap (.ref a))=some u:=e2;rw[p1.1,p1.2] at e2;cases e2;exact⟨a,b,rfl,f3,f4⟩
section
variable {A:Around}{s:Shared}{it:Addr}
theorem ZoC (r:Zol s.heap d es ep):s.TypeIs (.ref d) "dict" :=let⟨o,e,x,_⟩:=r;⟨o,e,x.1⟩
theorem Znb {Q:Value→Shared→Prop}(sm:(d==sysModules)=false)(r:Zol s.heap d es ep)(q:Q (.ref s.heap.objs.size) {s with heap:=s.heap.push {cls:=.type "dict_keyiterator",data:=.fields #[.ref d,.int 0 0,.int es.size 0,.int ep 0] } }):wpAny (model prog w) A (pyIter (.ref d)) Q E s:=by
 have ty:=ZoC r;obtain⟨o,e1,e2,e3⟩:=r;refine wpAny_pyIter_slot ty Qeh (QbW Qeh ty PySem.F.entry_dict_iter ?_ (PySem.F.args_dict_iter_1 _));unfold Builtin.«dict.__iter__» Builtin.Dict.dictSlotNone;refine Qad (Qad (wpAny_notOrdered_dict ty ?_));show wpAny _ _ (pure (Value.ref d)) _ _ _;refine Qao ?_;show wpAny _ _ (Builtin.Dict.showsAll d>>=_) _ _ _;unfold Builtin.Dict.showsAll;rw[if_neg (by rw[sm];decide)];refine Qad (Qao (Qad (QdV e1 e3 (Qad (Qeu e1 e3 ?_)))));exact Qad (QbC (Qao ⟨_,rfl, "dict_keyiterator",_,⟨_,QaQ _ rfl,rfl⟩,PySem.F.slot_dict_keyiterator_next.lookup,q⟩))
theorem Zkd:Builtin.Dict_items.ownsTuple "dict_keyiterator" =false:=by decide
theorem Znc {Q:Option Value→Shared→Prop}(g:s.heap.IsKeyIter it d i es.size ep)(r:Zol s.heap d es ep)(hi:i<es.size)
  (q:∀h',h'.IsKeyIter it d (i+1) es.size ep→Heap.SameBut it s.heap h'→Q (some es[i].key) {s with heap:=h' }):wpAny (model prog w) A (pyNext (.ref it)) Q E s:=by
 have ty:=g.typeIs;obtain⟨ob,g1,g2,g3⟩:=id g;obtain⟨o,e1,e2,e3⟩:=r;unfold pyNext;refine Qad (QdZ (Qcd (name:=Str.ofString "__next__") ty QbE (QbW QbE ty QcL ?_ (QcE _))));refine Qad (Qao (Qad (Qad (Qad (QbR ty (Qao (Qad (wpAny_fieldsOf g1 g3 ?_))))))));simp only[Zkd,Qcn,Qdk];show wpAny _ _ (if(Value.ref d==Value.none)=true then _ else _) _ _ _;rw[if_neg (by intro z;cases z)];refine Qad (Qao (Qad (QdV e1 e3 ?_)));rw[if_neg (by simp)];refine Qad (Qao (Qad (Qeu e1 e3 ?_)));rw[if_neg (by simp)];refine Qao ?_;have n0:¬((i:Int)<0):=by omega
 simp only[n0,Qdk,QcY,QaP hi];refine Qad (Qad (QbR ty (Qao (Qad (Qev ty ?_)))));show wpAny _ _ (setField (.ref it) 1 (rawInt ((i:Int)+1))>>=_) _ _ _;refine Qad (wpAny_setField g1 g3 (by simp) ?_)
 have g4:(s.heap.update it (Obj.mapFields (·.setIfInBounds 1 (rawInt ((i:Int)+1))))).IsKeyIter it d (i+1) es.size ep:=
  ⟨_,Qel _ g1 (Obj.isFreed_of_fields (Obj.data_mapFields g3 _)),(Obj.cls_mapFields ..).trans g2,by rw[Obj.data_mapFields g3];simp[rawInt]⟩
 refine Qad (Qbs (Qad (Qev (s:={s with heap:=s.heap.update it (Obj.mapFields (·.setIfInBounds 1 (rawInt ((i:Int)+1)))) }) g4.typeIs ?_)));show wpAny _ _ (pure (es[i]).key) _ _ _;exact Qao (Qao ⟨_,rfl,Qao (q _ g4 (Heap.SameBut.update ..))⟩)
theorem ZoD {Q:Option Value→Shared→Prop}(hh:A.handled=none)(g:s.heap.IsKeyIter it d i es.size ep)(r:Zol s.heap d es ep)(hi:es.size≤i)
  (q:∀h',Heap.ExtBut it s.heap h'→Q none {s with heap:=h' }):wpAny (model prog w) A (pyNext (.ref it)) Q E s:=by
 have ty:=g.typeIs;obtain⟨ob,g1,g2,g3⟩:=id g;obtain⟨o,e1,e2,e3⟩:=r;unfold pyNext;refine Qad (QdZ (Qcd (name:=Str.ofString "__next__") ty QbE (QbW QbE ty QcL ?_ (QcE _))));refine Qad (Qao (Qad (Qad (Qad (QbR ty (Qao (Qad (wpAny_fieldsOf g1 g3 ?_))))))));simp only[Zkd,Qcn,Qdk];show wpAny _ _ (if(Value.ref d==Value.none)=true then _ else _) _ _ _;rw[if_neg (by intro z;cases z)];refine Qad (Qao (Qad (QdV e1 e3 ?_)));rw[if_neg (by simp)];refine Qad (Qao (Qad (Qeu e1 e3 ?_)));rw[if_neg (by simp)];refine Qao ?_;have n0:¬((i:Int)<0):=by omega
 simp only[n0,Qdk,QcY,Qeg hi];refine Qad (Qad (QbR ty (Qao ?_)));show wpAny _ _ (setField (.ref it) 0 .none>>=_) _ _ _;refine Qad (wpAny_setField g1 g3 (by simp) ?_);show wpAny _ _ (newExc (.type "StopIteration") ([]:List Value)>>=_) _ _ _;refine Qad ?_;simp only[newExc,newTuple];refine Qad (QbC (Qad (m:=firstArgMember _ _) (wpAny_of_eq (a:=Value.none) (by first|rfl|(simp only[firstArgMember];rfl)) (QbC ?_ (by size_fits)))) (by size_fits));simp only[raiseNew];have h1:A.in1.handled=none:=hh;refine Qad (wpAny_handled (by rw[h1];refine Qad (Qao (wpAny_throw ?_));refine Qad (wpAny_isInstance (b:=true) (T:= "StopIteration") ⟨_,QaQ _ rfl,rfl⟩ isSubtype_stop ?_);exact Qao (q _ (((Heap.SameBut.update ..).extBut.push _).push _))))
end
section
variable {qc:List (Addr×Obj)}{s:Shared}
theorem Inv.freezeT {kvs:List (List Key×V)}(I:Inv X qc σ H s)(e:H d=some (.dT kvs))(ho:s.heap.get? d=some o):Inv X qc σ (upd H d (.frz o (.dT kvs))) s:=by
 have nd:∀b u,H b=some u→u≠ .dT kvs→b≠d:=fun b u q n z=>by subst z;rw[e] at q;cases q;exact n rfl
 have h0:=I.hok d _ e;refine I.step (g':=s.gens) (d':=s.drawn) (t':=s.toks) (h':=s.heap) (ch:=[]) (fun _ z=>nomatch z) (fun b ob _ _ _ q _=>q) (fun b ob _ _ _ q _=>⟨ob.slots,q⟩) (fun b ob _ _ q=>by rw[Zan (fun z=>by subst z;rw[e] at q;cases q)];exact q) (fun b ob _ q=>⟨ob,q⟩) (fun b xs q=>by rw[Zan (nd b _ q (fun z=>nomatch z))];exact q) (fun b ob u q=>by rw[Zan (nd b _ q (fun z=>nomatch z))];exact q) (fun b ps q=>⟨#[],by rw[Zan (nd b _ q (fun z=>nomatch z)),Array.append_empty];exact q⟩) (fun m q=>q) ?_ I.bare;refine HOk.write (h':=s.heap) I.hok (x:=d) (e:=d) (by rw[e];trivial) (.inl rfl) (fun b u _ q=>q) ⟨o,ho⟩ ⟨ho,?_⟩;obtain⟨z,y,xs,r,oo⟩:=h0;refine⟨z,y,xs,?_,oo⟩
 have up:∀{l:List (List Key×V)} {m:List (List Key×Addr×Value)},Paired (fun(p:List Key×V) (q:List Key×Addr×Value)=>p.1=q.1∧H q.2.1=some (.tup (p.1.map kV))∧Zbd p.2 q.2.2) l m→Paired (fun(p:List Key×V) (q:List Key×Addr×Value)=>p.1=q.1∧(upd H d (.frz o (.dT kvs))) q.2.1=some (.tup (p.1.map kV))∧Zbd p.2 q.2.2) l m:=by
  intro l m q
  induction q with
  |nil=>exact .nil
  |cons hq t ih=>exact .cons ⟨hq.1,by rw[Zan (nd _ _ hq.2.1 (fun z=>nomatch z))];exact hq.2.1,hq.2.2⟩ ih
 exact up r
def Zps (d:Addr)(o:Obj)(kvs:List (List Key×V)):It:=
 ⟨fun i H=>H d=some (.frz o (.dT kvs))∧i<kvs.length,fun i H x H'=>H'=H∧∃k v b,kvs[i]?=some (k,v)∧x= .ref b∧H b=some (.tup (k.map kV)),fun i H=>H d=some (.frz o (.dT kvs))∧kvs.length≤i⟩
theorem Zke {kvs:List (List Key×V)}(I:Inv X qc σ H s)(hH:H d=some (.frz o (.dT kvs)))(hes:o.data= .dict es ep):Zol s.heap d es ep∧es.size=kvs.length∧∀(i:Nat) (hi:i<es.size),∃k v b,kvs[i]?=some (k,v)∧es[i].key= .ref b∧H b=some (.tup (k.map kV)):=by
 obtain⟨hod,_,_,xs,rel,o',es',ep',ho',ex',dat',hes',_⟩:=I.hok d _ hH;rw[hod] at ho';cases ho';rw[hes] at dat';cases dat';obtain⟨rl,ra⟩:=ZjK rel;have sz:es.size=xs.length:=by rw[←QaB,hes',Qaa]
 refine⟨⟨o,hod,ex',hes⟩,by omega,fun i hi=> ?_⟩;have ix:i<xs.length:=by omega
 have ik:i<kvs.length:=by omega
 obtain⟨r1,r2,r3⟩:=ra i kvs[i] xs[i] (Qab ik) (Qab ix);refine⟨kvs[i].1,kvs[i].2,xs[i].2.1,Qab ik,?_,r2⟩;have e:es.toList[i]?=some (entryOfKey (tupleKind (Zbp X.prog X.w)) xs[i]):=by rw[hes',Qah,Qab ix];rfl
 rw[QaH,QaP hi] at e;rw[QaR e];rfl
theorem Zis {P:Program}{K:PySem.W.Frag}{kvs:List (List Key×V)}(d it:Addr)(hes:o.data= .dict es ep):
  Zmw P w K tg (Zps d o kvs) [it] it (fun i h=>h.IsKeyIter it d i es.size ep) where
 mem:=by simp
 obj:=fun i h st b hb=>by
  have e:b=it:=by simpa using hb
  subst e;obtain⟨ob,e,c,dt⟩:=st;exact⟨ob,e,fun v z=>by rw[dt] at z;cases z⟩
 keep:=fun i h h' st k=>by
  obtain⟨ob,e,r⟩:=st;exact⟨ob,k it (by simp) ob e,r⟩
 item:=by
  intro X hP hw hK hc i qc s σ H E I hf st hg;subst hP hw hK;obtain⟨hH,il⟩:=hg;obtain⟨rd,sz,at'⟩:=Zke I hH hes;have ie:i<es.size:=by omega
  obtain⟨k,v,b,e1,e2,e3⟩:=at' i ie;obtain⟨f0,f1,f2,f3,f4,f5⟩:=hf it (by simp);refine Znc st rd ie fun h' st' sb=> ?_;have I1:Inv X qc σ H {s with heap:=h' }:=I.turned (t':=s.toks) (fun b ob hb e=>(sb.2 b hb).trans e) f0 f1 f3 f4 f5;obtain⟨ob,e,c,dt⟩:=id st';exact⟨es[i].key,rfl,ZkM (s:={s with heap:=h' }) e c dt (by decide) ⟨.ref b,H,I1,e2,⟨rfl,k,v,b,e1,rfl,e3⟩,st',fun b hb=>(hf b hb).1⟩⟩
 done:=by
  intro X hP hw hK hc i qc s σ H E I hf st hg;subst hP hw hK;obtain⟨hH,il⟩:=hg;obtain⟨rd,sz,_⟩:=Zke I hH hes;obtain⟨f0,f1,f2,f3,f4,f5⟩:=hf it (by simp);exact ZoD (I.ok.hd hc) st rd (by omega) fun h' eb=>⟨rfl,I.turned (t':=s.toks) (fun b ob hb e=>eb b ob hb e) f0 f1 f3 f4 f5⟩
 self:=fun _ _ _ _ _ st h=>wpAny_pyIter_keyiter st h
def Zmk (td:TE):TI:=fun σ H R=>td σ H fun x H1=>∃d kvs,x= .ref d∧H1 d=some (.dT kvs)∧∀o,R (Zps d o kvs) (upd H1 d (.frz o (.dT kvs)))
theorem Zlv {l:Expr}{td:TE}(hl:PE X l td):PI X tg l (Zmk td):=by
 intro qc s σ H R I h;refine thn (hl qc s σ H _ I h) fun v s1 ⟨x,H1,I1,r1,q1⟩=> ?_;obtain⟨d,kvs,e,hd,q⟩:=q1;subst e;cases r1;obtain⟨_,sm,xs,rel,o,es,ep,ho,ex,dat,_,_⟩:=id (I1.hok d _ hd);have I2:=I1.freezeT hd ho;refine Znb sm ⟨o,ho,ex,dat⟩ ?_;refine⟨s1.heap.objs.size,[s1.heap.objs.size],_,_,_,rfl,I2.kept (t':=s1.toks) fun b o e=>Qak _ e,Zis d _ dat,⟨_,QaQ _ rfl,rfl,rfl⟩,fun b hb=> ?_,q o⟩;have e:b=s1.heap.objs.size:=by simpa using hb
 subst e;exact I2.fpOk (Qaf _) (I2.hok.fresh (Qaf _))
end
theorem ZoE {kvs:List (List Key×V)}(Pv:Nat→List V→Hp→Prop)(h0:Pv 0 [] H)(hb:kvs.length≤1000)(hz:∀i ys H,Pv i ys H→ys.length≤i)(hl:∀i ys H,i≤kvs.length→Pv i ys H→H d=some (.frz o (.dT kvs)))
  (hs:∀i k0 v b ys H (pre:St),pre.length=k→kvs[i]?=some (k0,v)→H b=some (.tup (k0.map kV))→Pv i ys H→g (.ref b) (pre++σ) H fun σ' H2=>(∃pre':St,σ'=pre'++σ∧pre'.length=k)∧tt σ' H2 fun ok H3=>if ok=true then te σ' H3 fun y H4=>Pv (i+1) (ys++ [y]) H4 else Pv (i+1) ys H3) (hd:∀ys H,Pv kvs.length ys H→∀D,H D=none→Q (.ref D) (upd H D (.lst ys))):CGo k (Zps d o kvs) g tt te Q σ H:=by
 refine⟨fun i m ys H=>m=kvs.length-i∧i≤kvs.length∧Pv i ys H,⟨kvs.length,by simp,QaW _,h0⟩,?_⟩;rintro i m ys H ⟨rfl,hi,p⟩;have q:=hl i ys H hi p;by_cases hlt:i<kvs.length
 ·refine .inr ⟨⟨q,hlt⟩,QaN (hz i ys H p) (Zbs (by omega)),Pv (i+1),fun zs H' p'=>⟨kvs.length-(i+1),by omega,rfl,hlt,p'⟩,fun x H' pre hp y=> ?_⟩;obtain⟨e,k0,v,b,ek,ex,eb⟩:=y;subst e ex;exact hs i k0 v b ys _ pre hp ek eb p
 ·have e:i=kvs.length:=by omega
  subst e;exact .inl ⟨⟨q,Qaf _⟩,hd ys H p⟩
section
variable {K:PySem.W.Frag}
def ZcL:PyData→Bool
 | .int i=>decide (0≤i)
 |_=>false
def Zg6:Sp:=fun vs H Q _=>∃(u:V) (d:PyData),vs=[u,.int 0]∧Th H u d∧Q (.bl (ZcL d)) H
def OkT (r:List Int)(t:List Int):Prop:=∀s∈t,1≤Zau s∧r[(Zau s-1).toNat]?=some (crs r s)
def Znd:Sp:=fun vs H Q _=>∃(c q:Addr) (r:List Int) (x y z:Int),vs=[.ref c,.ref q]∧H c=some (.lst (r.map V.int))∧H q=some (.tup ([x,y,z].map V.int))∧OkT r [x,y,z]∧∀(l:Addr) (H':Hp),Zai H H'→H l=none→H' l=some (.lst ([(crs r x+crs r y-crs r z)/2,(crs r y+crs r z-crs r x)/2,(crs r z+crs r x-crs r y)/2].map V.int))→Q (.ref l) H'
def ZhU:Sp:=fun vs H Q _=>∃(s c t:Int),vs=[.int s,.int c,.int t]∧∀q,H q=none→Q (.ref q) (upd H q (.tup ((Zbn s c t).map V.int)))
structure Zne (H:Hp)(b c:Addr)(xs:List V)(S:List (List Int))(r:List Int):Prop where
 hb:H b=some (.lst xs)
 tS:TuL H xs S
 oS:Zb4 S
 hc:H c=some (.lst (r.map V.int))
 ev:ZbX S r
 bd:r.sum≤160
theorem Zne.up {H H':Hp}{b c:Addr}{xs:List V}{S:List (List Int)}{r:List Int}(h:Zne H b c xs S r)(s:Zai H H'):Zne H' b c xs S r:=⟨s _ _ h.hb,h.tS.up s.tups,h.oS,s _ _ h.hc,h.ev,h.bd⟩
def Zg7:Sp:=fun vs H Q _=>∃(b c:Addr) (xs:List V) (S:List (List Int)) (r:List Int),vs=[.ref b,.ref c]∧Zne H b c xs S r∧∀(l:Addr) (ps:List V) (H':Hp),Zai H H'→H l=none→H' l=some (.lst ps)→PaL H' true ps (Zcr S r)→Q (.ref l) H'
def Zfk:Sp:=fun vs H Q _=>∃(c:Addr) (r:List Int),vs=[.ref c]∧H c=some (.lst (r.map V.int))∧(∀x∈r,0≤x)∧r.sum≤160∧∀(l:Addr) (ps:List V) (H':Hp),Zai H H'→H l=none→H' l=some (.lst ps)→ItL H' true ps (Za1 r)→Q (.ref l) H'
def Zkf (tp:Bool):Sp:=fun vs H Q _=>∃(a b:Addr) (xs ps:List V) (ts:List (List Int)) (L:List (List Int×List Int)),vs=[.ref a,.ref b]∧H a=some (.lst xs)∧ItL H tp xs ts∧H b=some (.lst ps)∧PaL H tp ps L∧ts.Nodup∧ts.length≤1000∧(∀p∈L,p.1∈ts∧p.2∈ts)∧∀(c:Addr) (zs:List V) (hs:List (List (List Int))) (H':Hp),Zai H H'→H c=none→H' c=some (.lst zs)→LsL H' tp zs hs→ZcY (RL L) ts hs→Q (.ref c) H'
def Zfl:Sp:=fun vs H Q _=>∃(b c:Addr) (xs:List V) (S:List (List Int)) (r:List Int),vs=[.ref b,.ref c]∧Zne H b c xs S r∧∀(l:Addr) (zs:List V) (us:List (List Int×Int)) (H':Hp),Zai H H'→H l=none→H' l=some (.lst zs)→PqL H' zs us→us.length≤160→(0<r.sum→us≠ [])→(∀u∈us,ZbX S u.1∧∀x∈u.1,x≤160)→Q (.ref l) H'
def ZiB (a b c:Int):Bool:=decide ((a+b+c) %2=0∧a≤b+c∧b≤a+c∧c≤a+b)
def Zkg (K:PySem.W.Frag):Sp:=fun vs H Q _=>∃(p:Addr) (a b c:Int),vs=[.ref p]∧SqL K H p ([a,b,c].map V.int)∧Q (.bl (ZiB a b c)) H
def Zml (r:List Int):List Int→Bool
 | [a,b,c]=>ZiB (crs r a) (crs r b) (crs r c)
 |_=>true
def Zfm (S:List (List Int))(r:List Int):Bool:=decide (r.length=S.length/2*3) && (r.all (fun x=>decide (0≤x)) && S.all (Zml r))
def Zd2:PyData→Int
 | .int i=>i
 |_=>0
def Zmm (S:List (List Int)):PyData→Bool
 | .list ds=>ds.all ZcL && Zfm S (ds.map Zd2)
 |_=>false
def Zcm:Sp:=fun vs H Q _=>∃(s:Addr) (x:V) (d:PyData) (xs:List V) (S:List (List Int)),vs=[.ref s,x]∧H s=some (.lst xs)∧TuL H xs S∧Zb4 S∧Th H x d∧∀H',Zai H H'→Q (.bl (Zmm S d)) H'
def ZpW (K:PySem.W.Frag):TS:=Zbq (ZbU (ZbA 1 (ZlL K (Zam 1)) (Zas 0) Zcp (tOp (ZdC K) (Zam 1) (tOp (rI0 fun i j=>V.int (i-j)) (tCB (fun xs H Q=>∃i,xs=[V.int i]∧Q (V.int (if i<0 then -i else i)) H) (Zae (Zam 0) ZaA)) (tC (V.int 1))))) (ZnY K 3 (Zbb (Zas 2) (Zbb (Zas 3) (Zbb (Zas 4) Zgs))))) (Zct (ZfA (Zae (tOp (rI Zi7 fun i j=>V.int (i/j)) (tOp (rI0 fun i j=>V.int (i-j)) (tOp (rI0 fun i j=>V.int (i+j)) (Zam 2) (Zam 3)) (Zam 4)) (tC (V.int 2))) (Zae (tOp (rI Zi7 fun i j=>V.int (i/j)) (tOp (rI0 fun i j=>V.int (i-j)) (tOp (rI0 fun i j=>V.int (i+j)) (Zam 3) (Zam 4)) (Zam 2)) (tC (V.int 2))) (Zae (tOp (rI Zi7 fun i j=>V.int (i/j)) (tOp (rI0 fun i j=>V.int (i-j)) (tOp (rI0 fun i j=>V.int (i+j)) (Zam 4) (Zam 2)) (Zam 3)) (tC (V.int 2))) ZaA)))))
def Zpt (K:PySem.W.Frag):TS:=Zbq (Zdg (Zbl (tOp (rI0 fun i j=>V.bl (decide (j<i))) (Zam 0) (tC (V.int 0)))) (Zct (Zeq (Zae (Zam 0) (Zae (tOp (rI0 fun i j=>V.int (i-j)) (tOp (rI0 fun i j=>V.int (i-j)) (Zam 1) (tC (V.int 1))) (Zam 2)) ZaA)))) Zcd) (Zct (Zeq (Zae (tUn (rU fun i=>V.int (-i)) (Zam 0)) (Zae (Zam 2) ZaA))))
def Zmn (K:PySem.W.Frag):TS:=(Ziz (Zgt (Zae (tOp (ZdC K) (Zam 4) (Zam 5)) ZaA)) (Zas 8) (Zbq (ZbU (ZaY ZhU [] E0 (Zae (Zam 6) (Zae (tOp (ZdC K) (Zam 1) (tOp (rI0 fun i j=>V.int (i-j)) (tCB (fun xs H Q=>∃i,xs=[V.int i]∧Q (V.int (if i<0 then -i else i)) H) (Zae (Zam 6) ZaA)) (tC (V.int 1)))) (Zae (Zam 8) ZaA)))) (Zas 9)) (Zfw (tBM K "list" ZdE (Zam 2) (Zae (Zeq (Zae (Zam 9) (Zae (ZaY ZhU [] E0 (Zae (tUn (rU fun i=>V.int (-i)) (Zam 7)) (Zae (tOp (ZdC K) (Zam 1) (tOp (rI0 fun i j=>V.int (i-j)) (tCB (fun xs H Q=>∃i,xs=[V.int i]∧Q (V.int (if i<0 then -i else i)) H) (Zae (Zam 7) ZaA)) (tC (V.int 1)))) (Zae (Zam 8) ZaA)))) ZaA))) ZaA)))))
def Zmo (K:PySem.W.Frag):TS:=(Ziz (Zgt (Zae (tC (V.int 3)) ZaA)) (Zas 5) (Zbq (Zpz 6 7 (Zae (tOp (Zny K) (Zam 3) (Zam 5)) (Zae (tOp (Zny K) (Zam 3) (tOp (rI (fun x j=>0<j) fun i j=>V.int (i%j)) (tOp (rI0 fun i j=>V.int (i+j)) (Zam 5) (tC (V.int 1))) (tC (V.int 3)))) ZaA))) (Zmn K)))
def ZoF (K:PySem.W.Frag):TS:=Zbq (ZbU (ZfA ZaA) (Zas 2)) (Zbq (Ziz (Zc4 K (Zam 0)) (Zas 3) (Zbq (ZbU (ZaY Znd [] E0 (Zae (Zam 1) (Zae (Zam 3) ZaA))) (Zas 4)) (Zmo K))) (Zct (Zam 2)))
def Znf (K:PySem.W.Frag):TS:=Zbq (ZbU (ZfA ZaA) (Zas 1)) (Zbq (Ziz (ZmL K (Zae (Zam 0) ZaA)) (Zhk K 2 (Zbb (Zas 2) (Zbb (Zas 3) Zgs))) (ZbU (tOp Znz (Zam 1) (ZbA 1 (Zgt (Zae (Zam 3) ZaA)) (Zas 0) Zcp (Zeq (Zae (tOp (rI0 fun i j=>V.int (i+j)) (Zam 3) (tC (V.int 1))) (Zae (Zam 0) ZaA))))) (Zas 1))) (Zct (Zam 1)))
def ZpJ (K:PySem.W.Frag):TS:=(Zbq (ZbU (ZbA 2 (Zc4 K (Zam 3)) (Zhk K 2 (Zbb (Zas 0) (Zbb (Zas 1) Zgs))) Zcp (Zam 0)) (Zas 4)) (Zbq (ZbU (tCB (fun xs H_1 Q=>∃p ys,xs=[V.ref p]∧((SqL K H_1 p ys∧∀(l:Addr),H_1 l=none→Q (V.ref l) (upd H_1 l (HO.tup ys)))∨SqT K H_1 p ys∧Q (V.ref p) H_1)) (Zae (ZbA 1 (Zgt (Zae (tCB (fun xs H Q=>∃p ys,xs=[V.ref p]∧(SqL K H p ys∨SqT K H p ys)∧Q (V.int ys.length) H) (Zae (Zam 1) ZaA)) ZaA)) (Zas 0) Zcp (tBM K "list" Zmb (Zam 5) (Zae (tOp (rI0 fun i j=>V.int (i+j)) (Zam 0) (tC (V.int 1))) ZaA))) ZaA)) (Zas 5)) (Zn6 (Zam 2) (Zam 5) (tOp (rI0 fun i j=>V.int (i+j)) (ZlV (Zam 2) (Zam 5) (tC (V.int 0))) (tC (V.int 1))))))
def ZpK (K:PySem.W.Frag):TS:=(Zct (tCB (fun xs H_1 Q=>∃p ys us,xs=[V.ref p]∧SqL K H_1 p ys∧PqL H_1 ys us∧us.length≤1000∧(List.map (fun x=>x.fst) us).Nodup∧∀(l:Addr) (zs:List V) (ws:List (List Int×Int)),H_1 l=none→PqL H_1 zs ws→ws.Perm us→Q (V.ref l) (upd H_1 l (HO.lst zs))) (Zae (ZbA 1 (Zmk (Zam 2)) (Zas 0) Zcp (Zeq (Zae (tCB (fun xs H Q=>∃p ys,xs=[V.ref p]∧(SqL K H p ys∨SqT K H p ys)∧∀(l:Addr),H l=none→Q (V.ref l) (upd H l (HO.lst ys))) (Zae (Zam 0) ZaA)) (Zae (Zn5 (Zam 3) (Zam 0)) ZaA)))) ZaA)))
def Zng (K:PySem.W.Frag):TS:=Zbq (ZbU ZlU (Zas 2)) (Zbq (Ziz (Zc4 K (ZaY (Zkf true) [] E0 (Zae (ZaY Zfk [] E0 (Zae (Zam 1) ZaA)) (Zae (ZaY Zg7 [] E0 (Zae (Zam 0) (Zae (Zam 1) ZaA))) ZaA)))) (Zas 3) (ZpJ K)) (ZpK K))
def Zpu (K:PySem.W.Frag):TS:=Zct (ZnK (tOp rEq (tOp (rI (fun x j=>0<j) fun i j=>V.int (i%j)) (tCB (fun xs H_1 Q=>∃p ns,xs=[V.ref p]∧SqL K H_1 p (List.map V.int ns)∧Q (V.int ns.sum) H_1) (Zae (Zam 0) ZaA)) (tC (V.int 2))) (tC (V.int 0))) (tOp (rI0 fun i j=>V.bl (decide (i≤j))) (tOp (rI Znw fun i j=>V.int (i*j)) (tC (V.int 2)) (tCB (fun xs H_1 Q=>∃p ns,xs=[V.ref p]∧SqL K H_1 p (List.map V.int ns)∧ns≠ []∧∀(m:Int),m∈ns→(∀(n:Int),n∈ns→n≤m)→Q (V.int m) H_1) (Zae (Zam 0) ZaA))) (tCB (fun xs H_1 Q=>∃p ns,xs=[V.ref p]∧SqL K H_1 p (List.map V.int ns)∧Q (V.int ns.sum) H_1) (Zae (Zam 0) ZaA))))
def Znh (K:PySem.W.Frag):TS:=Zbq (Zdg (tOr (Znv (tB (tCB (fun xs H Q=>∃x t b,xs=[x,V.ty "list"]∧Zep K H x t∧PySem.W.kitOne K t (Value.type "list")=some b∧Q (V.bl b) H) (Zae (Zam 1) (Zae (tC (V.ty "list")) ZaA))))) (Zbl (tOp rNe (tCB (fun xs H Q=>∃p ys,xs=[V.ref p]∧(SqL K H p ys∨SqT K H p ys)∧Q (V.int ys.length) H) (Zae (Zam 1) ZaA)) (ZaY (ZgY K) [] E0 (Zae (Zam 0) ZaA))))) (Zct (tC (V.bl false))) Zcd) (Zbq (Zdg (Znv (tB (tCB (fun xs H_1 Q=>∃p bs,xs=[V.ref p]∧SqL K H_1 p (List.map V.bl bs)∧Q (V.bl (bs.all id)) H_1) (Zae (ZbA 1 (Zc4 K (Zam 1)) (Zas 0) Zcp (ZaY Zg6 [] E0 (Zae (Zam 0) (Zae (tC (V.int 0)) ZaA)))) ZaA)))) (Zct (tC (V.bl false))) Zcd) (Zct (tCB (fun xs H_1 Q=>∃p bs,xs=[V.ref p]∧SqL K H_1 p (List.map V.bl bs)∧Q (V.bl (bs.all id)) H_1) (Zae (ZbA 1 (Zc4 K (Zam 0)) (Zas 0) Zcp (ZaY (Zkg K) [] E0 (Zae (ZaY Zff [] E0 (Zae (Zam 0) (Zae (Zam 2) ZaA))) ZaA))) ZaA))))
def ZpL (K:PySem.W.Frag):TS:=(Zbq (Ziz (Zc4 K (Zam 0)) (Zas 3) (Zbq (ZbU (tCB (fun xs H_1 Q=>∃p ns,xs=[V.ref p]∧SqL K H_1 p (List.map V.int ns)∧ns.length<64∧∀(l:Addr) (ms:List Int),H_1 l=none→ms.Perm ns→List.Pairwise (fun x1 x2=>x1≤x2) ms→Q (V.ref l) (upd H_1 l (HO.lst (List.map V.int ms)))) (Zae (ZbA 1 (ZlL K (Zam 3)) (Zas 0) Zcp (tOp (ZdC K) (Zam 2) (tOp (rI0 fun i j=>V.int (i-j)) (tCB (fun xs H Q=>∃i,xs=[V.int i]∧Q (V.int (if i<0 then -i else i)) H) (Zae (Zam 0) ZaA)) (tC (V.int 1))))) ZaA)) (ZnY K 3 (Zbb (Zas 4) (Zbb (Zas 5) (Zbb (Zas 6) Zgs))))) (Zdg (tOr (Zbl (tOp rNe (tOp (rI (fun x j=>0<j) fun i j=>V.int (i%j)) (tOp (rI0 fun i j=>V.int (i+j)) (tOp (rI0 fun i j=>V.int (i+j)) (Zam 4) (Zam 5)) (Zam 6)) (tC (V.int 2))) (tC (V.int 0)))) (Zbl (tOp (rI0 fun i j=>V.bl (decide (j<i))) (Zam 6) (tOp (rI0 fun i j=>V.int (i+j)) (Zam 4) (Zam 5))))) (Zct (tC (V.bl false))) Zcd))) (Zct (tC (V.bl true))))
def Zlw (K:PySem.W.Frag):TS:=Zbq (Zdg (tOr (Znv (tB (tCB (fun xs H Q=>∃x t b,xs=[x,V.ty "list"]∧Zep K H x t∧PySem.W.kitOne K t (Value.type "list")=some b∧Q (V.bl b) H) (Zae (Zam 1) (Zae (tC (V.ty "list")) ZaA))))) (Zbl (tOp rNe (tCB (fun xs H Q=>∃p ys,xs=[V.ref p]∧(SqL K H p ys∨SqT K H p ys)∧Q (V.int ys.length) H) (Zae (Zam 1) ZaA)) (tOp (rI Zi7 fun i j=>V.int (i/j)) (tOp (rI Znw fun i j=>V.int (i*j)) (tCB (fun xs H Q=>∃p ys,xs=[V.ref p]∧(SqL K H p ys∨SqT K H p ys)∧Q (V.int ys.length) H) (Zae (Zam 0) ZaA)) (tC (V.int 3))) (tC (V.int 2)))))) (Zct (tC (V.bl false))) Zcd) (Zbq (Ziz (Zc4 K (Zam 1)) (Zas 2) (Zdg (tOr (Znv (tB (tCB (fun xs H Q=>∃x t b,xs=[x,V.ty "int"]∧Zep K H x t∧PySem.W.kitOne K t (Value.type "int")=some b∧Q (V.bl b) H) (Zae (Zam 2) (Zae (tC (V.ty "int")) ZaA))))) (tOr (tB (tCB (fun xs H Q=>∃x t b,xs=[x,V.ty "bool"]∧Zep K H x t∧PySem.W.kitOne K t (Value.type "bool")=some b∧Q (V.bl b) H) (Zae (Zam 2) (Zae (tC (V.ty "bool")) ZaA)))) (Zbl (tOp (rI0 fun i j=>V.bl (decide (i<j))) (Zam 2) (tC (V.int 0)))))) (Zct (tC (V.bl false))) Zcd)) (ZpL K))
end
section
variable {K:PySem.W.Frag}
theorem ZoG (oS:Zb4 S)(ev:ZbX S r){t:List Int}(ht:t∈S):OkT r t:=fun s hs=>⟨(oS.side ht hs).1,ZdU oS ev.len ht hs⟩
theorem Zd3 {t:List Int}{σ:L2.St}(hq:H q=some (.tup (t.map V.int)))(tl:t.length≤10)(hc:H c=some (.lst (r.map V.int)))(e2:σ[i]?=some (some (.ref q)))(e1:σ[j]?=some (some (.ref c)))(ok:OkT r t)(k:∀D,H D=none→R (.ref D) (upd H D (.lst ((t.map (crs r)).map V.int)))):
  ZbA 1 (ZlL K (Zam i)) (Zas 0) Zcp (tOp (ZdC K) (Zam (j+1)) (tOp (rI0 fun i j=>V.int (i-j)) (tCB (fun xs H Q=>∃i,xs=[V.int i]∧Q (V.int (if i<0 then -i else i)) H) (Zae (Zam 0) ZaA)) (tC (V.int 1)))) σ H R:=by
 refine⟨_,e2,q,rfl,⟨_,SqT.of hq⟩,Zi9 (K:=K) (a:=q) (xs:=t.map V.int) (fun i ys H'=>ys=((t.take i).map (crs r)).map V.int∧H=H') ⟨rfl,rfl⟩ (by rw[Qaa];omega) (fun m ys H' h=>by rw[h.1,Qaa,Qaa,QaC];exact Qbi _ _) (fun m ys H' _ h=>by rw[←h.2];exact SqT.of hq) ?_ ?_⟩
 ·rintro m z ys' H' pre hpl hz ⟨rfl,rfl⟩;rw[Qah] at hz
  cases ez:t[m]? with
  |none=>rw[ez] at hz;cases hz
  |some sd=>
   rw[ez] at hz;cases hz;obtain⟨s1,er⟩:=ok sd (Qaj ez)
   have aa:atI (r.map V.int) (Zau sd-1)=some (V.int (crs r sd)):=by
    rw[show Zau sd-1=(((Zau sd-1).toNat:Nat):Int) by omega];exact ZbL (by rw[Qah,er];rfl)
   rcases pre with _|⟨q0,_|⟨q1,pre⟩⟩
   ·cases hpl
   ·refine⟨⟨[some _],rfl,rfl⟩,?_⟩;unfold Zcp;dsimp only;rw[if_pos (rfl:true=true)];refine⟨.ref c,by show([some (V.int sd)]++σ)[j+1]?=_;exact e1,_,rfl,sd,rfl,_,_,rfl,rfl,c,_,_,_,rfl,rfl,SqL.of hc,aa,?_,rfl⟩;rw[Zat ez,Qam,Qam];rfl
   ·cases hpl
 ·rintro ys' H' ⟨rfl,rfl⟩ D hD;rw[Qaa,QaZ];exact k D hD
theorem Zkh (hc:H c=some (.lst (r.map V.int)))(hq:H q=some (.tup ([x,y,z].map V.int)))(ok:OkT r [x,y,z])(k:∀(l:Addr) (H':Hp),Zai H H'→H l=none→H' l=some (.lst ([(crs r x+crs r y-crs r z)/2,(crs r y+crs r z-crs r x)/2,(crs r z+crs r x-crs r y)/2].map V.int))→Q (.ref l) H'):ZpW K {nx:=Z,rt:=Q } [some (.ref c),some (.ref q),none,none,none] H:=by
 refine Zd3 (K:=K) (i:=1) (j:=0) (t:=[x,y,z]) hq (by show 3≤10;decide) hc rfl rfl ok fun D hD=> ?_;have s1:=Zai.nw (o:=.lst (([x,y,z].map (crs r)).map V.int)) (Zai.refl H) hD;have f1:(upd H D (.lst (([x,y,z].map (crs r)).map V.int))) D=some (.lst (([x,y,z].map (crs r)).map V.int)):=Zaa;generalize upd H D (.lst (([x,y,z].map (crs r)).map V.int))=H1 at s1 f1⊢;refine⟨D,_,rfl,SqL.of f1,rfl,_,_,rfl,_,_,rfl,_,_,rfl,rfl,?_⟩;refine⟨_,rfl,_,rfl,_,_,rfl,rfl,_,rfl,_,_,rfl,rfl,_,_,rfl,rfl,⟨by decide,by decide⟩,_,rfl,_,rfl,_,_,rfl,rfl,_,rfl,_,_,rfl,rfl,_,_,rfl,rfl,⟨by decide,by decide⟩,_,rfl,_,rfl,_,_,rfl,rfl,_,rfl,_,_,rfl,rfl,_,_,rfl,rfl,⟨by decide,by decide⟩,(by show 3≤sizeLine;decide),fun l hl=> ?_⟩;exact k l _ (Zai.nw s1 hl) (s1.free hl) Zaa
theorem Zit {c t:Int}(k:∀q,H q=none→Q (.ref q) (upd H q (.tup ((Zbn s c t).map V.int)))):Zpt K {nx:=Z,rt:=Q } [some (.int s),some (.int c),some (.int t)] H:=by
 unfold Zbn at k;refine⟨_,rfl,_,_,rfl,rfl,_,rfl,ZeL (fun h=> ?_) (fun h=> ?_)⟩
 ·rw[if_pos (QaK h)] at k;exact⟨_,rfl,_,rfl,_,_,rfl,rfl,_,rfl,_,_,rfl,rfl,(by show 2≤sizeLine;decide),fun q hq=>k q hq⟩
 ·rw[if_neg (Qa6 (Qc7.mpr h))] at k;exact⟨_,rfl,_,rfl,_,rfl,(by show 2≤sizeLine;decide),fun q hq=>k q hq⟩
theorem Zki (nn:∀x∈r,0≤x)(bd:r.sum≤160)(s:Int):crs r s≤160:=by
 have le:∀(l:List Int),(∀x∈l,0≤x)→0≤l.sum∧∀x∈l,x≤l.sum:=by
  intro l
  induction l with
  |nil=>intro _;exact⟨Qba _,fun x h=>by cases h⟩
  |cons a l ih=>
   intro h;obtain⟨i1,i2⟩:=ih fun x hx=>h x (QaD _ hx);have a0:=h a QaA;rw[Qb2];refine⟨by omega,fun x hx=> ?_⟩;rcases QaJ.mp hx with rfl|hx
   ·omega
   ·have:=i2 x hx;omega
 unfold crs;rw[Qai]
 cases z:r[(Zau s-1).toNat]? with
 |none=>show(0:Int)≤160;decide
 |some x=>
  have:=(le r nn).2 x (Qaj z);show x≤160;omega
theorem Zmp (h1:1≤Zau s)(h:r[(Zau s-1).toNat]?=some (crs r s)):atI (r.map V.int) (Zau s-1)=some (V.int (crs r s)):=by
 rw[show Zau s-1=(((Zau s-1).toNat:Nat):Int) by omega];exact ZbL (by rw[Qah,h];rfl)
theorem Ziu (h:n<Zd8 (crs r x) (crs r y) (crs r z)):(Zbc r x y z).take (n+1)=(Zbc r x y z).take n++ [(Zbn x (crs r x) (n:Int),Zbn (-y) (crs r y) (n:Int))]:=by
 have e:(Zbc r x y z)[n]?=some (Zbn x (crs r x) (n:Int),Zbn (-y) (crs r y) (n:Int)):=by
  unfold Zbc;rw[Qah,QbB h];rfl
 exact Zat e
theorem Zcb (r:List Int)(x y z:Int):(Zbc r x y z).length=Zd8 (crs r x) (crs r y) (crs r z):=by unfold Zbc;rw[Qaa,Qbk]
theorem Zg8 {m:Addr}{j:Int}{x8 x9:Option V}{ps:List V}(s0:Zai H0 H)(l0:H0 l=none)(hc0:H0 c=some (.lst (r.map V.int)))(hm:H m=some (.lst (ms.map V.int)))(ml:m≠l)(ej:atI (ms.map V.int) j=some (V.int ((crs r x+crs r y-crs r z)/2)))(nn:∀s,0≤crs r s∧crs r s≤160)(ox:OkT r [x,y])(hl:H l=some (.lst ps))(pa:PaL H true ps L)(pl:L.length≤5600)
  (k:∀(x8 x9:Option V) (ps':List V) (H':Hp),Zai H0 H'→Bt l H H'→H' l=some (.lst ps')→PaL H' true ps' (L++Zbc r x y z)→N [some (.ref b),some (.ref c),some (.ref l),some (.ref q),some (.ref m),some (.int j),some (.int x),some (.int y),x8,x9] H'):Zmn K {nx:=N,rt:=R,bk:=B,ct:=C } [some (.ref b),some (.ref c),some (.ref l),some (.ref q),some (.ref m),some (.int j),some (.int x),some (.int y),x8,x9] H:=by
 have bx:=nn x;have by':=nn y;have bz:=nn z;refine⟨_,rfl,_,rfl,m,_,j,_,rfl,rfl,SqL.of hm,ej,_,rfl,by omega,by omega,?_⟩;refine Zb9 (lo:=0) (n:=((crs r x+crs r y-crs r z)/2).toNat) (fun i σ H'=>∃(x8 x9:Option V) (ps':List V),σ=[some (.ref b),some (.ref c),some (.ref l),some (.ref q),some (.ref m),some (.int j),some (.int x),some (.int y),x8,x9]∧Zai H0 H'∧Bt l H H'∧H' l=some (.lst ps')∧PaL H' true ps' (L++(Zbc r x y z).take i)) ⟨x8,x9,ps,rfl,s0,fun _ _ _ e=>e,hl,by rw[QbF,QaS];exact pa⟩ ?_ ?_
 ·rintro i σ H1 hi ⟨x8,x9,ps1,rfl,s1,b1,hl1,pa1⟩;rw[Qew];have ex:=ox x (by simp);have ey:=ox y (by simp);refine⟨_,rfl,_,rfl,_,rfl,x,rfl,_,_,rfl,rfl,c,_,_,_,rfl,rfl,SqL.of (s1 _ _ hc0),Zmp ex.1 ex.2,_,rfl,x,crs r x,(i:Int),rfl,fun q1 hq1=> ?_⟩;have s2:=Zai.nw (o:=.tup ((Zbn x (crs r x) (i:Int)).map V.int)) (Zai.refl H1) hq1;have f2:(upd H1 q1 (.tup ((Zbn x (crs r x) (i:Int)).map V.int))) q1=some (.tup ((Zbn x (crs r x) (i:Int)).map V.int)):=Zaa;generalize upd H1 q1 (.tup ((Zbn x (crs r x) (i:Int)).map V.int))=H2 at s2 f2⊢;refine⟨_,rfl,.inl ⟨rfl,_,SqL.of (s2 _ _ hl1)⟩,_,rfl,_,rfl,_,rfl,_,rfl,_,rfl,y,rfl,_,_,rfl,rfl,c,_,_,_,rfl,rfl,SqL.of (s2 _ _ (s1 _ _ hc0)),Zmp ey.1 ey.2,_,rfl,-y,crs r y,(i:Int),rfl,fun q2 hq2=> ?_⟩;have s3:=Zai.nw (o:=.tup ((Zbn (-y) (crs r y) (i:Int)).map V.int)) (Zai.refl H2) hq2;have f3:(upd H2 q2 (.tup ((Zbn (-y) (crs r y) (i:Int)).map V.int))) q2=some (.tup ((Zbn (-y) (crs r y) (i:Int)).map V.int)):=Zaa;generalize upd H2 q2 (.tup ((Zbn (-y) (crs r y) (i:Int)).map V.int))=H3 at s3 f3⊢;refine⟨(by show 2≤sizeLine;decide),fun q3 hq3=> ?_⟩;have s4:=Zai.nw (o:=.tup [.ref q1,.ref q2]) (Zai.refl H3) hq3;have f4:(upd H3 q3 (.tup [.ref q1,.ref q2])) q3=some (.tup [.ref q1,.ref q2]):=Zaa;generalize upd H3 q3 (.tup [.ref q1,.ref q2])=H4 at s4 f4⊢;have s14:=s2.trans (s3.trans s4);have hl4:=s14 _ _ hl1
  have pn:ps1.length≤10000:=by
   rw[pa1.1,Qae,QaC,Zcb]
   have:Zd8 (crs r x) (crs r y) (crs r z)≤160:=by unfold Zd8;omega
   omega
  refine⟨l,ps1,_,rfl,rfl,hl4,QaN pn (by decide),?_⟩;have t5:ZbP H4 (upd H4 l (.lst (ps1++ [.ref q3]))):=(ZbP.refl _).lst hl4;refine⟨_,_,_,rfl,Zai.ow (s1.trans s14) l0,?_,Zaa,?_⟩
  ·intro a o n e;rw[Zan n];exact s14 _ _ (b1 a o n e)
  ·rw[Ziu (by unfold Zd8;exact hi),←Qaw];exact PaL.snoc (pa1.up ((s14.tups).trans t5)) (t5 _ _ f4) (.tup (t5 _ _ (s4 _ _ (s3 _ _ f2)))) (.tup (t5 _ _ (s4 _ _ f3)))
 ·rintro σ H1 ⟨x8,x9,ps1,rfl,s1,b1,hl1,pa1⟩;rw[QaM (by rw[Zcb];exact Qaf _)] at pa1;exact k x8 x9 ps1 H1 s1 b1 hl1 pa1
theorem Zd4 (S:List (List Int))(t:List Int)(r:List Int):Zcr (S++ [t]) r=Zcr S r++Zir r t:=by
 unfold Zcr;rw[Qam,Qbh];simp
theorem Zgb {S:List (List Int)}{r:List Int}(nn:∀s,0≤crs r s∧crs r s≤160):∀n:Nat,(Zcr (S.take n) r).length≤n*480
 |0=>by simp[Zcr]
 |n+1=>by
  have ih:=Zgb nn (S:=S) n
  cases e:S[n]? with
  |none=>rw[QaM (by have:=QaY.mp e;omega)];rw[QaM (by have:=QaY.mp e;omega)] at ih;omega
  |some t=>
   rw[Zat e,Zd4,Qae]
   have:(Zir r t).length≤480:=by
    have c:∀x y z,Zd8 (crs r x) (crs r y) (crs r z)≤160:=fun x y z=>by
     have:=nn x;have:=nn y;have:=nn z;unfold Zd8;omega
    match t with
    | [x,y,z]=>
     show(Zbc r x y z++Zbc r y z x++Zbc r z x y).length≤480;rw[Qae,Qae,Zcb,Zcb,Zcb]
     have:=c x y z;have:=c y z x;have:=c z x y;omega
    | []=>show 0≤480;omega
    | [_]=>show 0≤480;omega
    | [_,_]=>show 0≤480;omega
    |_::_::_::_::_=>show 0≤480;omega
   omega
theorem Zni {t:List Int}(h:OkT r t)(s:∀x∈u,x∈t):OkT r u:=fun x hx=>h x (s x hx)
theorem Zg9 {m:Addr}{x5 x6 x7 x8 x9:Option V}{ps:List V}(s0:Zai H0 H)(l0:H0 l=none)(hc0:H0 c=some (.lst (r.map V.int)))(hq0:H0 q=some (.tup ([x,y,z].map V.int)))(hm:H m=some (.lst ([(crs r x+crs r y-crs r z)/2,(crs r y+crs r z-crs r x)/2,(crs r z+crs r x-crs r y)/2].map V.int)))(ml:m≠l)(nn:∀s,0≤crs r s∧crs r s≤160)(ok:OkT r [x,y,z])(hl:H l=some (.lst ps))(pa:PaL H true ps L)(pl:L.length≤5280)
  (k:∀(x5 x6 x7 x8 x9:Option V) (ps':List V) (H':Hp),Zai H0 H'→H' l=some (.lst ps')→PaL H' true ps' (L++Zir r [x,y,z])→N [some (.ref b),some (.ref c),some (.ref l),some (.ref q),some (.ref m),x5,x6,x7,x8,x9] H'):Zmo K {nx:=N,rt:=R,bk:=B,ct:=C } [some (.ref b),some (.ref c),some (.ref l),some (.ref q),some (.ref m),x5,x6,x7,x8,x9] H:=by
 have cb:∀x y z,(Zbc r x y z).length≤160:=fun x y z=>by
  have:=nn x;have:=nn y;have:=nn z;rw[Zcb];unfold Zd8;omega
 refine⟨3,rfl,by decide,by decide,Zb9 (lo:=0) (n:=(3:Int).toNat) (fun i σ H'=>∃(x5 x6 x7 x8 x9:Option V) (ps':List V),σ=[some (.ref b),some (.ref c),some (.ref l),some (.ref q),some (.ref m),x5,x6,x7,x8,x9]∧Zai H0 H'∧H' m=some (.lst ([(crs r x+crs r y-crs r z)/2,(crs r y+crs r z-crs r x)/2,(crs r z+crs r x-crs r y)/2].map V.int))∧H' l=some (.lst ps')∧PaL H' true ps' (L++([Zbc r x y z,Zbc r y z x,Zbc r z x y].take i).flatten)) ⟨x5,x6,x7,x8,x9,ps,rfl,s0,hm,hl,by rw[QbF,QcG,QaS];exact pa⟩ ?_ ?_⟩
 ·rintro i σ H1 hi ⟨x5,x6,x7,x8,x9,ps1,rfl,s1,hm1,hl1,pa1⟩;have hq1:=s1 _ _ hq0;rw[Qew];have hi:i<3:=hi
  obtain⟨u,v,w,M,h1,h2,h3,h4,h5,h6,h7⟩:∃(u v w:Int) (M:List (List Int×List Int)),[x,y,z][i]?=some u∧atI ([x,y,z].map V.int) (((i:Int)+1) %3)=some (V.int v)∧atI ([(crs r x+crs r y-crs r z)/2,(crs r y+crs r z-crs r x)/2,(crs r z+crs r x-crs r y)/2].map V.int) (i:Int)=some (V.int ((crs r u+crs r v-crs r w)/2))∧(∀a∈[u,v],a∈[x,y,z])∧PaL H1 true ps1 (L++M)∧M.length≤320∧M++Zbc r u v w=([Zbc r x y z,Zbc r y z x,Zbc r z x y].take (i+1)).flatten:=by
   have hc:i=0∨i=1∨i=2:=by omega
   have c1:=cb x y z;have c2:=cb y z x;rcases hc with rfl|rfl|rfl
   ·exact⟨x,y,z,[],rfl,rfl,rfl,by simp,pa1,by simp,by simp⟩
   ·exact⟨y,z,x,Zbc r x y z,rfl,rfl,rfl,by simp,by simpa using pa1,by omega,by simp⟩
   ·exact⟨z,x,y,Zbc r x y z++Zbc r y z x,rfl,rfl,rfl,by simp,by simpa using pa1,by rw[Qae];omega,by simp⟩
  refine⟨_,rfl,_,rfl,q,_,_,_,rfl,rfl,SqT.of hq1,ZbL (by rw[Qah,h1];rfl),_,rfl,_,rfl,_,_,rfl,rfl,_,_,rfl,rfl,(by show(0:Int)<3;decide),q,_,_,_,rfl,rfl,SqT.of hq1,h2,_,_,rfl,?_⟩;refine Zg8 (K:=K) (H0:=H0) (z:=w) s1 l0 hc0 hm1 ml h3 nn (Zni ok h4) hl1 h5 (by rw[Qae];omega) fun x8 x9 ps2 H2 s2 b2 hl2 pa2=> ?_;refine⟨_,_,_,x8,x9,ps2,rfl,s2,b2 _ _ ml hm1,hl2,?_⟩;rw[←h7,←Qaw];exact pa2
 ·rintro σ H1 ⟨x5,x6,x7,x8,x9,ps1,rfl,s1,hm1,hl1,pa1⟩;refine k x5 x6 x7 x8 x9 ps1 H1 s1 hl1 ?_
  have e:([Zbc r x y z,Zbc r y z x,Zbc r z x y].take (3:Int).toNat).flatten=Zir r [x,y,z]:=by
   show(Zbc r x y z++(Zbc r y z x++(Zbc r z x y++ [])))=Zbc r x y z++Zbc r y z x++Zbc r z x y;rw[QaS,Qaw]
  rw[e] at pa1;exact pa1
theorem Zha {xs:List V}(a:Zne H b c xs S r)(k:∀(l:Addr) (ps:List V) (H':Hp),Zai H H'→H l=none→H' l=some (.lst ps)→PaL H' true ps (Zcr S r)→Q (.ref l) H'):ZoF K {nx:=Z,rt:=Q } [some (.ref b),some (.ref c),none,none,none,none,none,none,none,none] H:=by
 have nn:∀s,0≤crs r s∧crs r s≤160:=fun s=>⟨ZoA a.ev s,Zki a.ev.nn a.bd s⟩;have lS:=a.oS.len;have lx:xs.length=S.length:=a.tS.1;refine⟨(by show 0≤sizeLine;decide),fun l hl=> ?_⟩;have s1:=Zai.nw (o:=.lst []) (Zai.refl H) hl;have f1:(upd H l (.lst [])) l=some (.lst []):=Zaa;generalize upd H l (.lst [])=H1 at s1 f1⊢;refine⟨_,rfl,b,rfl,⟨_,SqL.of (s1 _ _ a.hb)⟩,ZbI (K:=K) (a:=b) (xs:=xs) (fun i σ H'=>∃(x3 x4 x5 x6 x7 x8 x9:Option V) (ps:List V),σ=[some (.ref b),some (.ref c),some (.ref l),x3,x4,x5,x6,x7,x8,x9]∧Zai H H'∧H' l=some (.lst ps)∧PaL H' true ps (Zcr (S.take i) r)) ⟨_,_,_,_,_,_,_,[],rfl,s1,f1,PaL.nil _ _⟩ (fun i σ H' _ h=>by obtain⟨_,_,_,_,_,_,_,_,_,s',_⟩:=h;exact SqL.of (s' _ _ a.hb)) ?_ ?_⟩
 ·rintro i y σ H2 hy ⟨x3,x4,x5,x6,x7,x8,x9,ps,rfl,s2,hl2,pa2⟩;obtain⟨t,q,et,rfl,hq⟩:=a.tS.take hy;have mt:t∈S:=Qaj et;have il:i<S.length:=(Qac.mp et).1;obtain⟨u,v,w,rfl⟩:=ZcM (a.oS.three t mt);have ok:=ZoG a.oS a.ev mt;refine⟨_,rfl,_,rfl,c,q,r,u,v,w,rfl,s2 _ _ a.hc,s2 _ _ hq,ok,fun m H3 s3 m0 hm=> ?_⟩;have ml:m≠l:=fun z=>by rw[z,hl2] at m0;cases m0
  have jl:=Zgb nn (S:=S) i;refine Zg9 (K:=K) (H0:=H) (s2.trans s3) hl a.hc hq hm ml nn ok (s3 _ _ hl2) (pa2.up s3.tups) (by omega) fun x5 x6 x7 x8 x9 ps' H4 s4 hl4 pa4=> ?_;refine⟨_,_,x5,x6,x7,x8,x9,ps',rfl,s4,hl4,?_⟩;rw[Zat et,Zd4];exact pa4
 ·rintro σ H2 ⟨x3,x4,x5,x6,x7,x8,x9,ps,rfl,s2,hl2,pa2⟩;rw[lx,QaZ] at pa2;exact⟨_,rfl,k l ps H2 s2 hl hl2 pa2⟩
theorem Zhb (r:List Int)(c:Int):Za1 (r++ [c])=Za1 r++Zcq r.length c:=by
 unfold Za1;rw[Qae,QaF,Qbp,Qby,Qam,Qbh];congr 1
 ·congr 1;refine Qds fun i hi=> ?_
  have:=Qbb.mp hi;rw[Qai,Qai,Qax this]
 ·simp[Qai]
theorem Zgc (hc:H c=some (.lst (r.map V.int)))(nn:∀x∈r,0≤x)(bd:r.sum≤160)(k:∀(l:Addr) (ps:List V) (H':Hp),Zai H H'→H l=none→H' l=some (.lst ps)→ItL H' true ps (Za1 r)→Q (.ref l) H'):Znf K {nx:=Z,rt:=Q } [some (.ref c),none,none,none] H:=by
 refine⟨(by show 0≤sizeLine;decide),fun l0 hl0=> ?_⟩;have s1:=Zai.nw (o:=.lst []) (Zai.refl H) hl0;have f1:(upd H l0 (.lst [])) l0=some (.lst []):=Zaa;generalize upd H l0 (.lst [])=H1 at s1 f1⊢;refine⟨_,rfl,c,rfl,⟨_,SqL.of (s1 _ _ hc)⟩,Zk0 (K:=K) (a:=c) (xs:=r.map V.int) (fun i σ H'=>∃(x2 x3:Option V) (l:Addr) (ps:List V),σ=[some (.ref c),some (.ref l),x2,x3]∧Zai H H'∧H l=none∧H' l=some (.lst ps)∧ItL H' true ps (Za1 (r.take i))) ⟨_,_,l0,[],rfl,s1,hl0,f1,ItL.nil _ _⟩ (fun i σ H' _ h=>by obtain⟨_,_,_,_,_,s',_⟩:=h;exact SqL.of (s' _ _ hc)) ?_ ?_⟩
 ·rintro i y σ H2 p hy ⟨x2,x3,l,ps,rfl,s2,l0,hl2,it2⟩ hp;rw[Qah] at hy
  cases er:r[i]? with
  |none=>rw[er] at hy;cases hy
  |some n=>
   rw[er] at hy;cases hy;have il:i<r.length:=(Qac.mp er).1;have n0:=nn n (Qaj er)
   have nb:n≤160:=by
    have e:crs r ((i:Int)+1)=n:=by rw[Zcx r (k:=i) (by unfold Zau;rw[if_neg (by omega)]),Qai,er];rfl
    have:=Zki nn bd ((i:Int)+1);omega
   have cl:(Za1 (r.take i)).length≤160:=by
    have e1:=Zd1 (r:=r.take i) fun x hx=>nn x (QbS hx);have e2:(r.take i).sum+(r.drop i).sum=r.sum:=by rw[←Qeq,QaT]
    have e3:0≤(r.drop i).sum:=by
     have:∀l:List Int,(∀x∈l,0≤x)→0≤l.sum:=by
      intro l
      induction l with
      |nil=>intro _;exact Qba _
      |cons a l ih=>intro h;rw[Qb2];have:=ih fun x hx=>h x (QaD _ hx);have:=h a QaA;omega
     exact this _ fun x hx=>nn x (Qcw hx)
    omega
   have s3:=Zai.nw (o:=.tup [.int (i:Int),.int n]) (Zai.refl H2) hp;have f3:(upd H2 p (.tup [.int (i:Int),.int n])) p=some (.tup [.int (i:Int),.int n]):=Zaa;generalize upd H2 p (.tup [.int (i:Int),.int n])=H3 at s3 f3⊢;refine⟨p,_,rfl,SqT.of f3,rfl,_,_,rfl,_,_,rfl,rfl,?_⟩;refine⟨_,rfl,_,rfl,n,rfl,by omega,by omega,?_⟩;refine ZgA (lo:=0) (n:=n.toNat) (fun j ys H'=>Zai H3 H'∧ItL H' true ys ((Zcq i n).take j)) ⟨Zai.refl _,ItL.nil _ _⟩ (by omega) (fun j ys H' h=>by rw[h.2.1,QaC];exact Qbi _ _) ?_ ?_
   ·rintro j ys H4 pre hpl hj ⟨s4,it4⟩;rcases pre with _|⟨q0,_|⟨q1,pre⟩⟩
    ·cases hpl
    ·refine⟨⟨[some _],rfl,rfl⟩,?_⟩;unfold Zcp;dsimp only;rw[if_pos (rfl:true=true),Qew];refine⟨_,rfl,_,_,rfl,rfl,_,rfl,(by show 2≤sizeLine;decide),fun q hq=> ?_⟩;have s5:=Zai.nw (o:=.tup [.int ((i:Int)+1),.int (j:Int)]) (Zai.refl H4) hq;refine⟨s4.trans s5,?_⟩;have e:(Zcq i n)[j]?=some [(i:Int)+1,(j:Int)]:=by unfold Zcq;rw[Qah,QbB hj];rfl
     rw[Zat e];exact(it4.up s5.tups).append (ItL.cons (.tup Zaa) (ItL.nil _ _))
    ·cases hpl
   ·rintro ys H4 ⟨s4,it4⟩ D hD;have kl:(Zcq i n).length=n.toNat:=by unfold Zcq;rw[Qaa,Qbk]
    rw[QaM (by rw[kl];exact Qaf _)] at it4;have s5:=Zai.nw (o:=.lst ys) (Zai.refl H4) hD;have f5:(upd H4 D (.lst ys)) D=some (.lst ys):=Zaa;generalize upd H4 D (.lst ys)=H5 at s5 f5⊢;have s25:=s3.trans (s4.trans s5);refine⟨l,D,ps,ys,rfl,rfl,s25 _ _ hl2,f5,?_,fun l2 hl2'=> ?_⟩
    ·have:=it2.1
     have:=it4.1;exact QaI (show ps.length+ys.length≤1000 by omega) (by decide)
    ·have s6:=Zai.nw (o:=.lst (ps++ys)) (Zai.refl H5) hl2';refine⟨_,_,l2,ps++ys,rfl,(s2.trans s25).trans s6,s2.free (s25.free hl2'),Zaa,?_⟩;rw[Zat er,Zhb,QaC,Qcq (by omega)];exact((it2.up s25.tups).append (it4.up s5.tups)).up s6.tups
 ·rintro σ H2 ⟨x2,x3,l,ps,rfl,s2,l0,hl2,it2⟩;rw[Qaa,QaZ] at it2;exact⟨_,rfl,k l ps H2 s2 l0 hl2 it2⟩
end
section
variable {K:PySem.W.Frag}
theorem Znj (nd:(ks.map (·.1)).Nodup)(h:ks[i]?=some e):Zid (ks.map emb) (e.1.map Sum.inl)=some (V.int e.2):=by
 induction ks generalizing i with
 |nil=>cases h
 |cons k ks ih=>
  rw[Qa5] at nd;rw[Qa5];have ek:=ZeY k e.1
  cases i with
  |zero=>
   rw[List.getElem?_cons_zero] at h;cases h;rw[ZcV (QaK (by rw[ek];exact Qan rfl))];rfl
  |succ i=>
   rw[List.getElem?_cons_succ] at h;have q:¬k.1=e.1:=fun z=>(Qb7.mp nd).1 (by rw[z];exact Qaz.mpr ⟨e,Qaj h,rfl⟩);rw[ZcW (Qa6 (by rw[ek];exact Qal q))];exact ih (Qb7.mp nd).2 h
theorem PqL.up {H':Hp}{ys:List V}(h:PqL H ys us)(s:Zai H H'):PqL H' ys us:=⟨h.1,fun i y u h1 h2=>by
 obtain⟨a,b,e1,e2,e3⟩:=h.2 i y u h1 h2
 exact⟨a,b,e1,s _ _ e2,s _ _ e3⟩⟩
theorem PqL.snoc {ys:List V}(h:PqL H ys us)(hq:H q=some (.tup [.ref b,.int e.2]))(hb:H b=some (.lst (e.1.map V.int))):PqL H (ys++ [.ref q]) (us++ [e]):=by
 refine⟨by rw[Qae,Qae,h.1];rfl,fun i y u h1 h2=> ?_⟩;by_cases il:i<ys.length
 ·rw[Qax il] at h1;rw[Qax (by rw[←h.1];exact il)] at h2;exact h.2 i y u h1 h2
 ·rw[Qay (by omega)] at h1;rw[Qay (by rw[←h.1];omega),←h.1] at h2
  cases z:i-ys.length with
  |zero=>
   rw[z] at h1 h2;cases h1;cases h2;exact⟨q,b,rfl,hq,hb⟩
  |succ j=>
   rw[z] at h1;cases h1
theorem ZoH (l:List Int)(i:Int):(l.countP fun z=>decide (z=i))=l.count i:=by
 rw[List.count_eq_countP];rfl
theorem Zkj {a:Addr}{x4 x5:Option V}{ys:List V}(hc:H c=some (.lst (r.map V.int)))(rl:r.length≤18)(ha:H a=some (.lst ys))(it:ItL H true ys h)(two:∀u∈h,∃x y:Int,u=[x,y])(hl:h.length≤160)(hd:H d=some (.dT (ks.map emb)))(kl:ks.length≤1000)
  (k:∀(x4 x5:Option V) (H':Hp),Bt d H H'→H' d=some (.dT ((ZkH ks (Zdm r.length h) (Zgn ks (Zdm r.length h)+1)).map emb))→N [some (.ref b),some (.ref c),some (.ref d),some (.ref a),x4,x5] H'):ZpJ K {nx:=N,rt:=R,bk:=B,ct:=C } [some (.ref b),some (.ref c),some (.ref d),some (.ref a),x4,x5] H:=by
 have yl:ys.length=h.length:=it.1;refine⟨_,rfl,a,rfl,⟨_,SqL.of ha⟩,Zgz (K:=K) (a:=a) (xs:=ys) (fun i zs H'=>zs=((h.take i).map Zf8).map V.int∧H=H') ⟨rfl,rfl⟩ (by omega) (fun i zs H' q=>by rw[q.1,Qaa,Qaa,QaC];exact Qbi _ _) (fun i zs H' _ q=>by rw[←q.2];exact SqL.of ha) ?_ ?_⟩
 ·rintro i y zs H1 pre hpl hy ⟨rfl,rfl⟩;have il:i<h.length:=by rw[←yl];exact(Qac.mp hy).1
  have eu:h[i]?=some h[i]:=Qab il;obtain⟨x,z,e⟩:=two _ (Qbo il);rw[e] at eu;have im:=it.2 i y _ hy eu
  cases im with
  | @tup q _ hq=>
  rcases pre with _|⟨q0,_|⟨q1,_|⟨q2,pre⟩⟩⟩
  ·cases hpl
  ·cases hpl
  ·refine⟨q,_,rfl,SqT.of hq,rfl,_,_,rfl,_,_,rfl,rfl,⟨[some _,some _],rfl,rfl⟩,?_⟩;unfold Zcp;dsimp only;rw[if_pos (rfl:true=true)];refine⟨_,rfl,?_,rfl⟩;rw[Zat eu,Qam,Qam];rfl
  ·cases hpl
 rintro zs H1 ⟨rfl,rfl⟩ D hD;rw[yl,QaZ];have s1:=Zai.nw (o:=.lst ((h.map Zf8).map V.int)) (Zai.refl H) hD;have f1:(upd H D (.lst ((h.map Zf8).map V.int))) D=some (.lst ((h.map Zf8).map V.int)):=Zaa;generalize upd H D (.lst ((h.map Zf8).map V.int))=H1 at s1 f1⊢;have kn:(Zdm r.length h).length=r.length:=by unfold Zdm;rw[Qaa,Qbk]
 refine⟨_,rfl,c,_,rfl,.inl (SqL.of (s1 _ _ hc)),_,rfl,by rw[Qaa];omega,by rw[Qaa];omega,?_⟩;rw[Qaa];refine ZgA (lo:=0) (n:=((r.length:Nat):Int).toNat) (fun j zs H'=>zs=((Zdm r.length h).take j).map V.int∧H1=H') ⟨rfl,rfl⟩ (by omega) (fun j zs H' q=>by rw[q.1,Qaa,QaC];exact Qbi _ _) ?_ ?_
 ·rintro j zs H2 pre hpl hj ⟨rfl,rfl⟩;have hj:j<r.length:=by omega
  rcases pre with _|⟨q0,_|⟨q1,pre⟩⟩
  ·cases hpl
  ·refine⟨⟨[some _],rfl,rfl⟩,?_⟩;unfold Zcp;dsimp only;rw[if_pos (rfl:true=true),Qew];refine⟨_,rfl,.inl ⟨rfl,_,SqL.of f1⟩,_,rfl,_,_,rfl,rfl,D,h.map Zf8,(j:Int)+1,rfl,rfl,f1,?_,rfl⟩;have e:(Zdm r.length h)[j]?=some ((Zmj h ((j:Int)+1):Nat):Int):=by unfold Zdm;rw[Qah,QbB hj];rfl
   rw[Zat e,Qam,ZoH];rfl
  ·cases hpl
 rintro zs H2 ⟨rfl,rfl⟩ D2 hD2;rw[show((r.length:Nat):Int).toNat=(Zdm r.length h).length by rw[kn];omega,QaZ];have s2:=Zai.nw (o:=.lst ((Zdm r.length h).map V.int)) (Zai.refl H1) hD2;have f2:(upd H1 D2 (.lst ((Zdm r.length h).map V.int))) D2=some (.lst ((Zdm r.length h).map V.int)):=Zaa;generalize upd H1 D2 (.lst ((Zdm r.length h).map V.int))=H2 at s2 f2⊢;refine⟨D2,_,rfl,.inl ⟨SqL.of f2,fun p hp=> ?_⟩⟩;have s3:=Zai.nw (o:=.tup ((Zdm r.length h).map V.int)) (Zai.refl H2) hp;have f3:(upd H2 p (.tup ((Zdm r.length h).map V.int))) p=some (.tup ((Zdm r.length h).map V.int)):=Zaa;generalize upd H2 p (.tup ((Zdm r.length h).map V.int))=H3 at s3 f3⊢;generalize Zdm r.length h=key at k f3;have s13:=s1.trans (s2.trans s3);have hw:H3 p=some (.tup ((key.map Sum.inl).map kV)):=by rw[Qb1];exact f3
 have hd3:=s13 _ _ hd;refine⟨_,rfl,d,rfl,.inr ⟨_,.inl hd3⟩,_,rfl,_,ZlT.t (k:=key.map Sum.inl) hd3 hw,Zgn ks key,1,ZmV ks key,rfl,_,rfl,_,rfl,d,_,rfl,Zn3.t (k:=key.map Sum.inl) hd3 hw (QaN (by rw[Qaa];exact kl:(ks.map emb).length≤1000) (by decide)),?_⟩;refine k _ _ _ (fun a o n e=>by rw[Zan n];exact s13 _ _ e) ?_;rw[Zaa];exact congrArg (fun z=>some (HO.dT z)) (ZmU ks key (Zgn ks key+1))
theorem Zkk {x3 x4 x5:Option V}(hd:H d=some (.dT (ks.map emb)))(nd:(ks.map (·.1)).Nodup)(kl:ks.length≤1000)(k:∀(l:Addr) (zs:List V) (ws:List (List Int×Int)) (H':Hp),Bt d H H'→H l=none→H' l=some (.lst zs)→PqL H' zs ws→ws.Perm ks→Q (.ref l) H'):ZpK K {nx:=Z,rt:=Q } [some (.ref b),some (.ref c),some (.ref d),x3,x4,x5] H:=by
 refine⟨_,rfl,d,_,rfl,hd,fun o=> ?_⟩;have b1:Bt d H (upd H d (.frz o (.dT (ks.map emb)))):=fun b u n e=>by rw[Zan n];exact e
 have f1:(upd H d (.frz o (.dT (ks.map emb)))) d=some (.frz o (.dT (ks.map emb))):=Zaa;generalize upd H d (.frz o (.dT (ks.map emb)))=H1 at b1 f1⊢;refine ZoE (d:=d) (o:=o) (kvs:=ks.map emb) (fun i ys H'=>PqL H' ys (ks.take i)∧Zai H1 H') ⟨⟨rfl,fun i y e h=>by cases h⟩,Zai.refl H1⟩ (by rw[Qaa];exact kl) (fun i ys H' h=>by rw[h.1.1,QaC];exact Qbi _ _) (fun i ys H' _ h=>h.2 _ _ f1) ?_ ?_
 ·rintro i k0 v b ys H2 pre qm hkv hb ⟨p2,s2⟩;rw[Qah] at hkv
  cases ek:ks[i]? with
  |none=>rw[ek] at hkv;cases hkv
  |some e=>
   rw[ek] at hkv;cases hkv
   have hb':H2 b=some (.tup (e.1.map V.int)):=by
    have:H2 b=some (.tup ((e.1.map Sum.inl).map kV)):=hb;rw[Qb1] at this;exact this
   rcases pre with _|⟨q0,_|⟨q1,pre⟩⟩
   ·cases qm
   ·refine⟨⟨[some _],rfl,rfl⟩,?_⟩;unfold Zcp;dsimp only;rw[if_pos (rfl:true=true)];refine⟨_,rfl,b,_,rfl,.inr (SqT.of hb'),fun l hl=> ?_⟩;have s3:=Zai.nw (o:=.lst (e.1.map V.int)) (Zai.refl H2) hl;have f3:(upd H2 l (.lst (e.1.map V.int))) l=some (.lst (e.1.map V.int)):=Zaa;generalize upd H2 l (.lst (e.1.map V.int))=H3 at s3 f3⊢;refine⟨_,rfl,_,rfl,d,.int e.2,rfl,.inr ⟨ks.map emb,e.1.map Sum.inl,b,.inr ⟨o,s3 _ _ (s2 _ _ f1)⟩,rfl,s3 _ _ hb,(Znj nd ek).symm⟩,(by show 2≤sizeLine;decide),fun q hq=> ?_⟩;have s4:=Zai.nw (o:=.tup [.ref l,.int e.2]) (Zai.refl H3) hq;refine⟨?_,s2.trans (s3.trans s4)⟩;rw[Zat ek];exact PqL.snoc (p2.up (s3.trans s4)) Zaa (s4 _ _ f3)
   ·cases qm
 ·rintro ys H2 ⟨p2,s2⟩ D hD;rw[Qaa,QaZ] at p2;have s3:=Zai.nw (o:=.lst ys) (Zai.refl H2) hD;refine⟨D,ys,ks,rfl,SqL.of Zaa,p2.up s3,kl,nd,fun l zs ws hl pr pm=> ?_⟩;have s4:=Zai.nw (o:=.lst zs) (Zai.refl (upd H2 D (.lst ys))) hl;have st:=s2.trans (s3.trans s4)
  have lf:H l=none:=by
   cases z:H l with
   |none=>rfl
   |some u=>
    by_cases e:l=d
    ·rw[e,s3 _ _ (s2 _ _ f1)] at hl;cases hl
    ·rw[s3 _ _ (s2 _ _ (b1 _ _ e z))] at hl;cases hl
  exact k l zs ws _ (fun a o n e=>st _ _ (b1 a o n e)) lf Zaa (pr.up s4) pm
theorem ZhV {α:Type}:∀{hs:List (List α)},(∀h∈hs,h≠ [])→hs.length≤hs.flatten.length
 | [],_=>Qaf _
 |h::hs,n=>by
  have ih:=ZhV (hs:=hs) fun x hx=>n x (QaD _ hx);have h0:h.length≠0:=fun z=>n h QaA (List.length_eq_zero_iff.mp z);rw[Qa4,Qae,QaF];omega
theorem Zkl {α:Type}:∀{hs:List (List α)} {h:List α},h∈hs→h.length≤hs.flatten.length
 |g::hs,h,m=>by
  rw[Qa4,Qae];rcases QaJ.mp m with rfl|m
  ·omega
  ·have:=Zkl m;omega
theorem Zgd {xs:List V}(a:Zne H b c xs S r)(k:∀(l:Addr) (zs:List V) (us:List (List Int×Int)) (H':Hp),Zai H H'→H l=none→H' l=some (.lst zs)→PqL H' zs us→us.length≤160→(0<r.sum→us≠ [])→(∀u∈us,ZbX S u.1∧∀x∈u.1,x≤160)→Q (.ref l) H'):Zng K {nx:=Z,rt:=Q } [some (.ref b),some (.ref c),none,none,none,none] H:=by
 have lS:=a.oS.len;have rl:r.length≤18:=by have:=a.ev.len;omega
 have cl:(Za1 r).length≤160:=by have:=Zd1 a.ev.nn;have:=a.bd;omega
 refine fun d hd0=> ?_;have s1:=Zai.nw (o:=.dT []) (Zai.refl H) hd0;have hd1:(upd H d (.dT [])) d=some (.dT (([]:List (List Int×Int)).map emb)):=Zaa;generalize upd H d (.dT [])=H1 at s1 hd1⊢;refine⟨_,rfl,c,r,rfl,s1 _ _ a.hc,a.ev.nn,a.bd,fun l1 ps1 H2 s2 f2 hl1 it1=> ?_⟩;refine⟨_,rfl,_,rfl,b,c,xs,S,r,rfl,a.up (s1.trans s2),fun l2 ps2 H3 s3 f3 hl2 pa2=> ?_⟩;refine⟨l1,l2,ps1,ps2,Za1 r,Zcr S r,rfl,s3 _ _ hl1,it1.up s3.tups,hl2,pa2,Zd0 r,by omega,fun p hp=>Zna a.oS a.ev hp,fun c3 zs hs H4 s4 f4 hc3 ls pt=> ?_⟩;have s14:=s2.trans (s3.trans s4);have hd4:=s14 _ _ hd1;have s04:=s1.trans s14;have ncd:c3≠d:=fun z=>by rw[z,hd4] at hc3;cases hc3
 have hl:hs.length≤160:=by have:=ZhV pt.ne;rw[pt.perm.length_eq] at this;omega
 have zl:zs.length=hs.length:=ls.1;have hl1:∀h∈hs,h.length≤160:=fun h m=>by have:=Zkl m;rw[pt.perm.length_eq] at this;omega
 refine⟨c3,rfl,⟨_,SqL.of hc3⟩,ZbI (K:=K) (a:=c3) (xs:=zs) (fun i σ H'=>∃(x3 x4 x5:Option V) (ks:List (List Int×Int)),σ=[some (.ref b),some (.ref c),some (.ref d),x3,x4,x5]∧Bt d H4 H'∧H' d=some (.dT (ks.map emb))∧DIs ((hs.take i).map fun h=>((1:Int),Zdm r.length h)) ks) ⟨_,_,_,[],rfl,fun _ _ _ e=>e,hd4,DIs.nil⟩ (fun i σ H' _ h=>by obtain⟨_,_,_,_,_,b',_⟩:=h;exact SqL.of (b' _ _ ncd hc3)) ?_ ?_⟩
 ·rintro i y σ H5 hy ⟨x3,x4,x5,ks,rfl,b5,hd5,di⟩;have il:i<hs.length:=by rw[←zl];exact(Qac.mp hy).1
  have eh:hs[i]?=some hs[i]:=Qab il;obtain⟨ai,ys,rfl,hai,it⟩:=ls.2 i y _ hy eh;have mh:hs[i]∈hs:=Qbo il;generalize hs[i]=h at eh it mh;have nad:ai≠d:=fun z=>by rw[z,hd4] at hai;cases hai
  have t5:ZbP H4 H5:=fun q zs e=>b5 q _ (fun z=>by rw[z,hd4] at e;cases e) e;have kl:ks.length≤160:=by have:=di.len;rw[Qaa,QaC] at this;omega
  have ncc:c≠d:=fun z=>by have:=s04 _ _ a.hc;rw[z,hd4] at this;cases this
  refine Zkj (K:=K) (r:=r) (b5 _ _ ncc (s04 _ _ a.hc)) rl (b5 _ _ nad hai) (it.up t5) (fun u hu=> ?_) (hl1 h mh) hd5 (by omega) fun x4 x5 H6 b6 hd6=> ?_
  ·obtain⟨k,j,_,_,_,e⟩:=Zc1.mp (pt.perm.subset (Qa7.mpr ⟨h,mh,hu⟩));exact⟨_,_,e⟩
  ·refine⟨_,x4,x5,_,rfl,fun q o n e=>b6 q o n (b5 q o n e),hd6,?_⟩;rw[Zat eh,Qam];exact di.put ((1:Int),Zdm r.length h)
 ·rintro σ H5 ⟨x3,x4,x5,ks,rfl,b5,hd5,di⟩;rw[zl,QaZ] at di;have kl:ks.length≤160:=by have:=di.len;rw[Qaa] at this;omega
  refine Zkk (K:=K) hd5 di.nd (by omega) fun l zs2 ws H6 b6 lf hl6 pq pm=> ?_;have b46:Bt d H4 H6:=fun q o n e=>b6 q o n (b5 q o n e);have s06:Zai H H6:=fun q o e=>b46 q o (Zak e hd0) (s04 _ _ e)
  have l0:H l=none:=by
   cases z:H l with
   |none=>rfl
   |some u=>rw[b5 _ _ (Zak z hd0) (s04 _ _ z)] at lf;cases lf
  refine k l zs2 ws H6 s06 l0 hl6 pq (by rw[pm.length_eq];exact kl) (fun pos z=> ?_) fun u hu=> ?_
  ·rw[z] at pm;have kz:ks=[]:=pm.nil_eq.symm
   have hz:hs≠ []:=fun z=>by
    have p:=pt.perm;rw[z] at p
    have:(Za1 r).length=0:=by rw[←p.length_eq];rfl
    have:=Zd1 a.ev.nn;omega
   cases hs with
   |nil=>exact hz rfl
   |cons h0 ht=>
    have:=(di.mem (Zdm r.length h0)).mpr (by simp);rw[kz] at this;cases this
  ·have hk:u.1∈ks.map (·.1):=Qaz.mpr ⟨u,pm.subset hu,rfl⟩
   have:=(di.mem u.1).mp hk;rw[Qb1] at this;obtain⟨h,mh,e⟩:=Qaz.mp this;have e:Zdm r.length h=u.1:=e;rw[←e];refine⟨Zls a.oS a.ev pt mh,fun x hx=> ?_⟩;obtain⟨j,_,rfl⟩:=Qaz.mp hx;have h1:=hl1 h mh;have h2:Zmj h ((j:Int)+1)≤h.length:=by unfold Zmj;have:=List.count_le_length (a:=(j:Int)+1) (l:=h.map Zf8);rw[Qaa] at this;exact this
   omega
end
section
variable {K:PySem.W.Frag}
theorem Zkm {b c:Int}(hm:m∈[a,b,c])(hle:∀n∈[a,b,c],n≤m):2*m≤a+b+c↔a≤b+c∧b≤a+c∧c≤a+b:=by
 have h1:=hle a (by simp);have h2:=hle b (by simp);have h3:=hle c (by simp);simp only[QaJ,Qbe,Qco] at hm;rcases hm with rfl|rfl|rfl<;>omega
theorem Ziv {p:Addr}{b c:Int}(hp:SqL K H p ([a,b,c].map V.int))(k:Q (.bl (ZiB a b c)) H):Zpu K {nx:=Z,rt:=Q } [some (.ref p)] H:=by
 have es:[a,b,c].sum=a+b+c:=by simp;omega
 refine⟨_,rfl,p,[a,b,c],rfl,hp,_,2,rfl,rfl,(by show(0:Int)<2;decide),rfl,decide ((a+b+c) %2=0),?_,?_⟩
 ·show V.bl (decide (V.int ([a,b,c].sum%2)=V.int 0))=_;rw[es];congr 1;rw[Qci];exact⟨fun e=>V.int.inj e,fun e=>congrArg V.int e⟩
 by_cases h0:(a+b+c) %2=0
 ·rw[Qan h0];refine ZdH ⟨_,rfl,p,[a,b,c],rfl,hp,by simp,fun m hm hle=>⟨2,m,rfl,rfl,.inl ⟨by decide,by decide⟩,_,rfl,p,[a,b,c],rfl,hp,_,_,rfl,rfl,?_⟩⟩;show Q (V.bl (decide (2*m≤[a,b,c].sum))) H;rw[es,show decide (2*m≤a+b+c)=ZiB a b c from by unfold ZiB;rw[Qci,Zkm hm hle];exact⟨fun h=>⟨h0,h⟩,fun h=>h.2⟩];exact k
 ·rw[Qal h0];refine ZcQ ?_;rw[show ZiB a b c=false from by unfold ZiB;exact Qal fun h=>h0 h.1] at k;exact k
theorem ZhW {α:Type}(f:α→Bool)(l:List α):((l.take l.length).map f).all id=l.all f:=by rw[QaZ,QdC];rfl
theorem Zkn {xs:List V}:∀{ds:List PyData},xs.length=ds.length→(∀(i:Nat) (x:V) (d:PyData),xs[i]?=some x→ds[i]?=some d→Th H x d)→ds.all ZcL=true→xs=(ds.map Zd2).map V.int∧(ds.map Zd2).all (fun x=>decide (0≤x))=true:=by
 induction xs with
 |nil=>intro ds l _ _;cases ds with
  |nil=>exact⟨rfl,rfl⟩
  |cons _ _=>cases l
 |cons x xs ih=>
  intro ds l th al
  cases ds with
  |nil=>cases l
  |cons d ds=>
   rw[QcR,QbX] at al;have t0:=th 0 x d rfl rfl;obtain⟨e1,e2⟩:=ih (ds:=ds) (by simpa using l) (fun i y e h1 h2=>th (i+1) y e (by simpa using h1) (by simpa using h2)) al.2
   cases t0 with
   |int i=>
    rw[Qa5,Qa5,QcR,e2,Bool.and_true];exact⟨by rw[←e1];rfl,al.1⟩
   |_=>exact absurd al.1 QaG
theorem ZhX {K:PySem.W.Frag}{d:PyData}(h:∀ds,d≠ .list ds):PySem.W.kitOne K (.type (Zhs d)) (.type "list")=some false:=by
 cases d with
 |list ds=>exact absurd rfl (h ds)
 |_=>with_unfolding_all rfl
theorem Zko {d:PyData}(h:∀ds,d≠ .list ds):Zmm S d=false:=by
 cases d with
 |list ds=>exact absurd rfl (h ds)
 |_=>rfl
theorem Zge {s:Addr}{x:V}{d:PyData}{xs:List V}(hs:H s=some (.lst xs))(tS:TuL H xs S)(oS:Zb4 S)(th:Th H x d)(k:∀H',Zai H H'→Q (.bl (Zmm S d)) H'):Znh K {nx:=Z,rt:=Q } [some (.ref s),some x] H:=by
 have lS:=oS.len;have lx:xs.length=S.length:=tS.1;by_cases hl:∃ds,d= .list ds
 case neg=>
  have hn:∀ds,d≠ .list ds:=fun ds e=>hl ⟨ds,e⟩;have k:=k H (Zai.refl H);rw[Zko hn] at k;exact⟨_,rfl,x,_,false,rfl,th.ty,ZhX hn,false,rfl,ZdH k⟩
 obtain⟨ds,rfl⟩:=hl
 cases th with
 | @lst o vs _ ho vl tv=>
 have k:∀H',Zai H H'→Q (.bl (ds.all ZcL && Zfm S (ds.map Zd2))) H':=k;have rl:(ds.map Zd2).length=vs.length:=by rw[Qaa,vl]
 refine⟨_,rfl,.ref o,_,true,rfl,.lst ho,rfl,true,rfl,ZcQ ⟨_,rfl,o,_,rfl,.inl (SqL.of ho),_,rfl,s,xs,rfl,SqL.of hs,rfl,!decide (vs.length=S.length/2*3),?_,?_⟩⟩
 ·show V.bl (!decide (V.int ((vs.length:Nat):Int)=V.int ((xs.length/2*3:Nat):Int)))=_;rw[lx];congr 2;rw[Qci];exact⟨fun e=>by have:=V.int.inj e;omega,fun e=>by rw[e]⟩
 by_cases lr:vs.length=S.length/2*3
 ·rw[Qan lr];refine ZcQ ?_;refine⟨_,rfl,o,rfl,⟨_,SqL.of ho⟩,Zgz (K:=K) (a:=o) (xs:=vs) (fun j ts H'=>ts=((ds.take j).map ZcL).map V.bl∧H=H') ⟨rfl,rfl⟩ (by omega) (fun j ts H' h=>by rw[h.1,Qaa,Qaa,QaC];exact Qbi _ _) (fun j ts H' _ h=>by rw[←h.2];exact SqL.of ho) ?_ ?_⟩
  ·rintro j x ts H9 pre hpl hx ⟨rfl,rfl⟩;have jl:j<ds.length:=by rw[←vl];exact(Qac.mp hx).1
   have ej:ds[j]?=some ds[j]:=Qab jl;have t:=tv j x _ hx ej;rcases pre with _|⟨q0,_|⟨q1,pre⟩⟩
   ·cases hpl
   ·refine⟨⟨[some _],rfl,rfl⟩,?_⟩;unfold Zcp;dsimp only;rw[if_pos (rfl:true=true)];refine⟨_,rfl,x,_,rfl,t,?_,rfl⟩;rw[Zat ej,Qam,Qam];rfl
   ·cases hpl
  rintro ts H9 ⟨rfl,rfl⟩ D hD;rw[vl];have sD:=Zai.nw (o:=.lst (((ds.take ds.length).map ZcL).map V.bl)) (Zai.refl H) hD;have fD:(upd H D (.lst (((ds.take ds.length).map ZcL).map V.bl))) D=some (.lst (((ds.take ds.length).map ZcL).map V.bl)):=Zaa;generalize upd H D (.lst (((ds.take ds.length).map ZcL).map V.bl))=HA at sD fD⊢;refine⟨D,_,rfl,SqL.of fD,_,rfl,?_⟩;rw[ZhW]
  cases ha:ds.all ZcL with
  |false=>rw[ha,Qc8] at k;exact ZdH (k _ sD)
  |true=>
   obtain⟨ev,en⟩:=Zkn vl tv ha;rw[ha,QbT] at k;unfold Zfm at k;rw[rl,Qan lr,QbT,en,QbT] at k;rw[ev] at ho;generalize ds.map Zd2=r at k ho rl en;refine ZcQ ?_;refine⟨_,rfl,s,rfl,⟨_,SqL.of (sD _ _ hs)⟩,Zgz (K:=K) (a:=s) (xs:=xs) (fun j ts H'=>ts=((S.take j).map (Zml r)).map V.bl∧Zai HA H') ⟨rfl,Zai.refl _⟩ (by omega) (fun j ts H' h=>by rw[h.1,Qaa,Qaa,QaC];exact Qbi _ _) (fun j ts H' _ h=>SqL.of (h.2 _ _ (sD _ _ hs))) ?_ ?_⟩
   ·rintro j x ts HB pre hpl hx ⟨rfl,sB⟩;obtain⟨t,q,et,rfl,hq⟩:=(tS.up (sD.trans sB).tups).take hx;have mt:t∈S:=Qaj et;obtain⟨a1,a2,a3,rfl⟩:=ZcM (oS.three t mt);rcases pre with _|⟨q0,_|⟨q1,pre⟩⟩
    ·cases hpl
    ·refine⟨⟨[some _],rfl,rfl⟩,?_⟩;unfold Zcp;dsimp only;rw[if_pos (rfl:true=true)];refine⟨_,rfl,_,rfl,q,o,[a1,a2,a3],r,rfl,hq,sB _ _ (sD _ _ ho),by show 3≤10;decide,fun z hz=>⟨(oS.side mt hz).1,ZdU oS (rl.trans lr) mt hz⟩,fun l hl=> ?_⟩;refine⟨l,crs r a1,crs r a2,crs r a3,rfl,SqL.of Zaa,?_,sB.trans (Zai.nw (Zai.refl HB) hl)⟩;rw[Zat et,Qam,Qam];rfl
    ·cases hpl
   ·rintro ts HB ⟨rfl,sB⟩ D2 hD2;have sC:=Zai.nw (o:=.lst (((S.take xs.length).map (Zml r)).map V.bl)) (Zai.refl HB) hD2;refine⟨D2,_,rfl,SqL.of Zaa,?_⟩;rw[lx,ZhW];rw[lx] at sC;exact k _ (sD.trans (sB.trans sC))
 ·rw[Qal lr];have k:=k H (Zai.refl H);unfold Zfm at k;rw[rl,Qal lr,Qc8,Bool.and_false] at k;exact ZdH k
theorem ZpX {B C:Int}(p:ms.Perm [A,B,C])(s:ms.Pairwise (· ≤ ·)):∃m1 m2 m3,ms=[m1,m2,m3]∧m1+m2+m3=A+B+C∧(m3≤m1+m2↔A≤B+C∧B≤A+C∧C≤A+B):=by
 have l:ms.length=3:=p.length_eq
 match ms,l with
 | [m1,m2,m3],_=>
  have sm:[m1,m2,m3].sum=[A,B,C].sum:=by
   have:∀{a b:List Int},a.Perm b→a.sum=b.sum:=by
    intro a b q
    induction q with
    |nil=>rfl
    |cons x _ ih=>simp only[Qb2,ih]
    |swap x y l=>simp only[Qb2];omega
    |trans _ _ i1 i2=>exact i1.trans i2
   exact this p
  simp only[Qb2,QeO] at sm;simp only[QdF,QaJ,Qbe,Qco] at s;have h1:=s.1 m3 (Or.inr rfl);have h2:=s.2.1 m3 rfl;refine⟨m1,m2,m3,rfl,by omega,?_⟩
  rw[←Zkm (m:=m3) (p.subset (by simp)) (fun n hn=>by
   have:=p.symm.subset hn
   simp only[QaJ,Qbe,Qco] at this
   rcases this with rfl|rfl|rfl<;>omega)]
  omega
theorem Zkp {s o:Addr}{xs:List V}{x2:Option V}(hs:H s=some (.lst xs))(tS:TuL H xs S)(oS:Zb4 S)(ho:H o=some (.lst (r.map V.int)))(lr:r.length=S.length/2*3)(k:∀H',Zai H H'→Q (.bl (S.all (Zml r))) H'):ZpL K {nx:=Z,rt:=Q } [some (.ref s),some (.ref o),x2,none,none,none,none] H:=by
 have lx:xs.length=S.length:=tS.1;refine⟨_,rfl,s,rfl,⟨_,SqL.of hs⟩,ZbI (K:=K) (a:=s) (xs:=xs) (fun i σ H'=>Zai H H'∧(S.take i).all (Zml r)=true∧∃x3 x4 x5 x6:Option V,σ=[some (.ref s),some (.ref o),x2,x3,x4,x5,x6]) ⟨Zai.refl H,rfl,_,_,_,_,rfl⟩ (fun i σ H' _ h=>SqL.of (h.1 _ _ hs)) ?_ ?_⟩
 ·rintro i x σ H1 hx ⟨s1,al,x3,x4,x5,x6,rfl⟩;obtain⟨t,q,et,rfl,hq⟩:=(tS.up s1.tups).take hx;have mt:t∈S:=Qaj et;obtain⟨a1,a2,a3,rfl⟩:=ZcM (oS.three t mt);dsimp only[Zas];refine Zd3 (K:=K) (q:=q) (c:=o) (i:=3) (j:=1) (r:=r) hq (by show 3≤10;decide) (s1 _ _ ho) rfl rfl (fun z hz=>⟨(oS.side mt hz).1,ZdU oS lr mt hz⟩) fun D hD=> ?_;have s2:=s1.trans (Zai.nw (o:=.lst (([a1,a2,a3].map (crs r)).map V.int)) (Zai.refl H1) hD);have f2:(upd H1 D (.lst (([a1,a2,a3].map (crs r)).map V.int))) D=some (.lst (([a1,a2,a3].map (crs r)).map V.int)):=Zaa;generalize upd H1 D (.lst (([a1,a2,a3].map (crs r)).map V.int))=H2 at s2 f2⊢;have et3:Zml r [a1,a2,a3]=ZiB (crs r a1) (crs r a2) (crs r a3):=rfl;refine⟨D,[crs r a1,crs r a2,crs r a3],rfl,SqL.of f2,by show 3<64;decide,fun l ms hl pm so=> ?_⟩;generalize crs r a1=A at pm et3;generalize crs r a2=B at pm et3;generalize crs r a3=C at pm et3;obtain⟨m1,m2,m3,rfl,sm,tri⟩:=ZpX pm so;have s3:=s2.trans (Zai.nw (o:=.lst ([m1,m2,m3].map V.int)) (Zai.refl H2) hl);have f3:(upd H2 l (.lst ([m1,m2,m3].map V.int))) l=some (.lst ([m1,m2,m3].map V.int)):=Zaa;generalize upd H2 l (.lst ([m1,m2,m3].map V.int))=H3 at s3 f3⊢
  have bad:ZiB A B C=false→Q (.bl false) H3:=fun e=>by
   have:S.all (Zml r)=false:=List.all_eq_false.mpr ⟨_,mt,by rw[et3,e];decide⟩;rw[this] at k;exact k H3 s3
  refine⟨l,_,rfl,SqL.of f3,rfl,_,_,rfl,_,_,rfl,_,_,rfl,rfl,?_⟩;refine⟨_,rfl,_,rfl,_,_,rfl,rfl,_,rfl,_,_,rfl,rfl,_,2,rfl,rfl,(by show(0:Int)<2;decide),rfl,!decide ((A+B+C) %2=0),?_,?_⟩
  ·show V.bl (!decide (V.int ((m1+m2+m3) %2)=V.int 0))=_;rw[sm];congr 2;rw[Qci];exact⟨fun e=>V.int.inj e,fun e=>congrArg V.int e⟩
  by_cases h0:(A+B+C) %2=0
  ·rw[Qan h0];refine ZcQ ⟨_,rfl,_,rfl,_,rfl,_,_,rfl,rfl,_,_,rfl,rfl,_,rfl,?_⟩;show if decide (m1+m2<m3)=true then _ else _;by_cases h1:m1+m2<m3
   ·rw[Qan h1];exact ZdH (bad (by unfold ZiB;exact Qal fun h=>by have:=tri.mpr h.2;omega))
   ·rw[Qal h1];refine ZcQ ⟨s3,?_,_,_,_,_,rfl⟩;rw[Zat et,List.all_append,al,QbT];show(Zml r [a1,a2,a3] && true)=true;rw[Bool.and_true,et3];unfold ZiB;exact Qan ⟨h0,tri.mp (by omega)⟩
  ·rw[Qal h0];exact ZdH (bad (by unfold ZiB;exact Qal fun h=>h0 h.1))
 ·rintro σ H1 ⟨s1,al,x3,x4,x5,x6,rfl⟩;rw[lx,QaZ] at al;rw[al] at k;exact k H1 s1
theorem Zfn {s:Addr}{x:V}{d:PyData}{xs:List V}(hs:H s=some (.lst xs))(tS:TuL H xs S)(oS:Zb4 S)(th:Th H x d)(k:∀H',Zai H H'→Q (.bl (Zmm S d)) H'):Zlw K {nx:=Z,rt:=Q } [some (.ref s),some x,none,none,none,none,none] H:=by
 have lS:=oS.len;have lx:xs.length=S.length:=tS.1
 have hdiv:(xs.length:Int)*3/2=((S.length/2*3:Nat):Int):=by
  obtain⟨m,e,_⟩:=oS.even;rw[lx];omega
 by_cases hl:∃ds,d= .list ds
 case neg=>
  have hn:∀ds,d≠ .list ds:=fun ds e=>hl ⟨ds,e⟩;have k:=k H (Zai.refl H);rw[Zko hn] at k;exact⟨_,rfl,x,_,false,rfl,th.ty,ZhX hn,false,rfl,ZdH k⟩
 obtain⟨ds,rfl⟩:=hl
 cases th with
 | @lst o vs _ ho vl tv=>
 have k:∀H',Zai H H'→Q (.bl (ds.all ZcL && Zfm S (ds.map Zd2))) H':=k;have rl:(ds.map Zd2).length=vs.length:=by rw[Qaa,vl]
 refine⟨_,rfl,.ref o,_,true,rfl,.lst ho,rfl,true,rfl,ZcQ ⟨_,rfl,o,_,rfl,.inl (SqL.of ho),_,rfl,s,xs,rfl,.inl (SqL.of hs),_,3,rfl,rfl,.inr ⟨by decide,by decide⟩,_,2,rfl,rfl,⟨by decide,by decide⟩,rfl,!decide (vs.length=S.length/2*3),?_,?_⟩⟩
 ·show V.bl (!decide (V.int ((vs.length:Nat):Int)=V.int ((xs.length:Int)*3/2)))=_;rw[hdiv];congr 2;rw[Qci];exact⟨fun e=>by have:=V.int.inj e;omega,fun e=>by rw[e]⟩
 by_cases lr:vs.length=S.length/2*3
 ·rw[Qan lr];refine ZcQ ?_;refine⟨_,rfl,o,rfl,⟨_,SqL.of ho⟩,ZbI (K:=K) (a:=o) (xs:=vs) (fun i σ H'=>H=H'∧(ds.take i).all ZcL=true∧∃x2:Option V,σ=[some (.ref s),some (.ref o),x2,none,none,none,none]) ⟨rfl,rfl,_,rfl⟩ (fun i σ H' _ h=>by rw[←h.1];exact SqL.of ho) ?_ ?_⟩
  ·rintro i y σ H1 hy ⟨rfl,al,x2,rfl⟩;have jl:i<ds.length:=by rw[←vl];exact(Qac.mp hy).1
   have ej:ds[i]?=some ds[i]:=Qab jl;have mj:ds[i]∈ds:=Qbo jl;generalize ds[i]=e at ej mj;have t:=tv i y _ hy ej
   have bad:ZcL e=false→Q (.bl false) H:=fun z=>by
    have:ds.all ZcL=false:=List.all_eq_false.mpr ⟨_,mj,by rw[z];decide⟩;rw[this,Qc8] at k;exact k H (Zai.refl H)
   dsimp only[Zas];refine⟨_,rfl,y,_,_,rfl,t.ty,Zjc e,_,rfl,?_⟩
   cases hI:isInt e with
   |false=>exact ZdH (bad (by cases e<;>first|rfl|cases hI))
   |true=>
    refine ZcQ ⟨_,rfl,y,_,_,rfl,t.ty,ZeP e,_,rfl,?_⟩
    cases hB:Zjb e with
    |true=>exact ZdH (bad (by cases e<;>first|rfl|cases hB))
    |false=>
     refine ZcQ ?_
     cases t with
     |int n=>
      refine⟨_,rfl,_,_,rfl,rfl,_,rfl,?_⟩;by_cases n0:n<0
      ·rw[Qan n0];exact ZdH (bad (Qal (by omega)))
      ·rw[Qal n0];refine ZcQ ⟨rfl,?_,_,rfl⟩;rw[Zat ej,List.all_append,al,QbT];show(decide (0≤n) && true)=true;rw[Qan (by omega)];rfl
     |bl _=>cases hB
     |non=>cases hI
     |str _=>cases hI
     |tup _ _ _=>cases hI
     |lst _ _ _=>cases hI
  ·rintro σ H1 ⟨rfl,al,x2,rfl⟩;rw[vl,QaZ] at al;obtain⟨ev,en⟩:=Zkn vl tv al;rw[al,QbT] at k;unfold Zfm at k;rw[rl,Qan lr,QbT,en,QbT] at k;rw[ev] at ho;generalize ds.map Zd2=r at k ho rl en;exact Zkp (K:=K) hs tS oS ho (rl.trans lr) k
 ·rw[Qal lr];have k:=k H (Zai.refl H);unfold Zfm at k;rw[rl,Qal lr,Qc8,Bool.and_false] at k;exact ZdH k
theorem Znk (oS:Zb4 S)(ev:ZbX S r):Zmm S (dI r)=true:=by
 have e1:(r.map PyData.int).all ZcL=true:=by
  rw[QdC];exact Qch.mpr fun x hx=>Qan (ev.nn x hx)
 have e2:(r.map PyData.int).map Zd2=r:=by rw[Qb1];exact List.map_id _
 show((r.map PyData.int).all ZcL && Zfm S ((r.map PyData.int).map Zd2))=true;rw[e1,e2,QbT];unfold Zfm;rw[Qan ev.len,QbT,QbX];refine⟨Qch.mpr fun x hx=>Qan (ev.nn x hx),Qch.mpr fun t ht=> ?_⟩;obtain⟨a,b,c,rfl⟩:=ZcM (oS.three t ht);exact Qan (ev.tri a b c ht)
end
section
variable {r:Nat}{t:List Int}{Q:Int}
theorem Zhc (T:Zgp S k i p j r t u P Q U W)(n:Nat):(Zb7 S k i j P Q U W)[n]?=if n=j then some [W,P,(k:Int)+1] else if n=i then some [Q,U,-((k:Int)+1)] else S[n]?:=by
 have il:=(Qac.mp T.ei).1;have jl:=(Qac.mp T.ej).1;unfold Zb7;by_cases c:n=j
 ·rw[if_pos c,c,Qbr (by rw[Qbf];exact jl)]
 ·rw[if_neg c,QbJ (fun z=>c z.symm)];by_cases c2:n=i
  ·rw[if_pos c2,c2,Qbr il]
  ·rw[if_neg c2,QbJ (fun z=>c2 z.symm)]
theorem ZhY (S:List (List Int))(k i j:Nat)(P Q U W:Int):(Zb7 S k i j P Q U W).length=S.length:=by unfold Zb7;rw[Qbf,Qbf]
theorem Zlx (oS:Zb4 S)(ev:ZbX S r0)(hk:k<S.length/2*3)(T:Zgp S k i p j r t u P Q U W):ZbX (Zb7 S k i j P Q U W) (Zip r0 k P Q U W):=by
 obtain⟨⟨nP,nQ⟩,nU,nW⟩:=ZoB oS T;obtain⟨a1,a2⟩:=Zm8 oS ev T;obtain⟨pP,pQ,pU,pW⟩:=Zm9 oS T;have kl:k<r0.length:=by rw[ev.len];exact hk
 have ak:Zau ((k:Int)+1)=(k:Int)+1:=by unfold Zau;rw[if_neg (by omega)]
 have ak':Zau (-((k:Int)+1))=(k:Int)+1:=by rw[aneg];exact ak
 have cP:crs (Zip r0 k P Q U W) P=crs r0 P:=ZdZ pP nP;have cQ:crs (Zip r0 k P Q U W) Q=crs r0 Q:=ZdZ pQ nQ;have cU:crs (Zip r0 k P Q U W) U=crs r0 U:=ZdZ pU nU;have cW:crs (Zip r0 k P Q U W) W=crs r0 W:=ZdZ pW nW;have ck:∀s,Zau s=(k:Int)+1→crs (Zip r0 k P Q U W) s=(if crs r0 Q+crs r0 W>crs r0 P+crs r0 U then crs r0 Q+crs r0 W else crs r0 P+crs r0 U)-r0.getD k 0:=fun s hs=>Ziq kl hs;refine⟨by rw[Zlp,ev.len,ZhY],fun x hx=> ?_,fun a b c h=> ?_⟩
 ·unfold Zip at hx;rcases QdO hx with z|z
  ·exact ev.nn x z
  ·rw[z];split<;>omega
 ·obtain⟨n,hn⟩:=Qat.mp h;rw[Zhc T] at hn;by_cases c1:n=j
  ·rw[if_pos c1] at hn;cases hn;rw[cW,cP,ck _ ak];split<;>omega
  ·rw[if_neg c1] at hn;by_cases c2:n=i
   ·rw[if_pos c2] at hn;cases hn;rw[cQ,cU,ck _ ak'];split<;>omega
   ·rw[if_neg c2] at hn;have ms:[a,b,c]∈S:=Qaj hn
    have ne:∀(q:Nat) (s:Int),[a,b,c][q]?=some s→crs (Zip r0 k P Q U W) s=crs r0 s:=fun q s hs=>by
     refine ZdZ (oS.side ms (Qaj hs)).1 fun z=> ?_;rcases T.all n q _ s hn hs z with w|w
     ·exact c2 w.1
     ·exact c1 w.1
    rw[ne 0 a rfl,ne 1 b rfl,ne 2 c rfl];exact ev.tri a b c ms
end
theorem Znl (oS:Zb4 S){r:Nat}{t:List Int}{Q:Int}(T:Zgp S k i p j r t u P Q U W):∀z∈[P,Q,U,W],1≤Zau z∧Zau z≤((S.length/2*3:Nat):Int):=by
 have o:=ZgX oS T;have jl:=(Qac.mp T.ej).1;have il:=(Qac.mp T.ei).1;have m1:[W,P,(k:Int)+1]∈Zb7 S k i j P Q U W:=Qaj (i:=j) (by rw[Zhc T,if_pos rfl]);have m2:[Q,U,-((k:Int)+1)]∈Zb7 S k i j P Q U W:=Qaj (i:=i) (by rw[Zhc T,if_neg (by have:=T.lt;omega),if_pos rfl]);intro z hz
 have key:∀{w:List Int} {s:Int},w∈Zb7 S k i j P Q U W→s∈w→1≤Zau s∧Zau s≤((S.length/2*3:Nat):Int):=fun{w s} hw hs=>by
  have:=o.side hw hs;rw[ZhY] at this;omega
 simp only[QaJ,Qbe,Qco] at hz;rcases hz with rfl|rfl|rfl|rfl
 ·exact key m1 (by simp)
 ·exact key m2 (by simp)
 ·exact key m2 (by simp)
 ·exact key m1 (by simp)
theorem ZoI (h1:1≤Zau s)(h2:Zau s≤(r.length:Int)):atI (r.map V.int) (Zau s-1)=some (V.int (crs r s)):=by
 have il:(Zau s-1).toNat<r.length:=by omega
 rw[show Zau s-1=(((Zau s-1).toNat:Nat):Int) by omega];refine ZbL ?_;rw[Qah,Qab il];unfold crs;rw[Qai,Qab il];rfl
def Zd5:Sp:=fun vs H Q _=>∃(b c:Addr) (xs:List V) (S:List (List Int)) (r:List Int) (k i p j q:Nat) (t u:List Int) (P Q' U W:Int),vs=[.ref b,.ref c,.int ((k:Int)+1)]∧H b=some (.lst xs)∧TuL H xs S∧Zb4 S∧H c=some (.lst (r.map V.int))∧r.length=S.length/2*3∧k<S.length/2*3∧Zgp S k i p j q t u P Q' U W∧
 ∀(l:Addr) (H':Hp),Zai H H'→H l=none→H' l=some (.lst ((Zip r k P Q' U W).map V.int))→Q (.ref l) H'
def Zly (K:PySem.W.Frag):TS:=Zbq (ZbU (ZbA 1 (ZlL K (tOp (Zny K) (ZaY Zcl [] E0 (Zae (Zam 0) (Zae (Zam 2) ZaA))) (tC (V.int 1)))) (Zas 0) Zcp (tOp (ZdC K) (Zam 2) (tOp (rI0 fun i j=>V.int (i-j)) (tCB (fun xs H Q=>∃i,xs=[V.int i]∧Q (V.int (if i<0 then -i else i)) H) (Zae (Zam 0) ZaA)) (tC (V.int 1))))) (ZnY K 4 (Zbb (Zas 3) (Zbb (Zas 4) (Zbb (Zas 5) (Zbb (Zas 6) Zgs)))))) (Zct (tOp Znz (tOp Znz (tSl (ZoW K) (Zam 1) ZcP (ZfF (tOp (rI0 fun i j=>V.int (i-j)) (Zam 2) (tC (V.int 1))))) (ZfA (Zae (tOp (rI0 fun i j=>V.int (i-j)) (tCB (fun xs H Q=>∃i j,xs=[V.int i,V.int j]∧Q (V.int (if j>i then j else i)) H) (Zae (tOp (rI0 fun i j=>V.int (i+j)) (Zam 3) (Zam 5)) (Zae (tOp (rI0 fun i j=>V.int (i+j)) (Zam 4) (Zam 6)) ZaA))) (tOp (ZdC K) (Zam 1) (tOp (rI0 fun i j=>V.int (i-j)) (Zam 2) (tC (V.int 1))))) ZaA))) (tSl (ZoW K) (Zam 1) (ZfF (Zam 2)) ZcP)))
theorem Zfo {K:PySem.W.Frag}{xs:List V}{q:Nat}{t:List Int}(hb:H b=some (.lst xs))(tS:TuL H xs S)(oS:Zb4 S)(hc:H c=some (.lst (r.map V.int)))(rl:r.length=S.length/2*3)(hk:k<S.length/2*3)(T:Zgp S k i p j q t u P Q' U W)
  (kk:∀(l:Addr) (H':Hp),Zai H H'→H l=none→H' l=some (.lst ((Zip r k P Q' U W).map V.int))→Q (.ref l) H'):
  Zly K {nx:=Z,rt:=Q } [some (.ref b),some (.ref c),some (.int ((k:Int)+1)),none,none,none,none] H:=by
 have lS:=oS.len;refine⟨_,rfl,_,rfl,b,xs,S,k,rfl,hb,tS,oS,hk,fun h=>(Zj4 hk h T).elim,fun i' p' j' r' t' u' P' Q2 U' W' T' c0 d e H1 s1 hc0 he hd=> ?_⟩;obtain⟨rfl,rfl,rfl,rfl,rfl,rfl⟩:=ZhN T T';have f4:=Znl oS T;have hc1:=s1 _ _ hc;refine⟨c0,_,1,.ref d,rfl,rfl,SqT.of hc0,rfl,d,rfl,⟨_,SqT.of hd⟩,Zi9 (K:=K) (a:=d) (xs:=[P,Q',U,W].map V.int) (fun m ws H'=>ws=(([P,Q',U,W].take m).map (crs r)).map V.int∧H1=H') ⟨rfl,rfl⟩ (by rw[Qaa];show 4≤1000;decide) (fun m ws H' h=>by rw[h.1,Qaa,Qaa,QaC];exact Qbi _ _) (fun m ws H' _ h=>by rw[←h.2];exact SqT.of hd) ?_ ?_⟩
 ·rintro n z ws H' pre hpl hz ⟨rfl,rfl⟩;rw[Qah] at hz
  cases ez:[P,Q',U,W][n]? with
  |none=>rw[ez] at hz;cases hz
  |some sd=>
   rw[ez] at hz;cases hz;have sb:=f4 sd (Qaj ez);rcases pre with _|⟨q0,_|⟨q1,pre⟩⟩
   ·cases hpl
   ·refine⟨⟨[some _],rfl,rfl⟩,?_⟩;unfold Zcp;dsimp only;rw[if_pos (rfl:true=true)];refine⟨_,rfl,_,rfl,sd,rfl,_,_,rfl,rfl,c,_,_,_,rfl,rfl,SqL.of hc1,ZoI sb.1 (by rw[rl];exact sb.2),?_,rfl⟩;rw[Zat ez,Qam,Qam];rfl
   ·cases hpl
 rintro ws H' ⟨rfl,rfl⟩ D hD;have s2:=Zai.nw (o:=.lst [.int (crs r P),.int (crs r Q'),.int (crs r U),.int (crs r W)]) (Zai.refl H1) hD;have fD:(upd H1 D (.lst [.int (crs r P),.int (crs r Q'),.int (crs r U),.int (crs r W)])) D=some (.lst [.int (crs r P),.int (crs r Q'),.int (crs r U),.int (crs r W)]):=Zaa;change ZnY K 4 _ _ _ (upd H1 D (.lst [.int (crs r P),.int (crs r Q'),.int (crs r U),.int (crs r W)])) _;generalize upd H1 D (.lst [.int (crs r P),.int (crs r Q'),.int (crs r U),.int (crs r W)])=H2 at s2 fD⊢;refine⟨D,_,rfl,SqL.of fD,rfl,_,_,rfl,_,_,rfl,_,_,rfl,_,_,rfl,rfl,?_⟩;have s12:=s1.trans s2;have hc2:=s12 _ _ hc;have kl:k<r.length:=by omega
 have ekI:(k:Int)+1-1=(k:Int):=by omega
 have at1:atI (r.map V.int) ((k:Int)+1-1)=some (V.int (r.getD k 0)):=by
  rw[ekI];refine ZbL ?_;rw[Qah,Qab kl,Qai,Qab kl];rfl
 refine⟨_,rfl,_,rfl,_,_,rfl,rfl,_,rfl,c,_,rfl,SqL.of hc2,fun p1 hp1=> ?_⟩;rw[ekI,Zjg (by rw[Qaa];omega),←QeG];have s3:=Zai.nw (o:=.lst ((r.take k).map V.int)) (Zai.refl H2) hp1;have f3:(upd H2 p1 (.lst ((r.take k).map V.int))) p1=some (.lst ((r.take k).map V.int)):=Zaa;generalize upd H2 p1 (.lst ((r.take k).map V.int))=H3 at s3 f3⊢;refine⟨_,rfl,_,rfl,_,_,rfl,rfl,_,rfl,_,rfl,_,_,rfl,rfl,_,_,rfl,_,rfl,_,rfl,_,_,rfl,rfl,c,_,_,_,rfl,rfl,SqL.of (s3 _ _ hc2),at1,_,_,rfl,rfl,(by show 1≤sizeLine;decide),fun p2 hp2=> ?_⟩;have s4:=Zai.nw (o:=.lst [.int ((if crs r Q'+crs r W>crs r P+crs r U then crs r Q'+crs r W else crs r P+crs r U)-r.getD k 0)]) (Zai.refl H3) hp2;have f4':(upd H3 p2 (.lst [.int ((if crs r Q'+crs r W>crs r P+crs r U then crs r Q'+crs r W else crs r P+crs r U)-r.getD k 0)])) p2=some (.lst [.int ((if crs r Q'+crs r W>crs r P+crs r U then crs r Q'+crs r W else crs r P+crs r U)-r.getD k 0)]):=Zaa;change Znz _ _ (upd H3 p2 (.lst [.int ((if crs r Q'+crs r W>crs r P+crs r U then crs r Q'+crs r W else crs r P+crs r U)-r.getD k 0)])) _;generalize upd H3 p2 (.lst [.int ((if crs r Q'+crs r W>crs r P+crs r U then crs r Q'+crs r W else crs r P+crs r U)-r.getD k 0)])=H4 at s4 f4'⊢;have tl:(r.take k).length≤18:=by rw[QaC];omega
 refine⟨p1,p2,_,_,rfl,rfl,s4 _ _ f3,f4',QaI (show _≤1000 by rw[Qaa];simp only[QaF,Qbp];omega) (by decide),fun p3 hp3=> ?_⟩;have s5:=Zai.nw (o:=.lst ((r.take k).map V.int++ [.int ((if crs r Q'+crs r W>crs r P+crs r U then crs r Q'+crs r W else crs r P+crs r U)-r.getD k 0)])) (Zai.refl H4) hp3;have f5:(upd H4 p3 (.lst ((r.take k).map V.int++ [.int ((if crs r Q'+crs r W>crs r P+crs r U then crs r Q'+crs r W else crs r P+crs r U)-r.getD k 0)]))) p3=some (.lst ((r.take k).map V.int++ [.int ((if crs r Q'+crs r W>crs r P+crs r U then crs r Q'+crs r W else crs r P+crs r U)-r.getD k 0)])):=Zaa;generalize upd H4 p3 (.lst ((r.take k).map V.int++ [.int ((if crs r Q'+crs r W>crs r P+crs r U then crs r Q'+crs r W else crs r P+crs r U)-r.getD k 0)]))=H5 at s5 f5⊢;have s25:=(s3.trans s4).trans s5;refine⟨_,rfl,_,rfl,_,rfl,c,_,rfl,SqL.of (s25 _ _ hc2),fun p4 hp4=> ?_⟩;rw[show(k:Int)+1=((k+1:Nat):Int) by omega,ZfL (by rw[Qaa];omega),←QeF];have s6:=Zai.nw (o:=.lst ((r.drop (k+1)).map V.int)) (Zai.refl H5) hp4;have f6:(upd H5 p4 (.lst ((r.drop (k+1)).map V.int))) p4=some (.lst ((r.drop (k+1)).map V.int)):=Zaa;generalize upd H5 p4 (.lst ((r.drop (k+1)).map V.int))=H6 at s6 f6⊢;have dl:(r.drop (k+1)).length≤18:=by rw[Qbd];omega
 refine⟨p3,p4,_,_,rfl,rfl,s6 _ _ f5,f6,QaI (show _≤1000 by rw[Qae,Qaa,Qaa];simp only[QaF,Qbp];omega) (by decide),fun p5 hp5=> ?_⟩;have s06:=s12.trans (s25.trans s6);refine kk p5 _ (s06.trans (Zai.nw (Zai.refl H6) hp5)) (s06.free hp5) ?_;rw[Zaa];unfold Zip;rw[List.set_eq_take_append_cons_drop,if_pos kl,Qam,Qa5,Qaw];rfl
end L2
namespace Toy
open PySem L2 PyProof.Rows
variable {f d c b l a:Addr}{r ns:List Int}{S:List (List Int)}{H0 H H':Hp}{w:World}{mg:Str→Option Value}{j:Nat}{P:Program}{base:Heap}{Q:VK}{Z N B C:L2.St→Hp→Prop}{o:HO}{kd:Int}
structure Gb (mg:Str→Option Value):Prop where
 ab:mg "abs" =none
 en:mg "enumerate" =none
 zp:mg "zip" =none
 rp:mg "repr" =none
section
variable {K:PySem.W.Frag}
abbrev ZbD:Stmt:=top 14
theorem Zfp:ZaC ["_law_things", "_law_pairs", "_law_heaps_here", "_law_left_out", "_law_heap", "_law_at", "_law_one", "_law_other", "_law_here", "_law_there"] ["_law_things", "_law_pairs"] (Zag ZbD):=⟨rfl,rfl,rfl,by decide +kernel,rfl,by decide +kernel,by decide +kernel⟩
def Zhd (tp:Bool):Sp:=fun vs H Q _=>∃(a b:Addr) (xs ps:List V) (ts:List (List Int)) (L:List (List Int×List Int)),vs=[.ref a,.ref b]∧H a=some (.lst xs)∧ItL H tp xs ts∧H b=some (.lst ps)∧PaL H tp ps L∧ts.Nodup∧ts.length≤1000∧(∀p∈L,p.1∈ts∧p.2∈ts)∧∀(c:Addr) (zs:List V) (hs:List (List (List Int))) (H':Hp),Zai H H'→H c=none→H' c=some (.lst zs)→LsL H' tp zs hs→ZcY (RL L) ts hs→Q (.ref c) H'
theorem Zlz {fd:FuncData}(F:Fun K "_law_heaps" "_law_heaps" ZbD f fd)(M:Txt mg):Zcc P w K mg base CX0 2 f fd ["_law_things", "_law_pairs"] (Zhd true):=by
 have sc:=Zfp;refine F.ok sc (fun vs H Q E h=> ?_) (fun cdv A outer s H vs Q E hr h=> ?_)
 ·obtain⟨a,b,xs,ps,ts,L,rfl,_⟩:=h;rfl
 ·obtain⟨a,b,xs,ps,ts,L,rfl,ha,iT,hb,iP,nd,sz,inT,k⟩:=h
  refine⟨_,(Zaf (Zav (i:=2) sc.nd rfl (Or.inl rfl) (Zbg Zab))
   (Zaf (Zav (i:=3) sc.nd rfl (Or.inl rfl) (Za9 Zbz (by rfl) M.list Qdd (Zac (pv 0) Zab)))
   (Zaf (ZeE QaV (Zax (Zhq hr) (pv 3) (Zbg Zab) (ZaF _)) (Zaf (Zav (i:=4) sc.nd rfl (Or.inl rfl) (Zbg (ZaV (Zdk Qa0 Qde Qdf ZeK (pv 3) (Zap Zad Zab)) Zab)))
   (Zaf (Zav (i:=5) sc.nd rfl (Or.inl rfl) Zad)
   (Zaf (ZeE QaV (Zax ZkN (pv 5) (Zao (ZaI (K:=K)) (by rfl) M.len Qbj (Zac (pv 4) Zab)) (ZaF _)) (Zaf (Zby QaV rfl (Za3 (pv 1)) (Zcn rfl (Zaq (Zaj (i:=6) sc.nd rfl (Or.inl rfl)) (Zaq (Zaj (i:=7) sc.nd rfl (Or.inl rfl)) Zbe)))
   (Zah (Zby QaV rfl (ZcT (ZaX (Zb2 (ZaX (Zb2 (pv 6) (pv 7) Zab)) (ZaX (Zb2 (pv 7) (pv 6) Zab)) Zab))) (Zcn rfl (Zaq (Zaj (i:=8) sc.nd rfl (Or.inl rfl)) (Zaq (Zaj (i:=9) sc.nd rfl (Or.inl rfl)) Zbe)))
   (Zah (ZbH (PW.pt (ZlK (Zax (ZnW hr) (pv 8) (Zbv (ZaD (K:=K)) (pv 4) (pv 5) (fun _ _=>rfl)) (ZaF _)) (ZiI (Zax (Zon true hr) (pv 9) (pv 3) rfl)))) (Zaf (Zce (Zdk Qa0 PySem.F.slot_list_remove PySem.F.type_list_remove (Zm1 true hr) (pv 3) (Zac (pv 9) Zab)))
   (Zah (Zce (Zdk Qa0 Qbt Qbu Zb1 (pv 4) (Zac (pv 9) Zab))))) ZaU)))))
   (Zah (Zav (i:=5) sc.nd rfl (Or.inl rfl) (Zar ZaS (pv 5) Zad)))))
   (Zah (Zce (Zdk Qa0 Qbt Qbu Zb1 (pv 2) (Zac (pv 4) Zab))))))))
   (Zah (ZaB (pv 2)))))),?_⟩
  exact ZgQ ha iT hb iP nd sz inT k
abbrev ZbZ:Stmt:=top 15
theorem Zhe:ZaC ["_law_side", "_law_at"] ["_law_side", "_law_at"] (Zag ZbZ):=⟨rfl,rfl,rfl,by decide +kernel,rfl,by decide +kernel,by decide +kernel⟩
def ZoJ:Sp:=fun vs H Q _=>∃(s:Int) (b:Bool),vs=[.int s,.int (if b then 1 else 0)]∧∀p,H p=none→Q (.ref p) (upd H p (.tup ((eC s b).map V.int)))
theorem ZoK {fd:FuncData}(F:Fun K "_law_end" "_law_end" ZbZ f fd)(M:Txt mg)(B:Gb mg):Zcc P w K mg base CX0 1 f fd ["_law_side", "_law_at"] ZoJ:=by
 have sc:=Zhe;refine F.ok sc (fun vs H Q E h=> ?_) (fun cdv A outer s H vs Q E hr h=> ?_)
 ·obtain⟨i,b,rfl,_⟩:=h;rfl
 ·obtain⟨i,b,rfl,k⟩:=h;refine⟨_,(Zah (ZaB (ZaX (Zb2 (Zao ZbV (by rfl) B.ab Qdn (Zac (pv 0) Zab)) (Za9 ZiV (by rfl) M.int boot_int (ZaH (Zc5 ZcJ (Zc5 ZiS (pv 0) Zad (ZaF _)) (Zc5 ZcJ (pv 1) Zad (ZaF _)) (ZaF _)) Zab)) Zab)))),?_⟩;refine⟨_,rfl,i,rfl,_,rfl,_,_,rfl,rfl,_,rfl,rfl,rfl,.inr ⟨_,rfl,(by show 2≤sizeLine;decide),fun p hp=> ?_⟩⟩
  have e:(if decide (V.bl (decide (0<i))=V.bl (decide (V.int (if b=true then 1 else 0)=V.int 1)))=true then(1:Int) else 0)=if decide (0<i)=b then 1 else 0:=by
   cases b<;>by_cases z:0<i<;>simp[z]
  have:=k p hp;show Q _ (upd H p (.tup [.int (Zau i),.int (if decide (V.bl (decide (0<i))=V.bl (decide (V.int (if b=true then 1 else 0)=V.int 1)))=true then(1:Int) else 0)]));rw[e];exact this
abbrev ZbE:Stmt:=top 16
theorem Zfq:ZaC ["_law_sheet_here", "_law_pairs", "_law_one", "_law_two", "_law_three", "_law_here", "_law_there"] ["_law_sheet_here"] (Zag ZbE):=⟨rfl,rfl,rfl,by decide +kernel,rfl,by decide +kernel,by decide +kernel⟩
def Zkq (K:PySem.W.Frag):Sp:=fun vs H Q _=>∃(b:Addr) (xs:List V) (S:List (List Int)),vs=[.ref b]∧H b=some (.lst xs)∧TuL H xs S∧(∀t∈S,t.length=3)∧S.length≤100∧∀(c:Addr) (ps:List V) (H':Hp),Zai H H'→H c=none→H' c=some (.lst ps)→PaL H' true ps (Zb5 S)→Q (.ref c) H'
theorem ZlA {fd:FuncData}(F:Fun K "_law_meets" "_law_meets" ZbE f fd)(M:Txt mg)(qN:Kn P w K mg base "_law_end" 1 ["_law_side", "_law_at"] ZoJ):Zcc P w K mg base CX0 2 f fd ["_law_sheet_here"] (Zkq K):=by
 have sc:=Zfq;refine F.ok sc (fun vs H Q E h=> ?_) (fun cdv A outer s H vs Q E hr h=> ?_)
 ·obtain⟨b,xs,S,rfl,_⟩:=h;rfl
 ·obtain⟨b,xs,S,rfl,hb,tS,t3,l12,k⟩:=h
  refine⟨_,(Zaf (Zav (i:=1) sc.nd rfl (Or.inl rfl) (Zbg Zab))
   (Zaf (Zby QaV rfl (Za3 (pv 0)) (Zcn rfl (Zaq (Zaj (i:=2) sc.nd rfl (Or.inl rfl)) (Zaq (Zaj (i:=3) sc.nd rfl (Or.inl rfl)) (Zaq (Zaj (i:=4) sc.nd rfl (Or.inl rfl)) Zbe))))
   (Zah (Zby QaV rfl (ZcT (ZaX (Zje (ZaX (Zb2 (pv 2) (pv 3) Zab)) (ZaX (Zb2 (pv 3) (pv 4) Zab)) (ZaX (Zb2 (pv 4) (pv 2) Zab)) Zab))) (Zcn rfl (Zaq (Zaj (i:=5) sc.nd rfl (Or.inl rfl)) (Zaq (Zaj (i:=6) sc.nd rfl (Or.inl rfl)) Zbe)))
   (Zah (Zce (Zdk Qa0 Qbt Qbu Zb1 (pv 1) (Zht (ZaX (Zb2 (Zal qN hr rfl (Zac (pv 5) (Zap Zad Zab))) (Zal qN hr rfl (Zac (pv 6) (Zap Zad Zab))) Zab)) Zab)))))))
   (Zah (ZaB (pv 1))))),?_⟩
  refine⟨(by show 0≤sizeLine;decide),fun c hc=> ?_⟩;have s1:=Zai.nw (o:=.lst []) (Zai.refl H) hc;have fc:(upd H c (.lst [])) c=some (.lst []):=Zaa;generalize upd H c (.lst [])=H1 at s1 fc⊢;refine⟨_,rfl,b,rfl,⟨_,SqL.of (s1 _ _ hb)⟩,ZbI (K:=K) (a:=b) (xs:=xs) (fun i σ H'=>∃(x2 x3 x4 x5 x6:Option V) (ps:List V),σ=[some (.ref b),some (.ref c),x2,x3,x4,x5,x6]∧Zai H H'∧H' c=some (.lst ps)∧PaL H' true ps (Zb5 (S.take i))∧(Zb5 (S.take i)).length=3*i) ⟨_,_,_,_,_,[],rfl,s1,fc,PaL.nil _ _,rfl⟩ (fun i σ H' _ h=>by obtain⟨_,_,_,_,_,_,_,s',_⟩:=h;exact SqL.of (s' _ _ hb)) ?_ ?_⟩
  ·rintro i y σ H2 hy ⟨x2,x3,x4,x5,x6,ps,rfl,s2,hc2,pa,pl⟩;obtain⟨t,q,et,rfl,hq⟩:=(tS.up s2.tups).take hy;have il:i<S.length:=(Qac.mp et).1;obtain⟨o1,o2,o3,rfl⟩:=ZcM (t3 t (Qaj et));have psl:ps.length=3*i:=by rw[pa.1,pl]
   refine⟨q,_,rfl,SqT.of hq,rfl,_,_,rfl,_,_,rfl,_,_,rfl,rfl,?_⟩;refine⟨_,rfl,_,rfl,(by show 2≤sizeLine;decide),fun t1 ht1=> ?_⟩;have s3:=Zai.nw (o:=.tup [.int o1,.int o2]) (Zai.refl H2) ht1;have f1:(upd H2 t1 (.tup [.int o1,.int o2])) t1=some (.tup [.int o1,.int o2]):=Zaa;generalize upd H2 t1 (.tup [.int o1,.int o2])=H3 at s3 f1⊢;refine⟨_,rfl,_,rfl,(by show 2≤sizeLine;decide),fun t2 ht2=> ?_⟩;have s4:=Zai.nw (o:=.tup [.int o2,.int o3]) (Zai.refl H3) ht2;have f2:(upd H3 t2 (.tup [.int o2,.int o3])) t2=some (.tup [.int o2,.int o3]):=Zaa;generalize upd H3 t2 (.tup [.int o2,.int o3])=H4 at s4 f2⊢;refine⟨_,rfl,_,rfl,(by show 2≤sizeLine;decide),fun t3' ht3=> ?_⟩;have s5:=Zai.nw (o:=.tup [.int o3,.int o1]) (Zai.refl H4) ht3;have f3:(upd H4 t3' (.tup [.int o3,.int o1])) t3'=some (.tup [.int o3,.int o1]):=Zaa;generalize upd H4 t3' (.tup [.int o3,.int o1])=H5 at s5 f3⊢;refine⟨(by show 3≤sizeLine;decide),fun tt htt=> ?_⟩;have s6:=Zai.nw (o:=.tup [.ref t1,.ref t2,.ref t3']) (Zai.refl H5) htt;have ft:(upd H5 tt (.tup [.ref t1,.ref t2,.ref t3'])) tt=some (.tup [.ref t1,.ref t2,.ref t3']):=Zaa;generalize upd H5 tt (.tup [.ref t1,.ref t2,.ref t3'])=H6 at s6 ft⊢;have s26:=((s3.trans s4).trans s5).trans s6;have g3:=s6 _ _ f3;have g2:=s6 _ _ (s5 _ _ f2);have g1:=s6 _ _ (s5 _ _ (s4 _ _ f1));have s06:=s2.trans s26;refine⟨tt,rfl,⟨_,SqT.of ft⟩,ZiO (K:=K) (a:=tt) (xs:=[.ref t1,.ref t2,.ref t3']) (fun m σ H'=>∃(x5 x6:Option V) (ps:List V),σ=[some (.ref b),some (.ref c),some (.int o1),some (.int o2),some (.int o3),x5,x6]∧Zai H H'∧ZbP H6 H'∧H' c=some (.lst ps)∧PaL H' true ps (Zb5 (S.take i)++(Zdl [o1,o2,o3]).take m)) ⟨_,_,ps,rfl,s06,ZbP.refl _,s26 _ _ hc2,by rw[QbF,QaS];exact pa.up s26.tups⟩ (fun m σ H' _ h=>by obtain⟨_,_,_,_,_,t',_⟩:=h;exact SqT.of (t' _ _ ft)) ?_ ?_⟩
   ·rintro m y' σ H' hy' ⟨x5,x6,ps',rfl,s',t',hc',pa'⟩;rcases m with _|_|_|m
    ·cases hy';refine⟨t1,_,rfl,SqT.of (t' _ _ g1),rfl,_,_,rfl,_,_,rfl,rfl,?_⟩;refine⟨_,rfl,.inl ⟨rfl,_,SqL.of hc'⟩,_,rfl,o1,true,rfl,fun p1 hp1=> ?_⟩;have s7:=Zai.nw (o:=.tup ((eC o1 true).map V.int)) (Zai.refl H') hp1;have e1:(upd H' p1 (.tup ((eC o1 true).map V.int))) p1=some (.tup ((eC o1 true).map V.int)):=Zaa;generalize upd H' p1 (.tup ((eC o1 true).map V.int))=H7 at s7 e1⊢;refine⟨_,rfl,o2,false,rfl,fun p2 hp2=> ?_⟩;have s8:=Zai.nw (o:=.tup ((eC o2 false).map V.int)) (Zai.refl H7) hp2;have e2:(upd H7 p2 (.tup ((eC o2 false).map V.int))) p2=some (.tup ((eC o2 false).map V.int)):=Zaa;generalize upd H7 p2 (.tup ((eC o2 false).map V.int))=H8 at s8 e2⊢;refine⟨(by show 2≤sizeLine;decide),fun p3 hp3=> ?_⟩;have s9:=Zai.nw (o:=.tup [.ref p1,.ref p2]) (Zai.refl H8) hp3;have e3:(upd H8 p3 (.tup [.ref p1,.ref p2])) p3=some (.tup [.ref p1,.ref p2]):=Zaa;generalize upd H8 p3 (.tup [.ref p1,.ref p2])=H9 at s9 e3⊢;have s79:=(s7.trans s8).trans s9;have hc9:=s79 _ _ hc'
     have pl':ps'.length≤1000:=by
      have:=pa'.1;rw[Qae,QaC] at this;omega
     have tc:ZbP H9 (upd H9 c (.lst (ps'++ [.ref p3]))):=ZbP.lst (ZbP.refl H9) hc9;refine⟨c,ps',_,rfl,rfl,hc9,QaN pl' (by decide),_,_,ps'++ [.ref p3],rfl,(s'.trans s79).ow hc,(t'.trans s79.tups).trans tc,Zaa,?_⟩;have em:(Zdl [o1,o2,o3])[0]?=some (eC o1 true,eC o2 false):=rfl;rw[Qc9,em,←Qaw];exact((pa'.up s79.tups).snoc e3 (.tup (s9 _ _ (s8 _ _ e1))) (.tup (s9 _ _ e2))).up tc
    ·cases hy';refine⟨t2,_,rfl,SqT.of (t' _ _ g2),rfl,_,_,rfl,_,_,rfl,rfl,?_⟩;refine⟨_,rfl,.inl ⟨rfl,_,SqL.of hc'⟩,_,rfl,o2,true,rfl,fun p1 hp1=> ?_⟩;have s7:=Zai.nw (o:=.tup ((eC o2 true).map V.int)) (Zai.refl H') hp1;have e1:(upd H' p1 (.tup ((eC o2 true).map V.int))) p1=some (.tup ((eC o2 true).map V.int)):=Zaa;generalize upd H' p1 (.tup ((eC o2 true).map V.int))=H7 at s7 e1⊢;refine⟨_,rfl,o3,false,rfl,fun p2 hp2=> ?_⟩;have s8:=Zai.nw (o:=.tup ((eC o3 false).map V.int)) (Zai.refl H7) hp2;have e2:(upd H7 p2 (.tup ((eC o3 false).map V.int))) p2=some (.tup ((eC o3 false).map V.int)):=Zaa;generalize upd H7 p2 (.tup ((eC o3 false).map V.int))=H8 at s8 e2⊢;refine⟨(by show 2≤sizeLine;decide),fun p3 hp3=> ?_⟩;have s9:=Zai.nw (o:=.tup [.ref p1,.ref p2]) (Zai.refl H8) hp3;have e3:(upd H8 p3 (.tup [.ref p1,.ref p2])) p3=some (.tup [.ref p1,.ref p2]):=Zaa;generalize upd H8 p3 (.tup [.ref p1,.ref p2])=H9 at s9 e3⊢;have s79:=(s7.trans s8).trans s9;have hc9:=s79 _ _ hc'
     have pl':ps'.length≤1000:=by
      have:=pa'.1;rw[Qae,QaC] at this;omega
     have tc:ZbP H9 (upd H9 c (.lst (ps'++ [.ref p3]))):=ZbP.lst (ZbP.refl H9) hc9;refine⟨c,ps',_,rfl,rfl,hc9,QaN pl' (by decide),_,_,ps'++ [.ref p3],rfl,(s'.trans s79).ow hc,(t'.trans s79.tups).trans tc,Zaa,?_⟩;have em:(Zdl [o1,o2,o3])[0+1]?=some (eC o2 true,eC o3 false):=rfl;rw[Qc9,em,←Qaw];exact((pa'.up s79.tups).snoc e3 (.tup (s9 _ _ (s8 _ _ e1))) (.tup (s9 _ _ e2))).up tc
    ·cases hy';refine⟨t3',_,rfl,SqT.of (t' _ _ g3),rfl,_,_,rfl,_,_,rfl,rfl,?_⟩;refine⟨_,rfl,.inl ⟨rfl,_,SqL.of hc'⟩,_,rfl,o3,true,rfl,fun p1 hp1=> ?_⟩;have s7:=Zai.nw (o:=.tup ((eC o3 true).map V.int)) (Zai.refl H') hp1;have e1:(upd H' p1 (.tup ((eC o3 true).map V.int))) p1=some (.tup ((eC o3 true).map V.int)):=Zaa;generalize upd H' p1 (.tup ((eC o3 true).map V.int))=H7 at s7 e1⊢;refine⟨_,rfl,o1,false,rfl,fun p2 hp2=> ?_⟩;have s8:=Zai.nw (o:=.tup ((eC o1 false).map V.int)) (Zai.refl H7) hp2;have e2:(upd H7 p2 (.tup ((eC o1 false).map V.int))) p2=some (.tup ((eC o1 false).map V.int)):=Zaa;generalize upd H7 p2 (.tup ((eC o1 false).map V.int))=H8 at s8 e2⊢;refine⟨(by show 2≤sizeLine;decide),fun p3 hp3=> ?_⟩;have s9:=Zai.nw (o:=.tup [.ref p1,.ref p2]) (Zai.refl H8) hp3;have e3:(upd H8 p3 (.tup [.ref p1,.ref p2])) p3=some (.tup [.ref p1,.ref p2]):=Zaa;generalize upd H8 p3 (.tup [.ref p1,.ref p2])=H9 at s9 e3⊢;have s79:=(s7.trans s8).trans s9;have hc9:=s79 _ _ hc'
     have pl':ps'.length≤1000:=by
      have:=pa'.1;rw[Qae,QaC] at this;omega
     have tc:ZbP H9 (upd H9 c (.lst (ps'++ [.ref p3]))):=ZbP.lst (ZbP.refl H9) hc9;refine⟨c,ps',_,rfl,rfl,hc9,QaN pl' (by decide),_,_,ps'++ [.ref p3],rfl,(s'.trans s79).ow hc,(t'.trans s79.tups).trans tc,Zaa,?_⟩;have em:(Zdl [o1,o2,o3])[0+1+1]?=some (eC o3 true,eC o1 false):=rfl;rw[Qc9,em,←Qaw];exact((pa'.up s79.tups).snoc e3 (.tup (s9 _ _ (s8 _ _ e1))) (.tup (s9 _ _ e2))).up tc
    ·cases hy'
   ·rintro σ H' ⟨x5,x6,ps',rfl,s',t',hc',pa'⟩;have e3:Zb5 (S.take (i+1))=Zb5 (S.take i)++Zdl [o1,o2,o3]:=by rw[Zat et,ZgR]
    refine⟨_,_,_,_,_,ps',rfl,s',hc',?_,?_⟩
    ·rw[e3];exact pa'
    ·rw[e3,Qae,pl];show 3*i+3=3*(i+1);omega
  ·rintro σ H' ⟨x2,x3,x4,x5,x6,ps,rfl,s',hc',pa,pl⟩;rw[QaM (by rw[tS.1];exact Qaf _)] at pa;exact⟨_,rfl,k c ps H' s' hc hc' pa⟩
abbrev ZaJ:Stmt:=top 17
theorem Zdc:ZaC ["_law_sheet_here", "_law_ends", "_law_tie"] ["_law_sheet_here"] (Zag ZaJ):=⟨rfl,rfl,rfl,by decide +kernel,rfl,by decide +kernel,by decide +kernel⟩
def ZoL:Sp:=fun vs H Q _=>∃(b:Addr) (xs:List V) (S:List (List Int)),vs=[.ref b]∧H b=some (.lst xs)∧TuL H xs S∧Zb4 S∧∀(c:Addr) (zs:List V) (ws:List (List (List Int))) (H':Hp),Zai H H'→H c=none→H' c=some (.lst zs)→LsL H' true zs ws→Zoq S ws→Q (.ref c) H'
theorem Zhf {fd:FuncData}(F:Fun K "_law_points_of" "_law_points_of" ZaJ f fd)(M:Txt mg)(qk:Kn P w K mg base "_law_heaps" 2 ["_law_things", "_law_pairs"] (Zhd true))(qK:Kn P w K mg base "_law_meets" 2 ["_law_sheet_here"] (Zkq K)):Zcc P w K mg base CX0 3 f fd ["_law_sheet_here"] ZoL:=by
 have sc:=Zdc;refine F.ok sc (fun vs H Q E h=> ?_) (fun cdv A outer s H vs Q E hr h=> ?_)
 ·obtain⟨b,xs,S,rfl,_⟩:=h;rfl
 ·obtain⟨b,xs,S,rfl,hb,tS,oS,k⟩:=h
  refine⟨_,(Zaf (Zav (i:=1) sc.nd rfl (Or.inl rfl) (Zbg Zab))
   (Zaf (Zby QaV rfl (ZiM rfl M.range (Zap Zad (Zbm (Zar ZaS (Zar ZbM (Zar ZbK (Zao (ZaI (K:=K)) (by rfl) M.len Qbj (Zac (pv 0) Zab)) Zad) Zad) Zad) Zab))) (Zaj (i:=2) sc.nd rfl (Or.inl rfl))
   (Zah (Zav (i:=1) sc.nd rfl (Or.inl rfl) (Zar Zes (pv 1) (Zbg (Zb2 (ZaX (Zb2 (pv 2) Zad Zab)) (ZaX (Zb2 (pv 2) Zad Zab)) Zab))))))
   (Zah (ZaB (Zao (Ze8 true hr) (by rfl) M.sorted QeC (ZaH (ZaM (xs:=["_law_heap"]) (Nb:=["_law_sheet_here", "_law_ends", "_law_tie"]) rfl (Za3 (Zal qk hr rfl (Zac (pv 1) (ZaV (Zal qK hr rfl (Zac (pv 0) Zab)) Zab)))) rfl (by show∀p∈(List.zip ["_law_sheet_here", "_law_ends", "_law_tie"] ["_law_sheet_here", "_law_ends", "_law_tie"]:List (Str×Str)),_;decide +kernel) (by decide +kernel) (fun cl C s₂ H₂ fp=>(Zaj (i:=0) (by show List.Nodup (["_law_heap", "_law_sheet_here", "_law_ends", "_law_tie"]:List Str);decide +kernel) rfl (Or.inl (Qag rfl)) (Or.inr (Qag rfl)))) (fun cl C s₂ H₂ fp=>ZaQ) (fun cl C s₂ H₂ fp=>(Zao (Zed (K:=K) hr) (by rfl) M.sorted QeC (Zac (pv 0) Zab))) (by decide +kernel) rfl (by decide +kernel) (by show∀y∈(_:List (Str×NameKind)),y.2=NameKind.free→(Zag ZaJ).names.lookup y.1=some .cell;decide +kernel)) Zab)))))),?_⟩
  have lS:=oS.len;have lx:xs.length=S.length:=tS.1;refine⟨(by show 0≤sizeLine;decide),fun c hc=> ?_⟩;have s1:=Zai.nw (o:=.lst []) (Zai.refl H) hc;have fc:(upd H c (.lst [])) c=some (.lst []):=Zaa;generalize upd H c (.lst [])=H1 at s1 fc⊢;refine⟨_,rfl,b,xs,rfl,.inl (SqL.of (s1 _ _ hb)),((xs.length:Nat):Int),3,rfl,rfl,.inr ⟨by decide,by decide⟩,((xs.length:Nat):Int)*3,2,rfl,rfl,⟨by decide,by decide⟩,_,_,rfl,rfl,?_⟩;have e7:(((xs.length:Nat):Int)*3/2+1-1).toNat=S.length/2*3:=by rw[lx];omega
  refine⟨1,((xs.length:Nat):Int)*3/2+1,rfl,⟨by decide,by decide,by omega,by omega⟩,Zb9 (n:=(((xs.length:Nat):Int)*3/2+1-1).toNat) (fun i σ H'=>∃(c:Addr) (x2:Option V) (ys:List V),σ=[some (.ref b),some (.ref c),x2]∧Zai H H'∧H' c=some (.lst ys)∧TuL H' ys (ZcK i)) ⟨c,_,[],rfl,s1,fc,TuL.nil _⟩ ?_ ?_⟩
  ·rintro i σ H2 hi ⟨c,x2,ys,rfl,s2,hc2,t2⟩;have yl:ys.length=2*i:=by rw[t2.1,Zfb]
   refine⟨_,rfl,_,rfl,(by show 2≤sizeLine;decide),fun p1 hp1=> ?_⟩;have s3:=Zai.nw (o:=.tup [.int (1+(i:Int)),.int 0]) (Zai.refl H2) hp1;have e1:(upd H2 p1 (.tup [.int (1+(i:Int)),.int 0])) p1=some (.tup [.int (1+(i:Int)),.int 0]):=Zaa;generalize upd H2 p1 (.tup [.int (1+(i:Int)),.int 0])=H3 at s3 e1⊢;refine⟨_,rfl,(by show 2≤sizeLine;decide),fun p2 hp2=> ?_⟩;have s4:=Zai.nw (o:=.tup [.int (1+(i:Int)),.int 1]) (Zai.refl H3) hp2;have e2:(upd H3 p2 (.tup [.int (1+(i:Int)),.int 1])) p2=some (.tup [.int (1+(i:Int)),.int 1]):=Zaa;generalize upd H3 p2 (.tup [.int (1+(i:Int)),.int 1])=H4 at s4 e2⊢;refine⟨(by show 2≤sizeLine;decide),fun p3 hp3=> ?_⟩;have s5:=Zai.nw (o:=.lst [.ref p1,.ref p2]) (Zai.refl H4) hp3;have e3:(upd H4 p3 (.lst [.ref p1,.ref p2])) p3=some (.lst [.ref p1,.ref p2]):=Zaa;generalize upd H4 p3 (.lst [.ref p1,.ref p2])=H5 at s5 e3⊢;have s25:=(s3.trans s4).trans s5;refine⟨c,p3,ys,_,rfl,rfl,s25 _ _ hc2,e3,QaI (show ys.length+2≤1000 by omega) (by decide),fun c2 hc3=> ?_⟩;have s6:=Zai.nw (o:=.lst (ys++ [.ref p1,.ref p2])) (Zai.refl H5) hc3;refine⟨c2,_,ys++ [.ref p1,.ref p2],rfl,(s2.trans s25).trans s6,Zaa,?_⟩;rw[Zda];have a1:(upd H5 c2 (.lst (ys++ [.ref p1,.ref p2]))) p1=some (.tup ([1+(i:Int),0].map V.int)):=s6 _ _ (s5 _ _ (s4 _ _ e1));have a2:(upd H5 c2 (.lst (ys++ [.ref p1,.ref p2]))) p2=some (.tup ([1+(i:Int),1].map V.int)):=s6 _ _ (s5 _ _ e2)
   have:=TuL.snoc (TuL.snoc ((t2.up s25.tups).up s6.tups) a1) a2;simpa using this
  ·rintro σ H2 ⟨c,x2,ys,rfl,s2,hc2,t2⟩;rw[e7] at t2;refine⟨_,rfl,_,rfl,b,xs,S,rfl,s2 _ _ hb,tS.up s2.tups,oS.three,by omega,fun q ps H3 s3 qf hq pa=> ?_⟩;have el:(ZcK (S.length/2*3)).length≤36:=by rw[Zfb];omega
   refine⟨c,q,ys,ps,_,_,rfl,s3 _ _ hc2,(t2.up s3.tups).it,hq,pa,ZgS _,by omega,ZhI oS,fun d zs hs H4 s4 df hd lz pt=> ?_⟩
   have hl:hs.length≤36:=by
    have h1:=Zfa pt.ne;have h2:=pt.perm.length_eq;omega
   have zl:zs.length=hs.length:=lz.1;refine⟨d,rfl,⟨_,SqL.of hd⟩,Zgz (K:=K) (a:=d) (xs:=zs) (fun i ys H'=>∃uss:List (List (List Int)),LsL H' true ys uss∧uss.length=i∧(∀(j:Nat) (g w:List (List Int)),hs[j]?=some g→uss[j]?=some w→w.Perm g∧w.Pairwise (fun x y=>Zcs y x=false))∧Zai H4 H') ⟨[],LsL.nil _ _,rfl,fun j g w _ h=>(by cases h),Zai.refl _⟩ (by omega) (fun n ys H' h=>by obtain⟨uss,l1,l2,_⟩:=h;rw[l1.1,l2];exact Qaf _) (fun n ys H' _ h=>by obtain⟨_,_,_,_,s'⟩:=h;exact SqL.of (s' _ _ hd)) ?_ ?_⟩
   ·rintro n y ys' H5 pre hpl hy ⟨uss,l1,l2,hp,s5⟩;have nl:n<hs.length:=by rw[←zl];exact(Qac.mp hy).1
    have eh:hs[n]?=some hs[n]:=Qab nl;obtain⟨g,gx,rfl,hg,ig⟩:=(lz.up s5).2 n y _ hy eh;generalize hs[n]=hn at eh ig;have mh:hn∈hs:=Qaj eh;have hsub:∀u∈hn,u∈ZcK (S.length/2*3):=fun u hu=>pt.perm.subset (Qa7.mpr ⟨hn,mh,hu⟩)
    have hnl:hn.length≤36:=by
     have h2:=pt.perm.length_eq;have h3:hn.length≤hs.flatten.length:=List.Sublist.length_le (List.sublist_flatten_of_mem mh);omega
    rcases pre with _|⟨q0,_|⟨q1,pre⟩⟩
    ·cases hpl
    ·refine⟨⟨[some _],rfl,rfl⟩,?_⟩;unfold Zcp;dsimp only;rw[if_pos (rfl:true=true)];refine⟨_,rfl,g,gx,hn,rfl,SqL.of hg,ig.tu,by omega,fun u hu=> ?_,fun l zs' ws hl' tw pw sw=> ?_⟩
     ·obtain⟨t,b',rfl,_⟩:=Zdx.mp (hsub u hu);simp
     ·have s6:=Zai.nw (o:=.lst zs') (Zai.refl H5) hl';refine⟨uss++ [ws],LsL.snoc (l1.up s6) Zaa (tw.it.up s6.tups),by simp[l2],fun j g' w' h1 h2=> ?_,s5.trans s6⟩;by_cases jl:j<uss.length
      ·rw[Qax jl] at h2;exact hp j g' w' h1 h2
      ·rw[Qay (by omega)] at h2
       cases e:j-uss.length with
       |zero=>
        rw[e] at h2;cases h2
        have:j=n:=by omega
        subst this;rw[eh] at h1;cases h1;exact⟨pw,sw⟩
       |succ m=>rw[e] at h2;cases h2
    ·cases hpl
   ·rintro ys' H5 ⟨uss,l1,l2,hp,s5⟩ D hD;have s6:=Zai.nw (o:=.lst ys') s5 hD;refine⟨D,ys',uss,rfl,SqL.of Zaa,l1.up (Zai.nw (Zai.refl H5) hD),by omega,fun c' zs' ws hc' lw pw sw=> ?_⟩;have s7:=Zai.nw (o:=.lst zs') s6 hc';have sall:=((s2.trans s3).trans s4).trans s7;refine k c' zs' ws _ sall ((((s2.trans s3).trans s4).trans s6).free hc') Zaa (lw.up (Zai.nw (Zai.refl _) hc')) ⟨(pt.perm_in (by omega) fun j g w' h1 h2=>(hp j g w' h1 h2).1).perm_out pw,fun w' hw=> ?_,sw⟩;obtain⟨j,hj⟩:=Qat.mp (pw.subset hw);have jl:=(Qac.mp hj).1;exact(hp j _ w' (Qab (by omega)) hj).2
end
section
variable {K:PySem.W.Frag}
abbrev Zb0:Stmt:=top 1
theorem Zhg:ZaC ["thing"] ["thing"] (Zag Zb0):=⟨rfl,rfl,rfl,by decide +kernel,rfl,by decide +kernel,by decide +kernel⟩
def Zkr:Sp:=fun vs H Q _=>∃x d,vs=[x]∧Th H x d∧Q (.bl (Zme d)) H
theorem ZlB {fd:FuncData}(F:Fun K "is_whole" "is_whole" Zb0 f fd)(M:Txt mg):Zcc P w K mg base CX0 1 f fd ["thing"] Zkr:=by
 have sc:=Zhg;refine F.ok sc (fun vs H Q E h=> ?_) (fun cdv A outer s H vs Q E hr h=> ?_)
 ·obtain⟨x,d,rfl,_⟩:=h;rfl
 ·obtain⟨x,d,rfl,t,k⟩:=h;refine⟨_,(Zah (ZaB (ZiK (Zao (Zbh (T:= "int") (K:=K)) (by rfl) M.isinstance Qb9 (Zac (pv 0) (Zac (ZcO (v:=.ty "int") rfl M.int boot_int rfl) Zab))) (ZiJ (ZnL (Zao (Zbh (T:= "bool") (K:=K)) (by rfl) M.isinstance Qb9 (Zac (pv 0) (Zac (ZcO (v:=.ty "bool") rfl M.bool boot_bool rfl) Zab)))))))),?_⟩;rw[Zk9] at k;refine⟨_,rfl,x,_,_,rfl,t.ty,Zjc d,_,rfl,?_⟩
  cases hi:isInt d with
  |false=>rw[hi] at k;exact ZcQ k
  |true=>rw[hi] at k;exact ZdH ⟨_,rfl,x,_,_,rfl,t.ty,ZeP d,_,rfl,k⟩
abbrev Za0:Stmt:=top 2
theorem Zdn:ZaC ["thing", "least"] ["thing", "least"] (Zag Za0):=⟨rfl,rfl,rfl,by decide +kernel,rfl,by decide +kernel,by decide +kernel⟩
theorem Znm {fd:FuncData}(F:Fun K "is_whole_from" "is_whole_from" Za0 f fd)(M:Txt mg)(qW:Kn P w K mg base "is_whole" 1 ["thing"] Zkr):Zcc P w K mg base CX0 2 f fd ["thing", "least"] Zg6:=by
 have sc:=Zdn;refine F.ok sc (fun vs H Q E h=> ?_) (fun cdv A outer s H vs Q E hr h=> ?_)
 ·obtain⟨u,d,rfl,_⟩:=h;rfl
 ·obtain⟨u,d,rfl,h1,k⟩:=h;refine⟨_,(Zah (ZaB (ZiK (Zal qW hr rfl (Zac (pv 0) Zab)) (ZiJ (Zc5 ZnQ (pv 0) (pv 1) (ZaF _)))))),?_⟩;refine⟨_,rfl,u,d,rfl,h1,_,rfl,?_⟩
  cases h1 with
  |int i=>exact ZdH ⟨_,rfl,_,rfl,_,_,rfl,rfl,k⟩
  |_=>exact ZcQ k
abbrev ZbR:Stmt:=top 4
theorem Zgf:ZaC ["sheet"] ["sheet"] (Zag ZbR):=⟨rfl,rfl,rfl,by decide +kernel,rfl,by decide +kernel,by decide +kernel⟩
theorem Znn {fd:FuncData}(F:Fun K "many_ties" "many_ties" ZbR f fd)(M:Txt mg):Zcc P w K mg base CX0 1 f fd ["sheet"] (ZgY K):=by
 have sc:=Zgf;refine F.ok sc (fun vs H Q E h=> ?_) (fun cdv A outer s H vs Q E hr h=> ?_)
 ·obtain⟨a,xs,rfl,_⟩:=h;rfl
 ·obtain⟨a,xs,rfl,ha,k⟩:=h;refine⟨_,(Zah (ZaB (Zar ZbK (Zar ZbM (Zao (ZaI (K:=K)) (by rfl) M.len Qbj (Zac (pv 0) Zab)) Zad) Zad))),?_⟩;refine⟨_,rfl,a,_,rfl,.inl ha,_,_,rfl,rfl,⟨by decide,by decide⟩,((xs.length:Nat):Int)/2,3,rfl,rfl,.inr ⟨by decide,by decide⟩,?_⟩;have e:((xs.length:Nat):Int)/2*3=((xs.length/2*3:Nat):Int):=by omega
  show Q (V.int (((xs.length:Nat):Int)/2*3)) H;rw[e];exact k
abbrev Zbw:Stmt:=top 6
theorem Zgg:ZaC ["triangle", "row"] ["triangle", "row"] (Zag Zbw):=⟨rfl,rfl,rfl,by decide +kernel,rfl,by decide +kernel,by decide +kernel⟩
theorem ZlC {fd:FuncData}(F:Fun K "crossings" "crossings" Zbw f fd)(M:Txt mg)(B:Gb mg):Zcc P w K mg base CX0 1 f fd ["triangle", "row"] Zff:=by
 have sc:=Zgg;refine F.ok sc (fun vs H Q E h=> ?_) (fun cdv A outer s H vs Q E hr h=> ?_)
 ·obtain⟨q,c,t,r,rfl,_⟩:=h;rfl
 ·obtain⟨q,c,t,r,rfl,hq,hc,tl,ok,k⟩:=h;refine⟨_,(Zah (ZaB (ZaM (xs:=["side"]) (Nb:=["triangle", "row"]) rfl (ZcT (pv 0)) rfl (by show∀p∈(List.zip ["triangle", "row"] ["triangle", "row"]:List (Str×Str)),_;decide +kernel) (by decide +kernel) (fun cl C s₂ H₂ fp=>(Zaj (i:=0) (by show List.Nodup (["side", "triangle", "row"]:List Str);decide +kernel) rfl (Or.inl (Qag rfl)) (Or.inr (Qag rfl)))) (fun cl C s₂ H₂ fp=>ZaQ) (fun cl C s₂ H₂ fp=>(Zbv (ZaD (K:=K)) (pv 2) (Zar ZbJ (Zao ZbV (by rfl) B.ab Qdn (Zac (pv 0) Zab)) Zad) (fun _ _=>rfl))) (by decide +kernel) rfl (by decide +kernel) (by show∀y∈(_:List (Str×NameKind)),y.2=NameKind.free→(Zag Zbw).names.lookup y.1=some .cell;decide +kernel)))),?_⟩;refine⟨_,rfl,q,rfl,⟨_,SqT.of hq⟩,Zi9 (K:=K) (a:=q) (xs:=t.map V.int) (fun i ys H'=>ys=((t.take i).map (crs r)).map V.int∧H=H') ⟨rfl,rfl⟩ (by rw[Qaa];omega) (fun m ys H' h=>by rw[h.1,Qaa,Qaa,QaC];exact Qbi _ _) (fun m ys H' _ h=>by rw[←h.2];exact SqT.of hq) ?_ ?_⟩
  ·rintro m z ys' H' pre hpl hz ⟨rfl,rfl⟩;rw[Qah] at hz
   cases ez:t[m]? with
   |none=>rw[ez] at hz;cases hz
   |some sd=>
    rw[ez] at hz;cases hz;obtain⟨s1,er⟩:=ok sd (Qaj ez)
    have a1:atI (r.map V.int) (Zau sd-1)=some (V.int (crs r sd)):=by
     rw[show Zau sd-1=(((Zau sd-1).toNat:Nat):Int) by omega];exact ZbL (by rw[Qah,er];rfl)
    rcases pre with _|⟨q0,_|⟨q1,pre⟩⟩
    ·cases hpl
    ·refine⟨⟨[some _],rfl,rfl⟩,?_⟩;unfold Zcp;dsimp only;rw[if_pos (rfl:true=true)];refine⟨_,rfl,_,rfl,sd,rfl,_,_,rfl,rfl,c,_,_,_,rfl,rfl,SqL.of hc,a1,?_,rfl⟩;rw[Zat ez,Qam,Qam];rfl
    ·cases hpl
  ·rintro ys' H' ⟨rfl,rfl⟩ D hD;rw[Qaa,QaZ];exact k D hD
abbrev ZbS:Stmt:=top 7
theorem Zgh:ZaC ["numbers"] ["numbers"] (Zag ZbS):=⟨rfl,rfl,rfl,by decide +kernel,rfl,by decide +kernel,by decide +kernel⟩
theorem ZoM {fd:FuncData}(F:Fun K "may_cross" "may_cross" ZbS f fd)(M:Txt mg):Zcc P w K mg base CX0 1 f fd ["numbers"] (Zkg K):=by
 have sc:=Zgh;refine F.ok sc (fun vs H Q E h=> ?_) (fun cdv A outer s H vs Q E hr h=> ?_)
 ·obtain⟨p,x,y,z,rfl,_⟩:=h;rfl
 ·obtain⟨p,x,y,z,rfl,h1,k⟩:=h;refine⟨_,(Zah (ZaB (ZiK (Zc5 ZcJ (Zar Zcu (Zao (ZcD rfl) (by rfl) M.sum QeH (Zac (pv 0) Zab)) Zad) Zad (ZaF _)) (ZiJ (Zc5 ZnP (Zar ZbK Zad (Zao (Zj2 rfl) (by rfl) M.max boot_max (Zac (pv 0) Zab))) (Zao (ZcD rfl) (by rfl) M.sum QeH (Zac (pv 0) Zab)) (ZaF _)))))),?_⟩;exact Ziv (K:=K) h1 k
abbrev Zb6:Stmt:=top 8
theorem Zks:ZaC ["sheet", "thing"] ["sheet", "thing"] (Zag Zb6):=⟨rfl,rfl,rfl,by decide +kernel,rfl,by decide +kernel,by decide +kernel⟩
theorem ZlD {fd:FuncData}(F:Fun K "is_row" "is_row" Zb6 f fd)(M:Txt mg)(qP:Kn P w K mg base "many_ties" 1 ["sheet"] (ZgY K))(qy:Kn P w K mg base "is_whole_from" 2 ["thing", "least"] Zg6)(qQ:Kn P w K mg base "may_cross" 1 ["numbers"] (Zkg K))(qR:Kn P w K mg base "crossings" 1 ["triangle", "row"] Zff):Zcc P w K mg base CX0 3 f fd ["sheet", "thing"] Zcm:=by
 have sc:=Zks;refine F.ok sc (fun vs H Q E h=> ?_) (fun cdv A outer s H vs Q E hr h=> ?_)
 ·obtain⟨i,x,d,xs,S,rfl,_⟩:=h;rfl
 ·obtain⟨i,x,d,xs,S,rfl,h1,h2,h3,h4,k⟩:=h
  refine⟨_,(Zaf (ZbH (PW.pt (ZeD (Zfv (Zem (Zao (Zbh (T:= "list") (K:=K)) (by rfl) M.isinstance Qb9 (Zac (pv 1) (Zac (ZcO (v:=.ty "list") rfl M.list Qdd rfl) Zab))))) (Zen (Zax Zh5 (Zao (ZaI (K:=K)) (by rfl) M.len Qbj (Zac (pv 1) Zab)) (Zal qP hr rfl (Zac (pv 0) Zab)) (ZaF _))))) (Zah (ZaB Zc3)) ZaU)
   (Zaf (ZbH (Zfv (Zem (Zao (Zhr rfl) (by rfl) M.all boot_all (ZaH (ZaM (xs:=["many"]) (Nb:=["sheet", "thing"]) rfl (Za3 (pv 1)) rfl (by show∀p∈(List.zip ["sheet", "thing"] ["sheet", "thing"]:List (Str×Str)),_;decide +kernel) (by decide +kernel) (fun cl C s₂ H₂ fp=>(Zaj (i:=0) (by show List.Nodup (["many", "sheet", "thing"]:List Str);decide +kernel) rfl (Or.inl (Qag rfl)) (Or.inr (Qag rfl)))) (fun cl C s₂ H₂ fp=>ZaQ) (fun cl C s₂ H₂ fp=>(Zal qy hr rfl (Zac (pv 0) (Zap Zad Zab)))) (by decide +kernel) rfl (by decide +kernel) (by show∀y∈(_:List (Str×NameKind)),y.2=NameKind.free→(Zag Zb6).names.lookup y.1=some .cell;decide +kernel)) Zab)))) (Zah (ZaB Zc3)) ZaU)
   (Zah (ZaB (Zao (Zhr rfl) (by rfl) M.all boot_all (ZaH (ZaM (xs:=["triangle"]) (Nb:=["sheet", "thing"]) rfl (Za3 (pv 0)) rfl (by show∀p∈(List.zip ["sheet", "thing"] ["sheet", "thing"]:List (Str×Str)),_;decide +kernel) (by decide +kernel) (fun cl C s₂ H₂ fp=>(Zaj (i:=0) (by show List.Nodup (["triangle", "sheet", "thing"]:List Str);decide +kernel) rfl (Or.inl (Qag rfl)) (Or.inr (Qag rfl)))) (fun cl C s₂ H₂ fp=>ZaQ) (fun cl C s₂ H₂ fp=>(Zal qQ hr rfl (ZaV (Zal qR hr rfl (Zac (pv 0) (Zac (pv 2) Zab))) Zab))) (by decide +kernel) rfl (by decide +kernel) (by show∀y∈(_:List (Str×NameKind)),y.2=NameKind.free→(Zag Zb6).names.lookup y.1=some .cell;decide +kernel)) Zab)))))),?_⟩
  exact Zge (K:=K) h1 h2 h3 h4 k
abbrev Za5:Stmt:=top 32
theorem Zeg:ZaC ["_law_sheet_here", "_law_thing", "_law_count", "_law_triangle", "_law_one", "_law_two", "_law_three"] ["_law_sheet_here", "_law_thing"] (Zag Za5):=⟨rfl,rfl,rfl,by decide +kernel,rfl,by decide +kernel,by decide +kernel⟩
theorem Zkt {fd:FuncData}(F:Fun K "_law_is_row" "_law_is_row" Za5 f fd)(M:Txt mg)(B:Gb mg):Zcc P w K mg base CX0 1 f fd ["_law_sheet_here", "_law_thing"] Zcm:=by
 have sc:=Zeg;refine F.ok sc (fun vs H Q E h=> ?_) (fun cdv A outer s H vs Q E hr h=> ?_)
 ·obtain⟨i,x,d,xs,S,rfl,_⟩:=h;rfl
 ·obtain⟨i,x,d,xs,S,rfl,h1,h2,h3,h4,k⟩:=h
  refine⟨_,(Zaf (ZbH (PW.pt (ZeD (Zfv (Zem (Zao (Zbh (T:= "list") (K:=K)) (by rfl) M.isinstance Qb9 (Zac (pv 1) (Zac (ZcO (v:=.ty "list") rfl M.list Qdd rfl) Zab))))) (Zen (Zax Zh5 (Zao (ZaI (K:=K)) (by rfl) M.len Qbj (Zac (pv 1) Zab)) (Zar ZbM (Zar ZbK (Zao (ZaI (K:=K)) (by rfl) M.len Qbj (Zac (pv 0) Zab)) Zad) Zad) (ZaF _))))) (Zah (ZaB Zc3)) ZaU)
   (Zaf (Zby QaV rfl (Za3 (pv 1)) (Zaj (i:=2) sc.nd rfl (Or.inl rfl))
   (Zah (ZbH (PW.pt (ZeD (Zfv (Zem (Zao (Zbh (T:= "int") (K:=K)) (by rfl) M.isinstance Qb9 (Zac (pv 2) (Zac (ZcO (v:=.ty "int") rfl M.int boot_int rfl) Zab))))) (ZeD (Zem (Zao (Zbh (T:= "bool") (K:=K)) (by rfl) M.isinstance Qb9 (Zac (pv 2) (Zac (ZcO (v:=.ty "bool") rfl M.bool boot_bool rfl) Zab)))) (Zen (Zax ZkN (pv 2) Zad (ZaF _)))))) (Zah (ZaB Zc3)) ZaU)))
   (Zaf (Zby QaV rfl (Za3 (pv 0)) (Zaj (i:=3) sc.nd rfl (Or.inl rfl))
   (Zaf (Zb3 (Zao ZgC (by rfl) M.sorted QeC (ZaH (ZaM (xs:=["_law_side"]) (Nb:=["_law_sheet_here", "_law_thing", "_law_count", "_law_triangle", "_law_one", "_law_two", "_law_three"]) rfl (ZcT (pv 3)) rfl (by show∀p∈(List.zip ["_law_sheet_here", "_law_thing", "_law_count", "_law_triangle", "_law_one", "_law_two", "_law_three"] ["_law_sheet_here", "_law_thing", "_law_count", "_law_triangle", "_law_one", "_law_two", "_law_three"]:List (Str×Str)),_;decide +kernel) (by decide +kernel) (fun cl C s₂ H₂ fp=>(Zaj (i:=0) (by show List.Nodup (["_law_side", "_law_sheet_here", "_law_thing", "_law_count", "_law_triangle", "_law_one", "_law_two", "_law_three"]:List Str);decide +kernel) rfl (Or.inl (Qag rfl)) (Or.inr (Qag rfl)))) (fun cl C s₂ H₂ fp=>ZaQ) (fun cl C s₂ H₂ fp=>(Zbv (ZaD (K:=K)) (pv 2) (Zar ZbJ (Zao ZbV (by rfl) B.ab Qdn (Zac (pv 0) Zab)) Zad) (fun _ _=>rfl))) (by decide +kernel) rfl (by decide +kernel) (by show∀y∈(_:List (Str×NameKind)),y.2=NameKind.free→(Zag Za5).names.lookup y.1=some .cell;decide +kernel)) Zab)) (Zja rfl (Zaq (Zaj (i:=4) sc.nd rfl (Or.inl rfl)) (Zaq (Zaj (i:=5) sc.nd rfl (Or.inl rfl)) (Zaq (Zaj (i:=6) sc.nd rfl (Or.inl rfl)) Zbe)))))
   (Zah (ZbH (PW.pt (ZeD (Zax Zh5 (Zar Zcu (Zar ZaS (Zar ZaS (pv 4) (pv 5)) (pv 6)) Zad) Zad (ZaF _)) (Zen (Zax ZiS (pv 6) (Zar ZaS (pv 4) (pv 5)) (ZaF _))))) (Zah (ZaB Zc3)) ZaU))))
   (Zah (ZaB Zc3))))),?_⟩
  exact Zfn (K:=K) h1 h2 h3 h4 k
abbrev Zbx:Stmt:=top 18
theorem Zgi:ZaC ["_law_triangle", "_law_tie", "_law_at"] ["_law_triangle", "_law_tie"] (Zag Zbx):=⟨rfl,rfl,rfl,by decide +kernel,rfl,by decide +kernel,by decide +kernel⟩
theorem ZlE {fd:FuncData}(F:Fun K "_law_from" "_law_from" Zbx f fd)(M:Txt mg)(B:Gb mg):Zcc P w K mg base CX0 1 f fd ["_law_triangle", "_law_tie"] Zfg:=by
 have sc:=Zgi;refine F.ok sc (fun vs H Q E h=> ?_) (fun cdv A outer s H vs Q E hr h=> ?_)
 ·obtain⟨q,t,p,kk,rfl,_⟩:=h;rfl
 ·obtain⟨q,t,p,kk,rfl,h1,h2,h3,h4,k⟩:=h
  refine⟨_,(Zaf (Zav (i:=2) sc.nd rfl (Or.inl rfl) (Zmc (K:=K) Qa0 PySem.F.slot_list_index PySem.F.type_list_index Zlk (ZaM (xs:=["_law_side"]) (Nb:=["_law_triangle", "_law_tie", "_law_at"]) rfl (ZcT (pv 0)) rfl (by show∀p∈(List.zip ["_law_triangle", "_law_tie", "_law_at"] ["_law_triangle", "_law_tie", "_law_at"]:List (Str×Str)),_;decide +kernel) (by decide +kernel) (fun cl C s₂ H₂ fp=>(Zaj (i:=0) (by show List.Nodup (["_law_side", "_law_triangle", "_law_tie", "_law_at"]:List Str);decide +kernel) rfl (Or.inl (Qag rfl)) (Or.inr (Qag rfl)))) (fun cl C s₂ H₂ fp=>ZaQ) (fun cl C s₂ H₂ fp=>(Zao ZbV (by rfl) B.ab Qdn (Zac (pv 0) Zab))) (by decide +kernel) rfl (by decide +kernel) (by show∀y∈(_:List (Str×NameKind)),y.2=NameKind.free→(Zag Zbx).names.lookup y.1=some .cell;decide +kernel)) (Zac (pv 1) Zab)))
   (Zah (ZaB (Zar (Zj0 (K:=K)) (ZcB (ZjY (K:=K)) (pv 0) (Zcv (pv 2)) ZdA) (ZcB (ZjY (K:=K)) (pv 0) ZdA (Zcv (pv 2))))))),?_⟩
  exact Zg1 (K:=K) h1 h2 h3 h4 k
abbrev Za6:Stmt:=top 19
theorem Zeh:ZaC ["_law_sheet_here", "_law_tie", "_law_spots", "_law_here", "_law_p", "_law_q", "_law_there", "_law_u", "_law_v"] ["_law_sheet_here", "_law_tie"] (Zag Za6):=⟨rfl,rfl,rfl,by decide +kernel,rfl,by decide +kernel,by decide +kernel⟩
theorem Zku {fd:FuncData}(F:Fun K "_law_square" "_law_square" Za6 f fd)(M:Txt mg)(qC:Kn P w K mg base "_law_from" 1 ["_law_triangle", "_law_tie"] Zfg)(B:Gb mg):Zcc P w K mg base CX0 2 f fd ["_law_sheet_here", "_law_tie"] Zcl:=by
 have sc:=Zeh;refine F.ok sc (fun vs H Q E h=> ?_) (fun cdv A outer s H vs Q E hr h=> ?_)
 ·obtain⟨b,xs,S,kk,rfl,_⟩:=h;rfl
 ·obtain⟨b,xs,S,kk,rfl,h1,h2,h3,h4,k1,k2⟩:=h
  refine⟨_,(Zaf (ZcU (xs:=["_law_at", "_law_triangle"]) (Nb:=["_law_sheet_here", "_law_tie", "_law_spots", "_law_here", "_law_p", "_law_q", "_law_there", "_law_u", "_law_v"]) (Zaj (i:=2) sc.nd rfl (Or.inl rfl)) rfl rfl (Zjn rfl B.en (Zac (pv 0) Zab)) rfl (by show∀p∈(List.zip ["_law_sheet_here", "_law_tie", "_law_spots", "_law_here", "_law_p", "_law_q", "_law_there", "_law_u", "_law_v"] ["_law_sheet_here", "_law_tie", "_law_spots", "_law_here", "_law_p", "_law_q", "_law_there", "_law_u", "_law_v"]:List (Str×Str)),_;decide +kernel) (by decide +kernel) (fun cl C s₂ H₂ fp=>(ZgB (K:=K) (n:=2) rfl (Zaq (Zaj (i:=0) (by show List.Nodup (["_law_at", "_law_triangle", "_law_sheet_here", "_law_tie", "_law_spots", "_law_here", "_law_p", "_law_q", "_law_there", "_law_u", "_law_v"]:List Str);decide +kernel) rfl (Or.inl (Qag rfl)) (Or.inr (Qag rfl))) (Zaq (Zaj (i:=1) (by show List.Nodup (["_law_at", "_law_triangle", "_law_sheet_here", "_law_tie", "_law_spots", "_law_here", "_law_p", "_law_q", "_law_there", "_law_u", "_law_v"]:List Str);decide +kernel) rfl (Or.inl (Qag rfl)) (Or.inr (Qag rfl))) Zbe)))) (fun cl C s₂ H₂ fp=>(ZmF (Zax (Zow (K:=K)) (pv 3) (ZaM (xs:=["_law_side"]) (Nb:=["_law_at", "_law_triangle", "_law_sheet_here", "_law_tie", "_law_spots", "_law_here", "_law_p", "_law_q", "_law_there", "_law_u", "_law_v"]) rfl (ZmY (K:=K) (pv 1)) rfl (by show∀p∈(List.zip ["_law_at", "_law_triangle", "_law_sheet_here", "_law_tie", "_law_spots", "_law_here", "_law_p", "_law_q", "_law_there", "_law_u", "_law_v"] ["_law_at", "_law_triangle", "_law_sheet_here", "_law_tie", "_law_spots", "_law_here", "_law_p", "_law_q", "_law_there", "_law_u", "_law_v"]:List (Str×Str)),_;decide +kernel) (by decide +kernel) (fun cl C s₂ H₂ fp=>(Zaj (i:=0) (by show List.Nodup (["_law_side", "_law_at", "_law_triangle", "_law_sheet_here", "_law_tie", "_law_spots", "_law_here", "_law_p", "_law_q", "_law_there", "_law_u", "_law_v"]:List Str);decide +kernel) rfl (Or.inl (Qag rfl)) (Or.inr (Qag rfl)))) (fun cl C s₂ H₂ fp=>ZaQ) (fun cl C s₂ H₂ fp=>(Zao ZbV (by rfl) B.ab Qdn (Zac (pv 0) Zab))) (by decide +kernel) rfl (by decide +kernel) (by refine fun y hy e=>absurd e ((?_:∀z∈(_:List (Str×NameKind)),z.2≠NameKind.free) y hy);decide +kernel)) rfl))) (fun cl C s₂ H₂ fp=>(pv 0)) (by decide +kernel) rfl (by decide +kernel) (by show∀y∈(_:List (Str×NameKind)),y.2=NameKind.free→(Zag Za6).names.lookup y.1=some .cell;decide +kernel))
   (Zaf (ZbH (Zax Zh5 (Zao (ZaI (K:=K)) (by rfl) M.len Qbj (Zac (pv 2) Zab)) Zad (ZaF _)) (Zah (ZaB ZiH)) ZaU)
   (Zaf (Zb3 (Zal qC hr rfl (ZbB (Zbv (ZaD (K:=K)) (pv 0) (Zbv (ZaD (K:=K)) (pv 2) Zad (fun _ _=>rfl)) (fun _ _=>rfl)) (Zac (pv 1) Zab))) (Zcn rfl (Zaq (Zaj (i:=3) sc.nd rfl (Or.inl rfl)) (Zaq (Zaj (i:=4) sc.nd rfl (Or.inl rfl)) (Zaq (Zaj (i:=5) sc.nd rfl (Or.inl rfl)) Zbe)))))
   (Zaf (Zb3 (Zal qC hr rfl (ZbB (Zbv (ZaD (K:=K)) (pv 0) (Zbv (ZaD (K:=K)) (pv 2) Zad (fun _ _=>rfl)) (fun _ _=>rfl)) (Zac (pv 1) Zab))) (Zcn rfl (Zaq (Zaj (i:=6) sc.nd rfl (Or.inl rfl)) (Zaq (Zaj (i:=7) sc.nd rfl (Or.inl rfl)) (Zaq (Zaj (i:=8) sc.nd rfl (Or.inl rfl)) Zbe)))))
   (Zaf (ZbH (Zax ZcJ (pv 3) (pv 6) (ZaF _)) (Zah (ZaB (ZaX (Zb2 (pv 2) (ZaX (ZeQ (pv 4) (pv 5) (Zfy Zdh (pv 8)) (Zfy Zdh (pv 7)) Zab)) Zab)))) ZaU)
   (Zah (ZaB (ZaX (Zb2 (pv 2) (ZaX (ZeQ (pv 4) (pv 5) (pv 7) (pv 8) Zab)) Zab))))))))),?_⟩
  exact Zf7 (K:=K) h1 h2 h3 h4 k1 k2
abbrev Zbo:Stmt:=top 20
theorem Zei:ZaC ["_law_sheet_here", "_law_tie", "_law_spots", "_law_square_here", "_law_p", "_law_q", "_law_u", "_law_v", "_law_made"] ["_law_sheet_here", "_law_tie"] (Zag Zbo):=⟨rfl,rfl,rfl,by decide +kernel,rfl,by decide +kernel,by decide +kernel⟩
theorem Ziw {fd:FuncData}(F:Fun K "_law_turned" "_law_turned" Zbo f fd)(M:Txt mg)(qe:Kn P w K mg base "_law_square" 2 ["_law_sheet_here", "_law_tie"] Zcl):Zcc P w K mg base CX0 3 f fd ["_law_sheet_here", "_law_tie"] ZdY:=by
 have sc:=Zei;refine F.ok sc (fun vs H Q E h=> ?_) (fun cdv A outer s H vs Q E hr h=> ?_)
 ·obtain⟨b,xs,S,kk,i,p,j,r,t,u,P,Q2,U,W,rfl,_⟩:=h;rfl
 ·obtain⟨b,xs,S,kk,i,p,j,r,t,u,P,Q2,U,W,rfl,h1,h2,h3,h4,h5,k⟩:=h
  refine⟨_,(Zaf (Zb3 (Zal qe hr rfl (Zac (pv 0) (Zac (pv 1) Zab))) (Zcn rfl (Zaq (Zaj (i:=2) sc.nd rfl (Or.inl rfl)) (Zaq (Zaj (i:=3) sc.nd rfl (Or.inl rfl)) Zbe))))
   (Zaf (Zb3 (pv 3) (Zcn rfl (Zaq (Zaj (i:=4) sc.nd rfl (Or.inl rfl)) (Zaq (Zaj (i:=5) sc.nd rfl (Or.inl rfl)) (Zaq (Zaj (i:=6) sc.nd rfl (Or.inl rfl)) (Zaq (Zaj (i:=7) sc.nd rfl (Or.inl rfl)) Zbe))))))
   (Zaf (Zav (i:=8) sc.nd rfl (Or.inl rfl) (Za9 Zbz (by rfl) M.list Qdd (Zac (pv 0) Zab)))
   (Zaf (Zb3 (ZaX (Zje (pv 5) (pv 6) (Zfy Zdh (pv 1)) Zab)) (Zeo (pv 8) (Zbv (ZaD (K:=K)) (pv 2) Zad (fun _ _=>rfl)) ZcC))
   (Zaf (Zb3 (ZaX (Zje (pv 7) (pv 4) (pv 1) Zab)) (Zeo (pv 8) (Zbv (ZaD (K:=K)) (pv 2) Zad (fun _ _=>rfl)) ZcC))
   (Zah (ZaB (pv 8)))))))),?_⟩
  exact Zfh (K:=K) h1 h2 h3 h4 h5 k
abbrev ZaW:Stmt:=top 21
theorem Zd6:ZaC ["_law_sheet_here", "_law_row", "_law_tie", "_law_p", "_law_q", "_law_u", "_law_v"] ["_law_sheet_here", "_law_row", "_law_tie"] (Zag ZaW):=⟨rfl,rfl,rfl,by decide +kernel,rfl,by decide +kernel,by decide +kernel⟩
theorem Zix {fd:FuncData}(F:Fun K "_law_carried" "_law_carried" ZaW f fd)(M:Txt mg)(qe:Kn P w K mg base "_law_square" 2 ["_law_sheet_here", "_law_tie"] Zcl)(B:Gb mg):Zcc P w K mg base CX0 3 f fd ["_law_sheet_here", "_law_row", "_law_tie"] Zd5:=by
 have sc:=Zd6;refine F.ok sc (fun vs H Q E h=> ?_) (fun cdv A outer s H vs Q E hr h=> ?_)
 ·obtain⟨b,c,xs,S,r,kk,i,p,j,q,t,u,P,Q2,U,W,rfl,_⟩:=h;rfl
 ·obtain⟨b,c,xs,S,r,kk,i,p,j,q,t,u,P,Q2,U,W,rfl,h1,h2,h3,h4,h5,h6,h7,k⟩:=h
  refine⟨_,(Zaf (Zb3 (ZaM (xs:=["_law_side"]) (Nb:=["_law_sheet_here", "_law_row", "_law_tie", "_law_p", "_law_q", "_law_u", "_law_v"]) rfl (ZcT (Zbv ZlQ (Zal qe hr rfl (Zac (pv 0) (Zac (pv 2) Zab))) Zad (fun _ _=>rfl))) rfl (by show∀p∈(List.zip ["_law_sheet_here", "_law_row", "_law_tie", "_law_p", "_law_q", "_law_u", "_law_v"] ["_law_sheet_here", "_law_row", "_law_tie", "_law_p", "_law_q", "_law_u", "_law_v"]:List (Str×Str)),_;decide +kernel) (by decide +kernel) (fun cl C s₂ H₂ fp=>(Zaj (i:=0) (by show List.Nodup (["_law_side", "_law_sheet_here", "_law_row", "_law_tie", "_law_p", "_law_q", "_law_u", "_law_v"]:List Str);decide +kernel) rfl (Or.inl (Qag rfl)) (Or.inr (Qag rfl)))) (fun cl C s₂ H₂ fp=>ZaQ) (fun cl C s₂ H₂ fp=>(Zbv (ZaD (K:=K)) (pv 2) (Zar ZbJ (Zao ZbV (by rfl) B.ab Qdn (Zac (pv 0) Zab)) Zad) (fun _ _=>rfl))) (by decide +kernel) rfl (by decide +kernel) (by show∀y∈(_:List (Str×NameKind)),y.2=NameKind.free→(Zag ZaW).names.lookup y.1=some .cell;decide +kernel)) (Zja rfl (Zaq (Zaj (i:=3) sc.nd rfl (Or.inl rfl)) (Zaq (Zaj (i:=4) sc.nd rfl (Or.inl rfl)) (Zaq (Zaj (i:=5) sc.nd rfl (Or.inl rfl)) (Zaq (Zaj (i:=6) sc.nd rfl (Or.inl rfl)) Zbe))))))
   (Zah (ZaB (Zar Zes (Zar Zes (ZcB ZeI (pv 1) ZdA (Zcv (Zar ZbJ (pv 2) Zad))) (Zbg (Zbm (Zar ZbJ (Zao (Zfz rfl) (by rfl) M.max boot_max (Zbm (Zar ZaS (pv 3) (pv 5)) (Zbm (Zar ZaS (pv 4) (pv 6)) Zab))) (Zbv (ZaD (K:=K)) (pv 1) (Zar ZbJ (pv 2) Zad) (fun _ _=>rfl))) Zab))) (ZcB ZeI (pv 1) (Zcv (pv 2)) ZdA))))),?_⟩
  exact Zfo (K:=K) h1 h2 h3 h4 h5 h6 h7 k
abbrev Za7:Stmt:=top 25
theorem Zej:ZaC ["_law_row", "_law_triangle", "_law_one", "_law_two", "_law_three"] ["_law_row", "_law_triangle"] (Zag Za7):=⟨rfl,rfl,rfl,by decide +kernel,rfl,by decide +kernel,by decide +kernel⟩
theorem Zkv {fd:FuncData}(F:Fun K "_law_corner" "_law_corner" Za7 f fd)(M:Txt mg)(B:Gb mg):Zcc P w K mg base CX0 1 f fd ["_law_row", "_law_triangle"] Znd:=by
 have sc:=Zej;refine F.ok sc (fun vs H Q E h=> ?_) (fun cdv A outer s H vs Q E hr h=> ?_)
 ·obtain⟨c,q,r,x,y,z,rfl,_⟩:=h;rfl
 ·obtain⟨c,q,r,x,y,z,rfl,h1,h2,h3,k⟩:=h
  refine⟨_,(Zaf (Zb3 (ZaM (xs:=["_law_side"]) (Nb:=["_law_row", "_law_triangle", "_law_one", "_law_two", "_law_three"]) rfl (ZcT (pv 1)) rfl (by show∀p∈(List.zip ["_law_row", "_law_triangle", "_law_one", "_law_two", "_law_three"] ["_law_row", "_law_triangle", "_law_one", "_law_two", "_law_three"]:List (Str×Str)),_;decide +kernel) (by decide +kernel) (fun cl C s₂ H₂ fp=>(Zaj (i:=0) (by show List.Nodup (["_law_side", "_law_row", "_law_triangle", "_law_one", "_law_two", "_law_three"]:List Str);decide +kernel) rfl (Or.inl (Qag rfl)) (Or.inr (Qag rfl)))) (fun cl C s₂ H₂ fp=>ZaQ) (fun cl C s₂ H₂ fp=>(Zbv (ZaD (K:=K)) (pv 1) (Zar ZbJ (Zao ZbV (by rfl) B.ab Qdn (Zac (pv 0) Zab)) Zad) (fun _ _=>rfl))) (by decide +kernel) rfl (by decide +kernel) (by show∀y∈(_:List (Str×NameKind)),y.2=NameKind.free→(Zag Za7).names.lookup y.1=some .cell;decide +kernel)) (Zja rfl (Zaq (Zaj (i:=2) sc.nd rfl (Or.inl rfl)) (Zaq (Zaj (i:=3) sc.nd rfl (Or.inl rfl)) (Zaq (Zaj (i:=4) sc.nd rfl (Or.inl rfl)) Zbe)))))
   (Zah (ZaB (Zbg (Zje (Zar ZbM (Zar ZbJ (Zar ZaS (pv 2) (pv 3)) (pv 4)) Zad) (Zar ZbM (Zar ZbJ (Zar ZaS (pv 3) (pv 4)) (pv 2)) Zad) (Zar ZbM (Zar ZbJ (Zar ZaS (pv 4) (pv 2)) (pv 3)) Zad) Zab))))),?_⟩
  exact Zkh (K:=K) h1 h2 h3 k
abbrev ZbT:Stmt:=top 26
theorem Zgj:ZaC ["_law_side", "_law_count", "_law_t"] ["_law_side", "_law_count", "_law_t"] (Zag ZbT):=⟨rfl,rfl,rfl,by decide +kernel,rfl,by decide +kernel,by decide +kernel⟩
theorem Zno {fd:FuncData}(F:Fun K "_law_spot" "_law_spot" ZbT f fd)(M:Txt mg):Zcc P w K mg base CX0 1 f fd ["_law_side", "_law_count", "_law_t"] ZhU:=by
 have sc:=Zgj;refine F.ok sc (fun vs H Q E h=> ?_) (fun cdv A outer s H vs Q E hr h=> ?_)
 ·obtain⟨x,y,z,rfl,_⟩:=h;rfl
 ·obtain⟨x,y,z,rfl,k⟩:=h
  refine⟨_,(Zaf (ZbH (Zax ZiS (pv 0) Zad (ZaF _)) (Zah (ZaB (ZaX (Zb2 (pv 0) (Zar ZbJ (Zar ZbJ (pv 1) Zad) (pv 2)) Zab)))) ZaU)
   (Zah (ZaB (ZaX (Zb2 (Zfy Zdh (pv 0)) (pv 2) Zab))))),?_⟩
  exact Zit (K:=K) k
abbrev ZbF:Stmt:=top 27
theorem Zfr:ZaC ["_law_sheet_here", "_law_row", "_law_pairs", "_law_triangle", "_law_some", "_law_i", "_law_here", "_law_there", "_law_t", "_law_one"] ["_law_sheet_here", "_law_row"] (Zag ZbF):=⟨rfl,rfl,rfl,by decide +kernel,rfl,by decide +kernel,by decide +kernel⟩
theorem ZlF {fd:FuncData}(F:Fun K "_law_joins" "_law_joins" ZbF f fd)(M:Txt mg)(qD:Kn P w K mg base "_law_corner" 1 ["_law_row", "_law_triangle"] Znd)(qE:Kn P w K mg base "_law_spot" 1 ["_law_side", "_law_count", "_law_t"] ZhU)(B:Gb mg):Zcc P w K mg base CX0 2 f fd ["_law_sheet_here", "_law_row"] Zg7:=by
 have sc:=Zfr;refine F.ok sc (fun vs H Q E h=> ?_) (fun cdv A outer s H vs Q E hr h=> ?_)
 ·obtain⟨b,c,xs,S,r,rfl,_⟩:=h;rfl
 ·obtain⟨b,c,xs,S,r,rfl,h1,k⟩:=h
  refine⟨_,(Zaf (Zav (i:=2) sc.nd rfl (Or.inl rfl) (Zbg Zab))
   (Zaf (Zby QaV rfl (Za3 (pv 0)) (Zaj (i:=3) sc.nd rfl (Or.inl rfl))
   (Zaf (Zav (i:=4) sc.nd rfl (Or.inl rfl) (Zal qD hr rfl (Zac (pv 1) (Zac (pv 3) Zab))))
   (Zah (Zby QaV rfl (Zbf rfl M.range (Zap Zad Zab)) (Zaj (i:=5) sc.nd rfl (Or.inl rfl))
   (Zaf (ZnN (i:=6) (j:=7) rfl sc.nd rfl rfl (by decide) rfl rfl (Zb2 (Zbv (ZdI (K:=K)) (pv 3) (pv 5) (fun _ _=>rfl)) (Zbv (ZdI (K:=K)) (pv 3) (Zar Zcu (Zar ZaS (pv 5) Zad) Zad) (fun _ _=>rfl)) Zab) rfl)
   (Zah (Zby QaV rfl (Zbf rfl M.range (ZbB (Zbv (ZaD (K:=K)) (pv 4) (pv 5) (fun _ _=>rfl)) Zab)) (Zaj (i:=8) sc.nd rfl (Or.inl rfl))
   (Zaf (Zav (i:=9) sc.nd rfl (Or.inl rfl) (Zal qE hr rfl (Zac (pv 6) (ZbB (Zbv (ZaD (K:=K)) (pv 1) (Zar ZbJ (Zao ZbV (by rfl) B.ab Qdn (Zac (pv 6) Zab)) Zad) (fun _ _=>rfl)) (Zac (pv 8) Zab)))))
   (Zah (Zce (Zdk Qa0 Qbt Qbu Zb1 (pv 2) (Zht (ZaX (Zb2 (pv 9) (Zal qE hr rfl (Zic (Zfy Zdh (pv 7)) (ZbB (Zbv (ZaD (K:=K)) (pv 1) (Zar ZbJ (Zao ZbV (by rfl) B.ab Qdn (Zac (pv 7) Zab)) Zad) (fun _ _=>rfl)) (Zac (pv 8) Zab)))) Zab)) Zab))))))))))))
   (Zah (ZaB (pv 2))))),?_⟩
  exact Zha (K:=K) h1 k
abbrev ZaK:Stmt:=top 28
theorem Zdd:ZaC ["_law_row", "_law_found", "_law_at", "_law_count"] ["_law_row"] (Zag ZaK):=⟨rfl,rfl,rfl,by decide +kernel,rfl,by decide +kernel,by decide +kernel⟩
theorem Zkw {fd:FuncData}(F:Fun K "_law_crossings" "_law_crossings" ZaK f fd)(M:Txt mg)(B:Gb mg):Zcc P w K mg base CX0 1 f fd ["_law_row"] Zfk:=by
 have sc:=Zdd;refine F.ok sc (fun vs H Q E h=> ?_) (fun cdv A outer s H vs Q E hr h=> ?_)
 ·obtain⟨c,r,rfl,_⟩:=h;rfl
 ·obtain⟨c,r,rfl,h1,h2,h3,k⟩:=h
  refine⟨_,(Zaf (Zav (i:=1) sc.nd rfl (Or.inl rfl) (Zbg Zab))
   (Zaf (Zby QaV rfl (Zjn rfl B.en (Zac (pv 0) Zab)) (Zcn rfl (Zaq (Zaj (i:=2) sc.nd rfl (Or.inr rfl)) (Zaq (Zaj (i:=3) sc.nd rfl (Or.inl rfl)) Zbe)))
   (Zah (Zav (i:=1) sc.nd rfl (Or.inl rfl) (Zar Zes (pv 1) (ZaM (xs:=["_law_k"]) (Nb:=["_law_row", "_law_found", "_law_at", "_law_count"]) rfl (Zbf rfl M.range (Zac (pv 3) Zab)) rfl (by show∀p∈(List.zip ["_law_row", "_law_found", "_law_at", "_law_count"] ["_law_row", "_law_found", "_law_at", "_law_count"]:List (Str×Str)),_;decide +kernel) (by decide +kernel) (fun cl C s₂ H₂ fp=>(Zaj (i:=0) (by show List.Nodup (["_law_k", "_law_row", "_law_found", "_law_at", "_law_count"]:List Str);decide +kernel) rfl (Or.inl (Qag rfl)) (Or.inr (Qag rfl)))) (fun cl C s₂ H₂ fp=>ZaQ) (fun cl C s₂ H₂ fp=>(ZaX (Zb2 (Zar ZaS (pv 3) Zad) (pv 0) Zab))) (by decide +kernel) rfl (by decide +kernel) (by show∀y∈(_:List (Str×NameKind)),y.2=NameKind.free→(Zag ZaK).names.lookup y.1=some .cell;decide +kernel))))))
   (Zah (ZaB (pv 1))))),?_⟩
  exact Zgc (K:=K) h1 h2 h3 k
abbrev ZaO:Stmt:=top 29
theorem Zek:ZaC ["_law_sheet_here", "_law_row", "_law_many", "_law_heap", "_law_ties", "_law_key"] ["_law_sheet_here", "_law_row"] (Zag ZaO):=⟨rfl,rfl,rfl,by decide +kernel,rfl,by decide +kernel,by decide +kernel⟩
theorem Zkx {fd:FuncData}(F:Fun K "_law_walked" "_law_walked" ZaO f fd)(M:Txt mg)(qk:Kn P w K mg base "_law_heaps" 2 ["_law_things", "_law_pairs"] (Zhd true))(qu:Kn P w K mg base "_law_crossings" 1 ["_law_row"] Zfk)(qL:Kn P w K mg base "_law_joins" 2 ["_law_sheet_here", "_law_row"] Zg7):Zcc P w K mg base CX0 3 f fd ["_law_sheet_here", "_law_row"] Zfl:=by
 have sc:=Zek;refine F.ok sc (fun vs H Q E h=> ?_) (fun cdv A outer s H vs Q E hr h=> ?_)
 ·obtain⟨b,c,xs,S,r,rfl,_⟩:=h;rfl
 ·obtain⟨b,c,xs,S,r,rfl,h1,k⟩:=h
  refine⟨_,(Zaf (Zav (i:=2) sc.nd rfl (Or.inr rfl) ZkY)
   (Zaf (Zby QaV rfl (Za3 (Zal qk hr rfl (ZaV (Zal qu hr rfl (Zac (pv 1) Zab)) (ZaV (Zal qL hr rfl (Zac (pv 0) (Zac (pv 1) Zab))) Zab)))) (Zaj (i:=3) sc.nd rfl (Or.inl rfl))
   (Zaf (Zav (i:=4) sc.nd rfl (Or.inr rfl) (ZaM (xs:=["_law_tie", "_law_at"]) (Nb:=["_law_sheet_here", "_law_row", "_law_many", "_law_heap", "_law_ties", "_law_key"]) rfl (Za3 (pv 3)) rfl (by show∀p∈(List.zip ["_law_sheet_here", "_law_row", "_law_many", "_law_heap", "_law_ties", "_law_key"] ["_law_sheet_here", "_law_row", "_law_many", "_law_heap", "_law_ties", "_law_key"]:List (Str×Str)),_;decide +kernel) (by decide +kernel) (fun cl C s₂ H₂ fp=>(ZgB (K:=K) (n:=2) rfl (Zaq (Zaj (i:=0) (by show List.Nodup (["_law_tie", "_law_at", "_law_sheet_here", "_law_row", "_law_many", "_law_heap", "_law_ties", "_law_key"]:List Str);decide +kernel) rfl (Or.inl (Qag rfl)) (Or.inr (Qag rfl))) (Zaq (Zaj (i:=1) (by show List.Nodup (["_law_tie", "_law_at", "_law_sheet_here", "_law_row", "_law_many", "_law_heap", "_law_ties", "_law_key"]:List Str);decide +kernel) rfl (Or.inl (Qag rfl)) (Or.inr (Qag rfl))) Zbe)))) (fun cl C s₂ H₂ fp=>ZaQ) (fun cl C s₂ H₂ fp=>(pv 0)) (by decide +kernel) rfl (by decide +kernel) (by show∀y∈(_:List (Str×NameKind)),y.2=NameKind.free→(Zag ZaO).names.lookup y.1=some .cell;decide +kernel)))
   (Zaf (Zav (i:=5) sc.nd rfl (Or.inl rfl) (Za9 Zcg (by rfl) M.tuple boot_tuple (ZaH (ZaM (xs:=["_law_k"]) (Nb:=["_law_sheet_here", "_law_row", "_law_many", "_law_heap", "_law_ties", "_law_key"]) rfl (Zbf rfl M.range (ZaV (Zao (ZaI (K:=K)) (by rfl) M.len Qbj (Zac (pv 1) Zab)) Zab)) rfl (by show∀p∈(List.zip ["_law_sheet_here", "_law_row", "_law_many", "_law_heap", "_law_ties", "_law_key"] ["_law_sheet_here", "_law_row", "_law_many", "_law_heap", "_law_ties", "_law_key"]:List (Str×Str)),_;decide +kernel) (by decide +kernel) (fun cl C s₂ H₂ fp=>(Zaj (i:=0) (by show List.Nodup (["_law_k", "_law_sheet_here", "_law_row", "_law_many", "_law_heap", "_law_ties", "_law_key"]:List Str);decide +kernel) rfl (Or.inl (Qag rfl)) (Or.inr (Qag rfl)))) (fun cl C s₂ H₂ fp=>ZaQ) (fun cl C s₂ H₂ fp=>(Zmc (K:=K) Qa0 PySem.F.slot_list_count PySem.F.type_list_count Zk8 (pv 5) (Zbm (Zar ZaS (pv 0) Zad) Zab))) (by decide +kernel) rfl (by decide +kernel) (by show∀y∈(_:List (Str×NameKind)),y.2=NameKind.free→(Zag ZaO).names.lookup y.1=some .cell;decide +kernel)) Zab)))
   (Zah (ZmK (ZmD hr) (pv 2) (pv 5) (Zar ZaS (ZkZ (ZmD hr) (pv 2) (pv 5) Zad ⟨rfl,rfl,rfl,rfl⟩) Zad) rfl)))))
   (Zah (ZaB (Zao (Zfj hr) (by rfl) M.sorted QeC (ZaH (ZaM (xs:=["_law_key"]) (Nb:=["_law_sheet_here", "_law_row", "_law_many", "_law_heap", "_law_ties", ""]) rfl (Zlv (pv 2)) rfl (by show∀p∈(List.zip ["_law_sheet_here", "_law_row", "_law_many", "_law_heap", "_law_ties", ""] ["_law_sheet_here", "_law_row", "_law_many", "_law_heap", "_law_ties", "_law_key"]:List (Str×Str)),_;decide +kernel) (by decide +kernel) (fun cl C s₂ H₂ fp=>(Zaj (i:=0) (by show List.Nodup (["_law_key", "_law_sheet_here", "_law_row", "_law_many", "_law_heap", "_law_ties", ""]:List Str);decide +kernel) rfl (Or.inl (Qag rfl)) (Or.inr (Qag rfl)))) (fun cl C s₂ H₂ fp=>ZaQ) (fun cl C s₂ H₂ fp=>(ZaX (Zb2 (Za9 (Zef (K:=K)) (by rfl) M.list Qdd (Zac (pv 0) Zab)) (ZmJ (ZmD hr) (pv 3) (pv 0) (fun _ _=>rfl)) Zab))) (by decide +kernel) rfl (by decide +kernel) (by show∀y∈(_:List (Str×NameKind)),y.2=NameKind.free→(Zag ZaO).names.lookup y.1=some .cell;decide +kernel)) Zab)))))),?_⟩
  exact Zgd (K:=K) h1 k
end
theorem Zmq {ys:List V}{uss:List (List (List Int))}(h:LsL H true ys uss)(hn:∀g∈uss,g≠ [])(hc:H c=some (.lst (ns.map V.int))):∀y∈ys,y≠ .ref c:=fun y hy e=>by
 obtain⟨i,hi⟩:=Qat.mp hy;have il:i<uss.length:=by rw[←h.1];exact(Qac.mp hi).1
 obtain⟨a,xs,ea,ha,it⟩:=h.2 i y _ hi (Qab il);rw[ea] at e;cases e;rw[hc] at ha;cases ha;have ng:=hn uss[i] (Qbo il)
 cases z:uss[i] with
 |nil=>exact ng z
 |cons u us=>
  rw[z] at it
  cases ns with
  |nil=>have:=it.1;simp at this
  |cons n ns=>cases it.head
theorem ZbN.set (a:ZbN H d)(n:l≠d):ZbN (L2.upd H l o) d:=by
 obtain⟨m,e⟩:=a;exact⟨m,by rw[Zan (Ne.symm n)];exact e⟩
section
variable {K:PySem.W.Frag}
abbrev Zbj:Stmt:=top 24
theorem Zfs:ZaC ["_law_sheet_here", "_law_rest", "_law_most", "_law_made", "_law_heap", "_law_many", "_law_tie", "_law_at"] ["_law_sheet_here", "_law_rest", "_law_most"] (Zag Zbj):=⟨rfl,rfl,rfl,by decide +kernel,rfl,by decide +kernel,by decide +kernel⟩
def Zcy:Sp:=fun vs H Q _=>∃(b d:Addr) (m:Int) (xs:List V) (S:List (List Int)),vs=[.ref b,.ref d,.int m]∧H b=some (.lst xs)∧TuL H xs S∧Zb4 S∧ZbN H d∧b≠d∧0<m∧Dgt m∧∀(c:Addr) (r:List Int) (H':Hp),But d H H'→ZbN H' d→H c=none→H' c=some (.lst (r.map V.int))→ZbX S r→Q (.ref c) H'
theorem ZlG {fd:FuncData}(F:Fun K "_law_rings" "_law_rings" Zbj f fd)(M:Txt mg)(qv:Kn P w K mg base "_law_points_of" 3 ["_law_sheet_here"] ZoL)(qd:Kn P w K mg base "_law_digit" 1 ["_law_rest", "_law_many"] Zbr):Zcc P w K mg base CX0 4 f fd ["_law_sheet_here", "_law_rest", "_law_most"] Zcy:=by
 have sc:=Zfs;refine F.ok sc (fun vs H Q E h=> ?_) (fun cdv A outer s H vs Q E hr h=> ?_)
 ·obtain⟨b,d,m,xs,S,rfl,_⟩:=h;rfl
 ·obtain⟨b,d,m,xs,S,rfl,hb,tS,oS,R0,nbd,m0,m1,k⟩:=h
  refine⟨_,(Zaf (ZcU (xs:=["_law_k"]) (Nb:=["_law_sheet_here", "_law_rest", "_law_most", "_law_made", "_law_heap", "_law_many", "_law_tie", "_law_at"]) (Zaj (i:=3) sc.nd rfl (Or.inl rfl)) rfl rfl (Zbf rfl M.range (Zbm (Zar ZbM (Zar ZbK (Zao (ZaI (K:=K)) (by rfl) M.len Qbj (Zac (pv 0) Zab)) Zad) Zad) Zab)) rfl (by show∀p∈(List.zip ["_law_sheet_here", "_law_rest", "_law_most", "_law_made", "_law_heap", "_law_many", "_law_tie", "_law_at"] ["_law_sheet_here", "_law_rest", "_law_most", "_law_made", "_law_heap", "_law_many", "_law_tie", "_law_at"]:List (Str×Str)),_;decide +kernel) (by decide +kernel) (fun cl C s₂ H₂ fp=>(Zaj (i:=0) (by show List.Nodup (["_law_k", "_law_sheet_here", "_law_rest", "_law_most", "_law_made", "_law_heap", "_law_many", "_law_tie", "_law_at"]:List Str);decide +kernel) rfl (Or.inl (Qag rfl)) (Or.inr (Qag rfl)))) (fun cl C s₂ H₂ fp=>ZaQ) (fun cl C s₂ H₂ fp=>Zad) (by decide +kernel) rfl (by decide +kernel) (by show∀y∈(_:List (Str×NameKind)),y.2=NameKind.free→(Zag Zbj).names.lookup y.1=some .cell;decide +kernel))
   (Zaf (Zby QaV rfl (Za3 (Zal qv hr rfl (Zac (pv 0) Zab))) (Zaj (i:=4) sc.nd rfl (Or.inl rfl))
   (Zaf (Zav (i:=5) sc.nd rfl (Or.inl rfl) (Zal qd hr rfl (Zac (pv 1) (Zac (pv 2) Zab))))
   (Zah (Zby QaV rfl (Za3 (pv 4)) (Zcn rfl (Zaq (Zaj (i:=6) sc.nd rfl (Or.inl rfl)) (Zaq (Zaj (i:=7) sc.nd rfl (Or.inl rfl)) Zbe)))
   (Zah (Zb3 (Zar ZaS (Zbv (ZaD (K:=K)) (pv 3) (Zar ZbJ (pv 6) Zad) (fun _ _=>rfl)) (pv 5)) (Zeo (pv 3) (Zar ZbJ (pv 6) Zad) ZcC)))))))
   (Zah (ZaB (pv 3))))),?_⟩
  have lS:=oS.len;have lx:xs.length=S.length:=tS.1;have e7:(((xs.length:Nat):Int)*3/2).toNat=S.length/2*3:=by rw[lx];omega
  refine⟨_,rfl,b,xs,rfl,.inl (SqL.of hb),((xs.length:Nat):Int),3,rfl,rfl,.inr ⟨by decide,by decide⟩,((xs.length:Nat):Int)*3,2,rfl,rfl,⟨by decide,by decide⟩,((xs.length:Nat):Int)*3/2,rfl,by omega,by omega,ZgA (lo:=0) (n:=(((xs.length:Nat):Int)*3/2).toNat) (fun i ys H'=>ys=(List.replicate i (0:Int)).map V.int∧H=H') ⟨rfl,rfl⟩ (by omega) (fun i ys H' h=>by rw[h.1,Qaa,Qbl];exact Qaf _) ?_ ?_⟩
  ·rintro i ys H' pre qm hi ⟨rfl,rfl⟩;rcases pre with _|⟨q0,_|⟨q1,pre⟩⟩
   ·cases qm
   ·refine⟨⟨[some _],rfl,rfl⟩,?_⟩;unfold Zcp;dsimp only;rw[if_pos (rfl:true=true)];refine⟨?_,rfl⟩;rw[List.replicate_succ',Qam];rfl
   ·cases qm
  rintro ys H' ⟨rfl,rfl⟩ c hc;rw[e7];have s1:=Zai.nw (o:=.lst ((List.replicate (S.length/2*3) (0:Int)).map V.int)) (Zai.refl H) hc;have fc:(upd H c (.lst ((List.replicate (S.length/2*3) (0:Int)).map V.int))) c=some (.lst ((List.replicate (S.length/2*3) (0:Int)).map V.int)):=Zaa;generalize upd H c (.lst ((List.replicate (S.length/2*3) (0:Int)).map V.int))=H1 at s1 fc⊢;have R1:=R0.same s1;have ncd:c≠d:=R0.ne hc;refine⟨_,rfl,b,xs,S,rfl,s1 _ _ hb,tS.up s1.tups,oS,fun q zs ws H2 s2 qf hq lz pt=> ?_⟩;have hc2:=s2 _ _ fc;have R2:=R1.same s2;have nqc:q≠c:=fun z=>by rw[z,fc] at qf;cases qf
  have nqd:q≠d:=fun z=>by obtain⟨n,e⟩:=R1;rw[z,e] at qf;cases qf
  have zc:=Zmq lz pt.parts.ne hc2
  have zd:∀y∈zs,y≠ .ref d:=by
   obtain⟨n,e⟩:=R2;exact Zmq (ns:=[n]) lz pt.parts.ne e
  have zl:zs.length=ws.length:=lz.1;have wnd:ws.flatten.Nodup:=pt.parts.perm.nodup_iff.mpr (ZgS _);refine⟨q,rfl,⟨_,SqL.of hq⟩,ZbI (K:=K) (a:=q) (xs:=zs) (fun i σ H'=>∃(x4 x5 x6 x7:Option V) (r:List Int) (f:List Int→Int),σ=[some (.ref b),some (.ref d),some (.int m),some (.ref c),x4,x5,x6,x7]∧ZbN H' d∧(∀a o,H2 a=some o→a≠c→a≠d→H' a=some o)∧H' c=some (.lst (r.map V.int))∧ZnC (S.length/2*3) (ws.take i) (ws.take i).flatten r f) ⟨_,_,_,_,List.replicate (S.length/2*3) 0,fun _=>0,rfl,R2,fun a o e _ _=>e,hc2,⟨by rw[Qbl],fun _=>Qba _,fun _ _=>rfl,fun g hg=>(by rw[QbF] at hg;cases hg),fun t ht=>by rw[Qcc,if_pos ht];rfl⟩⟩ (fun i σ H' _ h=>by obtain⟨_,_,_,_,_,_,_,_,kp,_⟩:=h;exact SqL.of (kp _ _ hq nqc nqd)) ?_ ?_⟩
  ·rintro i y σ H3 hy ⟨x4,x5,x6,x7,r,f,rfl,R3,kp3,hc3,rg⟩;have il:i<ws.length:=by rw[←zl];exact(Qac.mp hy).1
   have ew:ws[i]?=some ws[i]:=Qab il;obtain⟨g,gx,rfl,hg,ig⟩:=lz.2 i y _ hy ew;have mw:ws[i]∈ws:=Qbo il;generalize ws[i]=wi at ew ig mw;have ngc:g≠c:=fun z=>zc _ (Qaj hy) (by rw[z]);have ngd:g≠d:=fun z=>zd _ (Qaj hy) (by rw[z]);refine⟨_,rfl,_,rfl,d,m,rfl,R3,m0,m1,fun mu H4 mu0 mu1 R4 B4=> ?_⟩;have kp4:∀a o,H2 a=some o→a≠c→a≠d→H4 a=some o:=fun a o e n1 n2=>B4 _ _ (kp3 a o e n1 n2) n2;have hc4:=B4 _ _ hc3 ncd;have wsub:∀u∈wi,u∈ZcK (S.length/2*3):=fun u hu=>pt.parts.perm.subset (Qa7.mpr ⟨wi,mw,hu⟩);have gl:gx.length=wi.length:=ig.1
   have wf:ws.flatten=(ws.take i).flatten++(wi++(ws.drop (i+1)).flatten):=by
    have e0:ws[i]=wi:=by rw[Qab il] at ew;exact QaR ew
    have this:ws=ws.take i++(wi::ws.drop (i+1)):=by rw[←e0,←Qbn il,QaT]
    conv=>lhs;rw[this]
    rw[Qbh,Qa4]
   have wnd2:=wnd;rw[wf,QbD] at wnd2;have wind:wi.Nodup:=(QbD.mp wnd2.2.1).1;refine⟨_,rfl,g,rfl,⟨_,SqL.of (kp4 _ _ hg ngc ngd)⟩,ZbI (K:=K) (a:=g) (xs:=gx) (fun j σ H'=>∃(x6 x7:Option V) (r:List Int) (f:List Int→Int),σ=[some (.ref b),some (.ref d),some (.int m),some (.ref c),some (.ref g),some (.int mu),x6,x7]∧ZbN H' d∧(∀a o,H2 a=some o→a≠c→a≠d→H' a=some o)∧H' c=some (.lst (r.map V.int))∧ZnC (S.length/2*3) (ws.take i) ((ws.take i).flatten++wi.take j) r f∧∀e∈wi.take j,f e=mu) ⟨_,_,r,f,rfl,R4,kp4,hc4,by rw[QbF,QaS];exact rg,fun e he=>(by rw[QbF] at he;cases he)⟩ (fun j σ H' _ h=>by obtain⟨_,_,_,_,_,_,kp,_⟩:=h;exact SqL.of (kp _ _ hg ngc ngd)) ?_ ?_⟩
   ·rintro j y' σ H5 hy' ⟨x6,x7,r,f,rfl,R5,kp5,hc5,rg5,fm⟩;have jl:j<wi.length:=by rw[←gl];exact(Qac.mp hy').1
    have eu:wi[j]?=some wi[j]:=Qab jl;have mu':wi[j]∈wi:=Qbo jl;have itm:=ig.2 j y' _ hy' eu;generalize wi[j]=u at eu mu' itm;obtain⟨t',bb,rfl,t1,t2,hbb⟩:=Zdx.mp (wsub u mu');obtain⟨t,rfl⟩:∃t:Nat,t'=1+(t:Int):=⟨(t'-1).toNat,by omega⟩;have tn:t<S.length/2*3:=by omega
    cases itm with
    |tup hu=>
     rename_i p;have npc:p≠c:=fun z=>by rw[z,hc2] at hu;cases hu
     have npd:p≠d:=fun z=>by obtain⟨n,e⟩:=R2;rw[z,e] at hu;cases hu
     refine⟨p,_,rfl,SqT.of (kp5 _ _ hu npc npd),rfl,_,_,rfl,_,_,rfl,rfl,?_⟩;have er:=rg5.val t tn;generalize hx:f [1+(t:Int),0]+f [1+(t:Int),1]=x at er
     have a1:atI (r.map V.int) (1+(t:Int)-1)=some (V.int x):=by
      rw[show 1+(t:Int)-1=((t:Nat):Int) by omega];exact ZbL (by rw[Qah,er];rfl)
     have a2:ixN (r.map V.int).length (1+(t:Int)-1)=some t:=by
      have:t<(r.map V.int).length:=by rw[Qaa,rg5.len];exact tn
      unfold ixN;rw[if_pos (by omega),if_pos (by omega)];congr 1;omega
     refine⟨_,rfl,_,rfl,_,_,rfl,rfl,c,_,_,_,rfl,rfl,SqL.of hc5,a1,_,rfl,_,_,rfl,rfl,_,rfl,_,rfl,_,_,rfl,rfl,c,_,_,t,rfl,rfl,hc5,a2,?_⟩
     have ns:[1+(t:Int),bb] ∉(ws.take i).flatten++wi.take j:=by
      intro z;rcases Qaq.mp z with z|z
      ·exact wnd2.2.2 _ z _ (QaL _ mu') rfl
      ·have jt:wi=wi.take j++(wi.drop j):=(QaT j wi).symm;rw[jt,QbD] at wind;refine wind.2.2 _ z [1+(t:Int),bb] ?_ rfl;rw[Qbn jl];rw[Qab jl] at eu;rw[QaR eu];exact QaA
     have nw:∀g'∈ws.take i,[1+(t:Int),bb] ∉g':=fun g' hg' z=>ns (QaL _ (Qa7.mpr ⟨g',hg',z⟩));refine⟨_,_,r.set t (x+mu),(fun e=>if e=[1+(t:Int),bb] then mu else f e),rfl,ZbN.set R5 ncd,fun a o e n1 n2=>by rw[Zan n1];exact kp5 a o e n1 n2,?_,?_,?_⟩
     ·rw[Zaa,List.map_set]
     ·rw[Zat eu,←Qaw];exact rg5.put tn hbb mu0 ns nw er
     ·intro e he;rw[Zat eu] at he;dsimp only;by_cases z:e=[1+(t:Int),bb]
      ·rw[if_pos z]
      ·rw[if_neg z];rcases Qaq.mp he with he|he
       ·exact fm e he
       ·exact absurd (QaE.mp he) z
   ·rintro σ H5 ⟨x6,x7,r,f,rfl,R5,kp5,hc5,rg5,fm⟩;rw[gl,QaZ] at rg5 fm;refine⟨_,_,_,_,r,f,rfl,R5,kp5,hc5,?_⟩;have e1:ws.take (i+1)=ws.take i++ [wi]:=Zat ew;have e2:(ws.take (i+1)).flatten=(ws.take i).flatten++wi:=by rw[e1,Qbh];simp
    rw[e2];refine⟨rg5.len,rg5.nn,rg5.off,fun g' hg' x hx y hy=> ?_,rg5.val⟩;rw[e1] at hg';rcases Qaq.mp hg' with z|z
    ·exact rg5.same g' z x hx y hy
    ·rw[QaE.mp z] at hx hy;rw[fm x hx,fm y hy]
  ·rintro σ H3 ⟨x4,x5,x6,x7,r,f,rfl,R3,kp3,hc3,rg⟩;rw[zl,QaZ] at rg;refine⟨_,rfl,k c r H3 (fun a o e n=>kp3 a o (s2 _ _ (s1 _ _ e)) (Zak e hc) n) R3 hc hc3 (Zou oS pt ⟨rg.len,rg.nn,fun e he=>rg.off e fun z=>he (pt.parts.perm.subset z),rg.same,rg.val⟩)⟩
abbrev ZaE:Stmt:=top 22
theorem Zde:ZaC ["_law_sheet_here", "_law_found", "_law_triangle", "_law_odd", "_law_kept", "_law_one"] ["_law_sheet_here"] (Zag ZaE):=⟨rfl,rfl,rfl,by decide +kernel,rfl,by decide +kernel,by decide +kernel⟩
def Zmr:Sp:=fun vs H Q _=>∃(b:Addr) (xs:List V) (S:List (List Int)),vs=[.ref b]∧H b=some (.lst xs)∧TuL H xs S∧Zb4 S∧∀(c:Addr) (ns:List Int) (H':Hp),Zai H H'→H c=none→H' c=some (.lst (ns.map V.int))→(∀v∈ns,0≤v∧∀t∈S,Zf1 v t)→Q (.ref c) H'
theorem Znp {fd:FuncData}(F:Fun K "_law_even_ones" "_law_even_ones" ZaE f fd)(M:Txt mg)(B:Gb mg):Zcc P w K mg base CX0 2 f fd ["_law_sheet_here"] Zmr:=by
 have sc:=Zde;refine F.ok sc (fun vs H Q E h=> ?_) (fun cdv A outer s H vs Q E hr h=> ?_)
 ·obtain⟨b,xs,S,rfl,_⟩:=h;rfl
 ·obtain⟨b,xs,S,rfl,hb,tS,oS,k⟩:=h
  refine⟨_,(Zaf (ZcU (xs:=["_law_k"]) (Nb:=["_law_sheet_here", "_law_found", "_law_triangle", "_law_odd", "_law_kept", "_law_one"]) (Zaj (i:=1) sc.nd rfl (Or.inl rfl)) rfl rfl (Zbf rfl M.range (Zbm (Zar ZbM (Zar ZbK (Zao (ZaI (K:=K)) (by rfl) M.len Qbj (Zac (pv 0) Zab)) Zad) Zad) Zab)) rfl (by show∀p∈(List.zip ["_law_sheet_here", "_law_found", "_law_triangle", "_law_odd", "_law_kept", "_law_one"] ["_law_sheet_here", "_law_found", "_law_triangle", "_law_odd", "_law_kept", "_law_one"]:List (Str×Str)),_;decide +kernel) (by decide +kernel) (fun cl C s₂ H₂ fp=>(Zaj (i:=0) (by show List.Nodup (["_law_k", "_law_sheet_here", "_law_found", "_law_triangle", "_law_odd", "_law_kept", "_law_one"]:List Str);decide +kernel) rfl (Or.inl (Qag rfl)) (Or.inr (Qag rfl)))) (fun cl C s₂ H₂ fp=>ZaQ) (fun cl C s₂ H₂ fp=>(Zar ZnO Zad (pv 0))) (by decide +kernel) rfl (by decide +kernel) (by show∀y∈(_:List (Str×NameKind)),y.2=NameKind.free→(Zag ZaE).names.lookup y.1=some .cell;decide +kernel))
   (Zaf (Zby QaV rfl (Za3 (pv 0)) (Zaj (i:=2) sc.nd rfl (Or.inl rfl))
   (Zaf (Zav (i:=3) sc.nd rfl (Or.inr rfl) (Zbg Zab))
   (Zaf (Zav (i:=4) sc.nd rfl (Or.inl rfl) (Zbg Zab))
   (Zaf (Zby QaV rfl (Za3 (pv 1)) (Zaj (i:=5) sc.nd rfl (Or.inr rfl))
   (Zah (ZbH (Zax ZcJ (Zar Zcu (Zao (ZcD rfl) (by rfl) M.sum QeH (ZaH (ZaM (xs:=["_law_side"]) (Nb:=["_law_sheet_here", "_law_found", "_law_triangle", "_law_odd", "_law_kept", "_law_one"]) rfl (ZcT (pv 2)) rfl (by show∀p∈(List.zip ["_law_sheet_here", "_law_found", "_law_triangle", "_law_odd", "_law_kept", "_law_one"] ["_law_sheet_here", "_law_found", "_law_triangle", "_law_odd", "_law_kept", "_law_one"]:List (Str×Str)),_;decide +kernel) (by decide +kernel) (fun cl C s₂ H₂ fp=>(Zaj (i:=0) (by show List.Nodup (["_law_side", "_law_sheet_here", "_law_found", "_law_triangle", "_law_odd", "_law_kept", "_law_one"]:List Str);decide +kernel) rfl (Or.inl (Qag rfl)) (Or.inr (Qag rfl)))) (fun cl C s₂ H₂ fp=>ZaQ) (fun cl C s₂ H₂ fp=>(Zar ZlN (Zar ZlM (pv 6) (Zar ZbJ (Zao ZbV (by rfl) B.ab Qdn (Zac (pv 0) Zab)) Zad)) Zad)) (by decide +kernel) rfl (by decide +kernel) (by show∀y∈(_:List (Str×NameKind)),y.2=NameKind.free→(Zag ZaE).names.lookup y.1=some .cell;decide +kernel)) Zab)) Zad) Zad (ZaF _)) (Zah (Zce (Zdk Qa0 Qbt Qbu Zb1 (pv 3) (Zac (pv 5) Zab)))) (Zah (Zce (Zdk Qa0 Qbt Qbu Zb1 (pv 4) (Zac (pv 5) Zab)))))))
   (Zah (Zav (i:=1) sc.nd rfl (Or.inl rfl) (Zar Zes (pv 4) (ZaM (xs:=["_law_one"]) (Nb:=["_law_sheet_here", "_law_found", "_law_triangle", "_law_odd", "_law_kept", ""]) rfl (Za3 (ZcB ZeI (pv 3) (Zcv Zad) ZdA)) rfl (by show∀p∈(List.zip ["_law_sheet_here", "_law_found", "_law_triangle", "_law_odd", "_law_kept", ""] ["_law_sheet_here", "_law_found", "_law_triangle", "_law_odd", "_law_kept", "_law_one"]:List (Str×Str)),_;decide +kernel) (by decide +kernel) (fun cl C s₂ H₂ fp=>(Zaj (i:=0) (by show List.Nodup (["_law_one", "_law_sheet_here", "_law_found", "_law_triangle", "_law_odd", "_law_kept", ""]:List Str);decide +kernel) rfl (Or.inl (Qag rfl)) (Or.inr (Qag rfl)))) (fun cl C s₂ H₂ fp=>ZaQ) (fun cl C s₂ H₂ fp=>(Zar ZlO (pv 0) (Zbv (ZaD (K:=K)) (pv 4) Zad (fun _ _=>rfl)))) (by decide +kernel) rfl (by decide +kernel) (by show∀y∈(_:List (Str×NameKind)),y.2=NameKind.free→(Zag ZaE).names.lookup y.1=some .cell;decide +kernel)))))))))
   (Zah (ZaB (pv 1))))),?_⟩
  have lS:=oS.len;have lx:xs.length=S.length:=tS.1;refine⟨_,rfl,b,xs,rfl,.inl (SqL.of hb),((xs.length:Nat):Int),3,rfl,rfl,.inr ⟨by decide,by decide⟩,((xs.length:Nat):Int)*3,2,rfl,rfl,⟨by decide,by decide⟩,((xs.length:Nat):Int)*3/2,rfl,by omega,by omega,ZgA (lo:=0) (n:=(((xs.length:Nat):Int)*3/2).toNat) (fun i ys H'=>∃ns:List Int,ys=ns.map V.int∧ns.length=i∧(∀v∈ns,0≤v)∧H=H') ⟨[],rfl,rfl,fun v hv=>(by cases hv),rfl⟩ (by omega) (fun i ys H' h=>by obtain⟨ns,rfl,l,_⟩:=h;rw[Qaa,l];exact Qaf _) ?_ ?_⟩
  ·rintro i ys H' pre qm hi ⟨ns,rfl,nl,nn,rfl⟩;rcases pre with _|⟨q0,_|⟨q1,pre⟩⟩
   ·cases qm
   ·refine⟨⟨[some _],rfl,rfl⟩,?_⟩;unfold Zcp;dsimp only;rw[if_pos (rfl:true=true)];refine⟨_,rfl,_,_,rfl,rfl,⟨by omega,by omega,by first|decide|omega⟩,ns++ [1*2^(0+(i:Int)).toNat],?_,by simp[nl],fun v hv=> ?_,rfl⟩
    ·rw[Qam];rfl
    ·rcases Qaq.mp hv with hv|hv
     ·exact nn v hv
     ·rw[QaE.mp hv]
      have:=Int.pow_pos (n:=2) (m:=(0+(i:Int)).toNat) (by decide);omega
   ·cases qm
  rintro ys H' ⟨ns,rfl,nl,nn,rfl⟩ c hc;have s1:=Zai.nw (o:=.lst (ns.map V.int)) (Zai.refl H) hc;have fc:(upd H c (.lst (ns.map V.int))) c=some (.lst (ns.map V.int)):=Zaa;generalize upd H c (.lst (ns.map V.int))=H1 at s1 fc⊢;have nl1:ns.length≤18:=by omega
  refine⟨_,rfl,b,rfl,⟨_,SqL.of (s1 _ _ hb)⟩,ZbI (K:=K) (a:=b) (xs:=xs) (fun i σ H'=>∃(c:Addr) (x2 x3 x4 x5:Option V) (ns:List Int),σ=[some (.ref b),some (.ref c),x2,x3,x4,x5]∧Zai H H'∧H c=none∧H' c=some (.lst (ns.map V.int))∧ns.length≤18∧∀v∈ns,0≤v∧∀t∈S.take i,Zf1 v t) ⟨c,_,_,_,_,ns,rfl,s1,hc,fc,nl1,fun v hv=>⟨nn v hv,fun t ht=>(by rw[QbF] at ht;cases ht)⟩⟩ (fun i σ H' _ h=>by obtain⟨_,_,_,_,_,_,_,s',_⟩:=h;exact SqL.of (s' _ _ hb)) ?_ ?_⟩
  ·rintro i y σ H2 hy ⟨c,x2,x3,x4,x5,ns,rfl,s2,cf,hc2,nl2,ok2⟩;obtain⟨t,q,et,rfl,hq⟩:=(tS.up s2.tups).take hy;have mt:t∈S:=Qaj et;have t3:=oS.three t mt;refine⟨(by show 0≤sizeLine;decide),fun o ho=> ?_⟩;have s3:=Zai.nw (o:=.lst []) (Zai.refl H2) ho;have fo:(upd H2 o (.lst [])) o=some (.lst (([]:List Int).map V.int)):=Zaa;generalize upd H2 o (.lst [])=H3 at s3 fo⊢;refine⟨(by show 0≤sizeLine;decide),fun ke hke=> ?_⟩;have s4:=Zai.nw (o:=.lst []) (Zai.refl H3) hke;have fk:(upd H3 ke (.lst [])) ke=some (.lst (([]:List Int).map V.int)):=Zaa;have nok:o≠ke:=Zak fo hke;generalize upd H3 ke (.lst [])=H4 at s4 fk⊢;have of:H2 o=none:=ho;have kf:H2 ke=none:=s3.free hke;have s24:=s3.trans s4;refine⟨_,rfl,c,rfl,⟨_,SqL.of (s24 _ _ hc2)⟩,ZbI (K:=K) (a:=c) (xs:=ns.map V.int) (fun j σ H'=>∃(x5:Option V) (os ks:List Int),σ=[some (.ref b),some (.ref c),some (.ref q),some (.ref o),some (.ref ke),x5]∧Zai H2 H'∧H' o=some (.lst (os.map V.int))∧H' ke=some (.lst (ks.map V.int))∧os.length+ks.length=j∧(∀v∈os,v∈ns∧Zf0 v t%2=1)∧(∀v∈ks,v∈ns∧Zf0 v t%2=0)) ⟨_,[],[],rfl,s24,s4 _ _ fo,fk,rfl,fun v hv=>(by cases hv),fun v hv=>(by cases hv)⟩ (fun j σ H' _ h=>by obtain⟨_,_,_,_,s',_⟩:=h;exact SqL.of (s' _ _ hc2)) ?_ ?_⟩
   ·rintro j y' σ H5 hy' ⟨x5,os,ks,rfl,s5,ho5,hk5,ol,oo,kk⟩;rw[Qah] at hy'
    cases en:ns[j]? with
    |none=>rw[en] at hy';cases hy'
    |some v=>
     rw[en] at hy';cases hy';have mv:v∈ns:=Qaj en;have v0:=(ok2 v mv).1;have jl:=(Qac.mp en).1;refine⟨_,rfl,q,rfl,⟨_,SqT.of (s5 _ _ hq)⟩,Zi9 (K:=K) (a:=q) (xs:=t.map V.int) (fun m ys H'=>ys=((t.take m).map fun s=>Zd7 v (Zau s-1).toNat).map V.int∧H5=H') ⟨rfl,rfl⟩ (by rw[Qaa];omega) (fun m ys H' h=>by rw[h.1,Qaa,Qaa,QaC];exact Qbi _ _) (fun m ys H' _ h=>by rw[←h.2];exact SqT.of (s5 _ _ hq)) ?_ ?_⟩
     ·rintro m z ys' H' pre hpl hz ⟨rfl,rfl⟩;rw[Qah] at hz
      cases ez:t[m]? with
      |none=>rw[ez] at hz;cases hz
      |some sd=>
       rw[ez] at hz;cases hz;have sb:=oS.side mt (Qaj ez);rcases pre with _|⟨q0,_|⟨q1,pre⟩⟩
       ·cases hpl
       ·refine⟨⟨[some _],rfl,rfl⟩,?_⟩;unfold Zcp;dsimp only;rw[if_pos (rfl:true=true)];refine⟨_,rfl,_,rfl,sd,rfl,_,_,rfl,rfl,_,_,rfl,rfl,(show 0≤Zau sd-1 by omega),_,_,rfl,rfl,?_,rfl⟩;rw[Zat ez,Qam,Qam]
        have:=ZjX v0 (Zau sd-1).toNat;show _++ [V.int (Builtin.bitAnd (v/2^(Zau sd-1).toNat) 1)]=_;rw[this];rfl
       ·cases hpl
     rintro ys' H' ⟨rfl,rfl⟩ D hD;rw[Qaa,QaZ];have s6:=Zai.nw (o:=.lst ((t.map fun s=>Zd7 v (Zau s-1).toNat).map V.int)) (Zai.refl H5) hD;have fD:(upd H5 D (.lst ((t.map fun s=>Zd7 v (Zau s-1).toNat).map V.int))) D=some (.lst ((t.map fun s=>Zd7 v (Zau s-1).toNat).map V.int)):=Zaa;generalize upd H5 D (.lst ((t.map fun s=>Zd7 v (Zau s-1).toNat).map V.int))=H6 at s6 fD⊢;have ho6:=s6 _ _ ho5;have hk6:=s6 _ _ hk5;refine⟨D,_,rfl,SqL.of fD,_,_,rfl,rfl,(by show(0:Int)<2;decide),rfl,_,rfl,?_⟩;have sm:os.length≤1000∧ks.length≤1000:=by omega
     by_cases pv:Zf0 v t%2=1
     ·have ev:decide ((fun i j=>V.int (i%j)) (t.map fun s=>Zd7 v (Zau s-1).toNat).sum 2=V.int 1)=true:=Qan (by show V.int (Zf0 v t%2)=V.int 1;rw[pv]);rw[ev];refine ZdH ⟨_,rfl,.inl ⟨rfl,_,SqL.of ho6⟩,_,rfl,o,_,_,rfl,rfl,ho6,(by rw[Qaa];exact QaN sm.1 (by decide)),?_⟩;refine⟨_,os++ [v],ks,rfl,(s5.trans s6).ow of,by rw[Zaa,Qam];rfl,by rw[Zan (Ne.symm nok)];exact hk6,by simp only[Qae,QaF,Qbp];omega,fun x hx=> ?_,kk⟩;rcases Qaq.mp hx with hx|hx
      ·exact oo x hx
      ·rw[QaE.mp hx];exact⟨mv,pv⟩
     ·have ev:decide ((fun i j=>V.int (i%j)) (t.map fun s=>Zd7 v (Zau s-1).toNat).sum 2=V.int 1)=false:=Qal fun z=>pv (V.int.inj z);rw[ev];refine ZcQ ⟨_,rfl,.inl ⟨rfl,_,SqL.of hk6⟩,_,rfl,ke,_,_,rfl,rfl,hk6,(by rw[Qaa];exact QaN sm.2 (by decide)),?_⟩;refine⟨_,os,ks++ [v],rfl,(s5.trans s6).ow kf,by rw[Zan nok];exact ho6,by rw[Zaa,Qam];rfl,by simp only[Qae,QaF,Qbp];omega,oo,fun x hx=> ?_⟩;rcases Qaq.mp hx with hx|hx
      ·exact kk x hx
      ·rw[QaE.mp hx];exact⟨mv,by omega⟩
   ·rintro σ H5 ⟨x5,os,ks,rfl,s5,ho5,hk5,ol,oo,kk⟩;rw[Qaa] at ol
    have cut1:Zgu (os.map V.int) (some 1) none=(os.drop 1).map V.int:=by
     cases os with
     |nil=>rfl
     |cons o0 os'=>exact(ZfL (xs:=(o0::os').map V.int) (n:=1) (by simp)).trans (by simp)
    refine⟨_,rfl,_,rfl,1,rfl,o,_,rfl,SqL.of ho5,fun sl hsl=> ?_⟩;rw[cut1];have s6:=Zai.nw (o:=.lst ((os.drop 1).map V.int)) (Zai.refl H5) hsl;have fs:(upd H5 sl (.lst ((os.drop 1).map V.int))) sl=some (.lst ((os.drop 1).map V.int)):=Zaa;generalize upd H5 sl (.lst ((os.drop 1).map V.int))=H6 at s6 fs⊢;have ho6:=s6 _ _ ho5;refine⟨sl,rfl,⟨_,SqL.of fs⟩,Zgz (K:=K) (a:=sl) (xs:=(os.drop 1).map V.int) (fun m ys H'=>ys=(((os.drop 1).take m).map fun v=>Builtin.bitXor v (os.headD 0)).map V.int∧H6=H') ⟨rfl,rfl⟩ (by rw[Qaa,Qbd];omega) (fun m ys H' h=>by rw[h.1,Qaa,Qaa,QaC];exact Qbi _ _) (fun m ys H' _ h=>by rw[←h.2];exact SqL.of fs) ?_ ?_⟩
    ·rintro m z ys' H' pre hpl hz ⟨rfl,rfl⟩;rw[Qah] at hz
     cases ez:(os.drop 1)[m]? with
     |none=>rw[ez] at hz;cases hz
     |some v=>
      rw[ez] at hz;cases hz
      have a0:atI (os.map V.int) 0=some (V.int (os.headD 0)):=by
       cases os with
       |nil=>cases ez
       |cons o0 os'=>exact ZbL (j:=0) rfl
      rcases pre with _|⟨q0,_|⟨q1,pre⟩⟩
      ·cases hpl
      ·refine⟨⟨[some _],rfl,rfl⟩,?_⟩;unfold Zcp;dsimp only;rw[if_pos (rfl:true=true)];refine⟨_,rfl,_,rfl,o,_,_,_,rfl,rfl,SqL.of ho6,a0,_,_,rfl,rfl,?_,rfl⟩;rw[Zat ez,Qam,Qam];rfl
      ·cases hpl
    rintro ys' H' ⟨rfl,rfl⟩ D hD;rw[Qaa,QaZ];have s7:=Zai.nw (o:=.lst (((os.drop 1).map fun v=>Builtin.bitXor v (os.headD 0)).map V.int)) (Zai.refl H6) hD;have fD:(upd H6 D (.lst (((os.drop 1).map fun v=>Builtin.bitXor v (os.headD 0)).map V.int))) D=some (.lst (((os.drop 1).map fun v=>Builtin.bitXor v (os.headD 0)).map V.int)):=Zaa;generalize upd H6 D (.lst (((os.drop 1).map fun v=>Builtin.bitXor v (os.headD 0)).map V.int))=H7 at s7 fD⊢;have s57:=s6.trans s7;refine⟨ke,D,_,_,rfl,rfl,s57 _ _ hk5,fD,?_,fun c2 hc2'=> ?_⟩
    ·simp only[Qaa,Qbd];exact QaI (show _≤1000 by omega) (by decide)
    rw[←Qam];have s8:=Zai.nw (o:=.lst ((ks++(os.drop 1).map fun v=>Builtin.bitXor v (os.headD 0)).map V.int)) s57 hc2';refine⟨c2,_,_,_,_,ks++(os.drop 1).map fun v=>Builtin.bitXor v (os.headD 0),rfl,(s2.trans s5).trans s8,(s2.trans (s5.trans s57)).free hc2',Zaa,?_,fun v hv=> ?_⟩
    ·simp only[Qae,Qaa,Qbd];omega
    ·have eT:S.take (i+1)=S.take i++ [t]:=Zat et;rcases Qaq.mp hv with hv|hv
     ·obtain⟨m1,p1⟩:=kk v hv;obtain⟨v0,ev⟩:=ok2 v m1;refine⟨v0,fun t' ht'=> ?_⟩;rw[eT] at ht';rcases Qaq.mp ht' with z|z
      ·exact ev t' z
      ·rw[QaE.mp z];exact p1
     ·obtain⟨u,hu,rfl⟩:=Qaz.mp hv
      cases os with
      |nil=>cases hu
      |cons o0 os'=>
       have hu:u∈os':=by simpa using hu
       show 0≤Builtin.bitXor u o0∧_;obtain⟨mu1,pu⟩:=oo u (QaD _ hu);obtain⟨mo1,po⟩:=oo o0 QaA;obtain⟨u0,eu⟩:=ok2 u mu1;obtain⟨oo0,eo⟩:=ok2 o0 mo1;refine⟨Zmh u0 oo0,fun t' ht'=> ?_⟩;have px:=ZgW u0 oo0 t';show Zf1 (Builtin.bitXor u o0) t';unfold Zf1;rw[eT] at ht';rcases Qaq.mp ht' with z|z
       ·have e1:Zf0 u t'%2=0:=eu t' z;have e2:Zf0 o0 t'%2=0:=eo t' z;omega
       ·rw[QaE.mp z] at px⊢;omega
  ·rintro σ H2 ⟨c,x2,x3,x4,x5,ns,rfl,s2,cf,hc2,nl2,ok2⟩;rw[QaM (by omega)] at ok2;exact⟨_,rfl,k c ns H2 s2 cf hc2 ok2⟩
abbrev ZaR:Stmt:=top 23
theorem Zdo:ZaC ["_law_sheet_here", "_law_rest", "_law_most", "_law_b", "_law_mask", "_law_one"] ["_law_sheet_here", "_law_rest", "_law_most"] (Zag ZaR):=⟨rfl,rfl,rfl,by decide +kernel,rfl,by decide +kernel,by decide +kernel⟩
theorem Znq {fd:FuncData}(F:Fun K "_law_wide_row" "_law_wide_row" ZaR f fd)(M:Txt mg)(qd:Kn P w K mg base "_law_digit" 1 ["_law_rest", "_law_many"] Zbr)(qw:Kn P w K mg base "_law_even_ones" 2 ["_law_sheet_here"] Zmr):Zcc P w K mg base CX0 4 f fd ["_law_sheet_here", "_law_rest", "_law_most"] Zcy:=by
 have sc:=Zdo;refine F.ok sc (fun vs H Q E h=> ?_) (fun cdv A outer s H vs Q E hr h=> ?_)
 ·obtain⟨b,d,m,xs,S,rfl,_⟩:=h;rfl
 ·obtain⟨b,d,m,xs,S,rfl,hb,tS,oS,R0,nbd,m0,m1,k⟩:=h
  refine⟨_,(Zaf (Zav (i:=3) sc.nd rfl (Or.inr rfl) (Zar ZaS Zad (Zal qd hr rfl (Zac (pv 1) (Zac (pv 2) Zab)))))
   (Zaf (Zav (i:=4) sc.nd rfl (Or.inr rfl) Zad)
   (Zaf (Zby QaV rfl (Za3 (Zal qw hr rfl (Zac (pv 0) Zab))) (Zaj (i:=5) sc.nd rfl (Or.inl rfl))
   (Zah (ZbH (Zax ZcJ (Zal qd hr rfl (Zac (pv 1) (Zap Zad Zab))) Zad (ZaF _)) (Zah (Zav (i:=4) sc.nd rfl (Or.inr rfl) (Zar ZlO (pv 4) (pv 5)))) ZaU)))
   (Zah (ZaB (ZaM (xs:=["_law_k"]) (Nb:=["_law_sheet_here", "_law_rest", "_law_most", "_law_b", "_law_mask", "_law_one"]) rfl (Zbf rfl M.range (Zbm (Zar ZbM (Zar ZbK (Zao (ZaI (K:=K)) (by rfl) M.len Qbj (Zac (pv 0) Zab)) Zad) Zad) Zab)) rfl (by show∀p∈(List.zip ["_law_sheet_here", "_law_rest", "_law_most", "_law_b", "_law_mask", "_law_one"] ["_law_sheet_here", "_law_rest", "_law_most", "_law_b", "_law_mask", "_law_one"]:List (Str×Str)),_;decide +kernel) (by decide +kernel) (fun cl C s₂ H₂ fp=>(Zaj (i:=0) (by show List.Nodup (["_law_k", "_law_sheet_here", "_law_rest", "_law_most", "_law_b", "_law_mask", "_law_one"]:List Str);decide +kernel) rfl (Or.inl (Qag rfl)) (Or.inr (Qag rfl)))) (fun cl C s₂ H₂ fp=>ZaQ) (fun cl C s₂ H₂ fp=>(Zar ZaS (Zar ZbK Zad (Zar ZaS (pv 4) (Zal qd hr rfl (Zac (pv 2) (Zac (pv 4) Zab))))) (Zar ZlN (Zar ZlM (pv 5) (pv 0)) Zad))) (by decide +kernel) rfl (by decide +kernel) (by show∀y∈(_:List (Str×NameKind)),y.2=NameKind.free→(Zag ZaR).names.lookup y.1=some .cell;decide +kernel))))))),?_⟩
  have lS:=oS.len;have lx:xs.length=S.length:=tS.1;refine⟨_,rfl,_,rfl,d,m,rfl,R0,m0,m1,fun b1 H1 b10 b11 R1 B1=>⟨1,b1,rfl,rfl,?_⟩⟩;have hb1:=B1 _ _ hb nbd;refine⟨_,rfl,b,xs,S,rfl,hb1,tS.up (But.tupsR B1 R0),oS,fun c ns H2 s2 cf hc2 ok2=> ?_⟩;have R2:=R1.same s2;have ncd:c≠d:=fun z=>by obtain⟨n,e⟩:=R1;rw[z,e] at cf;cases cf
  have B2:But d H H2:=B1.trans (But.same s2);refine⟨c,rfl,⟨_,SqL.of hc2⟩,ZbI (K:=K) (a:=c) (xs:=ns.map V.int) (fun j σ H'=>∃(x5:Option V) (mk:Int),σ=[some (.ref b),some (.ref d),some (.int m),some (.int (1+b1)),some (.int mk),x5]∧ZbN H' d∧But d H2 H'∧0≤mk∧∀t∈S,Zf1 mk t) ⟨_,0,rfl,R2,But.refl _ _,Qba _,fun t ht=> ?_⟩ (fun j σ H' _ h=>by obtain⟨_,_,_,_,b',_⟩:=h;exact SqL.of (b' _ _ hc2 ncd)) ?_ ?_⟩
  ·have z:∀t:List Int,Zf0 0 t=0:=fun t=>by
    induction t with
    |nil=>rfl
    |cons s t ih=>
     unfold Zf0 at ih⊢;rw[Qa5,Qb2,ih];unfold Zd7;simp
   unfold Zf1;rw[z t];rfl
  ·rintro j y' σ H3 hy' ⟨x5,mk,rfl,R3,B3,mk0,em⟩;rw[Qah] at hy'
   cases en:ns[j]? with
   |none=>rw[en] at hy';cases hy'
   |some v=>
    rw[en] at hy';cases hy';obtain⟨v0,ev⟩:=ok2 v (Qaj en);refine⟨_,rfl,d,2,rfl,R3,by decide,dg (by decide),fun r H4 r0 r1 R4 B4=>⟨rfl,_,rfl,ZeL (fun _=> ?_) (fun _=> ?_)⟩⟩
    ·refine⟨_,rfl,_,rfl,_,_,rfl,rfl,_,Builtin.bitXor mk v,rfl,R4,B3.trans B4,Zmh mk0 v0,fun t ht=> ?_⟩;have px:=ZgW mk0 v0 t;have e1:Zf0 mk t%2=0:=em t ht;have e2:Zf0 v t%2=0:=ev t ht;show Zf0 (Builtin.bitXor mk v) t%2=0;omega
    ·exact⟨_,mk,rfl,R4,B3.trans B4,mk0,em⟩
  rintro σ H3 ⟨x5,mk,rfl,R3,B3,mk0,em⟩;have hb3:=B3 _ _ (s2 _ _ hb1) nbd;have B03:=B2.trans B3;refine⟨_,rfl,b,xs,rfl,.inl (SqL.of hb3),((xs.length:Nat):Int),3,rfl,rfl,.inr ⟨by decide,by decide⟩,((xs.length:Nat):Int)*3,2,rfl,rfl,⟨by decide,by decide⟩,((xs.length:Nat):Int)*3/2,rfl,by omega,by omega,ZgA (lo:=0) (n:=(((xs.length:Nat):Int)*3/2).toNat) (fun i ys H'=>∃r:List Int,ys=r.map V.int∧r.length=i∧(∀(q:Nat) (x:Int),r[q]?=some x→∃dd,0≤dd∧dd<1+b1∧x=2*(1+b1+dd)+Zd7 mk q)∧ZbN H' d∧But d H3 H') ⟨[],rfl,rfl,fun q x h=>(by cases h),R3,But.refl _ _⟩ (by omega) (fun i ys H' h=>by obtain⟨r,rfl,l,_⟩:=h;rw[Qaa,l];exact Qaf _) ?_ ?_⟩
  ·rintro i ys H4 pre qm hi ⟨r,rfl,rl,ro,R4,B4⟩;rcases pre with _|⟨q0,_|⟨q1,pre⟩⟩
   ·cases qm
   ·refine⟨⟨[some _],rfl,rfl⟩,?_⟩;unfold Zcp;dsimp only;rw[if_pos (rfl:true=true)];refine⟨_,rfl,_,rfl,_,rfl,d,1+b1,rfl,R4,by omega,Qcb (by omega) m1,fun dd H5 dd0 dd1 R5 B5=> ?_⟩;have bz:=ZjX mk0 (0+(i:Int)).toNat;refine⟨1+b1,dd,rfl,rfl,2,1+b1+dd,rfl,rfl,.inl ⟨by decide,by decide⟩,_,rfl,_,rfl,_,_,rfl,rfl,(show(0:Int)≤0+(i:Int) by omega),_,_,rfl,rfl,_,_,rfl,rfl,r++ [2*(1+b1+dd)+Zd7 mk i],?_,by simp[rl],fun q x hq=> ?_,R5,B4.trans B5⟩
    ·rw[Qam];show _++ [V.int (2*(1+b1+dd)+Builtin.bitAnd (mk/2^(0+(i:Int)).toNat) 1)]=_;rw[bz,show(0+(i:Int)).toNat=i by omega];rfl
    ·by_cases ql:q<r.length
     ·rw[Qax ql] at hq;exact ro q x hq
     ·rw[Qay (by omega)] at hq
      cases e:q-r.length with
      |zero=>
       rw[e] at hq;cases hq
       have:q=i:=by omega
       subst this;exact⟨dd,dd0,dd1,rfl⟩
      |succ n=>rw[e] at hq;cases hq
   ·cases qm
  rintro ys H4 ⟨r,rfl,rl,ro,R4,B4⟩ D hD;have nD:D≠d:=R4.ne hD;have B04:=B03.trans B4;refine k D r _ (B04.new hD) (R4.new hD) (B04.fr hD nD) Zaa (Zm5 (b:=1+b1) (m:=mk) oS (by omega) (by omega) mk0 ro em)
end
section
variable {K:PySem.W.Frag}
def Zhh:Sp:=fun vs H Q _=>∃(b d:Addr) (xs:List V) (S:List (List Int)),vs=[.ref b,.ref d]∧H b=some (.lst xs)∧TuL H xs S∧Zb4 S∧ZbN H d∧b≠d∧∀(c:Addr) (r:List Int) (H':Hp),But d H H'→ZbN H' d→H' c=some (.lst (r.map V.int))→ZbX S r→Q (.ref c) H'
structure BdI (H:Hp)(b c:Addr)(xs:List V)(S:List (List Int))(r:List Int):Prop where
 hb:H b=some (.lst xs)
 tS:TuL H xs S
 oS:Zb4 S
 hc:H c=some (.lst (r.map V.int))
 ev:ZbX S r
def Zft:Sp:=fun vs H Q _=>∃(b d:Addr) (xs:List V) (S:List (List Int)),vs=[.ref b,.ref d,.int 160]∧H b=some (.lst xs)∧TuL H xs S∧Zb4 S∧ZbN H d∧b≠d∧∀(q b' c':Addr) (ys:List V) (S':List (List Int)) (r':List Int) (H':Hp),But d H H'→ZbN H' d→H' q=some (.tup [.ref b',.ref c'])→BdI H' b' c' ys S' r'→(∀x∈r',x≤160)→Q (.ref q) H'
def Zky:Sp:=fun vs H Q _=>∃(c d:Addr) (r:List Int),vs=[.ref c,.ref d]∧H c=some (.lst (r.map V.int))∧3≤r.length∧r.length≤18∧(∀x∈r,0≤x∧x≤160)∧ZbN H d∧∀(x:V) (dd:PyData) (H':Hp),Th H' x dd→FD 3 200000 dd→ZbN H' d→But d H H'→Q x H'
def ZoN (K:PySem.W.Frag):TS:=Zbq (ZbU (ZaY Zbr [] E0 (Zae (Zam 1) (Zae (tC (V.int 4)) ZaA))) (Zas 2)) (Zbq (Zdg (Zbl (tOp rEq (Zam 2) (tC (V.int 0)))) (Zct (ZaY Zcy [] E0 (Zae (Zam 0) (Zae (Zam 1) (Zae (tC (V.int 3)) ZaA))))) Zcd) (Zbq (Zdg (Zbl (tOp rEq (Zam 2) (tC (V.int 1)))) (Zct (ZbA 2 (ZpC K (Zae (ZaY Zcy [] E0 (Zae (Zam 0) (Zae (Zam 1) (Zae (tC (V.int 2)) ZaA)))) (Zae (ZaY Zcy [] E0 (Zae (Zam 0) (Zae (Zam 1) (Zae (tC (V.int 1)) ZaA)))) ZaA))) (Zhk K 2 (Zbb (Zas 0) (Zbb (Zas 1) Zgs))) Zcp (tOp (rI0 fun i j=>V.int (i+j)) (Zam 0) (Zam 1)))) Zcd) (Zct (ZaY Zcy [] E0 (Zae (Zam 0) (Zae (Zam 1) (Zae (tC (V.int 3)) ZaA)))))))
def Zpv (K:PySem.W.Frag):TS:=(Zdg (tB (ZnI (ZaY Zcl [] E0 (Zae (Zam 0) (Zae (Zam 5) ZaA))))) (Zbq (ZbU (ZaY Zd5 [] E0 (Zae (Zam 0) (Zae (Zam 3) (Zae (Zam 5) ZaA)))) (Zas 6)) (Zdg (Zbl (tOp (rI0 fun i j=>V.bl (decide (i≤j))) (tCB (fun xs H_1 Q=>∃p ns,xs=[V.ref p]∧SqL K H_1 p (List.map V.int ns)∧Q (V.int ns.sum) H_1) (Zae (Zam 6) ZaA)) (Zam 2))) (Zbq (ZbU (Zam 6) (Zas 3)) (ZbU (ZaY ZdY [] E0 (Zae (Zam 0) (Zae (Zam 5) ZaA))) (Zas 0))) Zcd)) Zcd)
def ZpM (K:PySem.W.Frag):TS:=(Zbq (Zdg (ZoR (Zbl (tOp rEq (ZaY Zbr [] E0 (Zae (Zam 1) (Zae (tC (V.int 3)) ZaA))) (tC (V.int 0)))) (Zbl (tOp (rI0 fun i j=>V.bl (decide (j<i))) (tCB (fun xs H_1 Q=>∃p ns,xs=[V.ref p]∧SqL K H_1 p (List.map V.int ns)∧Q (V.int ns.sum) H_1) (Zae (Zam 3) ZaA)) (tC (V.int 0))))) (Zbq (ZbU (ZaY Zfl [] E0 (Zae (Zam 0) (Zae (Zam 3) ZaA))) (Zas 7)) (ZbU (tOp (Zny K) (tOp (ZdC K) (Zam 7) (ZaY Zbr [] E0 (Zae (Zam 1) (Zae (tCB (fun xs H Q=>∃p ys,xs=[V.ref p]∧(SqL K H p ys∨SqT K H p ys)∧Q (V.int ys.length) H) (Zae (Zam 7) ZaA)) ZaA)))) (tC (V.int 0))) (Zas 3))) Zcd) (Zct (Zeq (Zae (Zam 0) (Zae (Zam 3) ZaA)))))
def ZpN (K:PySem.W.Frag):TS:=(Zbq (Zdg (Zbl (tOp (rI0 fun i j=>V.bl (decide (j<i))) (tCB (fun xs H_1 Q=>∃p ns,xs=[V.ref p]∧SqL K H_1 p (List.map V.int ns)∧Q (V.int ns.sum) H_1) (Zae (Zam 3) ZaA)) (Zam 2))) (Zct (Zeq (Zae (Zam 0) (Zae (ZbA 1 (Zc4 K (Zam 3)) (Zas 0) Zcp (tC (V.int 0))) ZaA)))) Zcd) (ZpM K))
def Znr (K:PySem.W.Frag):TS:=Zbq (ZbU (ZaY Zhh [] E0 (Zae (Zam 0) (Zae (Zam 1) ZaA))) (Zas 3)) (Zbq (Ziz (Zgt (Zae (ZaY Zbr [] E0 (Zae (Zam 1) (Zae (tC (V.int 5)) ZaA))) ZaA)) (Zas 4) (Zbq (ZbU (tOp (rI0 fun i j=>V.int (i+j)) (tC (V.int 1)) (ZaY Zbr [] E0 (Zae (Zam 1) (Zae (tCB (fun xs H Q=>∃p ys,xs=[V.ref p]∧(SqL K H p ys∨SqT K H p ys)∧Q (V.int ys.length) H) (Zae (Zam 3) ZaA)) ZaA)))) (Zas 5)) (Zpv K))) (ZpN K))
def ZpO (K:PySem.W.Frag):TS:=(Zdg (Zbl (tOp rEq (Zam 4) (tC (V.int 8)))) (ZbU (tOp (ZdC K) (ZfA (Zae (tCB (fun xs H_1 Q=>∃p ys,xs=[V.ref p]∧((SqL K H_1 p ys∧∀(l:Addr),H_1 l=none→Q (V.ref l) (upd H_1 l (HO.tup ys)))∨SqT K H_1 p ys∧Q (V.ref p) H_1)) (Zae (Zam 2) ZaA)) (Zae (tC V.non) (Zae (tC (V.int 0)) (Zae (tC (V.bl true)) (Zae (tC (V.str "0 0 0")) (Zae (Zeq ZaA) (Zae (ZfA (Zae (ZfA ZaA) ZaA)) ZaA)))))))) (ZaY Zbr [] E0 (Zae (Zam 1) (Zae (tC (V.int 7)) ZaA)))) (Zas 2)) (Zdg (Zbl (tOp rEq (Zam 4) (tC (V.int 9)))) (ZbU (ZbA 1 (Zc4 K (Zam 2)) (Zas 0) Zcp (tOp (rI Znw fun i j=>V.int (i*j)) (tC (V.int 2)) (Zam 0))) (Zas 2)) (Zdg (Zbl (tOp rEq (Zam 4) (tC (V.int 10)))) (ZbU (ZbA 1 (Zc4 K (Zam 2)) (Zas 0) Zcp (tOp (rI ZoU fun i j=>V.int (i^j.toNat)) (tC (V.int 10)) (tC (V.int 61)))) (Zas 2)) (ZbU (ZpB K (Zam 2) (ZfF (tUn (rU fun i=>V.int (-i)) (tC (V.int 1))))) (Zas 2)))))
def ZpP (K:PySem.W.Frag):TS:=(Zdg (Zbl (tOp rEq (Zam 4) (tC (V.int 5)))) (ZbU (tOp (ZdC K) (ZfA (Zae (tC (V.bl true)) (Zae (tC (V.bl false)) (Zae (tC (V.str "1")) (Zae (tC V.non) (Zae (Zeq (Zae (tC (V.int 1)) ZaA)) (Zae (ZfA (Zae (tC (V.int 0)) ZaA)) ZaA))))))) (ZaY Zbr [] E0 (Zae (Zam 1) (Zae (tC (V.int 6)) ZaA)))) (ZnM (Zam 2) (Zam 3) Zi2)) (Zdg (Zbl (tOp rEq (Zam 4) (tC (V.int 6)))) (ZbU (tOp Znz (Zam 2) (ZfA (Zae (tC (V.int 0)) ZaA))) (Zas 2)) (Zdg (Zbl (tOp rEq (Zam 4) (tC (V.int 7)))) (Zfw (tBM K "list" Zi4 (Zam 2) (Zae (Zam 3) ZaA))) (ZpO K))))
def Zns (K:PySem.W.Frag):TS:=Zbq (ZbU (tCB (fun xs H_1 Q=>∃p ys,xs=[V.ref p]∧(SqL K H_1 p ys∨SqT K H_1 p ys)∧∀(l:Addr),H_1 l=none→Q (V.ref l) (upd H_1 l (HO.lst ys))) (Zae (Zam 0) ZaA)) (Zas 2)) (Zbq (ZbU (ZaY Zbr [] E0 (Zae (Zam 1) (Zae (tCB (fun xs H Q=>∃p ys,xs=[V.ref p]∧(SqL K H p ys∨SqT K H p ys)∧Q (V.int ys.length) H) (Zae (Zam 0) ZaA)) ZaA))) (Zas 3)) (Zbq (ZbU (ZaY Zbr [] E0 (Zae (Zam 1) (Zae (tC (V.int 12)) ZaA))) (Zas 4)) (Zbq (Zdg (Zbl (tOp (rI0 fun i j=>V.bl (decide (i<j))) (Zam 4) (tC (V.int 5)))) (ZbU (tOp (rI0 fun i j=>V.int (i+j)) (tOp (ZdC K) (Zam 2) (Zam 3)) (tOp (ZdC K) (ZfA (Zae (tC (V.int 1)) (Zae (tC (V.int 2)) (Zae (tUn (rU fun i=>V.int (-i)) (tC (V.int 1))) (Zae (tUn (rU fun i=>V.int (-i)) (tC (V.int 2))) (Zae (tOp (rI ZoU fun i j=>V.int (i^j.toNat)) (tC (V.int 10)) (tC (V.int 61))) ZaA)))))) (Zam 4))) (ZnM (Zam 2) (Zam 3) Zi2)) (ZpP K)) (Zct (Zam 2)))))
def ZpQ (K:PySem.W.Frag):TS:=(Zbq (ZbU (ZfA (Zae (ZaY (Zlf K) [] E0 (Zae (Zam 0) (Zae (tOp (rI0 fun i j=>V.int (i+j)) (tC (V.int 1)) (Zam 5)) ZaA))) ZaA)) (Zas 1)) (Zbq (ZbU (ZaY Zky [] E0 (Zae (Zam 3) (Zae (Zam 1) ZaA))) (Zas 6)) (Zbq (ZbU (tCB (fun xs H_1 Q=>∃x d,xs=[x]∧DI K H_1 x d∧d.showable=true∧d.hasDict=false∧d.depth≤60∧d.shown.length≤sizeLine∧Q (V.str (ZmW d)) H_1) (Zae (Zam 6) ZaA)) (Zas 7)) (Zbq (ZbU (ZaY Zcm [] E0 (Zae (Zam 4) (Zae (Zam 6) ZaA))) (Zas 8)) (Zdg (tOr (Znv (tB (tCB (fun xs H Q=>∃x t b,xs=[x,V.ty "bool"]∧Zep K H x t∧PySem.W.kitOne K t (Value.type "bool")=some b∧Q (V.bl b) H) (Zae (Zam 8) (Zae (tC (V.ty "bool")) ZaA))))) (tOr (Zbl (tOp rNe (Zam 8) (ZaY Zcm [] E0 (Zae (Zam 2) (Zae (Zam 6) ZaA))))) (tOr (Zbl (tOp rNe (tCB (fun xs H_1 Q=>∃x d,xs=[x]∧DI K H_1 x d∧d.showable=true∧d.hasDict=false∧d.depth≤60∧d.shown.length≤sizeLine∧Q (V.str (ZmW d)) H_1) (Zae (Zam 6) ZaA)) (Zam 7))) (Zbl (tOp (ZmG K fun b=> !b) (Zam 4) (Zam 2)))))) (Zct (tC (V.bl false))) Zcd)))))
def ZoO (K:PySem.W.Frag):TS:=Zbq (ZbU (ZfA (Zae (ZaY (Zlf K) [] E0 (Zae (Zam 0) (Zae (tC (V.int 0)) ZaA))) ZaA)) (Zas 1)) (Zbq (ZbU (ZaY Zft [] E0 (Zae (ZaY ZgU [] E0 (Zae (Zam 1) ZaA)) (Zae (Zam 1) (Zae (tC (V.int 160)) ZaA)))) (Zhk K 2 (Zbb (Zas 2) (Zbb (Zas 3) Zgs)))) (Zbq (ZbU (tCB (fun xs H_1 Q=>∃p ys,xs=[V.ref p]∧(SqL K H_1 p ys∨SqT K H_1 p ys)∧∀(l:Addr),H_1 l=none→Q (V.ref l) (upd H_1 l (HO.lst ys))) (Zae (Zam 2) ZaA)) (Zas 4)) (Zbq (Zdg (tOr (Zbl (tOp (fun x y H Q=>∃b c,x=V.bl b∧y=V.bl c∧Q (V.bl !b==c) H) (ZaY Zcm [] E0 (Zae (Zam 4) (Zae (tCB (fun xs H_1 Q=>∃p ys,xs=[V.ref p]∧(SqL K H_1 p ys∨SqT K H_1 p ys)∧∀(l:Addr),H_1 l=none→Q (V.ref l) (upd H_1 l (HO.lst ys))) (Zae (Zam 3) ZaA)) ZaA))) (tC (V.bl true)))) (Zbl (tOp (ZmG K fun b=> !b) (Zam 4) (Zam 2)))) (Zct (tC (V.bl false))) Zcd) (Zbq (Ziz (Zgt (Zae (tCB (fun xs H Q=>∃i j,xs=[V.int i,V.int j]∧Q (V.int (if j>i then j else i)) H) (Zae (tC (V.int 1)) (Zae (tCB (fun xs H Q=>∃i j,xs=[V.int i,V.int j]∧Q (V.int (if j<i then j else i)) H) (Zae (tC (V.int 6)) (Zae (tOp (rI0 fun i j=>V.int (i-j)) (tCB (fun xs H Q=>∃p ys,xs=[V.ref p]∧(SqL K H p ys∨SqT K H p ys)∧Q (V.int ys.length) H) (Zae (Zam 0) ZaA)) (tC (V.int 1))) ZaA))) ZaA))) ZaA)) (Zas 5) (ZpQ K)) (Zct (tC (V.bl true)))))))
theorem BdI.nb {xs:List V}(h:BdI H b c xs S r)(R:ZbN H d):b≠d:=fun z=>by
 obtain⟨n,e⟩:=R;have hb:=h.hb;rw[z,e] at hb;cases hb
 have:=h.tS.1
 have:=h.oS.len;simp at*;omega
theorem BdI.nc {xs:List V}(h:BdI H b c xs S r)(R:ZbN H d):c≠d:=fun z=>by
 obtain⟨n,e⟩:=R;have hc:=h.hc;rw[z,e] at hc;have h1:[V.int n].length=(r.map V.int).length:=congrArg List.length (HO.lst.inj (QaR hc));rw[Qaa,h.ev.len] at h1
 have:=h.oS.len;simp at h1;omega
theorem BdI.but {xs:List V}(h:BdI H b c xs S r)(R:ZbN H d)(B:But d H H'):BdI H' b c xs S r:=⟨B _ _ h.hb (h.nb R),h.tS.up (But.tupsR B R),h.oS,B _ _ h.hc (h.nc R),h.ev⟩
theorem BdI.up {b c:Addr}{xs:List V}{S:List (List Int)}{r:List Int}{H':Hp}(h:BdI H b c xs S r)(s:Zai H H'):BdI H' b c xs S r:=⟨s _ _ h.hb,h.tS.up s.tups,h.oS,s _ _ h.hc,h.ev⟩
theorem Zhi {xs:List V}(hb:H b=some (.lst xs))(tS:TuL H xs S)(oS:Zb4 S)(R0:ZbN H d)(nbd:b≠d)(k:∀(c:Addr) (r:List Int) (H':Hp),But d H H'→ZbN H' d→H' c=some (.lst (r.map V.int))→ZbX S r→Q (.ref c) H'):ZoN K {nx:=Z,rt:=Q } [some (.ref b),some (.ref d),none] H:=by
 have lS:=oS.len;refine⟨_,rfl,d,4,rfl,R0,by decide,dg (by decide),fun w H1 w0 w1 R1 B1=> ?_⟩;have hb1:=B1 _ _ hb nbd;have tS1:=tS.up (But.tupsR B1 R0);refine⟨_,rfl,rfl,_,rfl,ZeL (fun c1=> ?_) (fun c1=> ?_)⟩
 ·exact⟨_,rfl,_,rfl,b,d,3,xs,S,rfl,hb1,tS1,oS,R1,nbd,by decide,dg (by decide),fun c r H2 B2 R2 _ hc ev=>k c r H2 (B1.trans B2) R2 hc ev⟩
 refine⟨_,rfl,rfl,_,rfl,ZeL (fun c2=> ?_) (fun c2=> ?_)⟩
 ·refine⟨_,rfl,_,rfl,b,d,2,xs,S,rfl,hb1,tS1,oS,R1,nbd,by decide,dg (by decide),fun c r H2 B2 R2 cf hc ev=> ?_⟩;have ncd:c≠d:=fun z=>by obtain⟨n,e⟩:=R1;rw[z,e] at cf;cases cf
  have hb2:=B2 _ _ hb1 nbd;have tS2:=tS1.up (But.tupsR B2 R1);refine⟨_,rfl,_,rfl,b,d,1,xs,S,rfl,hb2,tS2,oS,R2,nbd,by decide,dg (by decide),fun c' r' H3 B3 R3 cf' hc' ev'=> ?_⟩;have hc3:=B3 _ _ hc ncd;have l1:=ev.len;have l2:=ev'.len;have B03:=(B1.trans B2).trans B3;refine⟨c,c',rfl,⟨_,SqL.of hc3⟩,⟨_,SqL.of hc'⟩,Zpg (K:=K) (a:=c) (b:=c') (xs:=r.map V.int) (ys:=r'.map V.int) (n:=r.length) (fun i zs H'=>zs=((Zln r r').take i).map V.int∧Zai H3 H') ⟨rfl,Zai.refl H3⟩ (by rw[Qaa,Qaa];omega) (by omega) (fun i zs H' h=>by rw[h.1,Qaa,QaC];exact Qbi _ _) (fun i zs H' _ h=>⟨SqL.of (h.2 _ _ hc3),SqL.of (h.2 _ _ hc')⟩) ?_ ?_⟩
  ·rintro i x y zs H4 pre p qm hx hy ⟨rfl,s4⟩ hp;rw[Qah] at hx hy
   cases ex:r[i]? with
   |none=>rw[ex] at hx;cases hx
   |some xi=>
    cases ey:r'[i]? with
    |none=>rw[ey] at hy;cases hy
    |some yi=>
     rw[ex] at hx;rw[ey] at hy;cases hx;cases hy;have il:i<r.length:=(Qac.mp ex).1;rcases pre with _|⟨q0,_|⟨q1,_|⟨q2,pre⟩⟩⟩
     ·cases qm
     ·cases qm
     ·refine⟨p,_,rfl,SqT.of Zaa,rfl,_,_,rfl,_,_,rfl,rfl,⟨[some _,some _],rfl,rfl⟩,?_⟩;unfold Zcp;dsimp only;rw[if_pos (rfl:true=true)];refine⟨_,rfl,_,rfl,_,_,rfl,rfl,?_,s4.nw hp⟩;have e1:r.getD i 0=xi:=by rw[Qai,ex];rfl
      have e2:r'.getD i 0=yi:=by rw[Qai,ey];rfl
      rw[Zat (ZgZ (q:=r') il),Qam,e1,e2];rfl
     ·cases qm
  ·rintro zs H4 ⟨rfl,s4⟩ D hD;rw[QaM (by rw[Zdy];exact Qaf _)];have s5:=Zai.nw (o:=.lst ((Zln r r').map V.int)) s4 hD;exact k D _ _ (B03.trans (But.same s5)) (R3.same s5) Zaa (ev.add ev')
 ·exact⟨_,rfl,_,rfl,b,d,3,xs,S,rfl,hb1,tS1,oS,R1,nbd,by decide,dg (by decide),fun c r H2 B2 R2 _ hc ev=>k c r H2 (B1.trans B2) R2 hc ev⟩
theorem Zkz {R':VK}{x4 x6:Option V}{xs:List V}{kk:Nat}(h:BdI H b c xs S r)(hk:kk<S.length/2*3)
  (k:∀(b' c':Addr) (x6:Option V) (ys:List V) (S':List (List Int)) (r':List Int) (H':Hp),Zai H H'→BdI H' b' c' ys S' r'→N [some (.ref b'),some (.ref d),some (.int 160),some (.ref c'),x4,some (.int ((kk:Int)+1)),x6,none] H'):Zpv K {nx:=N,rt:=R',bk:=B,ct:=C } [some (.ref b),some (.ref d),some (.int 160),some (.ref c),x4,some (.int ((kk:Int)+1)),x6,none] H:=by
 refine⟨_,rfl,_,rfl,b,xs,S,kk,rfl,h.hb,h.tS,h.oS,hk,fun bad H4 s4=>⟨_,rfl,?_⟩,fun i p j r' t u P Q' U W two c4 d4 e4 H4 s4 h1 h2 h3=>⟨_,rfl,?_⟩⟩
 ·exact ZcQ (k b c x6 xs S r H4 s4 (h.up s4))
 ·refine ZdH ?_;have i4:=h.up s4;refine⟨_,rfl,_,rfl,_,rfl,b,c,xs,S,r,kk,i,p,j,r',t,u,P,Q',U,W,rfl,i4.hb,i4.tS,i4.oS,i4.hc,i4.ev.len,hk,two,fun l H5 s5 lf hl=> ?_⟩;have i5:=i4.up s5;refine⟨_,rfl,l,_,rfl,SqL.of hl,_,rfl,_,_,rfl,rfl,_,rfl,ZeL (fun c1=> ?_) (fun c1=> ?_)⟩
  ·refine⟨_,rfl,_,rfl,_,rfl,b,xs,S,kk,i,p,j,r',t,u,P,Q',U,W,rfl,i5.hb,i5.tS,i5.oS,hk,two,fun c6 ys H6 s6 cf6 hc6 tS6=> ?_⟩;exact k c6 l _ ys _ _ H6 (s4.trans (s5.trans s6)) ⟨hc6,tS6,ZgX i5.oS two,s6 _ _ hl,Zlx i5.oS i5.ev hk two⟩
  ·exact k b c _ xs S r H5 (s4.trans s5) i5
theorem Znt {n:Nat}(h:n=S.length/2*3):ZbX S (List.replicate n 0):=by
 have c0:∀s,crs (List.replicate n 0) s=0:=fun s=>by
  unfold crs;rw[Qai]
  cases e:(List.replicate n (0:Int))[(Zau s-1).toNat]? with
  |none=>rfl
  |some x=>exact QcQ (Qaj e)
 refine⟨by rw[Qbl,h],fun x hx=>by rw[QcQ hx];decide,fun a b c _=> ?_⟩;rw[c0,c0,c0]
 decide
theorem ZkA {x4 x5 x6:Option V}{xs:List V}(h:BdI H b c xs S r)(R:ZbN H d)(sm:r.sum≤160)(k:∀(q b' c':Addr) (ys:List V) (S':List (List Int)) (r':List Int) (H':Hp),But d H H'→ZbN H' d→H' q=some (.tup [.ref b',.ref c'])→BdI H' b' c' ys S' r'→(∀x∈r',x≤160)→Q (.ref q) H'):ZpM K {nx:=Z,rt:=Q } [some (.ref b),some (.ref d),some (.int 160),some (.ref c),x4,x5,x6,none] H:=by
 have lS:=h.oS.len
 have bd:∀x∈r,x≤160:=fun x hx=>by
  obtain⟨i,hi⟩:=Qat.mp hx;have e:crs r ((i:Int)+1)=x:=by rw[Zcx r (k:=i) (by unfold Zau;rw[if_neg (by omega)]),Qai,hi];rfl
  have:=Zki h.ev.nn sm ((i:Int)+1);omega
 refine⟨_,rfl,d,3,rfl,R,by decide,dg (by decide),fun n H1 n0 n1 R1 B1=>⟨rfl,_,rfl,?_⟩⟩;have i1:=h.but R B1
 have last:∀{x7:Option V} {c2:Addr} {r2:List Int} {H2:Hp},But d H H2→ZbN H2 d→BdI H2 b c2 xs S r2→(∀x∈r2,x≤160)→Zct (Zeq (Zae (Zam 0) (Zae (Zam 3) ZaA))) {nx:=Z,rt:=Q } [some (.ref b),some (.ref d),some (.int 160),some (.ref c2),x4,x5,x6,x7] H2:=fun{x7 c2 r2 H2} B2 R2 i2 b2=>by
  refine⟨_,rfl,_,rfl,(by show 2≤sizeLine;decide),fun q hq=> ?_⟩;have s3:=Zai.nw (o:=.tup [.ref b,.ref c2]) (Zai.refl H2) hq;exact k q b c2 xs S r2 _ (B2.trans (But.same s3)) (R2.same s3) Zaa (i2.up s3) b2
 refine ZeL (fun c1=> ?_) (fun c1=> ?_)
 ·refine⟨_,rfl,c,r,rfl,SqL.of i1.hc,_,_,rfl,rfl,_,rfl,?_⟩;by_cases pos:0<r.sum
  ·rw[Qan pos];refine ZdH ?_;refine⟨_,rfl,_,rfl,b,c,xs,S,r,rfl,⟨i1.hb,i1.tS,i1.oS,i1.hc,i1.ev,sm⟩,fun l zs us H2 s2 lf hl pq ul ne all=> ?_⟩;have R2:=R1.same s2;have zl:zs.length=us.length:=pq.1
   have u1:1≤us.length:=by
    have:=ne pos
    cases us with
    |nil=>exact absurd rfl this
    |cons _ _=>simp
   have nld:l≠d:=fun z=>by obtain⟨m,e⟩:=R1;rw[z,e] at lf;cases lf
   refine⟨_,rfl,_,rfl,_,rfl,l,zs,rfl,.inl (SqL.of hl),d,_,rfl,R2,by omega,dg (by omega),fun m H3 m0 m1 R3 B3=> ?_⟩;obtain⟨j,rfl⟩:∃j:Nat,m=(j:Int):=⟨m.toNat,by omega⟩;have jl:j<us.length:=by omega
   have eu:us[j]?=some us[j]:=Qab jl;have ez:zs[j]?=some (zs[j]'(by omega)):=Qab _;obtain⟨qa,qb,e1,e2,e3⟩:=pq.2 j _ _ ez eu;rw[e1] at ez;obtain⟨evu,bdu⟩:=all us[j] (Qbo jl);generalize us[j]=u at e2 e3 evu bdu;have i2:BdI H2 b qb xs S u.1:=⟨s2 _ _ i1.hb,i1.tS.up s2.tups,i1.oS,e3,evu⟩;have nq:qa≠d:=fun z=>by obtain⟨n,e⟩:=R2;rw[z,e] at e2;cases e2
   refine⟨l,zs,(j:Int),.ref qa,rfl,rfl,SqL.of (B3 _ _ hl nld),ZbL ez,qa,_,0,.ref qb,rfl,rfl,SqT.of (B3 _ _ e2 nq),rfl,?_⟩;exact last ((B1.trans (But.same s2)).trans B3) R3 (i2.but R2 B3) bdu
  ·rw[Qal pos];exact ZcQ (last B1 R1 i1 bd)
 ·exact ZcQ (last B1 R1 i1 bd)
theorem ZkB {x4 x5 x6:Option V}{xs:List V}(h:BdI H b c xs S r)(R:ZbN H d)(k:∀(q b' c':Addr) (ys:List V) (S':List (List Int)) (r':List Int) (H':Hp),But d H H'→ZbN H' d→H' q=some (.tup [.ref b',.ref c'])→BdI H' b' c' ys S' r'→(∀x∈r',x≤160)→Q (.ref q) H'):ZpN K {nx:=Z,rt:=Q } [some (.ref b),some (.ref d),some (.int 160),some (.ref c),x4,x5,x6,none] H:=by
 have lS:=h.oS.len;have rl:=h.ev.len;refine⟨_,rfl,c,r,rfl,SqL.of h.hc,_,rfl,_,_,rfl,rfl,_,rfl,ZeL (fun c1=> ?_) (fun c1=> ?_)⟩
 ·refine⟨_,rfl,_,rfl,c,rfl,⟨_,SqL.of h.hc⟩,Zgz (K:=K) (a:=c) (xs:=r.map V.int) (fun i zs H'=>zs=((List.replicate r.length (0:Int)).take i).map V.int∧H=H') ⟨rfl,rfl⟩ (by rw[Qaa];omega) (fun i zs H' q=>by rw[q.1,Qaa,QaC];exact Qbi _ _) (fun i zs H' _ q=>by rw[←q.2];exact SqL.of h.hc) ?_ ?_⟩
  ·rintro i y zs H1 pre hpl hy ⟨rfl,rfl⟩;have il:i<r.length:=by have:=(Qac.mp hy).1;rw[Qaa] at this;exact this
   rcases pre with _|⟨q0,_|⟨q1,pre⟩⟩
   ·cases hpl
   ·refine⟨⟨[some _],rfl,rfl⟩,?_⟩;unfold Zcp;dsimp only;rw[if_pos (rfl:true=true)];refine⟨?_,rfl⟩;have e:(List.replicate r.length (0:Int))[i]?=some 0:=by rw[Qcc,if_pos il]
    rw[Zat e,Qam];rfl
   ·cases hpl
  ·rintro zs H1 ⟨rfl,rfl⟩ D hD;rw[Qaa,QaM (by rw[Qbl];exact Qaf _)];have s1:=Zai.nw (o:=.lst ((List.replicate r.length (0:Int)).map V.int)) (Zai.refl H) hD;have f1:(upd H D (.lst ((List.replicate r.length (0:Int)).map V.int))) D=some (.lst ((List.replicate r.length (0:Int)).map V.int)):=Zaa;generalize upd H D (.lst ((List.replicate r.length (0:Int)).map V.int))=H1 at s1 f1⊢;refine⟨(by show 2≤sizeLine;decide),fun q hq=> ?_⟩;have s2:=Zai.nw (o:=.tup [.ref b,.ref D]) (Zai.refl H1) hq;have i1:BdI H1 b D xs S (List.replicate r.length 0):=⟨s1 _ _ h.hb,h.tS.up s1.tups,h.oS,f1,Znt rl⟩;exact k q b D xs S _ _ (But.same (s1.trans s2)) (R.same (s1.trans s2)) Zaa (i1.up s2) fun x hx=>by rw[QcQ hx];decide
 ·exact ZkA (K:=K) h R (by have:=Qa6 (Qc7.mpr c1);omega) k
theorem Zgk {xs:List V}(hb:H b=some (.lst xs))(tS:TuL H xs S)(oS:Zb4 S)(R0:ZbN H d)(nbd:b≠d)(k:∀(q b' c':Addr) (ys:List V) (S':List (List Int)) (r':List Int) (H':Hp),But d H H'→ZbN H' d→H' q=some (.tup [.ref b',.ref c'])→BdI H' b' c' ys S' r'→(∀x∈r',x≤160)→Q (.ref q) H'):Znr K {nx:=Z,rt:=Q } [some (.ref b),some (.ref d),some (.int 160),none,none,none,none,none] H:=by
 refine⟨_,rfl,_,rfl,b,d,xs,S,rfl,hb,tS,oS,R0,nbd,fun c r H1 B1 R1 hc ev=> ?_⟩;have i1:BdI H1 b c xs S r:=⟨B1 _ _ hb nbd,tS.up (But.tupsR B1 R0),oS,hc,ev⟩;refine⟨_,rfl,d,5,rfl,R1,by decide,dg (by decide),fun n H2 n0 n1 R2 B2=>⟨n,rfl,by omega,by omega,?_⟩⟩;refine Zb9 (lo:=0) (n:=n.toNat) (fun i σ H'=>∃(x4 x5 x6:Option V) (b c:Addr) (ys:List V) (S:List (List Int)) (r:List Int),σ=[some (.ref b),some (.ref d),some (.int 160),some (.ref c),x4,x5,x6,none]∧But d H H'∧ZbN H' d∧BdI H' b c ys S r) ⟨_,_,_,b,c,xs,S,r,rfl,B1.trans B2,R2,i1.but R1 B2⟩ ?_ ?_
 ·rintro i σ H3 hi ⟨x4,x5,x6,b,c,ys,S,r,rfl,B3,R3,i3⟩;have lS:=i3.oS.len;have rl:=i3.ev.len;refine⟨_,rfl,_,rfl,c,_,rfl,.inl (SqL.of i3.hc),d,_,rfl,R3,by rw[Qaa];omega,dg (by rw[Qaa];omega),fun t H4 t0 t1 R4 B4=>⟨_,_,rfl,rfl,?_⟩⟩;rw[Qaa] at t1;obtain⟨kk,rfl⟩:∃kk:Nat,t=(kk:Int):=⟨t.toNat,by omega⟩;show Zpv K _ [some (.ref b),some (.ref d),some (.int 160),some (.ref c),some (.int (0+(i:Int))),some (.int (1+(kk:Int))),x6,none] H4;rw[Int.add_comm 1 (kk:Int)];exact Zkz (K:=K) (i3.but R3 B4) (by omega) fun b' c' x6 ys S' r' H5 s5 i5=>⟨_,_,x6,b',c',ys,S',r',rfl,(B3.trans B4).trans (But.same s5),R4.same s5,i5⟩
 ·rintro σ H3 ⟨x4,x5,x6,b,c,ys,S,r,rfl,B3,R3,i3⟩;exact ZkB (K:=K) i3 R3 fun q b' c' ys S' r' H' B' R' hq i' bd=>k q b' c' ys S' r' H' (B3.trans B') R' hq i' bd
end
section
variable {K:PySem.W.Frag}
theorem fdI (l:ns.length≤20)(h:∀n∈ns,-(10^79)<n∧n<10^79):FD 3 200000 (dI ns):=FD.few (n:=2) (fun d hd=>by
 obtain⟨n,hn,rfl⟩:=Qaz.mp hd
 exact(FD.int (h n hn).1 (h n hn).2).mono (Qaf _) (by decide)) (by rw[Qaa];exact l)
theorem Zpw:(10:Int) ^(61:Int).toNat+1000<10^79:=by decide +kernel
theorem ZhZ {n:Int}(h: -1000≤n∧n≤10^(61:Int).toNat+1000): -(10^79)<n∧n<10^79:=⟨QdG (by decide +kernel) h.1,QdI h.2 Zpw⟩
theorem But.own' {p:Addr}(a:But d H H')(h:H p=none):But d H (L2.upd H' p o):=fun c u e n=>by
 rw[Zan (Zak e h)];exact a c u e n
structure BnI (H0 H:Hp)(d l:Addr)(j:Nat)(r:List Int):Prop where
 but:But d H0 H
 rest:ZbN H d
 hl:H l=some (.lst (r.map V.int))
 lf:H0 l=none
 nl:l≠d
 jl:j<r.length
 l18:r.length≤18
 bd:∀x∈r,0≤x∧x≤160
theorem BnI.same {H0 H1:Hp}{d l:Addr}{j:Nat}{r:List Int}(h:BnI H0 H d l j r)(s:Zai H H1):BnI H0 H1 d l j r:=⟨h.but.trans (But.same s),h.rest.same s,s _ _ h.hl,h.lf,h.nl,h.jl,h.l18,h.bd⟩
theorem BnI.step {H1:Hp}(h:BnI H0 H d l j r)(B:But d H H1)(R:ZbN H1 d):BnI H0 H1 d l j r:=⟨h.but.trans B,R,B _ _ h.hl h.nl,h.lf,h.nl,h.jl,h.l18,h.bd⟩
theorem BnI.ix (h:BnI H0 H d l j r):ixN (r.map V.int).length (j:Int)=some j:=by
 have:=h.jl;rw[Qaa];unfold ixN;rw[if_pos (by omega),if_pos (by omega)];simp
theorem BnI.num (h:BnI H0 H d l j r):∀n∈r,-(10^79)<n∧n<10^79:=fun n hn=>ZhZ ⟨by have:=h.bd n hn;omega,Qcb (by have:=h.bd n hn;omega:n≤1000) (by decide +kernel)⟩
theorem BnI.fd (h:BnI H0 H d l j r):∀e∈r.map PyData.int,FD 2 3000 e:=fun e he=>by
 obtain⟨n,hn,rfl⟩:=Qaz.mp he;exact(FD.int (h.num n hn).1 (h.num n hn).2).mono (Qaf _) (by decide)
theorem BnI.set {H0:Hp}{d l:Addr}{j:Nat}{r:List Int}{x:V}{dx:PyData}(h:BnI H0 H d l j r)(k:∀(x:V) (dd:PyData) (H':Hp),Th H' x dd→FD 3 200000 dd→ZbN H' d→But d H0 H'→Q x H')(tx:Th (upd H l (.lst ((r.map V.int).set j x))) x dx)(fx:FD 2 3000 dx):Q (.ref l) (upd H l (.lst ((r.map V.int).set j x))):=by
 refine k _ (.list ((r.map PyData.int).set j dx)) _ (ThL.lst ((ThL.ints r).set tx j) Zaa) (FD.few (fun e he=> ?_) ?_) ?_ (h.but.own' h.lf)
 ·rcases Ze4 he with he|he
  ·exact h.fd e he
  ·rw[he];exact fx
 ·rw[Qbf,Qaa];have:=h.l18;omega
 ·obtain⟨m,e⟩:=h.rest;exact⟨m,by rw[Zan (Ne.symm h.nl)];exact e⟩
theorem ZkC (h:BnI H0 H d l j r)(k:∀(x:V) (dd:PyData) (H':Hp),Th H' x dd→FD 3 200000 dd→ZbN H' d→But d H0 H'→Q x H'):ZpO K {nx:=fun σ H'=>Zct (Zam 2) {nx:=Z,rt:=Q } σ H',rt:=Q } [some (.ref c),some (.ref d),some (.ref l),some (.int (j:Int)),some (.int kd)] H:=by
 have l18:=h.l18;refine⟨_,rfl,rfl,_,rfl,ZeL (fun c7=> ?_) (fun c7=> ?_)⟩
 ·refine⟨_,rfl,l,_,rfl,.inl ⟨SqL.of h.hl,fun u1 hu1=> ?_⟩⟩;have sC:=Zai.nw (o:=.tup (r.map V.int)) (Zai.refl H) hu1;have fu1:(upd H u1 (.tup (r.map V.int))) u1=some (.tup (r.map V.int)):=Zaa;generalize upd H u1 (.tup (r.map V.int))=HC at sC fu1⊢;have hC:=h.same sC;refine⟨(by show 0≤sizeLine;decide),fun u2 hu2=> ?_⟩;have sD:=Zai.nw (o:=.tup []) (Zai.refl HC) hu2;have fu2:(upd HC u2 (.tup [])) u2=some (.tup []):=Zaa;generalize upd HC u2 (.tup [])=HD at sD fu2⊢;have hD:=hC.same sD;refine⟨(by show 0≤sizeLine;decide),fun u3 hu3=> ?_⟩;have n3:=hD.rest.ne hu3;have sE:=Zai.nw (o:=.lst []) (Zai.refl HD) hu3;have fu3:(upd HD u3 (.lst [])) u3=some (.lst []):=Zaa;generalize upd HD u3 (.lst [])=HE at sE fu3⊢;have hE:=hD.same sE;refine⟨(by show 1≤sizeLine;decide),fun u4 hu4=> ?_⟩;have n4:=hE.rest.ne hu4;have sF:=Zai.nw (o:=.lst [.ref u3]) (Zai.refl HE) hu4;have fu4:(upd HE u4 (.lst [.ref u3])) u4=some (.lst [.ref u3]):=Zaa;generalize upd HE u4 (.lst [.ref u3])=HF at sF fu4⊢;have hF:=hE.same sF;refine⟨(by show 7≤sizeLine;decide),fun ul hul=> ?_⟩;have n6:=hF.rest.ne hul;have sI:=Zai.nw (o:=.lst [.ref u1,.non,.int 0,.bl true,.str "0 0 0",.ref u2,.ref u4]) (Zai.refl HF) hul;have ful:(upd HF ul (.lst [.ref u1,.non,.int 0,.bl true,.str "0 0 0",.ref u2,.ref u4])) ul=some (.lst [.ref u1,.non,.int 0,.bl true,.str "0 0 0",.ref u2,.ref u4]):=Zaa;generalize upd HF ul (.lst [.ref u1,.non,.int 0,.bl true,.str "0 0 0",.ref u2,.ref u4])=HI at sI ful⊢;have hI:=hF.same sI;refine⟨_,rfl,d,7,rfl,hI.rest,by decide,dg (by decide),fun r3 HJ r30 r31 RJ BJ=> ?_⟩;have hJ:=hI.step BJ RJ;have tJ:=But.tupsR BJ hI.rest;have fulJ:=BJ _ _ ful n6;have h1:=tJ _ _ (sI _ _ (sF _ _ (sE _ _ (sD _ _ fu1))));have h2:=tJ _ _ (sI _ _ (sF _ _ (sE _ _ fu2)));have h3:=BJ _ _ (sI _ _ (sF _ _ fu3)) n3;have h4:=BJ _ _ (sI _ _ fu4) n4;have B':=hJ.but;have hc:r3=0∨r3=1∨r3=2∨r3=3∨r3=4∨r3=5∨r3=6:=by omega
  have f0:FD 2 3000 (.list []):=FD.smallL (n:=1) (fun d' h=>by cases h) (by decide);rcases hc with rfl|rfl|rfl|rfl|rfl|rfl|rfl
  ·refine⟨ul,_,_,_,rfl,rfl,SqL.of fulJ,rfl,_,rfl,?_⟩;exact k _ _ _ ((ThL.ints r).tup h1) (FD.fewT h.fd (by rw[Qaa];omega)) RJ B'
  ·refine⟨ul,_,_,_,rfl,rfl,SqL.of fulJ,rfl,_,rfl,?_⟩;exact k _ _ _ .non (FD.non.mono (Qaf _) (by decide)) RJ B'
  ·refine⟨ul,_,_,_,rfl,rfl,SqL.of fulJ,rfl,_,rfl,?_⟩;exact k _ _ _ (.int _) ((FD.sm (by decide)).mono (Qaf _) (by decide)) RJ B'
  ·refine⟨ul,_,_,_,rfl,rfl,SqL.of fulJ,rfl,_,rfl,?_⟩;exact k _ _ _ (.bl _) ((FD.bl _).mono (Qaf _) (by decide)) RJ B'
  ·refine⟨ul,_,_,_,rfl,rfl,SqL.of fulJ,rfl,_,rfl,?_⟩;exact k _ _ _ (.str _) ((FD.str "0 0 0" (by decide +kernel) (by decide +kernel) rfl).mono (Qaf _) (by decide)) RJ B'
  ·refine⟨ul,_,_,_,rfl,rfl,SqL.of fulJ,rfl,_,rfl,?_⟩;exact k _ _ _ (ThL.nil.tup h2) (FD.fewT (n:=2) (fun d' h=>by cases h) (by decide)) RJ B'
  ·refine⟨ul,_,_,_,rfl,rfl,SqL.of fulJ,rfl,_,rfl,?_⟩;exact k _ _ _ ((ThL.cons (ThL.nil.lst h3) ThL.nil).lst h4) (FD.few (n:=2) (fun d' h=>by rw[QaE.mp h];exact f0) (by decide)) RJ B'
 have made:∀(f:Int→Int) (D:Addr) (H1:Hp),(∀n∈r,-(10^79)<f n∧f n<10^79)→Zai H H1→H1 D=some (.lst ((r.map f).map V.int))→Q (.ref D) H1:=fun f D H1 hf s1 f1=>by
  refine k _ (dI (r.map f)) _ (ThL.lst (ThL.ints _) f1) (fdI (by rw[Qaa];omega) fun n hn=> ?_) (h.rest.same s1) (h.but.trans (But.same s1));obtain⟨m,hm,rfl⟩:=Qaz.mp hn;exact hf m hm
 have mapped:∀(f:Int→Int) (te:TE),(∀(σ:L2.St) (x:Int) (P:VK),P (.int (f x)) H→te ([some (.int x)]++σ) H P)→(∀n∈r,-(10^79)<f n∧f n<10^79)→ZbU (ZbA 1 (Zc4 K (Zam 2)) (Zas 0) Zcp te) (Zas 2) {nx:=fun σ H'=>Zct (Zam 2) {nx:=Z,rt:=Q } σ H',rt:=Q } [some (.ref c),some (.ref d),some (.ref l),some (.int (j:Int)),some (.int kd)] H:=fun f te ht hf=>by
  refine⟨_,rfl,l,rfl,⟨_,SqL.of h.hl⟩,Zgz (K:=K) (a:=l) (xs:=r.map V.int) (fun i zs H'=>zs=(((r.take i).map f).map V.int)∧H=H') ⟨rfl,rfl⟩ (by rw[Qaa];omega) (fun i zs H' q=>by rw[q.1,Qaa,Qaa,QaC];exact Qbi _ _) (fun i zs H' _ q=>by rw[←q.2];exact SqL.of h.hl) ?_ ?_⟩
  ·rintro i y zs H1 pre hpl hy ⟨rfl,rfl⟩;rw[Qah] at hy
   cases ej:r[i]? with
   |none=>rw[ej] at hy;cases hy
   |some e=>
    rw[ej] at hy;cases hy;rcases pre with _|⟨q0,_|⟨q1,pre⟩⟩
    ·cases hpl
    ·refine⟨⟨[some _],rfl,rfl⟩,?_⟩;unfold Zcp;dsimp only;rw[if_pos (rfl:true=true)];refine ht _ e _ ⟨?_,rfl⟩;rw[Zat ej,Qam,Qam];rfl
    ·cases hpl
  ·rintro zs H1 ⟨rfl,rfl⟩ D hD;rw[Qaa,QaZ];exact⟨_,rfl,made f D _ hf (Zai.nw (Zai.refl H) hD) Zaa⟩
 refine⟨_,rfl,rfl,_,rfl,ZeL (fun c8=> ?_) (fun c8=> ?_)⟩
 ·exact mapped (fun x=>2*x) _ (fun σ x P p=>⟨_,rfl,2,x,rfl,rfl,.inl ⟨by decide,by decide⟩,p⟩) fun n hn=>ZhZ ⟨by have:=h.bd n hn;omega,Qcb (by have:=h.bd n hn;omega:2*n≤1000) (by decide +kernel)⟩
 refine⟨_,rfl,rfl,_,rfl,ZeL (fun c9=> ?_) (fun c9=> ?_)⟩
 ·exact mapped (fun _=>10^(61:Int).toNat) _ (fun σ x P p=>⟨10,61,rfl,rfl,⟨by decide,by decide,by decide⟩,p⟩) fun n hn=>ZhZ ⟨by decide +kernel,by decide +kernel⟩
 ·refine⟨_,rfl,_,rfl,_,rfl,rfl,l,_,rfl,SqL.of h.hl,fun u1 hu1=>⟨_,rfl,?_⟩⟩;have sC:=Zai.nw (o:=.lst (r.map V.int).reverse) (Zai.refl H) hu1;exact k _ (.list (r.map PyData.int).reverse) _ (ThL.lst (ThL.ints r).rev Zaa) (FD.few (fun d' h'=>h.fd d' (List.mem_reverse.mp h')) (by rw[QcH,Qaa];omega)) (h.rest.same sC) (h.but.trans (But.same sC))
theorem ZkD (h:BnI H0 H d l j r)(k:∀(x:V) (dd:PyData) (H':Hp),Th H' x dd→FD 3 200000 dd→ZbN H' d→But d H0 H'→Q x H'):ZpP K {nx:=fun σ H'=>Zct (Zam 2) {nx:=Z,rt:=Q } σ H',rt:=Q } [some (.ref c),some (.ref d),some (.ref l),some (.int (j:Int)),some (.int kd)] H:=by
 have l18:=h.l18;have jl:=h.jl;refine⟨_,rfl,rfl,_,rfl,ZeL (fun c5=> ?_) (fun c5=> ?_)⟩
 ·refine⟨(by show 1≤sizeLine;decide),fun u1 hu1=> ?_⟩;have sC:=Zai.nw (o:=.tup [.int 1]) (Zai.refl H) hu1;have fu1:(upd H u1 (.tup [.int 1])) u1=some (.tup [.int 1]):=Zaa;generalize upd H u1 (.tup [.int 1])=HC at sC fu1⊢;have hC:=h.same sC;refine⟨(by show 1≤sizeLine;decide),fun u2 hu2=> ?_⟩;have n2:=hC.rest.ne hu2;have nl2:u2≠l:=Ne.symm (Zak hC.hl hu2);have sD:=Zai.nw (o:=.lst [.int 0]) (Zai.refl HC) hu2;have fu2:(upd HC u2 (.lst [.int 0])) u2=some (.lst [.int 0]):=Zaa;generalize upd HC u2 (.lst [.int 0])=HD at sD fu2⊢;have hD:=hC.same sD;refine⟨(by show 6≤sizeLine;decide),fun ul hul=> ?_⟩;have n6:=hD.rest.ne hul;have sI:=Zai.nw (o:=.lst [.bl true,.bl false,.str "1",.non,.ref u1,.ref u2]) (Zai.refl HD) hul;have ful:(upd HD ul (.lst [.bl true,.bl false,.str "1",.non,.ref u1,.ref u2])) ul=some (.lst [.bl true,.bl false,.str "1",.non,.ref u1,.ref u2]):=Zaa;generalize upd HD ul (.lst [.bl true,.bl false,.str "1",.non,.ref u1,.ref u2])=HI at sI ful⊢;have hI:=hD.same sI;refine⟨_,rfl,d,6,rfl,hI.rest,by decide,dg (by decide),fun r3 HJ r30 r31 RJ BJ=> ?_⟩;have hJ:=hI.step BJ RJ;have tJ:=But.tupsR BJ hI.rest;have fulJ:=BJ _ _ ful n6;have h1:=tJ _ _ (sI _ _ (sD _ _ fu1));have h2:=BJ _ _ (sI _ _ fu2) n2;have hlJ:=hJ.hl;have tpX:∀x,ZbP HJ (upd HJ l (.lst ((r.map V.int).set j x))):=fun x=>ZbP.lst (ZbP.refl HJ) hlJ;have hc:r3=0∨r3=1∨r3=2∨r3=3∨r3=4∨r3=5:=by omega
  rcases hc with rfl|rfl|rfl|rfl|rfl|rfl
  ·refine⟨ul,_,_,_,rfl,rfl,SqL.of fulJ,rfl,_,rfl,_,rfl,l,_,_,j,rfl,rfl,hlJ,hJ.ix,_,rfl,?_⟩;exact hJ.set k (.bl _) ((FD.bl _).mono (Qaf _) (by decide))
  ·refine⟨ul,_,_,_,rfl,rfl,SqL.of fulJ,rfl,_,rfl,_,rfl,l,_,_,j,rfl,rfl,hlJ,hJ.ix,_,rfl,?_⟩;exact hJ.set k (.bl _) ((FD.bl _).mono (Qaf _) (by decide))
  ·refine⟨ul,_,_,_,rfl,rfl,SqL.of fulJ,rfl,_,rfl,_,rfl,l,_,_,j,rfl,rfl,hlJ,hJ.ix,_,rfl,?_⟩;exact hJ.set k (.str _) ((FD.str "1" (by decide +kernel) (by decide +kernel) rfl).mono (Qaf _) (by decide))
  ·refine⟨ul,_,_,_,rfl,rfl,SqL.of fulJ,rfl,_,rfl,_,rfl,l,_,_,j,rfl,rfl,hlJ,hJ.ix,_,rfl,?_⟩;exact hJ.set k .non (FD.non.mono (Qaf _) (by decide))
  ·refine⟨ul,_,_,_,rfl,rfl,SqL.of fulJ,rfl,_,rfl,_,rfl,l,_,_,j,rfl,rfl,hlJ,hJ.ix,_,rfl,?_⟩;exact hJ.set k ((ThL.cons (.int _) ThL.nil).tup (tpX _ _ _ h1)) (FD.smallT (n:=1) (fun d' h'=>by rw[QaE.mp h'];exact FD.sm (by decide)) (by decide))
  ·refine⟨ul,_,_,_,rfl,rfl,SqL.of fulJ,rfl,_,rfl,_,rfl,l,_,_,j,rfl,rfl,hlJ,hJ.ix,_,rfl,?_⟩;exact hJ.set k ((ThL.cons (.int _) ThL.nil).lst (by rw[Zan nl2];exact h2)) (FD.smallL (n:=1) (fun d' h'=>by rw[QaE.mp h'];exact FD.sm (by decide)) (by decide))
 refine⟨_,rfl,rfl,_,rfl,ZeL (fun c6=> ?_) (fun c6=> ?_)⟩
 ·refine⟨_,rfl,(by show 1≤sizeLine;decide),fun u1 hu1=> ?_⟩;have sC:=Zai.nw (o:=.lst [.int 0]) (Zai.refl H) hu1;have fu1:(upd H u1 (.lst [.int 0])) u1=some (.lst [.int 0]):=Zaa;generalize upd H u1 (.lst [.int 0])=HC at sC fu1⊢;refine⟨l,u1,_,_,rfl,rfl,sC _ _ h.hl,fu1,QaI (show(r.map V.int).length+1≤1000 by rw[Qaa];omega) (by decide),fun l2 hl2=>⟨_,rfl,?_⟩⟩;have sD:=Zai.nw (o:=.lst (r.map V.int++ [.int 0])) sC hl2;refine k _ (.list (r.map PyData.int++ [.int 0])) _ (ThL.lst ((ThL.ints r).append (ThL.cons (.int 0) ThL.nil)) Zaa) (FD.few (n:=2) (fun d' h'=> ?_) (by rw[Qae,Qaa];show r.length+1≤20;omega)) (h.rest.same sD) (h.but.trans (But.same sD));rcases Qaq.mp h' with h'|h'
  ·exact h.fd d' h'
  ·rw[QaE.mp h'];exact(FD.sm (by decide)).mono (Qaf _) (by decide)
 refine⟨_,rfl,rfl,_,rfl,ZeL (fun c7=> ?_) (fun c7=> ?_)⟩
 ·have ex:(r.map V.int)[j]?=some ((r.map V.int)[j]'(by rw[Qaa];exact jl)):=Qab _;refine⟨_,rfl,.inl ⟨rfl,_,SqL.of h.hl⟩,_,rfl,l,_,(j:Int),j,_,rfl,rfl,h.hl,by omega,by omega,(Zgv h.ix).1,ex,_,rfl,?_⟩;refine k _ (.list ((r.map PyData.int).eraseIdx j)) _ (ThL.lst ((ThL.ints r).erase j) Zaa) (FD.few (fun d' h'=>h.fd d' (QdU h')) (QaI (Qd6 _ _) (by rw[Qaa];omega))) ?_ (h.but.own' h.lf);obtain⟨m,e⟩:=h.rest;exact⟨m,by rw[Zan (Ne.symm h.nl)];exact e⟩
 ·exact ZkC (K:=K) h k
theorem Ziy (hc:H c=some (.lst (r.map V.int)))(l3:3≤r.length)(l18:r.length≤18)(bd:∀x∈r,0≤x∧x≤160)(R0:ZbN H d)(k:∀(x:V) (dd:PyData) (H':Hp),Th H' x dd→FD 3 200000 dd→ZbN H' d→But d H H'→Q x H'):Zns K {nx:=Z,rt:=Q } [some (.ref c),some (.ref d),none,none,none] H:=by
 refine⟨_,rfl,c,_,rfl,.inl (SqL.of hc),fun l hl=> ?_⟩;have s1:=Zai.nw (o:=.lst (r.map V.int)) (Zai.refl H) hl;have f1:(upd H l (.lst (r.map V.int))) l=some (.lst (r.map V.int)):=Zaa;have nl:=R0.ne hl;generalize upd H l (.lst (r.map V.int))=H1 at s1 f1⊢;have R1:=R0.same s1;refine⟨_,rfl,_,rfl,c,_,rfl,.inl (SqL.of (s1 _ _ hc)),d,_,rfl,R1,by rw[Qaa];omega,dg (by rw[Qaa];omega),fun t H2 t0 t1 R2 B2=> ?_⟩;rw[Qaa] at t1;obtain⟨j,rfl⟩:∃j:Nat,t=(j:Int):=⟨t.toNat,by omega⟩;have h2:BnI H H2 d l j r:=⟨(But.same s1).trans B2,R2,B2 _ _ f1 nl,hl,nl,by omega,l18,bd⟩;refine⟨_,rfl,d,12,rfl,R2,by decide,dg (by decide),fun kd H3 k0 k1 R3 B3=> ?_⟩;have h3:=h2.step B3 R3;refine⟨_,rfl,_,_,rfl,rfl,_,rfl,ZeL (fun c1=> ?_) (fun c1=> ?_)⟩
 ·have c1:=QaK c1;have jl:=h3.jl;have er:r[j]?=some r[j]:=Qab jl;have bj:=bd r[j] (Qbo jl);generalize r[j]=x at er bj;refine⟨_,rfl,_,rfl,l,_,(j:Int),.int x,rfl,rfl,SqL.of h3.hl,ZbL (by rw[Qah,er];rfl),?_⟩;refine⟨_,rfl,_,rfl,10,61,rfl,rfl,⟨by decide,by decide,by decide⟩,(by show 5≤sizeLine;decide),fun ul hul=> ?_⟩;have sD:=Zai.nw (o:=.lst [.int 1,.int 2,.int (-1),.int (-2),.int (10^(61:Int).toNat)]) (Zai.refl H3) hul;have ful:(upd H3 ul (.lst [.int 1,.int 2,.int (-1),.int (-2),.int (10^(61:Int).toNat)])) ul=some (.lst [.int 1,.int 2,.int (-1),.int (-2),.int (10^(61:Int).toNat)]):=Zaa;show Zam 4 _ (upd H3 ul (.lst [.int 1,.int 2,.int (-1),.int (-2),.int (10^(61:Int).toNat)])) _;generalize upd H3 ul (.lst [.int 1,.int 2,.int (-1),.int (-2),.int (10^(61:Int).toNat)])=H4 at sD ful⊢;have h4:=h3.same sD
  obtain⟨z,ez,bz⟩:∃z:Int,atI [V.int 1,.int 2,.int (-1),.int (-2),.int (10^(61:Int).toNat)] kd=some (.int z)∧-2≤z∧z≤10^(61:Int).toNat:=by
   have hc:kd=0∨kd=1∨kd=2∨kd=3∨kd=4:=by omega
   rcases hc with rfl|rfl|rfl|rfl|rfl
   ·exact⟨1,rfl,by decide,by decide +kernel⟩
   ·exact⟨2,rfl,by decide,by decide +kernel⟩
   ·exact⟨-1,rfl,by decide,by decide +kernel⟩
   ·exact⟨-2,rfl,by decide,by decide +kernel⟩
   ·exact⟨_,rfl,by decide +kernel,Qba _⟩
  refine⟨_,rfl,ul,_,_,_,rfl,rfl,SqL.of ful,ez,_,_,rfl,rfl,_,rfl,_,rfl,l,_,_,j,rfl,rfl,h4.hl,h4.ix,_,rfl,?_⟩
  have nk: -(10^79)<x+z∧x+z<10^79:=ZhZ ⟨by omega,by
   have b1:=bz.2
   have b2:=bj.2
   generalize(10:Int) ^(61:Int).toNat=big at b1⊢
   omega⟩
  exact h4.set k (.int _) ((FD.int nk.1 nk.2).mono (Qaf _) (by decide))
 ·exact ZkD (K:=K) h3 k
end
section
variable {K:PySem.W.Frag}
theorem Zgl (S:List (List Int)):(dTs S).depth≤60:=by
 have g:∀S:List (List Int),PyData.depthAll (S.map dT)≤40:=by
  intro S
  induction S with
  |nil=>exact QaW _
  |cons t S ih=>
   show Nat.max (dT t).depth (PyData.depthAll (S.map dT))≤40
   have:(dT t).depth≤40:=by show PyData.depthAll (t.map PyData.int)+1≤40;rw[Zdr];decide
   exact Nat.max_le.mpr ⟨this,ih⟩
 show PyData.depthAll (S.map dT)+1≤60
 have:=g S;omega
theorem BdI.dat {xs:List V}(h:BdI H b c xs S r)(ha:H a=some (.lst xs)):Th H (.ref a) (dTs S):=(TuL.th h.tS).lst ha
theorem ZkE {g:Addr}{x1 x6 x7 x8:Option V}{i:Nat}{xs:List V}(s0:Zai H0 H)(hS:SqL K H0 a (ns.map V.int))(h:BdI H b c xs S r)(bd:∀x∈r,x≤160)(hg:H g=some (.lst xs))
  (k:∀(x1 x6 x7 x8:Option V) (H':Hp),Zai H H'→N [some (.ref a),x1,some (.ref b),some (.ref c),some (.ref g),some (.int (0+(i:Int))),x6,x7,x8] H'):ZpQ K {nx:=N,rt:=Q,bk:=B,ct:=C } [some (.ref a),x1,some (.ref b),some (.ref c),some (.ref g),some (.int (0+(i:Int))),x6,x7,x8] H:=by
 have lS:=h.oS.len;have rl:=h.ev.len;refine⟨_,rfl,_,rfl,_,_,rfl,rfl,a,ns,_,rfl,s0.seq hS,by omega,fun n2 H7 S7=>⟨(by show 1≤sizeLine;decide),fun e he=> ?_⟩⟩;have s8:=Zai.nw (o:=.lst [.int n2]) S7 he;have ef:H e=none:=S7.free he;have R8:ZbN (upd H7 e (.lst [.int n2])) e:=⟨n2,Zaa⟩;generalize upd H7 e (.lst [.int n2])=H8 at s8 R8⊢;have h8:=h.up s8;refine⟨_,rfl,_,rfl,c,e,r,rfl,h8.hc,by omega,by omega,fun x hx=>⟨h.ev.nn x hx,bd x hx⟩,R8,fun x dd H9 tx fx R9 B9=> ?_⟩;have s9:Zai H H9:=Zai.but s8 ef B9;have h9:=h.up s9;refine⟨_,rfl,x,dd,rfl,Th.di tx,fx.show',fx.noD,QaI fx.dep (by decide),fx.len,?_⟩;refine⟨_,rfl,_,rfl,g,x,dd,xs,S,rfl,s9 _ _ hg,h9.tS,h.oS,tx,fun HA sA=> ?_⟩;have txA:=tx.up sA;have hA:=h9.up sA;refine⟨_,rfl,_,_,_,rfl,.bl _,(ZeP (.bool (Zmm S dd)):_),_,rfl,ZcQ ⟨_,rfl,_,rfl,_,rfl,b,x,dd,xs,S,rfl,hA.hb,hA.tS,h.oS,txA,fun HB sB=>⟨rfl,_,rfl,?_⟩⟩⟩;have ev:(!decide (V.bl (Zmm S dd)=V.bl (Zmm S dd)))=false:=by simp
 rw[ev];refine ZcQ ⟨_,rfl,x,dd,rfl,Th.di (txA.up sB),fx.show',fx.noD,QaI fx.dep (by decide),fx.len,_,rfl,rfl,_,rfl,?_⟩;have ev2:(!decide (V.str (ZmW dd)=V.str (ZmW dd)))=false:=by simp
 rw[ev2];have sX:=s9.trans (sA.trans sB);have hB:=h.up sX;refine ZcQ ⟨_,rfl,_,rfl,_,_,(hB.dat (sX _ _ hg)).di,(hB.dat hB.hb).di,ZdP S,ZdP S,Zgl S,_,rfl,?_⟩;rw[ZjI,Qan rfl];exact ZcQ (k _ _ _ _ HB sX)
theorem ZkF (hS:SqL K H a (ns.map V.int))(hl:ns.length≤63)(k:∀H',Q (.bl true) H'):ZoO K {nx:=Z,rt:=Q } [some (.ref a),none,none,none,none,none,none,none,none] H:=by
 refine⟨_,rfl,a,ns,0,rfl,hS,by decide,fun n H1 S1=>⟨(by show 1≤sizeLine;decide),fun d hd=> ?_⟩⟩;have s2:=Zai.nw (o:=.lst [.int n]) S1 hd;have df:H d=none:=S1.free hd;have R2:ZbN (upd H1 d (.lst [.int n])) d:=⟨n,Zaa⟩;generalize upd H1 d (.lst [.int n])=H2 at s2 R2⊢;refine⟨_,rfl,d,rfl,R2,fun b0 xs0 S0 H3 bf hb tS oS R3 B3=> ?_⟩
 have nbd:b0≠d:=fun z=>by
  obtain⟨m,e⟩:=R2;rw[z,e] at bf;cases bf
 refine⟨_,rfl,b0,d,xs0,S0,rfl,hb,tS,oS,R3,nbd,fun q b c xs S r H4 B4 R4 hq i4 bd=> ?_⟩;have s04:Zai H H4:=Zai.but (Zai.but s2 df B3) df B4;refine⟨q,_,rfl,SqT.of hq,rfl,_,_,rfl,_,_,rfl,rfl,?_⟩;refine⟨_,rfl,b,xs,rfl,.inl (SqL.of i4.hb),fun g hg=> ?_⟩;have s5:=Zai.nw (o:=.lst xs) (Zai.refl H4) hg;have fg:(upd H4 g (.lst xs)) g=some (.lst xs):=Zaa;generalize upd H4 g (.lst xs)=H5 at s5 fg⊢;have i5:=i4.up s5;refine⟨_,rfl,_,rfl,c,_,rfl,.inl (SqL.of i5.hc),fun l hl'=> ?_⟩;have s6:=Zai.nw (o:=.lst (r.map V.int)) (Zai.refl H5) hl';have f6:(upd H5 l (.lst (r.map V.int))) l=some (.lst (r.map V.int)):=Zaa;generalize upd H5 l (.lst (r.map V.int))=H6 at s6 f6⊢;have i6:=i5.up s6;refine⟨g,.ref l,dI r,xs,S,rfl,s6 _ _ fg,i6.tS,i6.oS,(ThL.ints r).lst f6,fun H7 s7=>⟨_,_,rfl,rfl,_,rfl,?_⟩⟩;rw[Znk i6.oS i6.ev];have i7:=i6.up s7;have fg7:=s7 _ _ (s6 _ _ fg);refine ZcQ ⟨_,rfl,_,rfl,_,_,(i7.dat fg7).di,(i7.dat i7.hb).di,ZdP S,ZdP S,Zgl S,_,rfl,?_⟩;rw[ZjI,Qan rfl];refine ZcQ ?_;have s07:=s04.trans (s5.trans (s6.trans s7));refine⟨_,rfl,a,_,rfl,.inl (s07.seq hS),_,_,rfl,rfl,_,_,rfl,_,_,rfl,_,rfl,?_,?_,Zb9 (fun i σ H'=>∃(x1 x5 x6 x7 x8:Option V),σ=[some (.ref a),x1,some (.ref b),some (.ref c),some (.ref g),x5,x6,x7,x8]∧Zai H7 H') ⟨_,_,_,_,_,rfl,Zai.refl H7⟩ ?_ ?_⟩
 ·rw[Qaa]
  (repeat' split)<;>omega
 ·rw[Qaa]
  (repeat' split)<;>omega
 ·rintro i σ H8 hi ⟨x1,x5,x6,x7,x8,rfl,s8⟩;exact ZkE (K:=K) (H0:=H) (s07.trans s8) hS (i7.up s8) bd (s8 _ _ fg7) fun x1 x6 x7 x8 H9 s9=>⟨_,_,_,_,_,rfl,s8.trans s9⟩
 ·rintro σ H8 ⟨x1,x5,x6,x7,x8,rfl,s8⟩;exact k H8
end
section
variable {K:PySem.W.Frag}
abbrev ZaL:Stmt:=top 30
theorem Zdf:ZaC ["_law_sheet_here", "_law_rest", "_law_way"] ["_law_sheet_here", "_law_rest"] (Zag ZaL):=⟨rfl,rfl,rfl,by decide +kernel,rfl,by decide +kernel,by decide +kernel⟩
theorem ZlH {fd:FuncData}(F:Fun K "_law_small_row" "_law_small_row" ZaL f fd)(M:Txt mg)(qd:Kn P w K mg base "_law_digit" 1 ["_law_rest", "_law_many"] Zbr)(qz:Kn P w K mg base "_law_rings" 4 ["_law_sheet_here", "_law_rest", "_law_most"] Zcy)(qo:Kn P w K mg base "_law_wide_row" 4 ["_law_sheet_here", "_law_rest", "_law_most"] Zcy)(B:Gb mg):Zcc P w K mg base CX0 5 f fd ["_law_sheet_here", "_law_rest"] Zhh:=by
 have sc:=Zdf;refine F.ok sc (fun vs H Q E h=> ?_) (fun cdv A outer s H vs Q E hr h=> ?_)
 ·obtain⟨b,d,xs,S,rfl,_⟩:=h;rfl
 ·obtain⟨b,d,xs,S,rfl,h1,h2,h3,h4,h5,k⟩:=h
  refine⟨_,(Zaf (Zav (i:=2) sc.nd rfl (Or.inl rfl) (Zal qd hr rfl (Zac (pv 1) (Zap Zad Zab))))
   (Zaf (ZbH (Zax ZcJ (pv 2) Zad (ZaF _)) (Zah (ZaB (Zal qz hr rfl (Zac (pv 0) (Zac (pv 1) (Zap Zad Zab)))))) ZaU)
   (Zaf (ZbH (Zax ZcJ (pv 2) Zad (ZaF _)) (Zah (ZaB (ZaM (xs:=["_law_one", "_law_two"]) (Nb:=["_law_sheet_here", "_law_rest", "_law_way"]) rfl (Zn0 rfl B.zp (ZaV (Zal qz hr rfl (Zac (pv 0) (Zac (pv 1) (Zap Zad Zab)))) (ZaV (Zal qo hr rfl (Zac (pv 0) (Zac (pv 1) (Zap Zad Zab)))) Zab))) rfl (by show∀p∈(List.zip ["_law_sheet_here", "_law_rest", "_law_way"] ["_law_sheet_here", "_law_rest", "_law_way"]:List (Str×Str)),_;decide +kernel) (by decide +kernel) (fun cl C s₂ H₂ fp=>(ZgB (K:=K) (n:=2) rfl (Zaq (Zaj (i:=0) (by show List.Nodup (["_law_one", "_law_two", "_law_sheet_here", "_law_rest", "_law_way"]:List Str);decide +kernel) rfl (Or.inl (Qag rfl)) (Or.inr (Qag rfl))) (Zaq (Zaj (i:=1) (by show List.Nodup (["_law_one", "_law_two", "_law_sheet_here", "_law_rest", "_law_way"]:List Str);decide +kernel) rfl (Or.inl (Qag rfl)) (Or.inr (Qag rfl))) Zbe)))) (fun cl C s₂ H₂ fp=>ZaQ) (fun cl C s₂ H₂ fp=>(Zar ZaS (pv 0) (pv 1))) (by decide +kernel) rfl (by decide +kernel) (by show∀y∈(_:List (Str×NameKind)),y.2=NameKind.free→(Zag ZaL).names.lookup y.1=some .cell;decide +kernel)))) ZaU)
   (Zah (ZaB (Zal qo hr rfl (Zac (pv 0) (Zac (pv 1) (Zap Zad Zab))))))))),?_⟩
  exact Zhi (K:=K) h1 h2 h3 h4 h5 k
abbrev Za8:Stmt:=top 31
theorem Zel:ZaC ["_law_sheet_here", "_law_rest", "_law_most", "_law_row", "_law_k", "_law_tie", "_law_behind_it", "_law_some"] ["_law_sheet_here", "_law_rest", "_law_most"] (Zag Za8):=⟨rfl,rfl,rfl,by decide +kernel,rfl,by decide +kernel,by decide +kernel⟩
theorem ZkG {fd:FuncData}(F:Fun K "_law_bundle" "_law_bundle" Za8 f fd)(M:Txt mg)(qx:Kn P w K mg base "_law_small_row" 5 ["_law_sheet_here", "_law_rest"] Zhh)(qd:Kn P w K mg base "_law_digit" 1 ["_law_rest", "_law_many"] Zbr)(qe:Kn P w K mg base "_law_square" 2 ["_law_sheet_here", "_law_tie"] Zcl)(qB:Kn P w K mg base "_law_carried" 3 ["_law_sheet_here", "_law_row", "_law_tie"] Zd5)(qF:Kn P w K mg base "_law_turned" 3 ["_law_sheet_here", "_law_tie"] ZdY)(qG:Kn P w K mg base "_law_walked" 3 ["_law_sheet_here", "_law_row"] Zfl):Zcc P w K mg base CX0 6 f fd ["_law_sheet_here", "_law_rest", "_law_most"] Zft:=by
 have sc:=Zel;refine F.ok sc (fun vs H Q E h=> ?_) (fun cdv A outer s H vs Q E hr h=> ?_)
 ·obtain⟨b,d,xs,S,rfl,_⟩:=h;rfl
 ·obtain⟨b,d,xs,S,rfl,h1,h2,h3,h4,h5,k⟩:=h
  refine⟨_,(Zaf (Zav (i:=3) sc.nd rfl (Or.inl rfl) (Zal qx hr rfl (Zac (pv 0) (Zac (pv 1) Zab))))
   (Zaf (Zby QaV rfl (Zbf rfl M.range (ZaV (Zal qd hr rfl (Zac (pv 1) (Zap Zad Zab))) Zab)) (Zaj (i:=4) sc.nd rfl (Or.inl rfl))
   (Zaf (Zav (i:=5) sc.nd rfl (Or.inl rfl) (Zar ZaS Zad (Zal qd hr rfl (Zac (pv 1) (ZaV (Zao (ZaI (K:=K)) (by rfl) M.len Qbj (Zac (pv 3) Zab)) Zab)))))
   (Zah (ZbH (ZnJ (Zmv (Zal qe hr rfl (Zac (pv 0) (Zac (pv 5) Zab))))) (Zaf (Zav (i:=6) sc.nd rfl (Or.inl rfl) (Zal qB hr rfl (Zac (pv 0) (Zac (pv 3) (Zac (pv 5) Zab)))))
   (Zah (ZbH (Zax ZnP (Zao (ZcD rfl) (by rfl) M.sum QeH (Zac (pv 6) Zab)) (pv 2) (ZaF _)) (Zaf (Zav (i:=3) sc.nd rfl (Or.inl rfl) (pv 6))
   (Zah (Zav (i:=0) sc.nd rfl (Or.inl rfl) (Zal qF hr rfl (Zac (pv 0) (Zac (pv 5) Zab)))))) ZaU))) ZaU))))
   (Zaf (ZbH (Zax ZiS (Zao (ZcD rfl) (by rfl) M.sum QeH (Zac (pv 3) Zab)) (pv 2) (ZaF _)) (Zah (ZaB (ZaX (Zb2 (pv 0) (ZaM (xs:=["_law_count"]) (Nb:=["_law_sheet_here", "_law_rest", "_law_most", "_law_row", "_law_k", "_law_tie", "_law_behind_it", "_law_some"]) rfl (Za3 (pv 3)) rfl (by show∀p∈(List.zip ["_law_sheet_here", "_law_rest", "_law_most", "_law_row", "_law_k", "_law_tie", "_law_behind_it", "_law_some"] ["_law_sheet_here", "_law_rest", "_law_most", "_law_row", "_law_k", "_law_tie", "_law_behind_it", "_law_some"]:List (Str×Str)),_;decide +kernel) (by decide +kernel) (fun cl C s₂ H₂ fp=>(Zaj (i:=0) (by show List.Nodup (["_law_count", "_law_sheet_here", "_law_rest", "_law_most", "_law_row", "_law_k", "_law_tie", "_law_behind_it", "_law_some"]:List Str);decide +kernel) rfl (Or.inl (Qag rfl)) (Or.inr (Qag rfl)))) (fun cl C s₂ H₂ fp=>ZaQ) (fun cl C s₂ H₂ fp=>Zad) (by decide +kernel) rfl (by decide +kernel) (by show∀y∈(_:List (Str×NameKind)),y.2=NameKind.free→(Zag Za8).names.lookup y.1=some .cell;decide +kernel)) Zab)))) ZaU)
   (Zaf (ZbH (PW.pt (ZlK (Zax ZcJ (Zal qd hr rfl (Zac (pv 1) (Zap Zad Zab))) Zad (ZaF _)) (ZiI (Zax ZiS (Zao (ZcD rfl) (by rfl) M.sum QeH (Zac (pv 3) Zab)) Zad (ZaF _))))) (Zaf (Zav (i:=7) sc.nd rfl (Or.inl rfl) (Zal qG hr rfl (Zac (pv 0) (Zac (pv 3) Zab))))
   (Zah (Zav (i:=3) sc.nd rfl (Or.inl rfl) (Zbv (ZdI (K:=K)) (Zbv (ZaD (K:=K)) (pv 7) (Zal qd hr rfl (Zac (pv 1) (ZaV (Zao (ZaI (K:=K)) (by rfl) M.len Qbj (Zac (pv 7) Zab)) Zab))) (fun _ _=>rfl)) Zad (fun _ _=>rfl)) Zjf))) ZaU)
   (Zah (ZaB (ZaX (Zb2 (pv 0) (pv 3) Zab)))))))),?_⟩
  exact Zgk (K:=K) h1 h2 h3 h4 h5 k
abbrev Zbk:Stmt:=top 33
theorem Zgm:ZaC ["_law_row", "_law_rest", "_law_made", "_law_at", "_law_kind"] ["_law_row", "_law_rest"] (Zag Zbk):=⟨rfl,rfl,rfl,by decide +kernel,rfl,by decide +kernel,by decide +kernel⟩
theorem Znu {fd:FuncData}(F:Fun K "_law_bent" "_law_bent" Zbk f fd)(M:Txt mg)(qd:Kn P w K mg base "_law_digit" 1 ["_law_rest", "_law_many"] Zbr):Zcc P w K mg base CX0 2 f fd ["_law_row", "_law_rest"] Zky:=by
 have sc:=Zgm;refine F.ok sc (fun vs H Q E h=> ?_) (fun cdv A outer s H vs Q E hr h=> ?_)
 ·obtain⟨c,d,r,rfl,_⟩:=h;rfl
 ·obtain⟨c,d,r,rfl,h1,h2,h3,h4,h5,k⟩:=h
  refine⟨_,(Zaf (Zav (i:=2) sc.nd rfl (Or.inl rfl) (Za9 Zbz (by rfl) M.list Qdd (Zac (pv 0) Zab)))
   (Zaf (Zav (i:=3) sc.nd rfl (Or.inl rfl) (Zal qd hr rfl (Zac (pv 1) (ZaV (Zao (ZaI (K:=K)) (by rfl) M.len Qbj (Zac (pv 0) Zab)) Zab))))
   (Zaf (Zav (i:=4) sc.nd rfl (Or.inl rfl) (Zal qd hr rfl (Zac (pv 1) (Zap Zad Zab))))
   (Zaf (ZbH (Zax ZkN (pv 4) Zad (ZaF _)) (Zah (Zb3 (Zar ZaS (Zbv (ZaD (K:=K)) (pv 2) (pv 3) (fun _ _=>rfl)) (Zbv (ZaD (K:=K)) (Zbg (ZeQ Zad Zad (Zfy Zdh Zad) (Zfy Zdh Zad) (ZaH (Zar Zhn Zad Zad) Zab))) (pv 4) (fun _ _=>rfl))) (Zeo (pv 2) (pv 3) ZcC))) (Zah (ZbH (Zax ZcJ (pv 4) Zad (ZaF _)) (Zah (Zb3 (Zbv (ZaD (K:=K)) (Zbg (ZeQ Zc3 Zc3 ZlJ ZiH (Zb2 (ZaX (Zap Zad Zab)) (Zbg (Zap Zad Zab)) Zab))) (Zal qd hr rfl (Zac (pv 1) (Zap Zad Zab))) (fun _ _=>rfl)) (Zeo (pv 2) (pv 3) ZcC))) (Zah (ZbH (Zax ZcJ (pv 4) Zad (ZaF _)) (Zah (Zav (i:=2) sc.nd rfl (Or.inl rfl) (Zar Zes (pv 2) (Zbg (Zap Zad Zab))))) (Zah (ZbH (Zax ZcJ (pv 4) Zad (ZaF _)) (Zah (Zce (Zdk Qa0 Qde Qdf ZeK (pv 2) (Zac (pv 3) Zab)))) (Zah (ZbH (Zax ZcJ (pv 4) Zad (ZaF _)) (Zah (Zav (i:=2) sc.nd rfl (Or.inl rfl) (Zbv (ZaD (K:=K)) (Zbg (ZeQ (Za9 Zcg (by rfl) M.tuple boot_tuple (Zac (pv 2) Zab)) ZiH Zad Zc3 (Zje ZlJ (ZaX Zab) (Zbg (ZmH (Zbg Zab) Zab)) Zab))) (Zal qd hr rfl (Zac (pv 1) (Zap Zad Zab))) (fun _ _=>rfl)) Zjf)) (Zah (ZbH (Zax ZcJ (pv 4) Zad (ZaF _)) (Zah (ZcU (xs:=["_law_count"]) (Nb:=["_law_row", "_law_rest", "_law_made", "_law_at", "_law_kind"]) (Zaj (i:=2) sc.nd rfl (Or.inl rfl)) rfl rfl (Za3 (pv 2)) rfl (by show∀p∈(List.zip ["_law_row", "_law_rest", "_law_made", "_law_at", "_law_kind"] ["_law_row", "_law_rest", "_law_made", "_law_at", "_law_kind"]:List (Str×Str)),_;decide +kernel) (by decide +kernel) (fun cl C s₂ H₂ fp=>(Zaj (i:=0) (by show List.Nodup (["_law_count", "_law_row", "_law_rest", "_law_made", "_law_at", "_law_kind"]:List Str);decide +kernel) rfl (Or.inl (Qag rfl)) (Or.inr (Qag rfl)))) (fun cl C s₂ H₂ fp=>ZaQ) (fun cl C s₂ H₂ fp=>(Zar ZbK Zad (pv 0))) (by decide +kernel) rfl (by decide +kernel) (by show∀y∈(_:List (Str×NameKind)),y.2=NameKind.free→(Zag Zbk).names.lookup y.1=some .cell;decide +kernel))) (Zah (ZbH (Zax ZcJ (pv 4) Zad (ZaF _)) (Zah (ZcU (xs:=["_law_count"]) (Nb:=["_law_row", "_law_rest", "_law_made", "_law_at", "_law_kind"]) (Zaj (i:=2) sc.nd rfl (Or.inl rfl)) rfl rfl (Za3 (pv 2)) rfl (by show∀p∈(List.zip ["_law_row", "_law_rest", "_law_made", "_law_at", "_law_kind"] ["_law_row", "_law_rest", "_law_made", "_law_at", "_law_kind"]:List (Str×Str)),_;decide +kernel) (by decide +kernel) (fun cl C s₂ H₂ fp=>(Zaj (i:=0) (by show List.Nodup (["_law_count", "_law_row", "_law_rest", "_law_made", "_law_at", "_law_kind"]:List Str);decide +kernel) rfl (Or.inl (Qag rfl)) (Or.inr (Qag rfl)))) (fun cl C s₂ H₂ fp=>ZaQ) (fun cl C s₂ H₂ fp=>(Zar Zhn Zad Zad)) (by decide +kernel) rfl (by decide +kernel) (by show∀y∈(_:List (Str×NameKind)),y.2=NameKind.free→(Zag Zbk).names.lookup y.1=some .cell;decide +kernel))) (Zah (Zav (i:=2) sc.nd rfl (Or.inl rfl) (ZnZ (pv 2) (Zcv (Zfy Zdh Zad))) Zjf)))))))))))))))
   (Zah (ZaB (pv 2))))))),?_⟩
  exact Ziy (K:=K) h1 h2 h3 h4 h5 k
end
section
variable {K:PySem.W.Frag}
def ZlI (K:PySem.W.Frag):Sp:=fun vs H Q _=>∃(a:Addr) (ns:List Int),vs=[.ref a]∧SqL K H a (ns.map V.int)∧ns.length≤63∧∀H',Q (.bl true) H'
abbrev Zfu:Stmt:=top 34
theorem ZoP:ZaC ["_law_script", "_law_rest", "_law_sheet_here", "_law_row", "_law_handed", "_law_k", "_law_made", "_law_kept", "_law_told"] ["_law_script"] (Zag Zfu):=⟨rfl,rfl,rfl,by decide +kernel,rfl,by decide +kernel,by decide +kernel⟩
theorem ZoQ {fd:FuncData}(F:Fun K "law" "law" Zfu f fd)(M:Txt mg)(qO:Kn P w K mg base "_law_big" 2 ["_law_script", "_law_at"] (Zlf K))(qM:Kn P w K mg base "_law_sheet" 2 ["_law_rest"] ZgU)(qH:Kn P w K mg base "_law_bundle" 6 ["_law_sheet_here", "_law_rest", "_law_most"] Zft)(qX:Kn P w K mg base "is_row" 3 ["sheet", "thing"] Zcm)(qS:Kn P w K mg base "_law_bent" 2 ["_law_row", "_law_rest"] Zky)(qI:Kn P w K mg base "_law_is_row" 1 ["_law_sheet_here", "_law_thing"] Zcm)(B:Gb mg):Zcc P w K mg base CX0 8 f fd ["_law_script"] (ZlI K):=by
 have sc:=ZoP;refine F.ok sc (fun vs H Q E h=> ?_) (fun cdv A outer s H vs Q E hr h=> ?_)
 ·obtain⟨a,ns,rfl,_⟩:=h;rfl
 ·obtain⟨a,ns,rfl,hS,hl,k⟩:=h
  refine⟨_,(Zaf (Zav (i:=1) sc.nd rfl (Or.inl rfl) (Zbg (ZaV (Zal qO hr rfl (Zac (pv 0) (Zap Zad Zab))) Zab)))
   (Zaf (Zb3 (Zal qH hr rfl (ZaV (Zal qM hr rfl (Zac (pv 1) Zab)) (Zac (pv 1) (Zap Zad Zab)))) (Zcn rfl (Zaq (Zaj (i:=2) sc.nd rfl (Or.inl rfl)) (Zaq (Zaj (i:=3) sc.nd rfl (Or.inl rfl)) Zbe))))
   (Zaf (Zav (i:=4) sc.nd rfl (Or.inl rfl) (Za9 Zbz (by rfl) M.list Qdd (Zac (pv 2) Zab)))
   (Zaf (ZbH (PW.pt (ZeD (Zax Zi8 (Zal qX hr rfl (Zac (pv 4) (ZaV (Za9 Zbz (by rfl) M.list Qdd (Zac (pv 3) Zab)) Zab))) Zc3 (ZaF _)) (Zen (Zax (Zhq hr) (pv 4) (pv 2) (ZaF _))))) (Zah (ZaB Zc3)) ZaU)
   (Zaf (Zby QaV rfl (Zbf rfl M.range (ZaV (Zao (Zfz rfl) (by rfl) M.max boot_max (Zap Zad (ZaV (Zao (ZiU rfl) (by rfl) M.min boot_min (Zap Zad (Zbm (Zar ZbJ (Zao (ZaI (K:=K)) (by rfl) M.len Qbj (Zac (pv 0) Zab)) Zad) Zab))) Zab))) Zab)) (Zaj (i:=5) sc.nd rfl (Or.inl rfl))
   (Zaf (Zav (i:=1) sc.nd rfl (Or.inl rfl) (Zbg (ZaV (Zal qO hr rfl (Zac (pv 0) (Zbm (Zar ZaS Zad (pv 5)) Zab))) Zab)))
   (Zaf (Zav (i:=6) sc.nd rfl (Or.inl rfl) (Zal qS hr rfl (Zac (pv 3) (Zac (pv 1) Zab))))
   (Zaf (Zav (i:=7) sc.nd rfl (Or.inl rfl) (Zao (Zev hr) (by rfl) B.rp boot_repr (Zac (pv 6) Zab)))
   (Zaf (Zav (i:=8) sc.nd rfl (Or.inl rfl) (Zal qX hr rfl (Zac (pv 4) (Zac (pv 6) Zab))))
   (Zah (ZbH (PW.pt (ZeD (Zfv (Zem (Zao (Zbh (T:= "bool") (K:=K)) (by rfl) M.isinstance Qb9 (Zac (pv 8) (Zac (ZcO (v:=.ty "bool") rfl M.bool boot_bool rfl) Zab))))) (ZeD (Zax Zh5 (pv 8) (Zal qI hr rfl (Zac (pv 2) (Zac (pv 6) Zab))) (ZaF _)) (ZeD (Zax Zh5 (Zao (Zev hr) (by rfl) B.rp boot_repr (Zac (pv 6) Zab)) (pv 7) (ZaF _)) (Zen (Zax (Zhq hr) (pv 4) (pv 2) (ZaF _))))))) (Zah (ZaB Zc3)) ZaU)))))))
   (Zah (ZaB Zc3))))))),?_⟩
  exact ZkF (K:=K) hS hl k
end
theorem all_mk {l:PySem.W.OpenLaw}{K:PySem.W.Frag}{h:Heap}{fa f0 f1 f2 f3 f4 f5 f6 f7 f8 f9 f10 f11 f12 f13 f14 f15 f16 f17 f18 f19 f20 f21 f22 f23 f24 f25 f26 f27 f28 f29 f30:Addr}(X:K.In h)(G:h.Ns mainGlobals mg)(hfa:mg "law" =some (.ref fa))
  {od0 an0 od1 an1 od2 an2 od3 an3 od4 an4 od5 an5 od6 an6 od7 an7 od8 an8 od9 an9 od10 an10 od11 an11 od12 an12 od13 an13 od14 an14 od15 an15 od16 an16 od17 an17 od18 an18 od19 an19 od20 an20 od21 an21 od22 an22 od23 an23 od24 an24 od25 an25 od26 an26 od27 an27 od28 an28 od29 an29 od30 an30:Option Addr} {sl0 sl1 sl2 sl3 sl4 sl5 sl6 sl7 sl8 sl9 sl10 sl11 sl12 sl13 sl14 sl15 sl16 sl17 sl18 sl19 sl20 sl21 sl22 sl23 sl24 sl25 sl26 sl27 sl28 sl29 sl30:Array (Option Value)} {oc0 kV0 dc0 pm0 cd0 ct0 oc1 kV1 dc1 pm1 cd1 ct1 oc2 kV2 dc2 pm2 cd2 ct2 oc3 kV3 dc3 pm3 cd3 ct3 oc4 kV4 dc4 pm4 cd4 ct4 oc5 kV5 dc5 pm5 cd5 ct5 oc6 kV6 dc6 pm6 cd6 ct6 oc7 kV7 dc7 pm7 cd7 ct7 oc8 kV8 dc8 pm8 cd8 ct8 oc9 kV9 dc9 pm9 cd9 ct9 oc10 kV10 dc10 pm10 cd10 ct10 oc11 kV11 dc11 pm11 cd11 ct11 oc12 kV12 dc12 pm12 cd12 ct12 oc13 kV13 dc13 pm13 cd13 ct13 oc14 kV14 dc14 pm14 cd14 ct14 oc15 kV15 dc15 pm15 cd15 ct15 oc16 kV16 dc16 pm16 cd16 ct16 oc17 kV17 dc17 pm17 cd17 ct17 oc18 kV18 dc18 pm18 cd18 ct18 oc19 kV19 dc19 pm19 cd19 ct19 oc20 kV20 dc20 pm20 cd20 ct20 oc21 kV21 dc21 pm21 cd21 ct21 oc22 kV22 dc22 pm22 cd22 ct22 oc23 kV23 dc23 pm23 cd23 ct23 oc24 kV24 dc24 pm24 cd24 ct24 oc25 kV25 dc25 pm25 cd25 ct25 oc26 kV26 dc26 pm26 cd26 ct26 oc27 kV27 dc27 pm27 cd27 ct27 oc28 kV28 dc28 pm28 cd28 ct28 oc29 kV29 dc29 pm29 cd29 ct29 oc30 kV30 dc30 pm30 cd30 ct30:Value}
  (a0:PySem.W.nsIn K mainGlobals "is_whole" =some (some (.ref f0))) (l0:K.lookup f0=some ⟨oc0,od0,.func (PySem.W.fnOf "is_whole" "is_whole" (Zaz Zb0) (Zay Zb0) (Zag Zb0) .none kV0 dc0 pm0 an0 cd0 ct0),sl0⟩) (c0:PySem.W.codeIn K cd0 "is_whole" =true) (k0:PySem.W.keepIn K (.ref f0)=true)
  (a1:PySem.W.nsIn K mainGlobals "is_whole_from" =some (some (.ref f1))) (l1:K.lookup f1=some ⟨oc1,od1,.func (PySem.W.fnOf "is_whole_from" "is_whole_from" (Zaz Za0) (Zay Za0) (Zag Za0) .none kV1 dc1 pm1 an1 cd1 ct1),sl1⟩) (c1:PySem.W.codeIn K cd1 "is_whole_from" =true) (k1:PySem.W.keepIn K (.ref f1)=true)
  (a2:PySem.W.nsIn K mainGlobals "many_ties" =some (some (.ref f2))) (l2:K.lookup f2=some ⟨oc2,od2,.func (PySem.W.fnOf "many_ties" "many_ties" (Zaz ZbR) (Zay ZbR) (Zag ZbR) .none kV2 dc2 pm2 an2 cd2 ct2),sl2⟩) (c2:PySem.W.codeIn K cd2 "many_ties" =true) (k2:PySem.W.keepIn K (.ref f2)=true)
  (a3:PySem.W.nsIn K mainGlobals "crossings" =some (some (.ref f3))) (l3:K.lookup f3=some ⟨oc3,od3,.func (PySem.W.fnOf "crossings" "crossings" (Zaz Zbw) (Zay Zbw) (Zag Zbw) .none kV3 dc3 pm3 an3 cd3 ct3),sl3⟩) (c3:PySem.W.codeIn K cd3 "crossings" =true) (k3:PySem.W.keepIn K (.ref f3)=true)
  (a4:PySem.W.nsIn K mainGlobals "may_cross" =some (some (.ref f4))) (l4:K.lookup f4=some ⟨oc4,od4,.func (PySem.W.fnOf "may_cross" "may_cross" (Zaz ZbS) (Zay ZbS) (Zag ZbS) .none kV4 dc4 pm4 an4 cd4 ct4),sl4⟩) (c4:PySem.W.codeIn K cd4 "may_cross" =true) (k4:PySem.W.keepIn K (.ref f4)=true)
  (a5:PySem.W.nsIn K mainGlobals "is_row" =some (some (.ref f5))) (l5:K.lookup f5=some ⟨oc5,od5,.func (PySem.W.fnOf "is_row" "is_row" (Zaz Zb6) (Zay Zb6) (Zag Zb6) .none kV5 dc5 pm5 an5 cd5 ct5),sl5⟩) (c5:PySem.W.codeIn K cd5 "is_row" =true) (k5:PySem.W.keepIn K (.ref f5)=true)
  (a6:PySem.W.nsIn K mainGlobals "_law_cell_at" =some (some (.ref f6))) (l6:K.lookup f6=some ⟨oc6,od6,.func (PySem.W.fnOf "_law_cell_at" "_law_cell_at" (Zaz Zba) (Zay Zba) (Zag Zba) .none kV6 dc6 pm6 an6 cd6 ct6),sl6⟩) (c6:PySem.W.codeIn K cd6 "_law_cell_at" =true) (k6:PySem.W.keepIn K (.ref f6)=true)
  (a7:PySem.W.nsIn K mainGlobals "_law_big" =some (some (.ref f7))) (l7:K.lookup f7=some ⟨oc7,od7,.func (PySem.W.fnOf "_law_big" "_law_big" (Zaz ZbY) (Zay ZbY) (Zag ZbY) .none kV7 dc7 pm7 an7 cd7 ct7),sl7⟩) (c7:PySem.W.codeIn K cd7 "_law_big" =true) (k7:PySem.W.keepIn K (.ref f7)=true)
  (a8:PySem.W.nsIn K mainGlobals "_law_digit" =some (some (.ref f8))) (l8:K.lookup f8=some ⟨oc8,od8,.func (PySem.W.fnOf "_law_digit" "_law_digit" (Zaz ZbC) (Zay ZbC) (Zag ZbC) .none kV8 dc8 pm8 an8 cd8 ct8),sl8⟩) (c8:PySem.W.codeIn K cd8 "_law_digit" =true) (k8:PySem.W.keepIn K (.ref f8)=true)
  (a9:PySem.W.nsIn K mainGlobals "_law_sheet" =some (some (.ref f9))) (l9:K.lookup f9=some ⟨oc9,od9,.func (PySem.W.fnOf "_law_sheet" "_law_sheet" (Zaz Zbi) (Zay Zbi) (Zag Zbi) .none kV9 dc9 pm9 an9 cd9 ct9),sl9⟩) (c9:PySem.W.codeIn K cd9 "_law_sheet" =true) (k9:PySem.W.keepIn K (.ref f9)=true)
  (a10:PySem.W.nsIn K mainGlobals "_law_heaps" =some (some (.ref f10))) (l10:K.lookup f10=some ⟨oc10,od10,.func (PySem.W.fnOf "_law_heaps" "_law_heaps" (Zaz ZbD) (Zay ZbD) (Zag ZbD) .none kV10 dc10 pm10 an10 cd10 ct10),sl10⟩) (c10:PySem.W.codeIn K cd10 "_law_heaps" =true) (k10:PySem.W.keepIn K (.ref f10)=true)
  (a11:PySem.W.nsIn K mainGlobals "_law_end" =some (some (.ref f11))) (l11:K.lookup f11=some ⟨oc11,od11,.func (PySem.W.fnOf "_law_end" "_law_end" (Zaz ZbZ) (Zay ZbZ) (Zag ZbZ) .none kV11 dc11 pm11 an11 cd11 ct11),sl11⟩) (c11:PySem.W.codeIn K cd11 "_law_end" =true) (k11:PySem.W.keepIn K (.ref f11)=true)
  (a12:PySem.W.nsIn K mainGlobals "_law_meets" =some (some (.ref f12))) (l12:K.lookup f12=some ⟨oc12,od12,.func (PySem.W.fnOf "_law_meets" "_law_meets" (Zaz ZbE) (Zay ZbE) (Zag ZbE) .none kV12 dc12 pm12 an12 cd12 ct12),sl12⟩) (c12:PySem.W.codeIn K cd12 "_law_meets" =true) (k12:PySem.W.keepIn K (.ref f12)=true)
  (a13:PySem.W.nsIn K mainGlobals "_law_points_of" =some (some (.ref f13))) (l13:K.lookup f13=some ⟨oc13,od13,.func (PySem.W.fnOf "_law_points_of" "_law_points_of" (Zaz ZaJ) (Zay ZaJ) (Zag ZaJ) .none kV13 dc13 pm13 an13 cd13 ct13),sl13⟩) (c13:PySem.W.codeIn K cd13 "_law_points_of" =true) (k13:PySem.W.keepIn K (.ref f13)=true)
  (a14:PySem.W.nsIn K mainGlobals "_law_from" =some (some (.ref f14))) (l14:K.lookup f14=some ⟨oc14,od14,.func (PySem.W.fnOf "_law_from" "_law_from" (Zaz Zbx) (Zay Zbx) (Zag Zbx) .none kV14 dc14 pm14 an14 cd14 ct14),sl14⟩) (c14:PySem.W.codeIn K cd14 "_law_from" =true) (k14:PySem.W.keepIn K (.ref f14)=true)
  (a15:PySem.W.nsIn K mainGlobals "_law_square" =some (some (.ref f15))) (l15:K.lookup f15=some ⟨oc15,od15,.func (PySem.W.fnOf "_law_square" "_law_square" (Zaz Za6) (Zay Za6) (Zag Za6) .none kV15 dc15 pm15 an15 cd15 ct15),sl15⟩) (c15:PySem.W.codeIn K cd15 "_law_square" =true) (k15:PySem.W.keepIn K (.ref f15)=true)
  (a16:PySem.W.nsIn K mainGlobals "_law_turned" =some (some (.ref f16))) (l16:K.lookup f16=some ⟨oc16,od16,.func (PySem.W.fnOf "_law_turned" "_law_turned" (Zaz Zbo) (Zay Zbo) (Zag Zbo) .none kV16 dc16 pm16 an16 cd16 ct16),sl16⟩) (c16:PySem.W.codeIn K cd16 "_law_turned" =true) (k16:PySem.W.keepIn K (.ref f16)=true)
  (a17:PySem.W.nsIn K mainGlobals "_law_carried" =some (some (.ref f17))) (l17:K.lookup f17=some ⟨oc17,od17,.func (PySem.W.fnOf "_law_carried" "_law_carried" (Zaz ZaW) (Zay ZaW) (Zag ZaW) .none kV17 dc17 pm17 an17 cd17 ct17),sl17⟩) (c17:PySem.W.codeIn K cd17 "_law_carried" =true) (k17:PySem.W.keepIn K (.ref f17)=true)
  (a18:PySem.W.nsIn K mainGlobals "_law_even_ones" =some (some (.ref f18))) (l18:K.lookup f18=some ⟨oc18,od18,.func (PySem.W.fnOf "_law_even_ones" "_law_even_ones" (Zaz ZaE) (Zay ZaE) (Zag ZaE) .none kV18 dc18 pm18 an18 cd18 ct18),sl18⟩) (c18:PySem.W.codeIn K cd18 "_law_even_ones" =true) (k18:PySem.W.keepIn K (.ref f18)=true)
  (a19:PySem.W.nsIn K mainGlobals "_law_wide_row" =some (some (.ref f19))) (l19:K.lookup f19=some ⟨oc19,od19,.func (PySem.W.fnOf "_law_wide_row" "_law_wide_row" (Zaz ZaR) (Zay ZaR) (Zag ZaR) .none kV19 dc19 pm19 an19 cd19 ct19),sl19⟩) (c19:PySem.W.codeIn K cd19 "_law_wide_row" =true) (k19:PySem.W.keepIn K (.ref f19)=true)
  (a20:PySem.W.nsIn K mainGlobals "_law_rings" =some (some (.ref f20))) (l20:K.lookup f20=some ⟨oc20,od20,.func (PySem.W.fnOf "_law_rings" "_law_rings" (Zaz Zbj) (Zay Zbj) (Zag Zbj) .none kV20 dc20 pm20 an20 cd20 ct20),sl20⟩) (c20:PySem.W.codeIn K cd20 "_law_rings" =true) (k20:PySem.W.keepIn K (.ref f20)=true)
  (a21:PySem.W.nsIn K mainGlobals "_law_corner" =some (some (.ref f21))) (l21:K.lookup f21=some ⟨oc21,od21,.func (PySem.W.fnOf "_law_corner" "_law_corner" (Zaz Za7) (Zay Za7) (Zag Za7) .none kV21 dc21 pm21 an21 cd21 ct21),sl21⟩) (c21:PySem.W.codeIn K cd21 "_law_corner" =true) (k21:PySem.W.keepIn K (.ref f21)=true)
  (a22:PySem.W.nsIn K mainGlobals "_law_spot" =some (some (.ref f22))) (l22:K.lookup f22=some ⟨oc22,od22,.func (PySem.W.fnOf "_law_spot" "_law_spot" (Zaz ZbT) (Zay ZbT) (Zag ZbT) .none kV22 dc22 pm22 an22 cd22 ct22),sl22⟩) (c22:PySem.W.codeIn K cd22 "_law_spot" =true) (k22:PySem.W.keepIn K (.ref f22)=true)
  (a23:PySem.W.nsIn K mainGlobals "_law_joins" =some (some (.ref f23))) (l23:K.lookup f23=some ⟨oc23,od23,.func (PySem.W.fnOf "_law_joins" "_law_joins" (Zaz ZbF) (Zay ZbF) (Zag ZbF) .none kV23 dc23 pm23 an23 cd23 ct23),sl23⟩) (c23:PySem.W.codeIn K cd23 "_law_joins" =true) (k23:PySem.W.keepIn K (.ref f23)=true)
  (a24:PySem.W.nsIn K mainGlobals "_law_crossings" =some (some (.ref f24))) (l24:K.lookup f24=some ⟨oc24,od24,.func (PySem.W.fnOf "_law_crossings" "_law_crossings" (Zaz ZaK) (Zay ZaK) (Zag ZaK) .none kV24 dc24 pm24 an24 cd24 ct24),sl24⟩) (c24:PySem.W.codeIn K cd24 "_law_crossings" =true) (k24:PySem.W.keepIn K (.ref f24)=true)
  (a25:PySem.W.nsIn K mainGlobals "_law_walked" =some (some (.ref f25))) (l25:K.lookup f25=some ⟨oc25,od25,.func (PySem.W.fnOf "_law_walked" "_law_walked" (Zaz ZaO) (Zay ZaO) (Zag ZaO) .none kV25 dc25 pm25 an25 cd25 ct25),sl25⟩) (c25:PySem.W.codeIn K cd25 "_law_walked" =true) (k25:PySem.W.keepIn K (.ref f25)=true)
  (a26:PySem.W.nsIn K mainGlobals "_law_small_row" =some (some (.ref f26))) (l26:K.lookup f26=some ⟨oc26,od26,.func (PySem.W.fnOf "_law_small_row" "_law_small_row" (Zaz ZaL) (Zay ZaL) (Zag ZaL) .none kV26 dc26 pm26 an26 cd26 ct26),sl26⟩) (c26:PySem.W.codeIn K cd26 "_law_small_row" =true) (k26:PySem.W.keepIn K (.ref f26)=true)
  (a27:PySem.W.nsIn K mainGlobals "_law_bundle" =some (some (.ref f27))) (l27:K.lookup f27=some ⟨oc27,od27,.func (PySem.W.fnOf "_law_bundle" "_law_bundle" (Zaz Za8) (Zay Za8) (Zag Za8) .none kV27 dc27 pm27 an27 cd27 ct27),sl27⟩) (c27:PySem.W.codeIn K cd27 "_law_bundle" =true) (k27:PySem.W.keepIn K (.ref f27)=true)
  (a28:PySem.W.nsIn K mainGlobals "_law_is_row" =some (some (.ref f28))) (l28:K.lookup f28=some ⟨oc28,od28,.func (PySem.W.fnOf "_law_is_row" "_law_is_row" (Zaz Za5) (Zay Za5) (Zag Za5) .none kV28 dc28 pm28 an28 cd28 ct28),sl28⟩) (c28:PySem.W.codeIn K cd28 "_law_is_row" =true) (k28:PySem.W.keepIn K (.ref f28)=true)
  (a29:PySem.W.nsIn K mainGlobals "_law_bent" =some (some (.ref f29))) (l29:K.lookup f29=some ⟨oc29,od29,.func (PySem.W.fnOf "_law_bent" "_law_bent" (Zaz Zbk) (Zay Zbk) (Zag Zbk) .none kV29 dc29 pm29 an29 cd29 ct29),sl29⟩) (c29:PySem.W.codeIn K cd29 "_law_bent" =true) (k29:PySem.W.keepIn K (.ref f29)=true)
  (a30:PySem.W.nsIn K mainGlobals "law" =some (some (.ref f30))) (l30:K.lookup f30=some ⟨oc30,od30,.func (PySem.W.fnOf "law" "law" (Zaz Zfu) (Zay Zfu) (Zag Zfu) .none kV30 dc30 pm30 an30 cd30 ct30),sl30⟩) (c30:PySem.W.codeIn K cd30 "law" =true) (k30:PySem.W.keepIn K (.ref f30)=true)
  (g_abs:PySem.W.nsIn K mainGlobals "abs" =some none)
  (g_enumerate:PySem.W.nsIn K mainGlobals "enumerate" =some none)
  (g_zip:PySem.W.nsIn K mainGlobals "zip" =some none)
  (g_repr:PySem.W.nsIn K mainGlobals "repr" =some none)
  (z_len:PySem.W.nsIn K mainGlobals "len" =some none) (z_range:PySem.W.nsIn K mainGlobals "range" =some none) (z_min:PySem.W.nsIn K mainGlobals "min" =some none) (z_max:PySem.W.nsIn K mainGlobals "max" =some none) (z_isinstance:PySem.W.nsIn K mainGlobals "isinstance" =some none) (z_bool:PySem.W.nsIn K mainGlobals "bool" =some none) (z_int:PySem.W.nsIn K mainGlobals "int" =some none) (z_tuple:PySem.W.nsIn K mainGlobals "tuple" =some none) (z_list:PySem.W.nsIn K mainGlobals "list" =some none) (z_str:PySem.W.nsIn K mainGlobals "str" =some none) (z_all:PySem.W.nsIn K mainGlobals "all" =some none) (z_sum:PySem.W.nsIn K mainGlobals "sum" =some none) (z_sorted:PySem.W.nsIn K mainGlobals "sorted" =some none):
  ∃fd:FuncData,(∀(s:Shared) (v:Value),BindsTo s fd ⟨[v],[]⟩ [("_law_script",v)])∧∀base:Heap,K.In base→base.Ns mainGlobals mg→Zcc l.prog w K mg base CX0 8 fa fd ["_law_script"] (ZlI K):=by
 have e:=hfa.symm.trans (QaO X G a30);cases e;have M:Txt mg:=⟨Qa1 X G z_len,Qa1 X G z_range,Qa1 X G z_min,Qa1 X G z_max,Qa1 X G z_isinstance,Qa1 X G z_bool,Qa1 X G z_int,Qa1 X G z_tuple,Qa1 X G z_list,Qa1 X G z_str,Qa1 X G z_all,Qa1 X G z_sum,Qa1 X G z_sorted⟩;have GB:Gb mg:=⟨Qa1 X G g_abs,Qa1 X G g_enumerate,Qa1 X G g_zip,Qa1 X G g_repr⟩;have F0:=ZaP (st:=Zb0) l0 c0 k0;have b0:=F0.binds (ps:=["thing"]) fun _ _ _ _ _ _ us hl=>match us,hl with| [_],_=>rfl
 have F1:=ZaP (st:=Za0) l1 c1 k1;have b1:=F1.binds (ps:=["thing", "least"]) fun _ _ _ _ _ _ us hl=>match us,hl with| [_,_],_=>rfl
 have F2:=ZaP (st:=ZbR) l2 c2 k2;have b2:=F2.binds (ps:=["sheet"]) fun _ _ _ _ _ _ us hl=>match us,hl with| [_],_=>rfl
 have F3:=ZaP (st:=Zbw) l3 c3 k3;have b3:=F3.binds (ps:=["triangle", "row"]) fun _ _ _ _ _ _ us hl=>match us,hl with| [_,_],_=>rfl
 have F4:=ZaP (st:=ZbS) l4 c4 k4;have b4:=F4.binds (ps:=["numbers"]) fun _ _ _ _ _ _ us hl=>match us,hl with| [_],_=>rfl
 have F5:=ZaP (st:=Zb6) l5 c5 k5;have b5:=F5.binds (ps:=["sheet", "thing"]) fun _ _ _ _ _ _ us hl=>match us,hl with| [_,_],_=>rfl
 have F6:=ZaP (st:=Zba) l6 c6 k6;have b6:=F6.binds (ps:=["_law_script", "_law_k"]) fun _ _ _ _ _ _ us hl=>match us,hl with| [_,_],_=>rfl
 have F7:=ZaP (st:=ZbY) l7 c7 k7;have b7:=F7.binds (ps:=["_law_script", "_law_at"]) fun _ _ _ _ _ _ us hl=>match us,hl with| [_,_],_=>rfl
 have F8:=ZaP (st:=ZbC) l8 c8 k8;have b8:=F8.binds (ps:=["_law_rest", "_law_many"]) fun _ _ _ _ _ _ us hl=>match us,hl with| [_,_],_=>rfl
 have F9:=ZaP (st:=Zbi) l9 c9 k9;have b9:=F9.binds (ps:=["_law_rest"]) fun _ _ _ _ _ _ us hl=>match us,hl with| [_],_=>rfl
 have F10:=ZaP (st:=ZbD) l10 c10 k10;have b10:=F10.binds (ps:=["_law_things", "_law_pairs"]) fun _ _ _ _ _ _ us hl=>match us,hl with| [_,_],_=>rfl
 have F11:=ZaP (st:=ZbZ) l11 c11 k11;have b11:=F11.binds (ps:=["_law_side", "_law_at"]) fun _ _ _ _ _ _ us hl=>match us,hl with| [_,_],_=>rfl
 have F12:=ZaP (st:=ZbE) l12 c12 k12;have b12:=F12.binds (ps:=["_law_sheet_here"]) fun _ _ _ _ _ _ us hl=>match us,hl with| [_],_=>rfl
 have F13:=ZaP (st:=ZaJ) l13 c13 k13;have b13:=F13.binds (ps:=["_law_sheet_here"]) fun _ _ _ _ _ _ us hl=>match us,hl with| [_],_=>rfl
 have F14:=ZaP (st:=Zbx) l14 c14 k14;have b14:=F14.binds (ps:=["_law_triangle", "_law_tie"]) fun _ _ _ _ _ _ us hl=>match us,hl with| [_,_],_=>rfl
 have F15:=ZaP (st:=Za6) l15 c15 k15;have b15:=F15.binds (ps:=["_law_sheet_here", "_law_tie"]) fun _ _ _ _ _ _ us hl=>match us,hl with| [_,_],_=>rfl
 have F16:=ZaP (st:=Zbo) l16 c16 k16;have b16:=F16.binds (ps:=["_law_sheet_here", "_law_tie"]) fun _ _ _ _ _ _ us hl=>match us,hl with| [_,_],_=>rfl
 have F17:=ZaP (st:=ZaW) l17 c17 k17;have b17:=F17.binds (ps:=["_law_sheet_here", "_law_row", "_law_tie"]) fun _ _ _ _ _ _ us hl=>match us,hl with| [_,_,_],_=>rfl
 have F18:=ZaP (st:=ZaE) l18 c18 k18;have b18:=F18.binds (ps:=["_law_sheet_here"]) fun _ _ _ _ _ _ us hl=>match us,hl with| [_],_=>rfl
 have F19:=ZaP (st:=ZaR) l19 c19 k19;have b19:=F19.binds (ps:=["_law_sheet_here", "_law_rest", "_law_most"]) fun _ _ _ _ _ _ us hl=>match us,hl with| [_,_,_],_=>rfl
 have F20:=ZaP (st:=Zbj) l20 c20 k20;have b20:=F20.binds (ps:=["_law_sheet_here", "_law_rest", "_law_most"]) fun _ _ _ _ _ _ us hl=>match us,hl with| [_,_,_],_=>rfl
 have F21:=ZaP (st:=Za7) l21 c21 k21;have b21:=F21.binds (ps:=["_law_row", "_law_triangle"]) fun _ _ _ _ _ _ us hl=>match us,hl with| [_,_],_=>rfl
 have F22:=ZaP (st:=ZbT) l22 c22 k22;have b22:=F22.binds (ps:=["_law_side", "_law_count", "_law_t"]) fun _ _ _ _ _ _ us hl=>match us,hl with| [_,_,_],_=>rfl
 have F23:=ZaP (st:=ZbF) l23 c23 k23;have b23:=F23.binds (ps:=["_law_sheet_here", "_law_row"]) fun _ _ _ _ _ _ us hl=>match us,hl with| [_,_],_=>rfl
 have F24:=ZaP (st:=ZaK) l24 c24 k24;have b24:=F24.binds (ps:=["_law_row"]) fun _ _ _ _ _ _ us hl=>match us,hl with| [_],_=>rfl
 have F25:=ZaP (st:=ZaO) l25 c25 k25;have b25:=F25.binds (ps:=["_law_sheet_here", "_law_row"]) fun _ _ _ _ _ _ us hl=>match us,hl with| [_,_],_=>rfl
 have F26:=ZaP (st:=ZaL) l26 c26 k26;have b26:=F26.binds (ps:=["_law_sheet_here", "_law_rest"]) fun _ _ _ _ _ _ us hl=>match us,hl with| [_,_],_=>rfl
 have F27:=ZaP (st:=Za8) l27 c27 k27;have b27:=F27.binds (ps:=["_law_sheet_here", "_law_rest", "_law_most"]) fun _ _ _ _ _ _ us hl=>match us,hl with| [_,_,_],_=>rfl
 have F28:=ZaP (st:=Za5) l28 c28 k28;have b28:=F28.binds (ps:=["_law_sheet_here", "_law_thing"]) fun _ _ _ _ _ _ us hl=>match us,hl with| [_,_],_=>rfl
 have F29:=ZaP (st:=Zbk) l29 c29 k29;have b29:=F29.binds (ps:=["_law_row", "_law_rest"]) fun _ _ _ _ _ _ us hl=>match us,hl with| [_,_],_=>rfl
 have F30:=ZaP (st:=Zfu) l30 c30 k30;refine⟨PySem.W.fnOf "law" "law" (Zaz Zfu) (Zay Zfu) (Zag Zfu) .none kV30 dc30 pm30 an30 cd30 ct30,fun s v=> .of_eq rfl,fun base _ _=> ?_⟩;have qt:Kn l.prog w K mg base "_law_cell_at" _ ["_law_script", "_law_k"] _:=⟨⟨f6,_,Zm3 F6 M ,QaO X G a6,k6,b6⟩⟩;have qO:Kn l.prog w K mg base "_law_big" _ ["_law_script", "_law_at"] _:=⟨⟨f7,_,Zos F7 M qt,QaO X G a7,k7,b7⟩⟩;have qd:Kn l.prog w K mg base "_law_digit" _ ["_law_rest", "_law_many"] _:=⟨⟨f8,_,Zlg F8 M ,QaO X G a8,k8,b8⟩⟩;have qM:Kn l.prog w K mg base "_law_sheet" _ ["_law_rest"] _:=⟨⟨f9,_,Zlh F9 M qd,QaO X G a9,k9,b9⟩⟩;have qk:Kn l.prog w K mg base "_law_heaps" _ ["_law_things", "_law_pairs"] _:=⟨⟨f10,_,Zlz F10 M ,QaO X G a10,k10,b10⟩⟩;have qN:Kn l.prog w K mg base "_law_end" _ ["_law_side", "_law_at"] _:=⟨⟨f11,_,ZoK F11 M GB,QaO X G a11,k11,b11⟩⟩;have qK:Kn l.prog w K mg base "_law_meets" _ ["_law_sheet_here"] _:=⟨⟨f12,_,ZlA F12 M qN,QaO X G a12,k12,b12⟩⟩;have qv:Kn l.prog w K mg base "_law_points_of" _ ["_law_sheet_here"] _:=⟨⟨f13,_,Zhf F13 M qk qK,QaO X G a13,k13,b13⟩⟩;have qz:Kn l.prog w K mg base "_law_rings" _ ["_law_sheet_here", "_law_rest", "_law_most"] _:=⟨⟨f20,_,ZlG F20 M qv qd,QaO X G a20,k20,b20⟩⟩;have qw:Kn l.prog w K mg base "_law_even_ones" _ ["_law_sheet_here"] _:=⟨⟨f18,_,Znp F18 M GB,QaO X G a18,k18,b18⟩⟩;have qo:Kn l.prog w K mg base "_law_wide_row" _ ["_law_sheet_here", "_law_rest", "_law_most"] _:=⟨⟨f19,_,Znq F19 M qd qw,QaO X G a19,k19,b19⟩⟩;have qW:Kn l.prog w K mg base "is_whole" _ ["thing"] _:=⟨⟨f0,_,ZlB F0 M ,QaO X G a0,k0,b0⟩⟩;have qy:Kn l.prog w K mg base "is_whole_from" _ ["thing", "least"] _:=⟨⟨f1,_,Znm F1 M qW,QaO X G a1,k1,b1⟩⟩;have qP:Kn l.prog w K mg base "many_ties" _ ["sheet"] _:=⟨⟨f2,_,Znn F2 M ,QaO X G a2,k2,b2⟩⟩;have qR:Kn l.prog w K mg base "crossings" _ ["triangle", "row"] _:=⟨⟨f3,_,ZlC F3 M GB,QaO X G a3,k3,b3⟩⟩;have qQ:Kn l.prog w K mg base "may_cross" _ ["numbers"] _:=⟨⟨f4,_,ZoM F4 M ,QaO X G a4,k4,b4⟩⟩;have qX:Kn l.prog w K mg base "is_row" _ ["sheet", "thing"] _:=⟨⟨f5,_,ZlD F5 M qP qy qQ qR,QaO X G a5,k5,b5⟩⟩;have qC:Kn l.prog w K mg base "_law_from" _ ["_law_triangle", "_law_tie"] _:=⟨⟨f14,_,ZlE F14 M GB,QaO X G a14,k14,b14⟩⟩;have qe:Kn l.prog w K mg base "_law_square" _ ["_law_sheet_here", "_law_tie"] _:=⟨⟨f15,_,Zku F15 M qC GB,QaO X G a15,k15,b15⟩⟩;have qF:Kn l.prog w K mg base "_law_turned" _ ["_law_sheet_here", "_law_tie"] _:=⟨⟨f16,_,Ziw F16 M qe,QaO X G a16,k16,b16⟩⟩;have qB:Kn l.prog w K mg base "_law_carried" _ ["_law_sheet_here", "_law_row", "_law_tie"] _:=⟨⟨f17,_,Zix F17 M qe GB,QaO X G a17,k17,b17⟩⟩;have qD:Kn l.prog w K mg base "_law_corner" _ ["_law_row", "_law_triangle"] _:=⟨⟨f21,_,Zkv F21 M GB,QaO X G a21,k21,b21⟩⟩;have qE:Kn l.prog w K mg base "_law_spot" _ ["_law_side", "_law_count", "_law_t"] _:=⟨⟨f22,_,Zno F22 M ,QaO X G a22,k22,b22⟩⟩;have qL:Kn l.prog w K mg base "_law_joins" _ ["_law_sheet_here", "_law_row"] _:=⟨⟨f23,_,ZlF F23 M qD qE GB,QaO X G a23,k23,b23⟩⟩;have qu:Kn l.prog w K mg base "_law_crossings" _ ["_law_row"] _:=⟨⟨f24,_,Zkw F24 M GB,QaO X G a24,k24,b24⟩⟩;have qG:Kn l.prog w K mg base "_law_walked" _ ["_law_sheet_here", "_law_row"] _:=⟨⟨f25,_,Zkx F25 M qk qu qL,QaO X G a25,k25,b25⟩⟩;have qx:Kn l.prog w K mg base "_law_small_row" _ ["_law_sheet_here", "_law_rest"] _:=⟨⟨f26,_,ZlH F26 M qd qz qo GB,QaO X G a26,k26,b26⟩⟩;have qH:Kn l.prog w K mg base "_law_bundle" _ ["_law_sheet_here", "_law_rest", "_law_most"] _:=⟨⟨f27,_,ZkG F27 M qx qd qe qB qF qG,QaO X G a27,k27,b27⟩⟩;have qI:Kn l.prog w K mg base "_law_is_row" _ ["_law_sheet_here", "_law_thing"] _:=⟨⟨f28,_,Zkt F28 M GB,QaO X G a28,k28,b28⟩⟩;have qS:Kn l.prog w K mg base "_law_bent" _ ["_law_row", "_law_rest"] _:=⟨⟨f29,_,Znu F29 M qd,QaO X G a29,k29,b29⟩⟩;exact ZoQ F30 M qO qM qH qX qS qI GB
theorem walk {l:PySem.W.OpenLaw}{q:Program}{q9:List Str}{XP:(Str→Option Value)→Heap→Prop}{YP:World→Heap→Prop}{d:DefRec}{K:Params→PySem.W.Frag}(hn:l.most=some 63)(hdf:d.params.defaults=[])
  (hY:∀(w:World) (h:Heap),YP w h→(K w.params).In h)
  (F:∀(w:World) (mg:Str→Option Value) (fa:Addr) (h:Heap),(K w.params).In h→h.Ns mainGlobals mg→mg d.name=some (.ref fa)→
   ∃fd:FuncData,(∀(s:Shared) (u:Value),BindsTo s fd ⟨[u],[]⟩ [("_law_script",u)])∧∀base:Heap,(K w.params).In base→base.Ns mainGlobals mg→Zcc l.prog w (K w.params) mg base CX0 8 fa fd ["_law_script"] (ZlI (K w.params))):
  PySem.W.WalkO q q9 XP YP l.row.toRowW d [] (fun f vs=>PySem.call f vs):=
 L2.walk_of (n:=63) (k:=8) (x:= "_law_script") (CX:=fun _=>CX0) (sp:=fun w=>ZlI (K w.params)) hn (by decide) hdf ⟨rfl,by decide,by decide,rfl⟩ hY F (fun _ _ a ns hl _ hS=>⟨a,ns,rfl,hS,hl,fun _=>rfl⟩) fun _ _ _ _ _ z=>z
end Toy
open PySem PySem.W PyProof.Rows
set_option maxRecDepth 100000 in
set_option maxHeartbeats 0 in
theorem PySem.Challenge.cw_farcords_k50_what_is_a_row_holds : PySem.Challenge.rw_farcords_k50_what_is_a_row.Holds := by
 w_on;o_law;k_head;(case hw=>w_witness2)
 k_fill
 refine Toy.walk (l:=PySem.Challenge.rw_farcords_k50_what_is_a_row) rfl rfl (fun w h Y=>PySem.W.kIn_of Y) ?F
 case F=>
  intro w mg fa h KX G hmg
  refine' Toy.all_mk KX G hmg ?a0 ?l0 ?c0 ?k0 ?a1 ?l1 ?c1 ?k1 ?a2 ?l2 ?c2 ?k2 ?a3 ?l3 ?c3 ?k3 ?a4 ?l4 ?c4 ?k4 ?a5 ?l5 ?c5 ?k5 ?a6 ?l6 ?c6 ?k6 ?a7 ?l7 ?c7 ?k7 ?a8 ?l8 ?c8 ?k8 ?a9 ?l9 ?c9 ?k9 ?a10 ?l10 ?c10 ?k10 ?a11 ?l11 ?c11 ?k11 ?a12 ?l12 ?c12 ?k12 ?a13 ?l13 ?c13 ?k13 ?a14 ?l14 ?c14 ?k14 ?a15 ?l15 ?c15 ?k15 ?a16 ?l16 ?c16 ?k16 ?a17 ?l17 ?c17 ?k17 ?a18 ?l18 ?c18 ?k18 ?a19 ?l19 ?c19 ?k19 ?a20 ?l20 ?c20 ?k20 ?a21 ?l21 ?c21 ?k21 ?a22 ?l22 ?c22 ?k22 ?a23 ?l23 ?c23 ?k23 ?a24 ?l24 ?c24 ?k24 ?a25 ?l25 ?c25 ?k25 ?a26 ?l26 ?c26 ?k26 ?a27 ?l27 ?c27 ?k27 ?a28 ?l28 ?c28 ?k28 ?a29 ?l29 ?c29 ?k29 ?a30 ?l30 ?c30 ?k30 ?g_abs ?g_enumerate ?g_zip ?g_repr ?z_len ?z_range ?z_min ?z_max ?z_isinstance ?z_bool ?z_int ?z_tuple ?z_list ?z_str ?z_all ?z_sum ?z_sorted
  (case a0=>k_is)
  (case l0=>k_is)
  (case c0=>k_is)
  (case k0=>k_is)
  (case a1=>k_is)
  (case l1=>k_is)
  (case c1=>k_is)
  (case k1=>k_is)
  (case a2=>k_is)
  (case l2=>k_is)
  (case c2=>k_is)
  (case k2=>k_is)
  (case a3=>k_is)
  (case l3=>k_is)
  (case c3=>k_is)
  (case k3=>k_is)
  (case a4=>k_is)
  (case l4=>k_is)
  (case c4=>k_is)
  (case k4=>k_is)
  (case a5=>k_is)
  (case l5=>k_is)
  (case c5=>k_is)
  (case k5=>k_is)
  (case a6=>k_is)
  (case l6=>k_is)
  (case c6=>k_is)
  (case k6=>k_is)
  (case a7=>k_is)
  (case l7=>k_is)
  (case c7=>k_is)
  (case k7=>k_is)
  (case a8=>k_is)
  (case l8=>k_is)
  (case c8=>k_is)
  (case k8=>k_is)
  (case a9=>k_is)
  (case l9=>k_is)
  (case c9=>k_is)
  (case k9=>k_is)
  (case a10=>k_is)
  (case l10=>k_is)
  (case c10=>k_is)
  (case k10=>k_is)
  (case a11=>k_is)
  (case l11=>k_is)
  (case c11=>k_is)
  (case k11=>k_is)
  (case a12=>k_is)
  (case l12=>k_is)
  (case c12=>k_is)
  (case k12=>k_is)
  (case a13=>k_is)
  (case l13=>k_is)
  (case c13=>k_is)
  (case k13=>k_is)
  (case a14=>k_is)
  (case l14=>k_is)
  (case c14=>k_is)
  (case k14=>k_is)
  (case a15=>k_is)
  (case l15=>k_is)
  (case c15=>k_is)
  (case k15=>k_is)
  (case a16=>k_is)
  (case l16=>k_is)
  (case c16=>k_is)
  (case k16=>k_is)
  (case a17=>k_is)
  (case l17=>k_is)
  (case c17=>k_is)
  (case k17=>k_is)
  (case a18=>k_is)
  (case l18=>k_is)
  (case c18=>k_is)
  (case k18=>k_is)
  (case a19=>k_is)
  (case l19=>k_is)
  (case c19=>k_is)
  (case k19=>k_is)
  (case a20=>k_is)
  (case l20=>k_is)
  (case c20=>k_is)
  (case k20=>k_is)
  (case a21=>k_is)
  (case l21=>k_is)
  (case c21=>k_is)
  (case k21=>k_is)
  (case a22=>k_is)
  (case l22=>k_is)
  (case c22=>k_is)
  (case k22=>k_is)
  (case a23=>k_is)
  (case l23=>k_is)
  (case c23=>k_is)
  (case k23=>k_is)
  (case a24=>k_is)
  (case l24=>k_is)
  (case c24=>k_is)
  (case k24=>k_is)
  (case a25=>k_is)
  (case l25=>k_is)
  (case c25=>k_is)
  (case k25=>k_is)
  (case a26=>k_is)
  (case l26=>k_is)
  (case c26=>k_is)
  (case k26=>k_is)
  (case a27=>k_is)
  (case l27=>k_is)
  (case c27=>k_is)
  (case k27=>k_is)
  (case a28=>k_is)
  (case l28=>k_is)
  (case c28=>k_is)
  (case k28=>k_is)
  (case a29=>k_is)
  (case l29=>k_is)
  (case c29=>k_is)
  (case k29=>k_is)
  (case a30=>k_is)
  (case l30=>k_is)
  (case c30=>k_is)
  (case k30=>k_is)
  (case g_abs=>k_is)
  (case g_enumerate=>k_is)
  (case g_zip=>k_is)
  (case g_repr=>k_is)
  (case z_len=>k_is)
  (case z_range=>k_is)
  (case z_min=>k_is)
  (case z_max=>k_is)
  (case z_isinstance=>k_is)
  (case z_bool=>k_is)
  (case z_int=>k_is)
  (case z_tuple=>k_is)
  (case z_list=>k_is)
  (case z_str=>k_is)
  (case z_all=>k_is)
  (case z_sum=>k_is)
  (case z_sorted=>k_is)
#print axioms PySem.Challenge.cw_farcords_k50_what_is_a_row_holds
